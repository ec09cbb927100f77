/- Contracts: mayName, mayList, checkVars. -/
import Derived.Test.YtgemgmdnnjaghaaGreatDoorPm
import Derived.Maps.OwnSet
namespace Go.Proofs.YtgemgmdnnjaghaaGreatDoor
open Go.RowKit Go.Sort Go.Maps

theorem law9 : Keyed Tryz.prog 9 := string_keyed Tryz.underlying9
theorem zero3 (w : World) : (zeroValue 3).run Tryz.prog w = .ok (.int .i64 0) w := by kernel_rfl
abbrev keyS (b : Bs) : Lit := .string b
abbrev numD (x : Int) : DataW Unit := .lit (.int .i64 x)
theorem keyS_mk {s : ByteArray} (h : s.size ≤ maxLen) : keyOf Tryz.prog 9 (.string s) = some (keyS (bl s)) := WideMaps.keyOf_string_mk Tryz.underlying9 h
theorem keyS_ne {a b : Bs} (h : a ≠ b) : keyS a ≠ keyS b := by
  intro e
  injection e with e
  exact h e
theorem keyS_lit (b : Bs) : WideAt.IsKeyLit (keyS b) := trivial

/-- The names that were met. -/
def MetD (D : DataW Unit) (l : List Bs) : Prop := (∀ b, has D (keyS b) = l.any (· == b)) ∧ size D = l.length
def Met (w : World) (M : Nat) (l : List Bs) : Prop := ∃ D : DataW Unit, w.ownsMap Tryz.prog 9 (plainElem Tryz.prog 3) M (size D) D ∧ MetD D l
section
variable {w w' : World} {M : Nat} {l : List Bs} {b : Bs} {D : DataW Unit}
theorem metmap_keep {H : Type} {R : Value → Option (DataW H × List MemPlace)} {n : Nat} {E : DataW H} (h : w.ownsMap Tryz.prog 9 R M n E) (hk : w'.heap[M]? = w.heap[M]?) : w'.ownsMap Tryz.prog 9 R M n E := by
  obtain ⟨es, clock, hb, r⟩ := h
  exact ⟨es, clock, hk.trans hb, r⟩
theorem Met.lt (h : Met w M l) : M < w.heap.size := by
  obtain ⟨D, hD, -⟩ := h
  exact hD.lt
theorem Met.below (h : Met w M l) (hb : Below w.heap.size w w') : Met w' M l := by
  have hl := h.lt
  obtain ⟨D, hD, h2⟩ := h
  exact ⟨D, metmap_keep hD (hb.block M hl), h2⟩
theorem Met.new (w : World) : Met (w.alloc (.map #[] 0)) w.heap.size [] :=
  ⟨.map [], World.ownsMap_made _ _ _ _, fun x => by simp [has], rfl⟩
theorem MetD.put (hD : w.ownsMap Tryz.prog 9 (plainElem Tryz.prog 3) M (size D) D) (h : MetD D l) (hx : l.any (· == b) = false) (k : Int) : size (D.put (keyS b) (numD k)) = size D + 1 ∧ MetD (D.put (keyS b) (numD k)) (l ++ [b]) := by
  obtain ⟨h1, h3⟩ := h
  have hnot : has D (keyS b) = false := by rw [h1]; exact hx
  have hsz : size (D.put (keyS b) (numD k)) = size D + 1 := by rw [size_put (hD.tidy law9), hnot]; rfl
  refine ⟨hsz, fun y => ?_, by rw [hsz, h3]; simp⟩
  by_cases e : y = b
  · subst e
    rw [has_put_same hD.isMap (keyS_lit _)]
    simp
  · rw [has_put_other (keyS_ne e), h1]
    have : (b == y) = false := by rw [beq_eq_false_iff_ne]; exact fun q => e q.symm
    simp [this]
theorem met_turned {B : Nat} {w0 : World} (hb : Below B w0 w) (hs : B ≤ w.heap.size) (hM : B ≤ M) (ht : w.mapTurned w' M) : Below B w0 w' :=
  hb.grown ht.grown hs (fun k hk => by injection hk with hk; omega)
end

theorem mayName_any (b : Bs) (w : World) (hb : b.length ≤ 4611686018427387903) : Calls Tryz.prog 78 #[.string ⟨b.toArray⟩] w fun e w' => e = .returned (.bool (mayNameB b)) ∧ Below w.heap.size w w' := by
  have C := Lib.hid (name_any ⟨b.toArray⟩ w (by show b.toArray.size ≤ _; rw [List.size_toArray]; omega))
  have ebl : bl ⟨b.toArray⟩ = b := by simp [bl]
  rw [ebl] at C
  unfold mayNameB
  generalize nameB b = N at C ⊢
  clear ebl
  cases h1 : (b == [118, 97, 114])
  · cases h2 : (b == [99, 111, 110, 115, 116, 114, 97, 105, 110, 116])
    · cases h3 : (b == [115, 111, 108, 118, 101])
      · have g1 : ¬ b = [118, 97, 114] := by simpa using h1
        have g2 : ¬ b = [99, 111, 110, 115, 116, 114, 97, 105, 110, 116] := by simpa using h2
        have g3 : ¬ b = [115, 111, 108, 118, 101] := by simpa using h3
        go_enter Tryz.func78, Tryz.ntmps78
        go_wp2_with fail
        refine C.out.mono ?_
        rintro e w1 ⟨rfl, b1⟩
        have B1 := Lib.hid b1
        clear b1
        go_wp2_with fail
        go_ret
        exact ⟨rfl, B1.out⟩
      · obtain rfl : b = [115, 111, 108, 118, 101] := by simpa using h3
        clear h1 h2 h3
        go_enter Tryz.func78, Tryz.ntmps78
        go_wp2_with fail
        go_ret
        exact ⟨rfl, Below.refl _ _⟩
    · obtain rfl : b = [99, 111, 110, 115, 116, 114, 97, 105, 110, 116] := by simpa using h2
      clear h1 h2
      go_enter Tryz.func78, Tryz.ntmps78
      go_wp2_with fail
      go_ret
      exact ⟨rfl, Below.refl _ _⟩
  · obtain rfl : b = [118, 97, 114] := by simpa using h1
    clear h1
    go_enter Tryz.func78, Tryz.ntmps78
    go_wp2_with fail
    go_ret
    exact ⟨rfl, Below.refl _ _⟩

set_option maxHeartbeats 2000000 in
theorem mayList_any (x : Sl) (L : List Int) (w : World) (h : IsInts w x L) (hs : L.length ≤ 1000000) : Calls Tryz.prog 79 #[.slice x.A x.n x.c] w fun e w' => e = .returned (.bool (mayListB L)) ∧ Below w.heap.size w w' := by
  have C : Hid (∀ W, Below w.heap.size w W → Calls Tryz.prog 117 #[.slice x.A x.n x.c] W (GivesDom W (ofL L) (ofErr L))) := Lib.hid (fun W hW => by
    rw [h.len]
    exact of_dom x.A L x.c W (by rw [← h.len]; exact (h.below hW).lies) hs)
  obtain ⟨A, n, c⟩ := x
  obtain ⟨hn, hL, hlen, hcap⟩ := h
  simp only at hn hL hlen C ⊢
  have HL := Lib.hid hL
  have Hn := Lib.hid hn.symm
  have hn6 : n ≤ 1000000 := by omega
  have HRES : Hid ((riseB L = false → mayListB L = false) ∧ (riseB L = true → mayListB L = (ofErr L == 0))) := Lib.hid (by
    unfold mayListB
    constructor <;> intro e <;> rw [e] <;> simp)
  generalize mayListB L = RES at HRES ⊢
  clear hL hn
  go_enter Tryz.func79, Tryz.ntmps79
  go_wp2_with fail
  go_loopw [3] (fun i wr => ∃ k : Nat, i = .int .i64 (k : Nat) ∧ 1 ≤ k ∧ k ≤ n + 1 ∧ Hid (riseTo L k) ∧ Hid (Below w.heap.size w wr)) (fun i _ => n + 1 - (intOf i).toNat)
  case atStart => exact ⟨1, rfl, by omega, by omega, Lib.hid (fun j h1 hj => absurd hj (by omega)), Lib.hid (Below.refl _ _)⟩
  case round =>
    obtain ⟨k, rfl, hk1, hk, H0, HB⟩ := hrel
    by_cases hlt : k < n
    · obtain ⟨ad, rfl, hbk, hcl⟩ := HL.out (by omega)
      obtain ⟨m, hm⟩ : ∃ m, k = m + 1 := ⟨k - 1, by omega⟩
      have HKM := Lib.hid hm
      have hc1 := cell_regrown ((HB.out.cell (by rw [add_block]; exact hbk)).trans (hcl k hlt))
      have hc0 := cell_regrown ((HB.out.cell (by rw [add_block]; exact hbk)).trans (hcl m (by omega)))
      unfold i64f at hc0 hc1
      have HY : Hid (L.getD m 0 < L.getD k 0 → riseTo L (k + 1)) := Lib.hid (fun e j h1 hj => by
        by_cases h : j < k
        · exact H0.out j h1 h
        · obtain rfl : j = k := by omega
          rw [show j - 1 = m by omega]
          exact e)
      have HN : Hid (¬ L.getD m 0 < L.getD k 0 → riseB L = false) := Lib.hid (fun e => rise_no (i := k) (by omega) (by rw [Hn.out]; exact hlt) (by rw [show k - 1 = m by omega]; exact e))
      have hsub : ((k : Nat) : Int) - 1 = ((m : Nat) : Int) := by omega
      have hwr : IntKind.i64.wrap (((k : Nat) : Int) - 1) = ((m : Nat) : Int) := by rw [hsub]; exact IntWalk.i64_in _ (by omega)
      have hwm : IntKind.i64.wrap ((m : Nat) : Int) = ((m : Nat) : Int) := IntWalk.i64_in _ (by omega)
      have hml : m < n := by omega
      clear hcl hbk hm
      generalize L.getD m 0 = z0 at hc0 HY HN
      generalize L.getD k 0 = z1 at hc1 HY HN
      by_cases hz : z0 < z1
      · have hzb : decide (z1 ≤ z0) = false := by simp; omega
        have HY2 := Lib.hid (HY.out hz)
        clear HY HN hz
        go_wp2_with fail
        refine wp_region_quiet_below (by kernel_rfl) (by kernel_rfl) ?_
        repeat (first | go_big_quiet_step (fail) | quiet_step (fail))
        refine wpQuiet_nil ?_
        intro _ hw'
        obtain ⟨⟨dq, osq⟩, hw''⟩ := hw'
        subst hw''
        have B6 : Hid (Below w.heap.size w (grow (redrawn wr dq) osq)) := Lib.hid (HB.out.trans ((below_regrown wr dq osq).mono HB.out.size))
        generalize grow (redrawn wr dq) osq = W6 at *
        clear hc0 hc1
        go_wp2_with fail
        go_roundw
        case rel => exact ⟨k + 1, by go_num, by omega, by omega, HY2, B6⟩
        case measure => simp [intOf]; omega
      · have hzb : decide (z1 ≤ z0) = true := by simp; omega
        have HF := Lib.hid (HRES.out.1 (HN.out hz))
        clear HY HN hz
        go_wp2_with fail
        refine wp_region_quiet_below (by kernel_rfl) (by kernel_rfl) ?_
        repeat (first | go_big_quiet_step (fail) | quiet_step (fail))
        refine wpQuiet_nil ?_
        intro _ hw'
        obtain ⟨⟨dq, osq⟩, hw''⟩ := hw'
        subst hw''
        have B6 : Hid (Below w.heap.size w (grow (redrawn wr dq) osq)) := Lib.hid (HB.out.trans ((below_regrown wr dq osq).mono HB.out.size))
        generalize grow (redrawn wr dq) osq = W6 at *
        clear hc0 hc1
        go_wp2_with fail
        go_ret
        exact ⟨ret_bool HF.out.symm, B6.out⟩
    · have HT : Hid (RES = (ofErr L == 0)) := Lib.hid (HRES.out.2 (rise_yes (fun j h1 hj => H0.out j h1 (by have := Hn.out; omega))))
      clear H0 HRES
      generalize ofErr L = E at C HT
      generalize ofL L = OL at C
      go_wp2_with fail
      refine (C.out _ HB.out).mono ?_
      rintro e w1 ⟨d, rfl, hd, b1⟩
      obtain ⟨s, A', ws, c', rfl, -⟩ := hd
      have B1 := Lib.hid (HB.out.trans (b1.mono HB.out.size))
      clear b1
      go_wp2_with fail
      go_ret
      exact ⟨ret_bool HT.out.symm, B1.out.alloc B1.out.size _⟩
end Go.Proofs.YtgemgmdnnjaghaaGreatDoor

/- Contract: checkVars. -/
namespace Go.Proofs.YtgemgmdnnjaghaaGreatDoor
open Go.RowKit Go.Sort Go.Maps

theorem box5 {w W : World} {v : ModV} {gl ob : Int} {t : TypeId} (h : Below (w.heap.size + 1) (w.alloc (.cells (v.cells gl ob) t)) W) :
    W.cell? ⟨w.heap.size, 0, none⟩ = some (.slice v.n.A v.n.n v.n.c) ∧ W.cell? ⟨w.heap.size, 1, none⟩ = some (.slice v.d.A v.d.n v.d.c) ∧ W.cell? ⟨w.heap.size, 2, none⟩ = some (.slice v.c.A v.c.n v.c.c) ∧ W.cell? ⟨w.heap.size, 3, none⟩ = some (.int .i64 gl) ∧ W.cell? ⟨w.heap.size, 4, none⟩ = some (.int .i64 ob) := by
  refine ⟨?_, ?_, ?_, ?_, ?_⟩ <;> rw [h.cell (by simp)] <;> simp

theorem varE_name {m : ModL} {k : Nat} (h : mayNameB (m.names.getD k []) = false) : varE m k = 7 := by unfold varE; rw [if_pos h]
theorem varE_twice {m : ModL} {k : Nat} (h : mayNameB (m.names.getD k []) = true) (h2 : (m.names.take k).any (· == m.names.getD k []) = true) : varE m k = 8 := by unfold varE; rw [if_neg (by rw [h]; decide), if_pos h2]
theorem varE_dom {m : ModL} {k : Nat} (h : mayNameB (m.names.getD k []) = true) (h2 : (m.names.take k).any (· == m.names.getD k []) = false) : varE m k = if mayListB (m.doms.getD k []) = false then 3 else 0 := by unfold varE; rw [if_neg (by rw [h]; decide), if_neg (by rw [h2]; decide)]
theorem names_take (l : List Bs) (k : Nat) (h : k < l.length) : l.take (k + 1) = l.take k ++ [l.getD k []] := by
  rw [List.take_add_one, List.getD_eq_getElem?_getD, List.getElem?_eq_getElem h]
  rfl

theorem makeMap_hint (n : Nat) (w : World) : (Instr.makeMap 82 (some (.int .i64 ((n : Nat) : Int)))).run Tryz.prog w = .ok (.map (some w.heap.size)) (w.alloc (.map #[] 0)) := by
  have h := run_underlying Tryz.underlying82 w
  simp [Instr.makeMap, h, asInt, asIntOf]

set_option maxHeartbeats 4000000 in
set_option maxRecDepth 100000 in
theorem checkVars_any (v : ModV) (m : ModL) (w : World) (h : ModIn w v m) (hl : m.names.length = m.doms.length) (h256 : m.names.length ≤ 256) : Calls Tryz.prog 48 #[v.val m.goal m.obj] w fun e w' => e = .returned (.int .i64 (firstE (varE m) m.names.length)) ∧ Below w.heap.size w w' := by
  have hmm := makeMap_hint v.n.n
  have HM := Lib.hid h
  have HAT := Lib.hid (fun k => firstE_at (f := varE m) (n := m.names.length) (k := k))
  have HNO := Lib.hid (firstE_no (f := varE m) (n := m.names.length))
  have HLN : Hid (v.n.n = m.names.length) := Lib.hid h.n.len
  have HLD : Hid (v.d.n = m.names.length) := Lib.hid (by rw [h.d.len, hl])
  have hn : v.n.n ≤ 256 := by rw [h.n.len]; exact h256
  generalize firstE (varE m) m.names.length = RES at HAT HNO ⊢
  generalize m.goal = gl at *
  generalize m.obj = ob at *
  clear h hl h256
  go_enter Tryz.func48, Tryz.ntmps48
  go_wp2_with fail
  go_loopw [15] (fun i wr => ∃ k : Nat, i = .int .i64 (k : Nat) ∧ k ≤ v.n.n ∧ Hid (∀ j, j < k → varE m j = 0) ∧ Hid (Met wr (w.heap.size + 1) (m.names.take k)) ∧ Hid (Below (w.heap.size + 1) (w.alloc (.cells (v.cells gl ob) 30)) wr)) (fun i _ => v.n.n - (intOf i).toNat)
  case atStart =>
    refine ⟨0, rfl, by omega, Lib.hid (fun j hj => absurd hj (by omega)), Lib.hid ?_, Lib.hid ?_⟩
    · have := Met.new (w.alloc (.cells (v.cells gl ob) 30))
      simpa using this
    · have := below1 (w.alloc (.cells (v.cells gl ob) 30)) (.map #[] 0)
      simpa using this
  case round =>
    obtain ⟨k, rfl, hk, H0, HMet, HB⟩ := hrel
    by_cases hlt : k < v.n.n
    · have hbw := of_boxed HB.out
      obtain ⟨ad, hA, hbk, hcl⟩ := HM.out.n.lies (by omega)
      have hck : wr.cell? (ad.add k) = some (.string ⟨(m.names.getD k []).toArray⟩) := (hbw.cell (by rw [add_block]; exact hbk)).trans (hcl k hlt)
      have hkl : k < m.names.length := by have := HLN.out; omega
      have hbl : (m.names.getD k []).length ≤ 4611686018427387903 := HM.out.brief _ (by rw [List.getD_eq_getElem?_getD, List.getElem?_eq_getElem hkl]; exact List.getElem_mem hkl)
      have CN := Lib.hid (mayName_any (m.names.getD k []) wr hbl)
      have HV1 := Lib.hid (varE_name (m := m) (k := k))
      have HV2 := Lib.hid (varE_twice (m := m) (k := k))
      have HV3 := Lib.hid (varE_dom (m := m) (k := k))
      have HATk := Lib.hid (HAT.out k (by have := HLN.out; omega) H0.out)
      have HTK := Lib.hid (names_take m.names k hkl)
      have HBL := Lib.hid hbl
      obtain ⟨c0, c1, c2, c3, c4⟩ := box5 HB.out
      rw [hA]
      clear hcl hbk hbw hkl hbl
      generalize hb : m.names.getD k [] = b at hck CN HV1 HV2 HV3 HTK HBL
      clear hb
      cases hmn : mayNameB b
      · have HR : Hid (RES = 7) := Lib.hid (by rw [HATk.out (by rw [HV1.out hmn]; decide), HV1.out hmn])
        rw [hmn] at CN
        clear HV1 HV2 HV3 HATk hmn
        go_wp2_with fail
        refine CN.out.mono ?_
        rintro e w1 ⟨rfl, b1⟩
        have B1 := Lib.hid (HB.out.trans (b1.mono (by have := HB.out.size; simpa using this)))
        clear b1
        go_wp2_with fail
        go_ret
        exact ⟨int_eq HR.out.symm, of_boxed B1.out⟩
      · have HV2' := Lib.hid (HV2.out hmn)
        have HV3' := Lib.hid (HV3.out hmn)
        rw [hmn] at CN
        clear HV1 HV2 HV3 hmn
        go_wp2_with fail
        refine CN.out.mono ?_
        rintro e w1 ⟨rfl, b1⟩
        have B1 := Lib.hid (HB.out.trans (b1.mono (by have := HB.out.size; simpa using this)))
        have HMet1 := Lib.hid (HMet.out.below b1)
        clear b1 CN c0 c1 c2 c3 c4 hck
        obtain ⟨c0, c1, c2, c3, c4⟩ := box5 B1.out
        obtain ⟨D, hD, hMD⟩ := HMet1.out
        have hkey : keyOf Tryz.prog 9 (.string ⟨b.toArray⟩) = some (keyS b) := by
          have := keyS_mk (s := ⟨b.toArray⟩) (by show b.toArray.size ≤ maxLen; rw [List.size_toArray]; have := HBL.out; unfold maxLen; omega)
          rw [this]
          simp [bl]
        have hhas := hMD.1 b
        have HMD := Lib.hid hMD
        clear hMD
        cases htw : (m.names.take k).any (· == b)
        · rw [htw] at hhas
          have HV4 := Lib.hid (HV3'.out htw)
          have hval : plainElem (H := Unit) Tryz.prog 3 (.int .i64 ((k : Nat) : Int)) = some (numD ((k : Nat) : Int), []) := plainElem_int Tryz.underlying3 (by simp [Lit.wf, IntKind.min, IntKind.max, IntKind.signed, IntKind.bits]; omega)
          have hlts : size D < maxLen := by rw [HMD.out.2]; unfold maxLen; rw [List.length_take]; omega
          have HPUT := Lib.hid (MetD.put hD HMD.out htw ((k : Nat) : Int))
          clear HV2' HV3' htw
          have HB2 : Hid (∀ w2, w1.mapTurned w2 (w.heap.size + 1) → Below (w.heap.size + 1) (w.alloc (.cells (v.cells gl ob) 30)) w2) := Lib.hid (fun w2 ht => met_turned B1.out (by have := B1.out.size; simpa using this) (Nat.le_refl _) ht)
          obtain ⟨adD, eD, hbD, hclD⟩ := HM.out.d.lies (by have := HLD.out; have := HLN.out; omega)
          have hkd : k < v.d.n := by have := HLD.out; have := HLN.out; omega
          obtain ⟨u, hu, hur⟩ := hclD k hkd
          have HCD : Hid (∀ W, Below w.heap.size w W → W.cell? (adD.add k) = some (.slice u.A u.n u.c)) := Lib.hid (fun W hW => (hW.cell (by rw [add_block]; exact hbD)).trans hu)
          have ED := Lib.hid eD
          have hshort : (m.doms.getD k []).length ≤ 1000000 := HM.out.short _ (by
            have hkl : k < m.doms.length := by have := HM.out.d.len; omega
            rw [List.getD_eq_getElem?_getD, List.getElem?_eq_getElem hkl]
            exact List.getElem_mem hkl)
          have CL := Lib.hid (fun W (hW : Below w.heap.size w W) => mayList_any u (m.doms.getD k []) W (hur.below hW) hshort)
          clear hclD hbD eD hu hur hshort
          generalize m.doms.getD k [] = dl at HV4 CL
          cases hml : mayListB dl
          · have HR : Hid (RES = 3) := Lib.hid (by rw [HATk.out (by rw [HV4.out, if_pos hml]; decide), HV4.out, if_pos hml])
            rw [hml] at CL
            clear HV4 HATk hml
            go_wp2_with (first | (at_lookup; refine wpList_lookup_own_ok_int _ rfl _ _ 82 rfl 9 3 .i64 law9 Tryz.underlying82 Tryz.underlying3 (zero3 _) (w.heap.size + 1) (size D) D rfl hD _ _ rfl hkey ?_; intro cc hat hwc) | (at_mapUpdate; refine wpList_mapUpdate_in _ rfl _ _ _ 82 rfl 9 3 law9 Tryz.underlying82 _ (w.heap.size + 1) (size D) D rfl hD hlts _ _ _ rfl rfl hkey _ _ hval ?_; intro w2 hown2 ht2; obtain ⟨d0, d1, d2, d3, d4⟩ := box5 (HB2.out w2 ht2); rw [ED.out] at d1; have hcd := HCD.out w2 (of_boxed (HB2.out w2 ht2)); have B2 := Lib.hid (HB2.out w2 ht2); clear hD ht2 hown2) | fail)
            refine (CL.out _ (of_boxed B2.out)).mono ?_
            rintro e w3 ⟨rfl, b3⟩
            have B3 := Lib.hid ((of_boxed B2.out).trans (b3.mono (of_boxed B2.out).size))
            clear b3
            go_wp2_with fail
            go_ret
            exact ⟨int_eq HR.out.symm, B3.out⟩
          · have HV5 : Hid (∀ j, j < k + 1 → varE m j = 0) := Lib.hid (fun j hj => by
              by_cases h : j < k
              · exact H0.out j h
              · obtain rfl : j = k := by omega
                rw [HV4.out, if_neg (by rw [hml]; decide)])
            rw [hml] at CL
            have HMet2 : Hid (∀ w2, w2.ownsMap Tryz.prog 9 (plainElem Tryz.prog 3) (w.heap.size + 1) (size D + 1) (D.put (keyS b) (numD ((k : Nat) : Int))) → Met w2 (w.heap.size + 1) (m.names.take (k + 1))) := Lib.hid (fun w2 ho => by
              rw [HTK.out]
              exact ⟨_, by rw [HPUT.out.1]; exact ho, HPUT.out.2⟩)
            clear HV4 HATk hml
            go_wp2_with (first | (at_lookup; refine wpList_lookup_own_ok_int _ rfl _ _ 82 rfl 9 3 .i64 law9 Tryz.underlying82 Tryz.underlying3 (zero3 _) (w.heap.size + 1) (size D) D rfl hD _ _ rfl hkey ?_; intro cc hat hwc) | (at_mapUpdate; refine wpList_mapUpdate_in _ rfl _ _ _ 82 rfl 9 3 law9 Tryz.underlying82 _ (w.heap.size + 1) (size D) D rfl hD hlts _ _ _ rfl rfl hkey _ _ hval ?_; intro w2 hown2 ht2; obtain ⟨d0, d1, d2, d3, d4⟩ := box5 (HB2.out w2 ht2); rw [ED.out] at d1; have hcd := HCD.out w2 (of_boxed (HB2.out w2 ht2)); have B2 := Lib.hid (HB2.out w2 ht2); have HM2 := Lib.hid (HMet2.out w2 hown2); clear hD ht2 hown2) | fail)
            refine (CL.out _ (of_boxed B2.out)).mono ?_
            rintro e w3 ⟨rfl, b3⟩
            have B3 : Hid (Below (w.heap.size + 1) (w.alloc (.cells (v.cells gl ob) 30)) w3) := Lib.hid (B2.out.trans (b3.mono (by have := B2.out.size; simpa using this)))
            have HM3 := Lib.hid (HM2.out.below b3)
            clear b3
            go_wp2_with fail
            go_roundw
            case rel => exact ⟨k + 1, by go_num, by omega, HV5, HM3, B3⟩
            case measure => simp [intOf]; omega
        · rw [htw] at hhas
          have HR : Hid (RES = 8) := Lib.hid (by rw [HATk.out (by rw [HV2'.out htw]; decide), HV2'.out htw])
          clear HV2' HV3' HATk htw
          go_wp2_with (first | (at_lookup; refine wpList_lookup_own_ok_int _ rfl _ _ 82 rfl 9 3 .i64 law9 Tryz.underlying82 Tryz.underlying3 (zero3 _) (w.heap.size + 1) (size D) D rfl hD _ _ rfl hkey ?_; intro cc hat hwc) | fail)
          go_ret
          exact ⟨int_eq HR.out.symm, of_boxed B1.out⟩
    · have HR := Lib.hid (HNO.out (fun j hj => H0.out j (by have := HLN.out; omega)))
      clear H0
      go_wp2_with fail
      go_ret
      exact ⟨int_eq HR.out.symm, of_boxed HB.out⟩
end Go.Proofs.YtgemgmdnnjaghaaGreatDoor

/- Contracts: slices.Equal, EqualFunc; equalLists, equalCons, Equal. -/
namespace Go.Proofs.YtgemgmdnnjaghaaGreatDoor
open Go.RowKit Go.Sort Go.Maps

section
variable {α : Type} [BEq α] [LawfulBEq α]
def alikeTo (L K : List α) (z : α) (k : Nat) : Prop := ∀ j, j < k → L.getD j z = K.getD j z
theorem alike_yes {L K : List α} (z : α) (hl : L.length = K.length) (h : alikeTo L K z L.length) : (L == K) = true := by
  rw [beq_iff_eq]
  apply List.ext_getElem hl
  intro i h1 h2
  have := h i h1
  rw [List.getD_eq_getElem?_getD, List.getD_eq_getElem?_getD, List.getElem?_eq_getElem h1, List.getElem?_eq_getElem h2] at this
  exact this
theorem alike_no {L K : List α} {k : Nat} (z : α) (h : L.getD k z ≠ K.getD k z) : (L == K) = false := by
  rw [beq_eq_false_iff_ne]
  intro e
  exact h (by rw [e])
theorem alike_len {L K : List α} (h : L.length ≠ K.length) : (L == K) = false := by
  rw [beq_eq_false_iff_ne]
  intro e
  exact h (by rw [e])
end

set_option maxHeartbeats 2000000 in
theorem equal_ints (x y : Sl) (L K : List Int) (w : World) (hx : IsInts w x L) (hy : IsInts w y K) : Calls Tryz.prog 77 #[.slice x.A x.n x.c, .slice y.A y.n y.c] w fun e w' => e = .returned (.bool (L == K)) ∧ Below w.heap.size w w' := by
  have HX := Lib.hid hx
  have HY := Lib.hid hy
  have S1 := Lib.hid (alike_yes (L := L) (K := K) 0)
  have S2 := Lib.hid (fun k => alike_no (L := L) (K := K) (k := k) 0)
  have S3 := Lib.hid (alike_len (L := L) (K := K))
  rw [← hx.len, ← hy.len] at S1 S3
  have hxb := hx.big
  generalize (L == K) = RES at S1 S2 S3 ⊢
  obtain ⟨xA, xn, xc⟩ := x
  obtain ⟨yA, yn, yc⟩ := y
  simp only at *
  clear hx hy
  by_cases hl : xn = yn
  · subst hl
    have hlb : (((xn : Nat) : Int) != ((xn : Nat) : Int)) = false := by simp
    have S1' := Lib.hid (S1.out rfl)
    clear S1 S3
    go_enter Tryz.func77, Tryz.ntmps77
    go_wp2_with fail
    go_loopw [13] (fun i wr => ∃ k : Nat, i = .int .i64 (k : Nat) ∧ k ≤ xn ∧ Hid (alikeTo L K 0 k) ∧ Hid (Below w.heap.size w wr)) (fun i _ => xn - (intOf i).toNat)
    case atStart => exact ⟨0, rfl, by omega, Lib.hid (fun j hj => absurd hj (by omega)), Lib.hid (Below.refl _ _)⟩
    case round =>
      obtain ⟨k, rfl, hk, H0, HB⟩ := hrel
      by_cases hlt : k < xn
      · obtain ⟨ad, eA, hb1, hc1⟩ := HX.out.lies (by simp only; omega)
        obtain ⟨bd, eB, hb2, hc2⟩ := HY.out.lies (by simp only; omega)
        simp only at eA eB
        subst eA eB
        have z1 : ∀ d os, (grow (redrawn wr d) os).cell? (ad.add k) = some (.int .i64 (L.getD k 0)) := cell_regrown ((HB.out.cell (by rw [add_block]; exact hb1)).trans (hc1 k hlt))
        have z2 : ∀ d os, (grow (redrawn wr d) os).cell? (bd.add k) = some (.int .i64 (K.getD k 0)) := cell_regrown ((HB.out.cell (by rw [add_block]; exact hb2)).trans (hc2 k hlt))
        have HN : Hid (L.getD k 0 = K.getD k 0 → alikeTo L K 0 (k + 1)) := Lib.hid (fun e j hj => by
          by_cases h : j < k
          · exact H0.out j h
          · obtain rfl : j = k := by omega
            exact e)
        have S2k := Lib.hid (S2.out k)
        clear hc1 hc2 hb1 hb2
        generalize L.getD k 0 = a at z1 HN S2k
        generalize K.getD k 0 = b at z2 HN S2k
        by_cases hab : a = b
        · have HN2 := Lib.hid (HN.out hab)
          have hq : (a != b) = false := by simp [hab]
          clear hab
          clear HN S2k
          go_wp2_with fail
          refine wp_region_quiet_below (by kernel_rfl) (by kernel_rfl) ?_
          repeat (first | go_big_quiet_step (fail) | quiet_step (fail))
          refine wpQuiet_nil ?_
          intro _ hw'
          obtain ⟨⟨dq, osq⟩, hw''⟩ := hw'
          subst hw''
          have B6 : Hid (Below w.heap.size w (grow (redrawn wr dq) osq)) := Lib.hid (HB.out.trans ((below_regrown wr dq osq).mono HB.out.size))
          generalize grow (redrawn wr dq) osq = W6 at *
          clear z1 z2
          go_wp2_with fail
          go_roundw
          case rel => exact ⟨k + 1, by go_num, by omega, HN2, B6⟩
          case measure => simp [intOf]; omega
        · have HR := Lib.hid (S2k.out hab)
          have hq : (a != b) = true := by simpa using hab
          clear hab
          clear HN S2k
          go_wp2_with fail
          refine wp_region_quiet_below (by kernel_rfl) (by kernel_rfl) ?_
          repeat (first | go_big_quiet_step (fail) | quiet_step (fail))
          refine wpQuiet_nil ?_
          intro _ hw'
          obtain ⟨⟨dq, osq⟩, hw''⟩ := hw'
          subst hw''
          have B6 : Hid (Below w.heap.size w (grow (redrawn wr dq) osq)) := Lib.hid (HB.out.trans ((below_regrown wr dq osq).mono HB.out.size))
          generalize grow (redrawn wr dq) osq = W6 at *
          clear z1 z2
          go_wp2_with fail
          go_ret
          exact ⟨ret_bool HR.out.symm, B6.out⟩
      · have HR := Lib.hid (S1'.out (by have := H0.out; rwa [show k = xn by omega] at this))
        clear H0
        go_wp2_with fail
        go_ret
        exact ⟨ret_bool HR.out.symm, HB.out⟩
  · have hlb : (((xn : Nat) : Int) != ((yn : Nat) : Int)) = true := by simp; omega
    have HR := Lib.hid (S3.out hl)
    clear hl
    go_enter Tryz.func77, Tryz.ntmps77
    go_wp2_with fail
    go_ret
    exact ⟨ret_bool HR.out.symm, Below.refl _ _⟩

set_option maxHeartbeats 2000000 in
theorem equal_strs (x y : Sl) (L K : List Bs) (w : World) (hx : IsStrs w x L) (hy : IsStrs w y K) : Calls Tryz.prog 40 #[.slice x.A x.n x.c, .slice y.A y.n y.c] w fun e w' => e = .returned (.bool (L == K)) ∧ Below w.heap.size w w' := by
  have HX := Lib.hid hx
  have HY := Lib.hid hy
  have S1 := Lib.hid (alike_yes (L := L) (K := K) [])
  have S2 := Lib.hid (fun k => alike_no (L := L) (K := K) (k := k) [])
  have S3 := Lib.hid (alike_len (L := L) (K := K))
  rw [← hx.len, ← hy.len] at S1 S3
  have hxb := hx.big
  generalize (L == K) = RES at S1 S2 S3 ⊢
  obtain ⟨xA, xn, xc⟩ := x
  obtain ⟨yA, yn, yc⟩ := y
  simp only at *
  clear hx hy
  by_cases hl : xn = yn
  · subst hl
    have hlb : (((xn : Nat) : Int) != ((xn : Nat) : Int)) = false := by simp
    have S1' := Lib.hid (S1.out rfl)
    clear S1 S3
    go_enter Tryz.func40, Tryz.ntmps40
    go_wp2_with fail
    go_loopw [13] (fun i wr => ∃ k : Nat, i = .int .i64 (k : Nat) ∧ k ≤ xn ∧ Hid (alikeTo L K [] k) ∧ Hid (Below w.heap.size w wr)) (fun i _ => xn - (intOf i).toNat)
    case atStart => exact ⟨0, rfl, by omega, Lib.hid (fun j hj => absurd hj (by omega)), Lib.hid (Below.refl _ _)⟩
    case round =>
      obtain ⟨k, rfl, hk, H0, HB⟩ := hrel
      by_cases hlt : k < xn
      · obtain ⟨ad, eA, hb1, hc1⟩ := HX.out.lies (by simp only; omega)
        obtain ⟨bd, eB, hb2, hc2⟩ := HY.out.lies (by simp only; omega)
        simp only at eA eB
        subst eA eB
        have z1 : ∀ d os, (grow (redrawn wr d) os).cell? (ad.add k) = some (.string ⟨(L.getD k []).toArray⟩) := cell_regrown ((HB.out.cell (by rw [add_block]; exact hb1)).trans (hc1 k hlt))
        have z2 : ∀ d os, (grow (redrawn wr d) os).cell? (bd.add k) = some (.string ⟨(K.getD k []).toArray⟩) := cell_regrown ((HB.out.cell (by rw [add_block]; exact hb2)).trans (hc2 k hlt))
        have HN : Hid (L.getD k [] = K.getD k [] → alikeTo L K [] (k + 1)) := Lib.hid (fun e j hj => by
          by_cases h : j < k
          · exact H0.out j h
          · obtain rfl : j = k := by omega
            exact e)
        have S2k := Lib.hid (S2.out k)
        clear hc1 hc2 hb1 hb2
        generalize L.getD k [] = a at z1 HN S2k
        generalize K.getD k [] = b at z2 HN S2k
        by_cases hab : a = b
        · have HN2 := Lib.hid (HN.out hab)
          subst hab
          clear HN S2k
          go_wp2_with fail
          refine wp_region_quiet_below (by kernel_rfl) (by kernel_rfl) ?_
          repeat (first | go_big_quiet_step (fail) | quiet_step (fail))
          refine wpQuiet_nil ?_
          intro _ hw'
          obtain ⟨⟨dq, osq⟩, hw''⟩ := hw'
          subst hw''
          have B6 : Hid (Below w.heap.size w (grow (redrawn wr dq) osq)) := Lib.hid (HB.out.trans ((below_regrown wr dq osq).mono HB.out.size))
          generalize grow (redrawn wr dq) osq = W6 at *
          clear z1 z2
          go_wp2_with fail
          go_roundw
          case rel => exact ⟨k + 1, by go_num, by omega, HN2, B6⟩
          case measure => simp [intOf]; omega
        · have HR := Lib.hid (S2k.out hab)
          have hq : (a != b) = true := by simpa using hab
          have hq2 : (a == b) = false := by simpa using hab
          clear HN S2k
          go_wp2_with fail
          refine wp_region_quiet_below (by kernel_rfl) (by kernel_rfl) ?_
          repeat (first | go_big_quiet_step (fail) | quiet_step (fail))
          refine wpQuiet_nil ?_
          intro _ hw'
          obtain ⟨⟨dq, osq⟩, hw''⟩ := hw'
          subst hw''
          have B6 : Hid (Below w.heap.size w (grow (redrawn wr dq) osq)) := Lib.hid (HB.out.trans ((below_regrown wr dq osq).mono HB.out.size))
          generalize grow (redrawn wr dq) osq = W6 at *
          clear z1 z2
          go_wp2_with fail
          go_ret
          exact ⟨ret_bool HR.out.symm, B6.out⟩
      · have HR := Lib.hid (S1'.out (by have := H0.out; rwa [show k = xn by omega] at this))
        clear H0
        go_wp2_with fail
        go_ret
        exact ⟨ret_bool HR.out.symm, HB.out⟩
  · have hlb : (((xn : Nat) : Int) != ((yn : Nat) : Int)) = true := by simp; omega
    have HR := Lib.hid (S3.out hl)
    clear hl
    go_enter Tryz.func40, Tryz.ntmps40
    go_wp2_with fail
    go_ret
    exact ⟨ret_bool HR.out.symm, Below.refl _ _⟩

theorem eLists1 : ∀ args w, (callFunc 76 args).run Tryz.prog w = .ok (.enter 76 args) w := enters_of Tryz.func76 (by kernel_rfl) rfl
theorem eCons : ∀ args w, (callFunc 43 args).run Tryz.prog w = .ok (.enter 43 args) w := enters_of Tryz.func43 (by kernel_rfl) rfl

theorem lists1_any (x y : Sl) (L K : List Int) (w : World) (hx : IsInts w x L) (hy : IsInts w y K) : Calls Tryz.prog 76 #[.slice x.A x.n x.c, .slice y.A y.n y.c] w fun e w' => e = .returned (.bool (L == K)) ∧ Below w.heap.size w w' := by
  have C := Lib.hid (equal_ints x y L K w hx hy)
  clear hx hy
  go_enter Tryz.func76, Tryz.ntmps76
  go_wp2_with fail
  refine C.out.mono ?_
  rintro e w1 ⟨rfl, b1⟩
  have B1 := Lib.hid b1
  clear b1
  go_wp2_with fail
  go_ret
  exact ⟨rfl, B1.out⟩

set_option maxHeartbeats 2000000 in
theorem equal_rows (x y : Sl) (L K : List (List Int)) (w : World) (hx : IsRows w x L) (hy : IsRows w y K) : Calls Tryz.prog 75 #[.slice x.A x.n x.c, .slice y.A y.n y.c, .func (.func 76) #[] #[]] w fun e w' => e = .returned (.bool (L == K)) ∧ Below w.heap.size w w' := by
  have HX := Lib.hid hx
  have HY := Lib.hid hy
  have S1 := Lib.hid (alike_yes (L := L) (K := K) [])
  have S2 := Lib.hid (fun k => alike_no (L := L) (K := K) (k := k) [])
  have S3 := Lib.hid (alike_len (L := L) (K := K))
  rw [← hx.len, ← hy.len] at S1 S3
  have hxb := hx.big
  have e1 := eLists1
  generalize (L == K) = RES at S1 S2 S3 ⊢
  obtain ⟨xA, xn, xc⟩ := x
  obtain ⟨yA, yn, yc⟩ := y
  simp only at *
  clear hx hy
  by_cases hl : xn = yn
  · subst hl
    have hlb : (((xn : Nat) : Int) != ((xn : Nat) : Int)) = false := by simp
    have S1' := Lib.hid (S1.out rfl)
    clear S1 S3
    go_enter Tryz.func75, Tryz.ntmps75
    go_wp2_with fail
    go_loopw [17] (fun i wr => ∃ k : Nat, i = .int .i64 (k : Nat) ∧ k ≤ xn ∧ Hid (alikeTo L K [] k) ∧ Hid (Below w.heap.size w wr)) (fun i _ => xn - (intOf i).toNat)
    case atStart => exact ⟨0, rfl, by omega, Lib.hid (fun j hj => absurd hj (by omega)), Lib.hid (Below.refl _ _)⟩
    case round =>
      obtain ⟨k, rfl, hk, H0, HB⟩ := hrel
      by_cases hlt : k < xn
      · obtain ⟨ad, eA, hb1, hc1⟩ := HX.out.lies (by simp only; omega)
        obtain ⟨bd, eB, hb2, hc2⟩ := HY.out.lies (by simp only; omega)
        simp only at eA eB
        subst eA eB
        obtain ⟨u1, hu1, hi1⟩ := hc1 k hlt
        obtain ⟨u2, hu2, hi2⟩ := hc2 k hlt
        have z1 : wr.cell? (ad.add k) = some (.slice u1.A u1.n u1.c) := (HB.out.cell (by rw [add_block]; exact hb1)).trans hu1
        have z2 : wr.cell? (bd.add k) = some (.slice u2.A u2.n u2.c) := (HB.out.cell (by rw [add_block]; exact hb2)).trans hu2
        have cS := Lib.hid (lists1_any u1 u2 (L.getD k []) (K.getD k []) wr (hi1.below HB.out) (hi2.below HB.out))
        have HN : Hid (L.getD k [] = K.getD k [] → alikeTo L K [] (k + 1)) := Lib.hid (fun e j hj => by
          by_cases h : j < k
          · exact H0.out j h
          · obtain rfl : j = k := by omega
            exact e)
        have S2k := Lib.hid (S2.out k)
        clear hc1 hc2 hb1 hb2 hu1 hu2 hi1 hi2
        generalize L.getD k [] = a at cS HN S2k
        generalize K.getD k [] = b at cS HN S2k
        cases hab : (a == b)
        · have HR := Lib.hid (S2k.out (by simpa using hab))
          rw [hab] at cS
          clear HN S2k hab
          go_wp2_with fail
          refine cS.out.mono ?_
          rintro e w1 ⟨rfl, b1⟩
          have B1 := Lib.hid (HB.out.trans (b1.mono HB.out.size))
          clear b1
          go_wp2_with fail
          go_ret
          exact ⟨ret_bool HR.out.symm, B1.out⟩
        · have HN2 := Lib.hid (HN.out (by simpa using hab))
          rw [hab] at cS
          clear HN S2k hab
          go_wp2_with fail
          refine cS.out.mono ?_
          rintro e w1 ⟨rfl, b1⟩
          have B1 := Lib.hid (HB.out.trans (b1.mono HB.out.size))
          clear b1
          go_wp2_with fail
          go_roundw
          case rel => exact ⟨k + 1, by go_num, by omega, HN2, B1⟩
          case measure => simp [intOf]; omega
      · have HR := Lib.hid (S1'.out (by have := H0.out; rwa [show k = xn by omega] at this))
        clear H0
        go_wp2_with fail
        go_ret
        exact ⟨ret_bool HR.out.symm, HB.out⟩
  · have hlb : (((xn : Nat) : Int) != ((yn : Nat) : Int)) = true := by simp; omega
    have HR := Lib.hid (S3.out hl)
    clear hl
    go_enter Tryz.func75, Tryz.ntmps75
    go_wp2_with fail
    go_ret
    exact ⟨ret_bool HR.out.symm, Below.refl _ _⟩

theorem equalLists_any (x y : Sl) (L K : List (List Int)) (w : World) (hx : IsRows w x L) (hy : IsRows w y K) : Calls Tryz.prog 41 #[.slice x.A x.n x.c, .slice y.A y.n y.c] w fun e w' => e = .returned (.bool (L == K)) ∧ Below w.heap.size w w' := by
  have C := Lib.hid (equal_rows x y L K w hx hy)
  clear hx hy
  go_enter Tryz.func41, Tryz.ntmps41
  go_wp2_with fail
  refine C.out.mono ?_
  rintro e w1 ⟨rfl, b1⟩
  have B1 := Lib.hid b1
  clear b1
  go_wp2_with fail
  go_ret
  exact ⟨rfl, B1.out⟩

/-- Are two constraints the same? -/
def eqCon (a b : ConL) : Bool := a.kind == b.kind && a.K == b.K && a.A == b.A && a.B == b.B && a.C == b.C && a.D == b.D && a.E == b.E && a.rows == b.rows
theorem eqCon_iff (a b : ConL) : eqCon a b = true ↔ a = b := by
  obtain ⟨k1, a1, b1, c1, d1, e1, kk1, r1⟩ := a
  obtain ⟨k2, a2, b2, c2, d2, e2, kk2, r2⟩ := b
  simp only [eqCon, Bool.and_eq_true, beq_iff_eq, ConL.mk.injEq]
  constructor
  · rintro ⟨⟨⟨⟨⟨⟨⟨h1, h2⟩, h3⟩, h4⟩, h5⟩, h6⟩, h7⟩, h8⟩
    exact ⟨h1, h3, h4, h5, h6, h7, h2, h8⟩
  · rintro ⟨h1, h3, h4, h5, h6, h7, h2, h8⟩
    exact ⟨⟨⟨⟨⟨⟨⟨h1, h2⟩, h3⟩, h4⟩, h5⟩, h6⟩, h7⟩, h8⟩
end Go.Proofs.YtgemgmdnnjaghaaGreatDoor

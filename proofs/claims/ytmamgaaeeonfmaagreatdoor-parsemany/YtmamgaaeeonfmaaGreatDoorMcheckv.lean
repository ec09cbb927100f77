/- Contracts: mayName, mayList, checkVars. -/
import Derived.Test.YtmamgaaeeonfmaaGreatDoorMmod
import Derived.Maps.OwnSet
namespace Go.Proofs.YtmamgaaeeonfmaaGreatDoor
open Go.RowKit Go.Sort Go.Maps

theorem law9 : Keyed Tryz.prog 9 := string_keyed Tryz.underlying9
theorem zero3 (w : World) : (zeroValue 3).run Tryz.prog w = .ok (.int .i64 0) w := by kernel_rfl
abbrev keyS (b : Bs) : Lit := .string b
abbrev numD (x : Int) : DataW Unit := .lit (.int .i64 x)
theorem keyS_mk {s : ByteArray} (h : s.size ≤ maxLen) : keyOf Tryz.prog 9 (.string s) = some (keyS (bl s)) := WideMaps.keyOf_string_mk Tryz.underlying9 h
theorem keyS_ne {a b : Bs} (h : a ≠ b) : keyS a ≠ keyS b := by
  intro e
  injection e with e
  exact h e
theorem keyS_lit (b : Bs) : WideAt.IsKeyLit (keyS b) := trivial

/-- The names that were met. -/
def MetD (D : DataW Unit) (l : List Bs) : Prop := (∀ b, has D (keyS b) = l.any (· == b)) ∧ size D = l.length
def Met (w : World) (M : Nat) (l : List Bs) : Prop := ∃ D : DataW Unit, w.ownsMap Tryz.prog 9 (plainElem Tryz.prog 3) M (size D) D ∧ MetD D l
section
variable {w w' : World} {M : Nat} {l : List Bs} {b : Bs} {D : DataW Unit}
theorem metmap_keep {H : Type} {R : Value → Option (DataW H × List MemPlace)} {n : Nat} {E : DataW H} (h : w.ownsMap Tryz.prog 9 R M n E) (hk : w'.heap[M]? = w.heap[M]?) : w'.ownsMap Tryz.prog 9 R M n E := by
  obtain ⟨es, clock, hb, r⟩ := h
  exact ⟨es, clock, hk.trans hb, r⟩
theorem Met.lt (h : Met w M l) : M < w.heap.size := by
  obtain ⟨D, hD, -⟩ := h
  exact hD.lt
theorem Met.below (h : Met w M l) (hb : Below w.heap.size w w') : Met w' M l := by
  have hl := h.lt
  obtain ⟨D, hD, h2⟩ := h
  exact ⟨D, metmap_keep hD (hb.block M hl), h2⟩
theorem Met.new (w : World) : Met (w.alloc (.map #[] 0)) w.heap.size [] :=
  ⟨.map [], World.ownsMap_made _ _ _ _, fun x => by simp [has], rfl⟩
theorem MetD.put (hD : w.ownsMap Tryz.prog 9 (plainElem Tryz.prog 3) M (size D) D) (h : MetD D l) (hx : l.any (· == b) = false) (k : Int) : size (D.put (keyS b) (numD k)) = size D + 1 ∧ MetD (D.put (keyS b) (numD k)) (l ++ [b]) := by
  obtain ⟨h1, h3⟩ := h
  have hnot : has D (keyS b) = false := by rw [h1]; exact hx
  have hsz : size (D.put (keyS b) (numD k)) = size D + 1 := by rw [size_put (hD.tidy law9), hnot]; rfl
  refine ⟨hsz, fun y => ?_, by rw [hsz, h3]; simp⟩
  by_cases e : y = b
  · subst e
    rw [has_put_same hD.isMap (keyS_lit _)]
    simp
  · rw [has_put_other (keyS_ne e), h1]
    have : (b == y) = false := by rw [beq_eq_false_iff_ne]; exact fun q => e q.symm
    simp [this]
theorem met_turned {B : Nat} {w0 : World} (hb : Below B w0 w) (hs : B ≤ w.heap.size) (hM : B ≤ M) (ht : w.mapTurned w' M) : Below B w0 w' :=
  hb.grown ht.grown hs (fun k hk => by injection hk with hk; omega)
end

theorem mayName_any (b : Bs) (w : World) (hb : b.length ≤ 4611686018427387903) : Calls Tryz.prog 35 #[.string ⟨b.toArray⟩] w fun e w' => e = .returned (.bool (mayNameB b)) ∧ Below w.heap.size w w' := by
  have C := Lib.hid (name_any ⟨b.toArray⟩ w (by show b.toArray.size ≤ _; rw [List.size_toArray]; omega))
  have ebl : bl ⟨b.toArray⟩ = b := by simp [bl]
  rw [ebl] at C
  unfold mayNameB
  generalize nameB b = N at C ⊢
  clear ebl
  cases h1 : (b == [118, 97, 114])
  · cases h2 : (b == [99, 111, 110, 115, 116, 114, 97, 105, 110, 116])
    · cases h3 : (b == [115, 111, 108, 118, 101])
      · have g1 : ¬ b = [118, 97, 114] := by simpa using h1
        have g2 : ¬ b = [99, 111, 110, 115, 116, 114, 97, 105, 110, 116] := by simpa using h2
        have g3 : ¬ b = [115, 111, 108, 118, 101] := by simpa using h3
        go_enter Tryz.func35, Tryz.ntmps35
        go_wp2_with fail
        refine C.out.mono ?_
        rintro e w1 ⟨rfl, b1⟩
        have B1 := Lib.hid b1
        clear b1
        go_wp2_with fail
        go_ret
        exact ⟨rfl, B1.out⟩
      · obtain rfl : b = [115, 111, 108, 118, 101] := by simpa using h3
        clear h1 h2 h3
        go_enter Tryz.func35, Tryz.ntmps35
        go_wp2_with fail
        go_ret
        exact ⟨rfl, Below.refl _ _⟩
    · obtain rfl : b = [99, 111, 110, 115, 116, 114, 97, 105, 110, 116] := by simpa using h2
      clear h1 h2
      go_enter Tryz.func35, Tryz.ntmps35
      go_wp2_with fail
      go_ret
      exact ⟨rfl, Below.refl _ _⟩
  · obtain rfl : b = [118, 97, 114] := by simpa using h1
    clear h1
    go_enter Tryz.func35, Tryz.ntmps35
    go_wp2_with fail
    go_ret
    exact ⟨rfl, Below.refl _ _⟩

set_option maxHeartbeats 2000000 in
theorem mayList_any (x : Sl) (L : List Int) (w : World) (h : IsInts w x L) (hs : L.length ≤ 1000000) : Calls Tryz.prog 36 #[.slice x.A x.n x.c] w fun e w' => e = .returned (.bool (mayListB L)) ∧ Below w.heap.size w w' := by
  have C : Hid (∀ W, Below w.heap.size w W → Calls Tryz.prog 63 #[.slice x.A x.n x.c] W (GivesDom W (ofL L) (ofErr L))) := Lib.hid (fun W hW => by
    rw [h.len]
    exact of_dom x.A L x.c W (by rw [← h.len]; exact (h.below hW).lies) hs)
  obtain ⟨A, n, c⟩ := x
  obtain ⟨hn, hL, hlen, hcap⟩ := h
  simp only at hn hL hlen C ⊢
  have HL := Lib.hid hL
  have Hn := Lib.hid hn.symm
  have hn6 : n ≤ 1000000 := by omega
  have HRES : Hid ((riseB L = false → mayListB L = false) ∧ (riseB L = true → mayListB L = (ofErr L == 0))) := Lib.hid (by
    unfold mayListB
    constructor <;> intro e <;> rw [e] <;> simp)
  generalize mayListB L = RES at HRES ⊢
  clear hL hn
  go_enter Tryz.func36, Tryz.ntmps36
  go_wp2_with fail
  go_loopw [3] (fun i wr => ∃ k : Nat, i = .int .i64 (k : Nat) ∧ 1 ≤ k ∧ k ≤ n + 1 ∧ Hid (riseTo L k) ∧ Hid (Below w.heap.size w wr)) (fun i _ => n + 1 - (intOf i).toNat)
  case atStart => exact ⟨1, rfl, by omega, by omega, Lib.hid (fun j h1 hj => absurd hj (by omega)), Lib.hid (Below.refl _ _)⟩
  case round =>
    obtain ⟨k, rfl, hk1, hk, H0, HB⟩ := hrel
    by_cases hlt : k < n
    · obtain ⟨ad, rfl, hbk, hcl⟩ := HL.out (by omega)
      obtain ⟨m, hm⟩ : ∃ m, k = m + 1 := ⟨k - 1, by omega⟩
      have HKM := Lib.hid hm
      have hc1 := cell_regrown ((HB.out.cell (by rw [add_block]; exact hbk)).trans (hcl k hlt))
      have hc0 := cell_regrown ((HB.out.cell (by rw [add_block]; exact hbk)).trans (hcl m (by omega)))
      unfold i64f at hc0 hc1
      have HY : Hid (L.getD m 0 < L.getD k 0 → riseTo L (k + 1)) := Lib.hid (fun e j h1 hj => by
        by_cases h : j < k
        · exact H0.out j h1 h
        · obtain rfl : j = k := by omega
          rw [show j - 1 = m by omega]
          exact e)
      have HN : Hid (¬ L.getD m 0 < L.getD k 0 → riseB L = false) := Lib.hid (fun e => rise_no (i := k) (by omega) (by rw [Hn.out]; exact hlt) (by rw [show k - 1 = m by omega]; exact e))
      have hsub : ((k : Nat) : Int) - 1 = ((m : Nat) : Int) := by omega
      have hwr : IntKind.i64.wrap (((k : Nat) : Int) - 1) = ((m : Nat) : Int) := by rw [hsub]; exact IntWalk.i64_in _ (by omega)
      have hwm : IntKind.i64.wrap ((m : Nat) : Int) = ((m : Nat) : Int) := IntWalk.i64_in _ (by omega)
      have hml : m < n := by omega
      clear hcl hbk hm
      generalize L.getD m 0 = z0 at hc0 HY HN
      generalize L.getD k 0 = z1 at hc1 HY HN
      by_cases hz : z0 < z1
      · have hzb : decide (z1 ≤ z0) = false := by simp; omega
        have HY2 := Lib.hid (HY.out hz)
        clear HY HN hz
        go_wp2_with fail
        refine wp_region_quiet_below (by kernel_rfl) (by kernel_rfl) ?_
        repeat (first | go_big_quiet_step (fail) | quiet_step (fail))
        refine wpQuiet_nil ?_
        intro _ hw'
        obtain ⟨⟨dq, osq⟩, hw''⟩ := hw'
        subst hw''
        have B6 : Hid (Below w.heap.size w (grow (redrawn wr dq) osq)) := Lib.hid (HB.out.trans ((below_regrown wr dq osq).mono HB.out.size))
        generalize grow (redrawn wr dq) osq = W6 at *
        clear hc0 hc1
        go_wp2_with fail
        go_roundw
        case rel => exact ⟨k + 1, by go_num, by omega, by omega, HY2, B6⟩
        case measure => simp [intOf]; omega
      · have hzb : decide (z1 ≤ z0) = true := by simp; omega
        have HF := Lib.hid (HRES.out.1 (HN.out hz))
        clear HY HN hz
        go_wp2_with fail
        refine wp_region_quiet_below (by kernel_rfl) (by kernel_rfl) ?_
        repeat (first | go_big_quiet_step (fail) | quiet_step (fail))
        refine wpQuiet_nil ?_
        intro _ hw'
        obtain ⟨⟨dq, osq⟩, hw''⟩ := hw'
        subst hw''
        have B6 : Hid (Below w.heap.size w (grow (redrawn wr dq) osq)) := Lib.hid (HB.out.trans ((below_regrown wr dq osq).mono HB.out.size))
        generalize grow (redrawn wr dq) osq = W6 at *
        clear hc0 hc1
        go_wp2_with fail
        go_ret
        exact ⟨ret_bool HF.out.symm, B6.out⟩
    · have HT : Hid (RES = (ofErr L == 0)) := Lib.hid (HRES.out.2 (rise_yes (fun j h1 hj => H0.out j h1 (by have := Hn.out; omega))))
      clear H0 HRES
      generalize ofErr L = E at C HT
      generalize ofL L = OL at C
      go_wp2_with fail
      refine (C.out _ HB.out).mono ?_
      rintro e w1 ⟨d, rfl, hd, b1⟩
      obtain ⟨s, A', ws, c', rfl, -⟩ := hd
      have B1 := Lib.hid (HB.out.trans (b1.mono HB.out.size))
      clear b1
      go_wp2_with fail
      go_ret
      exact ⟨ret_bool HT.out.symm, B1.out.alloc B1.out.size _⟩
end Go.Proofs.YtmamgaaeeonfmaaGreatDoor

/- Contract: checkVars. -/
namespace Go.Proofs.YtmamgaaeeonfmaaGreatDoor
open Go.RowKit Go.Sort Go.Maps

theorem box5 {w W : World} {v : ModV} {gl ob : Int} {t : TypeId} (h : Below (w.heap.size + 1) (w.alloc (.cells (v.cells gl ob) t)) W) :
    W.cell? ⟨w.heap.size, 0, none⟩ = some (.slice v.n.A v.n.n v.n.c) ∧ W.cell? ⟨w.heap.size, 1, none⟩ = some (.slice v.d.A v.d.n v.d.c) ∧ W.cell? ⟨w.heap.size, 2, none⟩ = some (.slice v.c.A v.c.n v.c.c) ∧ W.cell? ⟨w.heap.size, 3, none⟩ = some (.int .i64 gl) ∧ W.cell? ⟨w.heap.size, 4, none⟩ = some (.int .i64 ob) := by
  refine ⟨?_, ?_, ?_, ?_, ?_⟩ <;> rw [h.cell (by simp)] <;> simp

theorem varE_name {m : ModL} {k : Nat} (h : mayNameB (m.names.getD k []) = false) : varE m k = 7 := by unfold varE; rw [if_pos h]
theorem varE_twice {m : ModL} {k : Nat} (h : mayNameB (m.names.getD k []) = true) (h2 : (m.names.take k).any (· == m.names.getD k []) = true) : varE m k = 8 := by unfold varE; rw [if_neg (by rw [h]; decide), if_pos h2]
theorem varE_dom {m : ModL} {k : Nat} (h : mayNameB (m.names.getD k []) = true) (h2 : (m.names.take k).any (· == m.names.getD k []) = false) : varE m k = if mayListB (m.doms.getD k []) = false then 3 else 0 := by unfold varE; rw [if_neg (by rw [h]; decide), if_neg (by rw [h2]; decide)]
theorem names_take (l : List Bs) (k : Nat) (h : k < l.length) : l.take (k + 1) = l.take k ++ [l.getD k []] := by
  rw [List.take_add_one, List.getD_eq_getElem?_getD, List.getElem?_eq_getElem h]
  rfl

theorem makeMap_hint (n : Nat) (w : World) : (Instr.makeMap 46 (some (.int .i64 ((n : Nat) : Int)))).run Tryz.prog w = .ok (.map (some w.heap.size)) (w.alloc (.map #[] 0)) := by
  have h := run_underlying Tryz.underlying46 w
  simp [Instr.makeMap, h, asInt, asIntOf]

set_option maxHeartbeats 4000000 in
set_option maxRecDepth 100000 in
theorem checkVars_any (v : ModV) (m : ModL) (w : World) (h : ModIn w v m) (hl : m.names.length = m.doms.length) (h256 : m.names.length ≤ 256) : Calls Tryz.prog 19 #[v.val m.goal m.obj] w fun e w' => e = .returned (.int .i64 (firstE (varE m) m.names.length)) ∧ Below w.heap.size w w' := by
  have hmm := makeMap_hint v.n.n
  have HM := Lib.hid h
  have HAT := Lib.hid (fun k => firstE_at (f := varE m) (n := m.names.length) (k := k))
  have HNO := Lib.hid (firstE_no (f := varE m) (n := m.names.length))
  have HLN : Hid (v.n.n = m.names.length) := Lib.hid h.n.len
  have HLD : Hid (v.d.n = m.names.length) := Lib.hid (by rw [h.d.len, hl])
  have hn : v.n.n ≤ 256 := by rw [h.n.len]; exact h256
  generalize firstE (varE m) m.names.length = RES at HAT HNO ⊢
  generalize m.goal = gl at *
  generalize m.obj = ob at *
  clear h hl h256
  go_enter Tryz.func19, Tryz.ntmps19
  go_wp2_with fail
  go_loopw [15] (fun i wr => ∃ k : Nat, i = .int .i64 (k : Nat) ∧ k ≤ v.n.n ∧ Hid (∀ j, j < k → varE m j = 0) ∧ Hid (Met wr (w.heap.size + 1) (m.names.take k)) ∧ Hid (Below (w.heap.size + 1) (w.alloc (.cells (v.cells gl ob) 26)) wr)) (fun i _ => v.n.n - (intOf i).toNat)
  case atStart =>
    refine ⟨0, rfl, by omega, Lib.hid (fun j hj => absurd hj (by omega)), Lib.hid ?_, Lib.hid ?_⟩
    · have := Met.new (w.alloc (.cells (v.cells gl ob) 26))
      simpa using this
    · have := below1 (w.alloc (.cells (v.cells gl ob) 26)) (.map #[] 0)
      simpa using this
  case round =>
    obtain ⟨k, rfl, hk, H0, HMet, HB⟩ := hrel
    by_cases hlt : k < v.n.n
    · have hbw := of_boxed HB.out
      obtain ⟨ad, hA, hbk, hcl⟩ := HM.out.n.lies (by omega)
      have hck : wr.cell? (ad.add k) = some (.string ⟨(m.names.getD k []).toArray⟩) := (hbw.cell (by rw [add_block]; exact hbk)).trans (hcl k hlt)
      have hkl : k < m.names.length := by have := HLN.out; omega
      have hbl : (m.names.getD k []).length ≤ 4611686018427387903 := HM.out.brief _ (by rw [List.getD_eq_getElem?_getD, List.getElem?_eq_getElem hkl]; exact List.getElem_mem hkl)
      have CN := Lib.hid (mayName_any (m.names.getD k []) wr hbl)
      have HV1 := Lib.hid (varE_name (m := m) (k := k))
      have HV2 := Lib.hid (varE_twice (m := m) (k := k))
      have HV3 := Lib.hid (varE_dom (m := m) (k := k))
      have HATk := Lib.hid (HAT.out k (by have := HLN.out; omega) H0.out)
      have HTK := Lib.hid (names_take m.names k hkl)
      have HBL := Lib.hid hbl
      obtain ⟨c0, c1, c2, c3, c4⟩ := box5 HB.out
      rw [hA]
      clear hcl hbk hbw hkl hbl
      generalize hb : m.names.getD k [] = b at hck CN HV1 HV2 HV3 HTK HBL
      clear hb
      cases hmn : mayNameB b
      · have HR : Hid (RES = 7) := Lib.hid (by rw [HATk.out (by rw [HV1.out hmn]; decide), HV1.out hmn])
        rw [hmn] at CN
        clear HV1 HV2 HV3 HATk hmn
        go_wp2_with fail
        refine CN.out.mono ?_
        rintro e w1 ⟨rfl, b1⟩
        have B1 := Lib.hid (HB.out.trans (b1.mono (by have := HB.out.size; simpa using this)))
        clear b1
        go_wp2_with fail
        go_ret
        exact ⟨int_eq HR.out.symm, of_boxed B1.out⟩
      · have HV2' := Lib.hid (HV2.out hmn)
        have HV3' := Lib.hid (HV3.out hmn)
        rw [hmn] at CN
        clear HV1 HV2 HV3 hmn
        go_wp2_with fail
        refine CN.out.mono ?_
        rintro e w1 ⟨rfl, b1⟩
        have B1 := Lib.hid (HB.out.trans (b1.mono (by have := HB.out.size; simpa using this)))
        have HMet1 := Lib.hid (HMet.out.below b1)
        clear b1 CN c0 c1 c2 c3 c4 hck
        obtain ⟨c0, c1, c2, c3, c4⟩ := box5 B1.out
        obtain ⟨D, hD, hMD⟩ := HMet1.out
        have hkey : keyOf Tryz.prog 9 (.string ⟨b.toArray⟩) = some (keyS b) := by
          have := keyS_mk (s := ⟨b.toArray⟩) (by show b.toArray.size ≤ maxLen; rw [List.size_toArray]; have := HBL.out; unfold maxLen; omega)
          rw [this]
          simp [bl]
        have hhas := hMD.1 b
        have HMD := Lib.hid hMD
        clear hMD
        cases htw : (m.names.take k).any (· == b)
        · rw [htw] at hhas
          have HV4 := Lib.hid (HV3'.out htw)
          have hval : plainElem (H := Unit) Tryz.prog 3 (.int .i64 ((k : Nat) : Int)) = some (numD ((k : Nat) : Int), []) := plainElem_int Tryz.underlying3 (by simp [Lit.wf, IntKind.min, IntKind.max, IntKind.signed, IntKind.bits]; omega)
          have hlts : size D < maxLen := by rw [HMD.out.2]; unfold maxLen; rw [List.length_take]; omega
          have HPUT := Lib.hid (MetD.put hD HMD.out htw ((k : Nat) : Int))
          clear HV2' HV3' htw
          have HB2 : Hid (∀ w2, w1.mapTurned w2 (w.heap.size + 1) → Below (w.heap.size + 1) (w.alloc (.cells (v.cells gl ob) 26)) w2) := Lib.hid (fun w2 ht => met_turned B1.out (by have := B1.out.size; simpa using this) (Nat.le_refl _) ht)
          obtain ⟨adD, eD, hbD, hclD⟩ := HM.out.d.lies (by have := HLD.out; have := HLN.out; omega)
          have hkd : k < v.d.n := by have := HLD.out; have := HLN.out; omega
          obtain ⟨u, hu, hur⟩ := hclD k hkd
          have HCD : Hid (∀ W, Below w.heap.size w W → W.cell? (adD.add k) = some (.slice u.A u.n u.c)) := Lib.hid (fun W hW => (hW.cell (by rw [add_block]; exact hbD)).trans hu)
          have ED := Lib.hid eD
          have hshort : (m.doms.getD k []).length ≤ 1000000 := HM.out.short _ (by
            have hkl : k < m.doms.length := by have := HM.out.d.len; omega
            rw [List.getD_eq_getElem?_getD, List.getElem?_eq_getElem hkl]
            exact List.getElem_mem hkl)
          have CL := Lib.hid (fun W (hW : Below w.heap.size w W) => mayList_any u (m.doms.getD k []) W (hur.below hW) hshort)
          clear hclD hbD eD hu hur hshort
          generalize m.doms.getD k [] = dl at HV4 CL
          cases hml : mayListB dl
          · have HR : Hid (RES = 3) := Lib.hid (by rw [HATk.out (by rw [HV4.out, if_pos hml]; decide), HV4.out, if_pos hml])
            rw [hml] at CL
            clear HV4 HATk hml
            go_wp2_with (first | (at_lookup; refine wpList_lookup_own_ok_int _ rfl _ _ 46 rfl 9 3 .i64 law9 Tryz.underlying46 Tryz.underlying3 (zero3 _) (w.heap.size + 1) (size D) D rfl hD _ _ rfl hkey ?_; intro cc hat hwc) | (at_mapUpdate; refine wpList_mapUpdate_in _ rfl _ _ _ 46 rfl 9 3 law9 Tryz.underlying46 _ (w.heap.size + 1) (size D) D rfl hD hlts _ _ _ rfl rfl hkey _ _ hval ?_; intro w2 hown2 ht2; obtain ⟨d0, d1, d2, d3, d4⟩ := box5 (HB2.out w2 ht2); rw [ED.out] at d1; have hcd := HCD.out w2 (of_boxed (HB2.out w2 ht2)); have B2 := Lib.hid (HB2.out w2 ht2); clear hD ht2 hown2) | fail)
            refine (CL.out _ (of_boxed B2.out)).mono ?_
            rintro e w3 ⟨rfl, b3⟩
            have B3 := Lib.hid ((of_boxed B2.out).trans (b3.mono (of_boxed B2.out).size))
            clear b3
            go_wp2_with fail
            go_ret
            exact ⟨int_eq HR.out.symm, B3.out⟩
          · have HV5 : Hid (∀ j, j < k + 1 → varE m j = 0) := Lib.hid (fun j hj => by
              by_cases h : j < k
              · exact H0.out j h
              · obtain rfl : j = k := by omega
                rw [HV4.out, if_neg (by rw [hml]; decide)])
            rw [hml] at CL
            have HMet2 : Hid (∀ w2, w2.ownsMap Tryz.prog 9 (plainElem Tryz.prog 3) (w.heap.size + 1) (size D + 1) (D.put (keyS b) (numD ((k : Nat) : Int))) → Met w2 (w.heap.size + 1) (m.names.take (k + 1))) := Lib.hid (fun w2 ho => by
              rw [HTK.out]
              exact ⟨_, by rw [HPUT.out.1]; exact ho, HPUT.out.2⟩)
            clear HV4 HATk hml
            go_wp2_with (first | (at_lookup; refine wpList_lookup_own_ok_int _ rfl _ _ 46 rfl 9 3 .i64 law9 Tryz.underlying46 Tryz.underlying3 (zero3 _) (w.heap.size + 1) (size D) D rfl hD _ _ rfl hkey ?_; intro cc hat hwc) | (at_mapUpdate; refine wpList_mapUpdate_in _ rfl _ _ _ 46 rfl 9 3 law9 Tryz.underlying46 _ (w.heap.size + 1) (size D) D rfl hD hlts _ _ _ rfl rfl hkey _ _ hval ?_; intro w2 hown2 ht2; obtain ⟨d0, d1, d2, d3, d4⟩ := box5 (HB2.out w2 ht2); rw [ED.out] at d1; have hcd := HCD.out w2 (of_boxed (HB2.out w2 ht2)); have B2 := Lib.hid (HB2.out w2 ht2); have HM2 := Lib.hid (HMet2.out w2 hown2); clear hD ht2 hown2) | fail)
            refine (CL.out _ (of_boxed B2.out)).mono ?_
            rintro e w3 ⟨rfl, b3⟩
            have B3 : Hid (Below (w.heap.size + 1) (w.alloc (.cells (v.cells gl ob) 26)) w3) := Lib.hid (B2.out.trans (b3.mono (by have := B2.out.size; simpa using this)))
            have HM3 := Lib.hid (HM2.out.below b3)
            clear b3
            go_wp2_with fail
            go_roundw
            case rel => exact ⟨k + 1, by go_num, by omega, HV5, HM3, B3⟩
            case measure => simp [intOf]; omega
        · rw [htw] at hhas
          have HR : Hid (RES = 8) := Lib.hid (by rw [HATk.out (by rw [HV2'.out htw]; decide), HV2'.out htw])
          clear HV2' HV3' HATk htw
          go_wp2_with (first | (at_lookup; refine wpList_lookup_own_ok_int _ rfl _ _ 46 rfl 9 3 .i64 law9 Tryz.underlying46 Tryz.underlying3 (zero3 _) (w.heap.size + 1) (size D) D rfl hD _ _ rfl hkey ?_; intro cc hat hwc) | fail)
          go_ret
          exact ⟨int_eq HR.out.symm, of_boxed B1.out⟩
    · have HR := Lib.hid (HNO.out (fun j hj => H0.out j (by have := HLN.out; omega)))
      clear H0
      go_wp2_with fail
      go_ret
      exact ⟨int_eq HR.out.symm, of_boxed HB.out⟩
end Go.Proofs.YtmamgaaeeonfmaaGreatDoor

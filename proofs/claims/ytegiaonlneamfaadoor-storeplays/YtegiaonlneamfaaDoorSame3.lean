/- A region that draws its order: begun by taking what may be taken and by its calls, ended by one walk over what only reads. -/
import Derived.Test.YtegiaonlneamfaaDoorLists
import Derived.Test.YtegiaonlneamfaaDoorWalkm
namespace Go.Proofs.YtegiaonlneamfaaDoor
open Go.RowKit

section
variable {P : Program} {md : Region.Mode} {ops : Array Oper} {C S : World → Prop}

theorem wpAnyH_of_quiet {Q : Act → Prop} {Q' : Exit → Act → World → Prop} (hQ : ∀ a w, C w → Q a → Q' .normal a w) (hS : ∀ w, C w → S w) : ∀ (fuel : Nat) (listed : Array Bool) (a : Act) (w : World), C w → wpAnyQ P md ops C Q fuel listed a → wpAnyH P md ops Q' S fuel listed a w
  | 0, _, _, _, hw, h => ⟨h.1, hQ _ _ hw h.2⟩
  | fuel + 1, _, _, _, hw, h => ⟨fun h0 => hQ _ _ hw (h.1 h0), fun i hi => wpOp_of_qOp hw (fun a' w' hw' hk => ⟨hS w' hw', wpAnyH_of_quiet hQ hS fuel _ a' w' hw' hk⟩) (h.2 i hi)⟩

theorem wpAnyH_finish {L : List Oper} (k : Nat) {fuel : Nat} {listed : Array Bool} {a : Act} {w : World} {Q : Exit → Act → World → Prop} (hf : (L.drop k).length = fuel) (hs : Region.noSelect L.toArray = true) (hB : Region.lexFrom md L.toArray fuel k listed = true)
    (hS : ∀ n, S (w.drewN n)) (h : wpQuiet P L.toArray (fun w' => ∃ n, w' = w.drewN n) (fun a' => ∀ w', (∃ n, w' = w.drewN n) → Q .normal a' w') (L.drop k) a) : wpAnyH P md L.toArray Q S fuel listed a w := by
  subst hf
  refine wpAnyH_of_quiet (C := fun w' => ∃ n, w' = w.drewN n) (Q := fun a' => ∀ w', (∃ n, w' = w.drewN n) → Q .normal a' w') (fun a w' hw h => h w' hw) (fun w' ⟨n, e⟩ => e ▸ hS n) _ _ _ _ ⟨0, rfl⟩ ?_
  exact wpAnyQ_lex hs (L.drop k) k listed a (fun j => by simp) hB h
end
end Go.Proofs.YtegiaonlneamfaaDoor

/- Contract of the law's same: a store has just some domains. -/
namespace Go.Proofs.YtegiaonlneamfaaDoor
open Go.RowKit

/-- The first one from k on that is empty. -/
def atOf (vs : List Vr) (k : Nat) : Option Nat := ((vs.drop k).findIdx? fun v => v.L.length == 0).map (· + k)

theorem atOf_zero (vs : List Vr) : atOf vs 0 = failI vs := by
  unfold atOf failI
  rw [List.drop_zero]
  cases vs.findIdx? fun v => v.L.length == 0 <;> rfl
theorem atOf_end (vs : List Vr) : atOf vs vs.length = none := by simp [atOf]
theorem atOf_step (vs : List Vr) (k : Nat) (v : Vr) (hv : vs[k]? = some v) : atOf vs k = if v.L.length = 0 then some k else atOf vs (k + 1) := by
  obtain ⟨hk, e⟩ := List.getElem?_eq_some_iff.1 hv
  unfold atOf
  rw [List.drop_eq_getElem_cons hk, List.findIdx?_cons, e]
  by_cases h : v.L.length = 0
  · simp [h]
  · simp only [h, beq_iff_eq, if_false, Option.map_map]
    congr 1
    funext x
    simp only [Function.comp]
    omega

section
variable {base S : Nat} {w : World} {st : Sto}

set_option maxHeartbeats 4000000 in
set_option maxRecDepth 100000 in
theorem same3_true (h : IsStore base w S st) (hT : Tab w) (A : Option Addr) (n c : Nat) (LL : List (List Int)) (hn : n = LL.length) (hR : RowsT w (.slice A n c) LL) (hL : st.vs.map Vr.L = LL) (hbig : n ≤ 1000) (hbl : ∀ L ∈ LL, L.length ≤ 1000000) :
    Calls Tryd.prog 20 #[ptr S, .slice A n c] w fun e w' => e = .returned (.bool true) ∧ Below w.heap.size w w' := by
  have hvl : st.vs.length = n := by rw [hn, ← hL]; simp
  have HS := Lib.hid h
  have HR := Lib.hid hR
  have HL := Lib.hid hL
  have Hbl := Lib.hid hbl
  have hne : (((st.vs.length : Nat) : Int) != (n : Int)) = false := by rw [hvl]; simp
  have Hn := Lib.hid hn
  have Hvl := Lib.hid hvl
  have HFa := Lib.hid fun (W : World) (hW : Below w.heap.size w W) => failed_store (h.below hW) (by omega)
  have HE0 : Hid (atOf st.vs n = none) := Lib.hid (by rw [← hvl]; exact atOf_end _)
  have w0 : IntKind.i64.wrap ((n : Int) - 1) = (n : Int) - 1 := IntWalk.i64_in _ (by omega)
  clear h hR hL hbl hn
  go_enter Tryd.func20, Tryd.ntmps20
  go_wp2_with fail
  refine (len_store HS.out).mono ?_
  rintro e w' ⟨rfl, rfl⟩
  go_wp2_with fail
  go_loopw [5, 6, 7] (fun a b i wr => ∃ k : Nat, k ≤ n ∧ a = .int .i64 (((atOf st.vs k).getD 0 : Nat) : Int) ∧ b = .bool (atOf st.vs k).isSome ∧ i = .int .i64 ((k : Int) - 1) ∧ Hid (Below w.heap.size w wr)) (fun _ _ i _ => (intOf i + 1).toNat)
  case atStart => exact ⟨n, by omega, by rw [HE0.out]; rfl, by rw [HE0.out]; rfl, rfl, Lib.hid (Below.refl _ _)⟩
  case round =>
    clear hne HE0
    obtain ⟨wo, rfl⟩ : ∃ wo, wo = wr := ⟨_, rfl⟩
    obtain ⟨k, hk, rfl, rfl, rfl, HB⟩ := hrel
    rcases k with _ | j
    · have HF := Lib.hid (atOf_zero st.vs)
      rw [HF.out]
      have e0 : ((0 : Nat) : Int) - 1 = -1 := rfl
      rw [e0]
      go_wp2_with fail
      refine (HFa.out wo HB.out).mono ?_
      rintro e w1 ⟨rfl, hb1⟩
      have HB1 := Lib.hid (HB.out.trans (hb1.mono HB.out.size))
      clear hb1 HB
      generalize (((failI st.vs).getD 0 : Nat) : Int) = x
      generalize (failI st.vs).isSome = b
      have hx : (x == x) = true := by simp
      have hb : (b == b) = true := by simp
      go_wp2_with fail
      go_ret
      exact ⟨by simp, HB1.out⟩
    · have e1 : ((j + 1 : Nat) : Int) - 1 = (j : Int) := by omega
      rw [e1]
      have hjn : j < n := by omega
      obtain ⟨v, hv⟩ : ∃ v, st.vs[j]? = some v := ⟨_, List.getElem?_eq_getElem (by rw [Hvl.out]; exact hjn)⟩
      have hlj : LL[j]? = some v.L := by rw [← HL.out, List.getElem?_map, hv]; rfl
      obtain ⟨g, c', A', d', e, y, hI, -⟩ := HR.out.get hlj
      injection e with eA en ec
      subst eA
      have hgb : g < w.heap.size := World.block_lt_of_cell? w ⟨g, j, none⟩ y
      have HY := Lib.hid fun (W : World) (hW : Below w.heap.size w W) => (hW.cell (p := ⟨g, j, none⟩) hgb).trans y
      have HI := Lib.hid hI
      have hmem : v.L ∈ LL := List.mem_of_getElem? hlj
      have HG := Lib.hid fun (W : World) (hW : Below w.heap.size w W) => get_store (HS.out.below hW) j v hv
      have HLi := Lib.hid fun (W : World) (hW : Below w.heap.size w W) => list_parts v.L v.dom W ((HS.out.doms v (List.mem_of_getElem? hv)).below hW) (hT.below hW)
      have HEq := Lib.hid fun (A3 : Option Addr) (k3 : Nat) (W : World) (hW : Below w.heap.size w W) (h3 : Lies W A3 v.L.length (i64f v.L)) => equal_same A3 A' v.L k3 d' W h3 (by
          obtain ⟨A2, d2, e2, hl2, -⟩ := (hI.below hW).lies
          injection e2 with e2 _ _
          rw [e2]; exact hl2) (by have := Hbl.out v.L hmem; omega)
      have hji : (j : Int) < (n : Nat) := by omega
      clear e1 en ec y hI hgb hmem hlj
      obtain ⟨xv, hxv⟩ : ∃ xv, (if v.L.length = 1 then v.L.head?.getD 0 else 0) = xv := ⟨_, rfl⟩
      obtain ⟨bv, hbv⟩ : ∃ bv, decide (v.L.length = 1) = bv := ⟨_, rfl⟩
      have HF := Lib.hid (fixed_store (HS.out.below HB.out) (hT.below HB.out) j v hv xv bv hbv hxv)
      have Hxv := Lib.hid hxv
      have Hbv := Lib.hid hbv
      have Hst := Lib.hid (atOf_step st.vs j v hv)
      clear hxv hbv
      go_wp2_with fail
      refine HF.out.mono ?_
      rintro e w1 ⟨rfl, hb1⟩
      have HB1 := Lib.hid (HB.out.trans (hb1.mono HB.out.size))
      have y1 := HY.out w1 HB1.out
      clear hb1 HB HF
      go_wp2_with fail
      have hS1 : Below w.heap.size w w1.drew ∧ w1.drew.cell? ⟨g, j, none⟩ = some (.slice A' v.L.length d') := ⟨HB1.out.drew, y1⟩
      refine wp_region_held_drew (S := fun W => Below w.heap.size w W ∧ W.cell? ⟨g, j, none⟩ = some (.slice A' v.L.length d')) (by kernel_rfl) hS1 (fun hS0 => ?_)
      refine wpAnyH_take (i := 0) (oi := { dst := some 30, op := Op.move (Operand.tmp 0), type := 27, pos := "law.go:55", after := #[], guard := none }) (v := ptr S) rfl (by kernel_rfl) (by kernel_rfl) (by kernel_rfl) (fun _ _ _ h => h) (Or.inl ⟨by rfl, ?t0⟩) hS1 ?_
      case t0 => (intro W hW; obtain ⟨-, hWy⟩ := hW; go_simp)
      simp only [Act.put, List.setIfInBounds_toArray, List.set_cons_zero, List.set_cons_succ]
      refine wpAnyH_take (i := 1) (oi := { dst := some 31, op := Op.move (Operand.tmp 7), type := 3, pos := "law.go:55", after := #[], guard := none }) (v := .int .i64 (j : Nat)) rfl (by kernel_rfl) (by kernel_rfl) (by kernel_rfl) (fun _ _ _ h => h) (Or.inl ⟨by rfl, ?t1⟩) hS1 ?_
      case t1 => (intro W hW; obtain ⟨-, hWy⟩ := hW; go_simp)
      simp only [Act.put, List.setIfInBounds_toArray, List.set_cons_zero, List.set_cons_succ]
      refine wpAnyH_take (i := 4) (oi := { dst := some 34, op := Op.move (Operand.tmp 1), type := 22, pos := "law.go:55", after := #[], guard := none }) (v := .slice (some ⟨g, 0, none⟩) n c) rfl (by kernel_rfl) (by kernel_rfl) (by kernel_rfl) (fun _ _ _ h => h) (Or.inl ⟨by rfl, ?t4⟩) hS1 ?_
      case t4 => (intro W hW; obtain ⟨-, hWy⟩ := hW; go_simp)
      simp only [Act.put, List.setIfInBounds_toArray, List.set_cons_zero, List.set_cons_succ]
      refine wpAnyH_take (i := 5) (oi := { dst := some 35, op := Op.move (Operand.tmp 7), type := 3, pos := "law.go:55", after := #[], guard := none }) (v := .int .i64 (j : Nat)) rfl (by kernel_rfl) (by kernel_rfl) (by kernel_rfl) (fun _ _ _ h => h) (Or.inl ⟨by rfl, ?t5⟩) hS1 ?_
      case t5 => (intro W hW; obtain ⟨-, hWy⟩ := hW; go_simp)
      simp only [Act.put, List.setIfInBounds_toArray, List.set_cons_zero, List.set_cons_succ]
      refine wpAnyH_take (i := 6) (oi := { dst := some 36, op := Op.indexAddr 22 (Operand.tmp 34) (Operand.tmp 35), type := 0, pos := "law.go:55", after := #[{ on := 4, ground := Ground.data }, { on := 5, ground := Ground.data }], guard := none }) (v := .pointer (some ⟨g, j, none⟩)) rfl (by kernel_rfl) (by kernel_rfl) (by kernel_rfl) (fun _ _ _ h => h) (Or.inl ⟨by rfl, ?t6⟩) hS1 ?_
      case t6 => (intro W hW; obtain ⟨-, hWy⟩ := hW; go_simp)
      simp only [Act.put, List.setIfInBounds_toArray, List.set_cons_zero, List.set_cons_succ]
      refine wpAnyH_take (i := 7) (oi := { dst := some 37, op := Op.load 34 (Operand.tmp 36), type := 34, pos := "law.go:55", after := #[{ on := 6, ground := Ground.data }], guard := none }) (v := .slice A' v.L.length d') rfl (by kernel_rfl) (by kernel_rfl) (by kernel_rfl) (fun _ _ _ h => h) (Or.inl ⟨by rfl, ?t7⟩) hS1 ?_
      case t7 => (intro W hW; obtain ⟨-, hWy⟩ := hW; go_simp)
      simp only [Act.put, List.setIfInBounds_toArray, List.set_cons_zero, List.set_cons_succ]
      refine wpAnyH_ready (rs := [2]) (by kernel_rfl) (by simp) ?_
      refine AllReadyH.cons (o := { dst := some 32, op := Op.call { callee := Callee.value (Operand.func 23), args := #[Operand.tmp 30, Operand.tmp 31], argTypes := #[27, 3] }, type := 48, pos := "law.go:55", after := #[{ on := 0, ground := Ground.data }, { on := 1, ground := Ground.data }], guard := none }) rfl (fun K hK => ?_) AllReadyH.nil
      go_simp
      refine (HG.out _ hS1.1).mono ?_
      rintro e w2 ⟨rfl, hb2⟩; have hb2 := hS1.1.trans (hb2.mono hS1.1.size); have hS2 := And.intro hb2 (HY.out _ hb2)
      refine hK.out _ _ hS2 (fun hHeld => ?_)
      clear hK K hHeld
      try simp only [Act.put, List.setIfInBounds_toArray, List.set_cons_zero, List.set_cons_succ]
      refine wpAnyH_ready (rs := [3]) (by kernel_rfl) (by simp) ?_
      refine AllReadyH.cons (o := { dst := some 33, op := Op.call { callee := Callee.value (Operand.func 45), args := #[Operand.tmp 32], argTypes := #[48] }, type := 34, pos := "law.go:55", after := #[{ on := 2, ground := Ground.data }, { on := 2, ground := Ground.chain }], guard := none }) rfl (fun K hK => ?_) AllReadyH.nil
      go_simp
      refine (HLi.out _ hS2.1).mono ?_
      rintro e w3 ⟨A3, k3, rfl, hl3, -, hb3⟩; have hb3 := hS2.1.trans (hb3.mono hS2.1.size); have hS3 := And.intro hb3 (HY.out _ hb3); have HL3 := Lib.hid hl3; clear hl3
      refine hK.out _ _ hS3 (fun hHeld => ?_)
      clear hK K hHeld
      try simp only [Act.put, List.setIfInBounds_toArray, List.set_cons_zero, List.set_cons_succ]
      refine wpAnyH_ready (rs := [8]) (by kernel_rfl) (by simp) ?_
      refine AllReadyH.cons (o := { dst := some 38, op := Op.call { callee := Callee.value (Operand.func 44), args := #[Operand.tmp 33, Operand.tmp 37], argTypes := #[34, 34] }, type := 4, pos := "law.go:55", after := #[{ on := 3, ground := Ground.data }, { on := 7, ground := Ground.data }, { on := 3, ground := Ground.chain }], guard := none }) rfl (fun K hK => ?_) AllReadyH.nil
      go_simp
      refine (HEq.out _ _ _ hS3.1 HL3.out).mono ?_
      rintro e w4 ⟨rfl, hb4⟩; have hb4 := hS3.1.trans (hb4.mono hS3.1.size); have hS4 := And.intro hb4 (HY.out _ hb4)
      refine hK.out _ _ hS4 (fun hHeld => ?_)
      clear hK K hHeld
      try simp only [Act.put, List.setIfInBounds_toArray, List.set_cons_zero, List.set_cons_succ]
      refine wpAnyH_take (i := 9) (oi := { dst := some 39, op := Op.unOp UnOp.not 4 (Operand.tmp 38), type := 4, pos := "law.go:55", after := #[{ on := 8, ground := Ground.data }], guard := none }) (v := .bool false) rfl (by kernel_rfl) (by kernel_rfl) (by kernel_rfl) (fun _ _ _ h => h) (Or.inl ⟨by rfl, ?t9⟩) hS4 ?_
      case t9 => (intro W hW; obtain ⟨-, hWy⟩ := hW; go_simp)
      simp only [Act.put, List.setIfInBounds_toArray, List.set_cons_zero, List.set_cons_succ]
      refine wpAnyH_take (i := 10) (oi := { dst := some 40, op := Op.move (Operand.tmp 39), type := 4, pos := "law.go:55", after := #[{ on := 9, ground := Ground.data }, { on := 8, ground := Ground.chain }], guard := none }) (v := .bool false) rfl (by kernel_rfl) (by kernel_rfl) (by kernel_rfl) (fun _ _ _ h => h) (Or.inl ⟨by rfl, ?t10⟩) hS4 ?_
      case t10 => (intro W hW; obtain ⟨-, hWy⟩ := hW; go_simp)
      simp only [Act.put, List.setIfInBounds_toArray, List.set_cons_zero, List.set_cons_succ]
      have HB4 := Lib.hid hS4.1
      have y4 := hS4.2
      clear hS0 hS1 hS2 hS3 hS4 hb2 hb3 hb4 HL3 y1 HB1
      by_cases h1 : v.L.length = 1
      · obtain ⟨x, hx⟩ : ∃ x, v.L = [x] := by
          match hvl' : v.L, h1 with
          | [x], _ => exact ⟨x, rfl⟩
        have ebv : bv = true := by rw [← Hbv.out]; simpa using h1
        have exv : xv = x := by rw [← Hxv.out, if_pos h1, hx]; rfl
        subst ebv
        subst exv
        obtain ⟨A2, d2, e2, hl2, -⟩ := (HI.out.below HB4.out).lies
        replace e2 := (Value.slice.inj e2).1
        obtain ⟨a', e3, -, hc⟩ := hl2 (by rw [h1]; exact Nat.zero_lt_one)
        rw [← e2] at e3
        subst e3
        have z4 : w4.cell? a' = some (.int .i64 xv) := by
          have := hc 0 (by rw [h1]; exact Nat.zero_lt_one)
          rw [add_zero] at this
          rw [this, hx]
          rfl
        have hxx : (xv != xv) = false := by simp
        have Hs2 : Hid (atOf st.vs j = atOf st.vs (j + 1)) := Lib.hid (by rw [Hst.out, if_neg (by omega)])
        rw [h1] at y4 ⊢
        clear h1 hx hc hl2 e2
        refine wpAnyH_finish 11 rfl (by kernel_rfl) (by kernel_rfl) (fun q => ⟨below_drewN HB4.out q, y4⟩) ?_
        simp only [List.drop_succ_cons, List.drop_zero]
        repeat (first | go_big_quiet_step (fail) | quiet_step (fail))
        refine wpQuiet_nil ?_
        intro _ hw'
        obtain ⟨nq, hw''⟩ := hw'
        subst hw''
        have HBq := Lib.hid (below_drewN HB4.out nq)
        have y5 : (w4.drewN nq).cell? ⟨g, j, none⟩ = some (.slice (some a') 1 d') := y4
        generalize w4.drewN nq = w5 at *
        clear y4 z4 HB4
        go_wp2_with fail
        go_roundw
        case rel => exact ⟨j, by omega, by rw [Hs2.out], by rw [Hs2.out], by go_num, HBq⟩
        case measure => simp [intOf]
      · have ebv : bv = false := by rw [← Hbv.out]; simpa using h1
        have exv : xv = 0 := by rw [← Hxv.out, if_neg h1]
        subst ebv
        subst exv
        have hl1 : (((v.L.length : Nat) : Int) == 1) = false := by simp; omega
        clear h1
        refine wpAnyH_finish 11 rfl (by kernel_rfl) (by kernel_rfl) (fun q => ⟨below_drewN HB4.out q, y4⟩) ?_
        simp only [List.drop_succ_cons, List.drop_zero]
        repeat (first | go_big_quiet_step (fail) | quiet_step (fail))
        refine wpQuiet_nil ?_
        intro _ hw'
        obtain ⟨nq, hw''⟩ := hw'
        subst hw''
        have HBq := Lib.hid (below_drewN HB4.out nq)
        have y5 : (w4.drewN nq).cell? ⟨g, j, none⟩ = some (.slice A' v.L.length d') := y4
        generalize w4.drewN nq = w5 at *
        clear y4 HB4
        by_cases h0 : v.L.length = 0
        · have hz : (((v.L.length : Nat) : Int) == 0) = true := by simp [h0]
          have Hs2 : Hid (atOf st.vs j = some j) := Lib.hid (by rw [Hst.out, if_pos h0])
          clear h0
          go_wp2_with fail
          go_roundw
          case rel => exact ⟨j, by omega, by rw [Hs2.out]; rfl, by rw [Hs2.out]; rfl, by go_num, HBq⟩
          case measure => simp [intOf]
        · have hz : (((v.L.length : Nat) : Int) == 0) = false := by rw [beq_eq_false_iff_ne]; omega
          have Hs2 : Hid (atOf st.vs j = atOf st.vs (j + 1)) := Lib.hid (by rw [Hst.out, if_neg h0])
          clear h0
          go_wp2_with fail
          go_roundw
          case rel => exact ⟨j, by omega, by rw [Hs2.out], by rw [Hs2.out], by go_num, HBq⟩
          case measure => simp [intOf]
end
end Go.Proofs.YtegiaonlneamfaaDoor

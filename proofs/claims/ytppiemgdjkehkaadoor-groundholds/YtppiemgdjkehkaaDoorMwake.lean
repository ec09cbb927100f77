/- slices.Equal over numbers (as Mequal has it, without what Mequal imports). -/
import Derived.Test.YtppiemgdjkehkaaDoorMright
import Derived.Test.YtppiemgdjkehkaaDoorMpure
import Derived.Test.YtppiemgdjkehkaaDoorMshapes
namespace Go.Proofs.YtppiemgdjkehkaaDoor
open Go.RowKit Go.Sort

section
variable {α : Type} [BEq α] [LawfulBEq α]
def galikeTo (L K : List α) (z : α) (k : Nat) : Prop := ∀ j, j < k → L.getD j z = K.getD j z
theorem galike_yes {L K : List α} (z : α) (hl : L.length = K.length) (h : galikeTo L K z L.length) : (L == K) = true := by
  rw [beq_iff_eq]
  apply List.ext_getElem hl
  intro i h1 h2
  have := h i h1
  rw [List.getD_eq_getElem?_getD, List.getD_eq_getElem?_getD, List.getElem?_eq_getElem h1, List.getElem?_eq_getElem h2] at this
  exact this
theorem galike_no {L K : List α} {k : Nat} (z : α) (h : L.getD k z ≠ K.getD k z) : (L == K) = false := by
  rw [beq_eq_false_iff_ne]
  intro e
  exact h (by rw [e])
theorem galike_len {L K : List α} (h : L.length ≠ K.length) : (L == K) = false := by
  rw [beq_eq_false_iff_ne]
  intro e
  exact h (by rw [e])
end

set_option maxHeartbeats 2000000 in
theorem gequal_ints (x y : Sl) (L K : List Int) (w : World) (hx : IsInts w x L) (hy : IsInts w y K) : Calls Tryd.prog 54 #[.slice x.A x.n x.c, .slice y.A y.n y.c] w fun e w' => e = .returned (.bool (L == K)) ∧ Below w.heap.size w w' := by
  have HX := Lib.hid hx
  have HY := Lib.hid hy
  have S1 := Lib.hid (galike_yes (L := L) (K := K) 0)
  have S2 := Lib.hid (fun k => galike_no (L := L) (K := K) (k := k) 0)
  have S3 := Lib.hid (galike_len (L := L) (K := K))
  rw [← hx.len, ← hy.len] at S1 S3
  have hxb := hx.big
  generalize (L == K) = RES at S1 S2 S3 ⊢
  obtain ⟨xA, xn, xc⟩ := x
  obtain ⟨yA, yn, yc⟩ := y
  simp only at *
  clear hx hy
  by_cases hl : xn = yn
  · subst hl
    have hlb : (((xn : Nat) : Int) != ((xn : Nat) : Int)) = false := by simp
    have S1' := Lib.hid (S1.out rfl)
    clear S1 S3
    go_enter Tryd.func54, Tryd.ntmps54
    go_wp2_with fail
    go_loopw [13] (fun i wr => ∃ k : Nat, i = .int .i64 (k : Nat) ∧ k ≤ xn ∧ Hid (galikeTo L K 0 k) ∧ Hid (Below w.heap.size w wr)) (fun i _ => xn - (intOf i).toNat)
    case atStart => exact ⟨0, rfl, by omega, Lib.hid (fun j hj => absurd hj (by omega)), Lib.hid (Below.refl _ _)⟩
    case round =>
      obtain ⟨k, rfl, hk, H0, HB⟩ := hrel
      by_cases hlt : k < xn
      · obtain ⟨ad, eA, hb1, hc1⟩ := HX.out.lies (by simp only; omega)
        obtain ⟨bd, eB, hb2, hc2⟩ := HY.out.lies (by simp only; omega)
        simp only at eA eB
        subst eA eB
        have z1 : ∀ d os, (grow (redrawn wr d) os).cell? (ad.add k) = some (.int .i64 (L.getD k 0)) := cell_regrown ((HB.out.cell (by rw [add_block]; exact hb1)).trans (hc1 k hlt))
        have z2 : ∀ d os, (grow (redrawn wr d) os).cell? (bd.add k) = some (.int .i64 (K.getD k 0)) := cell_regrown ((HB.out.cell (by rw [add_block]; exact hb2)).trans (hc2 k hlt))
        have HN : Hid (L.getD k 0 = K.getD k 0 → galikeTo L K 0 (k + 1)) := Lib.hid (fun e j hj => by
          by_cases h : j < k
          · exact H0.out j h
          · obtain rfl : j = k := by omega
            exact e)
        have S2k := Lib.hid (S2.out k)
        clear hc1 hc2 hb1 hb2
        generalize L.getD k 0 = a at z1 HN S2k
        generalize K.getD k 0 = b at z2 HN S2k
        by_cases hab : a = b
        · have HN2 := Lib.hid (HN.out hab)
          have hq : (a != b) = false := by simp [hab]
          clear hab
          clear HN S2k
          go_wp2_with fail
          refine wp_region_quiet_below (by kernel_rfl) (by kernel_rfl) ?_
          repeat (first | go_big_quiet_step (fail) | quiet_step (fail))
          refine wpQuiet_nil ?_
          intro _ hw'
          obtain ⟨⟨dq, osq⟩, hw''⟩ := hw'
          subst hw''
          have B6 : Hid (Below w.heap.size w (grow (redrawn wr dq) osq)) := Lib.hid (HB.out.trans ((below_regrown wr dq osq).mono HB.out.size))
          generalize grow (redrawn wr dq) osq = W6 at *
          clear z1 z2
          go_wp2_with fail
          go_roundw
          case rel => exact ⟨k + 1, by go_num, by omega, HN2, B6⟩
          case measure => simp [intOf]; omega
        · have HR := Lib.hid (S2k.out hab)
          have hq : (a != b) = true := by simpa using hab
          clear hab
          clear HN S2k
          go_wp2_with fail
          refine wp_region_quiet_below (by kernel_rfl) (by kernel_rfl) ?_
          repeat (first | go_big_quiet_step (fail) | quiet_step (fail))
          refine wpQuiet_nil ?_
          intro _ hw'
          obtain ⟨⟨dq, osq⟩, hw''⟩ := hw'
          subst hw''
          have B6 : Hid (Below w.heap.size w (grow (redrawn wr dq) osq)) := Lib.hid (HB.out.trans ((below_regrown wr dq osq).mono HB.out.size))
          generalize grow (redrawn wr dq) osq = W6 at *
          clear z1 z2
          go_wp2_with fail
          go_ret
          exact ⟨ret_bool HR.out.symm, B6.out⟩
      · have HR := Lib.hid (S1'.out (by have := H0.out; rwa [show k = xn by omega] at this))
        clear H0
        go_wp2_with fail
        go_ret
        exact ⟨ret_bool HR.out.symm, HB.out⟩
  · have hlb : (((xn : Nat) : Int) != ((yn : Nat) : Int)) = true := by simp; omega
    have HR := Lib.hid (S3.out hl)
    clear hl
    go_enter Tryd.func54, Tryd.ntmps54
    go_wp2_with fail
    go_ret
    exact ⟨ret_bool HR.out.symm, Below.refl _ _⟩

end Go.Proofs.YtppiemgdjkehkaaDoor

/- Right and the document's Right tell the same: the whole. No walk. -/
namespace Go.Proofs.YtppiemgdjkehkaaDoor
open Go.RowKit

theorem alike_all (c : ConL) (k : Nat) (hk : k < 23) (h : c.kind = ((k + 1 : Nat) : Int)) : Alike c ⟨((ents.getD k noEnt).shape).toArray⟩ := by
  have hh : k = 0 ∨ k = 1 ∨ k = 2 ∨ k = 3 ∨ k = 4 ∨ k = 5 ∨ k = 6 ∨ k = 7 ∨ k = 8 ∨ k = 9 ∨ k = 10 ∨ k = 11 ∨ k = 12 ∨ k = 13 ∨ k = 14 ∨ k = 15 ∨ k = 16 ∨ k = 17 ∨ k = 18 ∨ k = 19 ∨ k = 20 ∨ k = 21 ∨ k = 22 := by omega
  rcases hh with rfl | rfl | rfl | rfl | rfl | rfl | rfl | rfl | rfl | rfl | rfl | rfl | rfl | rfl | rfl | rfl | rfl | rfl | rfl | rfl | rfl | rfl | rfl
  · exact alike1 c h
  · exact alike2 c h
  · exact alike3 c h
  · exact alike4 c h
  · exact alike5 c h
  · exact alike6 c h
  · exact alike7 c h
  · exact alike8 c h
  · exact alike9 c h
  · exact alike10 c h
  · exact alike11 c h
  · exact alike12 c h
  · exact alike13 c h
  · exact alike14 c h
  · exact alike15 c h
  · exact alike16 c h
  · exact alike17 c h
  · exact alike18 c h
  · exact alike19 c h
  · exact alike20 c h
  · exact alike21 c h
  · exact alike22 c h
  · exact alike23 c h

def highV (vars : Int) : Int := if 0 < vars then vars - 1 else -1
theorem out_high (vars z : Int) : outB 0 (highV vars) z = outV vars z := by
  unfold outB outV highV
  rw [Bool.eq_iff_iff]
  split <;> simp <;> omega

/-- What the document's Right tells. -/
def refRightE (c : ConL) (vars : Int) : Int :=
  if c.kind < 1 ∨ 23 < c.kind then 9
  else if arityB c ⟨(shapesL.getD c.kind.toNat []).toArray⟩ = false then 10
  else if (c.A.any (outB 0 (highV vars)) || c.B.any (outB 0 (highV vars))) = true then 7
  else if coefsB c = false then 11 else 0

theorem nums_coefs {c : ConL} {sh : ByteArray} (h : Alike c sh) (hs : sizesB c sh = true) : numsB c = coefsB c := by
  unfold numsB coefsB secD
  by_cases h19 : c.kind = 19
  · rw [if_pos (.inl h19)]
  · by_cases h21 : c.kind = 21
    · rw [if_pos (.inr h21)]
    · rw [if_neg (by omega)]
      obtain ⟨e1, e2⟩ := h.2.1 hs h19 h21
      rw [e1, e2]
      rfl

theorem right_same (c : ConL) (vars : Int) : rightE c vars = refRightE c vars := by
  unfold rightE refRightE
  by_cases ho : c.kind < 1 ∨ 23 < c.kind
  · rw [found_out ho, if_pos rfl, if_pos ho]
  · obtain ⟨k, hk⟩ : ∃ k : Nat, c.kind = ((k + 1 : Nat) : Int) := ⟨(c.kind - 1).toNat, by omega⟩
    have hk23 : k < 23 := by omega
    have hA := alike_all c k hk23 hk
    rw [if_neg ho, hk, found_in hk23]
    simp only [Bool.true_eq_false, if_false]
    have e1 : (((k + 1 : Nat) : Int)).toNat = k + 1 := by omega
    rw [e1, shape_in hk23]
    rw [hA.1]
    have eo : ∀ L : List Int, L.any (outB 0 (highV vars)) = L.any (outV vars) := fun L => by
      congr 1
      funext z
      exact out_high vars z
    rw [eo, eo]
    cases hb : arityB c ⟨((ents.getD k noEnt).shape).toArray⟩
    · rfl
    · rw [nums_coefs hA (hA.1.trans hb)]
end Go.Proofs.YtppiemgdjkehkaaDoor

/- What the law's wakes tells: true. -/
namespace Go.Proofs.YtppiemgdjkehkaaDoor
open Go.RowKit Go.Sort

theorem ints_new (w : World) (l : List Int) (t : TypeId) (hl : l.length ≤ 4611686018427387903) : IsInts (w.alloc (.cells (l.map fun z => Value.int .i64 z).toArray t)) ⟨some ⟨w.heap.size, 0, none⟩, l.length, l.length⟩ l := by
  refine ⟨rfl, fun _ => ⟨_, rfl, by simp, fun j hj => ?_⟩, hl, Nat.le_refl _⟩
  rw [Addr.add_mid, Nat.zero_add]
  have hj' : j < l.length := hj
  simp [i64f, hj', List.getD_eq_getElem?_getD]

def allTwo (z : Int) : ConL := ⟨17, [0, z], [], [], [], [], 0, []⟩
theorem right_two (z : Int) (w : World) (t : TypeId) (hE : EntIn w) :
    Calls Tryd.prog 26 #[.agg #[.int .i64 17, .slice (some ⟨w.heap.size, 0, none⟩) 2 2, .slice none 0 0, .slice none 0 0, .slice none 0 0, .slice none 0 0, .int .i64 0, .slice none 0 0], .int .i64 2] (w.alloc (.cells #[.int .i64 0, .int .i64 z] t)) fun e w' => e = .returned (.int .i64 (rightE (allTwo z) 2)) ∧ Below (w.alloc (.cells #[.int .i64 0, .int .i64 z] t)).heap.size (w.alloc (.cells #[.int .i64 0, .int .i64 z] t)) w' :=
  right_any ⟨⟨some ⟨w.heap.size, 0, none⟩, 2, 2⟩, ⟨none, 0, 0⟩, ⟨none, 0, 0⟩, ⟨none, 0, 0⟩, ⟨none, 0, 0⟩, ⟨none, 0, 0⟩⟩ (allTwo z) 2 _ (hE.below (below1 w _)) ⟨ints_new w [0, z] t (by simp), IsInts.nil _, IsInts.nil _, IsInts.nil _, IsInts.nil _, IsRows.nil _⟩

theorem wf1 : foundF (kindP 17) = (⟨17, [97, 108, 108, 95, 100, 105, 102, 102, 101, 114, 101, 110, 116], [86]⟩, true) := by kernel_rfl
theorem wf2 : foundF (wordP ⟨#[108, 101, 120, 95, 108, 101]⟩) = (⟨22, [108, 101, 120, 95, 108, 101], [86, 87]⟩, true) := by kernel_rfl
theorem wf3 : foundF (wordP ⟨#[120]⟩) = (noEnt, false) := by kernel_rfl
theorem wf4 : foundF (kindP 21) = (⟨21, [103, 99, 99], [86, 99, 100, 101]⟩, true) := by kernel_rfl
theorem wf5 : rightE (allTwo 2) 2 = 7 := by kernel_rfl
theorem wf6 : rightE (allTwo 1) 2 = 0 := by kernel_rfl

end Go.Proofs.YtppiemgdjkehkaaDoor

/- slices.Equal over numbers (as Mequal has it, without what Mequal imports). -/
import Derived.Test.YtppiemgdjkehkaaDoorMright
namespace Go.Proofs.YtppiemgdjkehkaaDoor
open Go.RowKit Go.Sort

section
variable {α : Type} [BEq α] [LawfulBEq α]
def galikeTo (L K : List α) (z : α) (k : Nat) : Prop := ∀ j, j < k → L.getD j z = K.getD j z
theorem galike_yes {L K : List α} (z : α) (hl : L.length = K.length) (h : galikeTo L K z L.length) : (L == K) = true := by
  rw [beq_iff_eq]
  apply List.ext_getElem hl
  intro i h1 h2
  have := h i h1
  rw [List.getD_eq_getElem?_getD, List.getD_eq_getElem?_getD, List.getElem?_eq_getElem h1, List.getElem?_eq_getElem h2] at this
  exact this
theorem galike_no {L K : List α} {k : Nat} (z : α) (h : L.getD k z ≠ K.getD k z) : (L == K) = false := by
  rw [beq_eq_false_iff_ne]
  intro e
  exact h (by rw [e])
theorem galike_len {L K : List α} (h : L.length ≠ K.length) : (L == K) = false := by
  rw [beq_eq_false_iff_ne]
  intro e
  exact h (by rw [e])
end

set_option maxHeartbeats 2000000 in
theorem gequal_ints (x y : Sl) (L K : List Int) (w : World) (hx : IsInts w x L) (hy : IsInts w y K) : Calls Tryd.prog 54 #[.slice x.A x.n x.c, .slice y.A y.n y.c] w fun e w' => e = .returned (.bool (L == K)) ∧ Below w.heap.size w w' := by
  have HX := Lib.hid hx
  have HY := Lib.hid hy
  have S1 := Lib.hid (galike_yes (L := L) (K := K) 0)
  have S2 := Lib.hid (fun k => galike_no (L := L) (K := K) (k := k) 0)
  have S3 := Lib.hid (galike_len (L := L) (K := K))
  rw [← hx.len, ← hy.len] at S1 S3
  have hxb := hx.big
  generalize (L == K) = RES at S1 S2 S3 ⊢
  obtain ⟨xA, xn, xc⟩ := x
  obtain ⟨yA, yn, yc⟩ := y
  simp only at *
  clear hx hy
  by_cases hl : xn = yn
  · subst hl
    have hlb : (((xn : Nat) : Int) != ((xn : Nat) : Int)) = false := by simp
    have S1' := Lib.hid (S1.out rfl)
    clear S1 S3
    go_enter Tryd.func54, Tryd.ntmps54
    go_wp2_with fail
    go_loopw [13] (fun i wr => ∃ k : Nat, i = .int .i64 (k : Nat) ∧ k ≤ xn ∧ Hid (galikeTo L K 0 k) ∧ Hid (Below w.heap.size w wr)) (fun i _ => xn - (intOf i).toNat)
    case atStart => exact ⟨0, rfl, by omega, Lib.hid (fun j hj => absurd hj (by omega)), Lib.hid (Below.refl _ _)⟩
    case round =>
      obtain ⟨k, rfl, hk, H0, HB⟩ := hrel
      by_cases hlt : k < xn
      · obtain ⟨ad, eA, hb1, hc1⟩ := HX.out.lies (by simp only; omega)
        obtain ⟨bd, eB, hb2, hc2⟩ := HY.out.lies (by simp only; omega)
        simp only at eA eB
        subst eA eB
        have z1 : ∀ d os, (grow (redrawn wr d) os).cell? (ad.add k) = some (.int .i64 (L.getD k 0)) := cell_regrown ((HB.out.cell (by rw [add_block]; exact hb1)).trans (hc1 k hlt))
        have z2 : ∀ d os, (grow (redrawn wr d) os).cell? (bd.add k) = some (.int .i64 (K.getD k 0)) := cell_regrown ((HB.out.cell (by rw [add_block]; exact hb2)).trans (hc2 k hlt))
        have HN : Hid (L.getD k 0 = K.getD k 0 → galikeTo L K 0 (k + 1)) := Lib.hid (fun e j hj => by
          by_cases h : j < k
          · exact H0.out j h
          · obtain rfl : j = k := by omega
            exact e)
        have S2k := Lib.hid (S2.out k)
        clear hc1 hc2 hb1 hb2
        generalize L.getD k 0 = a at z1 HN S2k
        generalize K.getD k 0 = b at z2 HN S2k
        by_cases hab : a = b
        · have HN2 := Lib.hid (HN.out hab)
          have hq : (a != b) = false := by simp [hab]
          clear hab
          clear HN S2k
          go_wp2_with fail
          refine wp_region_quiet_below (by kernel_rfl) (by kernel_rfl) ?_
          repeat (first | go_big_quiet_step (fail) | quiet_step (fail))
          refine wpQuiet_nil ?_
          intro _ hw'
          obtain ⟨⟨dq, osq⟩, hw''⟩ := hw'
          subst hw''
          have B6 : Hid (Below w.heap.size w (grow (redrawn wr dq) osq)) := Lib.hid (HB.out.trans ((below_regrown wr dq osq).mono HB.out.size))
          generalize grow (redrawn wr dq) osq = W6 at *
          clear z1 z2
          go_wp2_with fail
          go_roundw
          case rel => exact ⟨k + 1, by go_num, by omega, HN2, B6⟩
          case measure => simp [intOf]; omega
        · have HR := Lib.hid (S2k.out hab)
          have hq : (a != b) = true := by simpa using hab
          clear hab
          clear HN S2k
          go_wp2_with fail
          refine wp_region_quiet_below (by kernel_rfl) (by kernel_rfl) ?_
          repeat (first | go_big_quiet_step (fail) | quiet_step (fail))
          refine wpQuiet_nil ?_
          intro _ hw'
          obtain ⟨⟨dq, osq⟩, hw''⟩ := hw'
          subst hw''
          have B6 : Hid (Below w.heap.size w (grow (redrawn wr dq) osq)) := Lib.hid (HB.out.trans ((below_regrown wr dq osq).mono HB.out.size))
          generalize grow (redrawn wr dq) osq = W6 at *
          clear z1 z2
          go_wp2_with fail
          go_ret
          exact ⟨ret_bool HR.out.symm, B6.out⟩
      · have HR := Lib.hid (S1'.out (by have := H0.out; rwa [show k = xn by omega] at this))
        clear H0
        go_wp2_with fail
        go_ret
        exact ⟨ret_bool HR.out.symm, HB.out⟩
  · have hlb : (((xn : Nat) : Int) != ((yn : Nat) : Int)) = true := by simp; omega
    have HR := Lib.hid (S3.out hl)
    clear hl
    go_enter Tryd.func54, Tryd.ntmps54
    go_wp2_with fail
    go_ret
    exact ⟨ret_bool HR.out.symm, Below.refl _ _⟩

end Go.Proofs.YtppiemgdjkehkaaDoor

/- What may be of fewer variables; the kind that the document makes; the law's kind. -/
import Derived.Test.YtcmdgjkoalophaaGreatDoorMulw
import Derived.Test.YtcmdgjkoalophaaGreatDoorMkr3
namespace Go.Proofs.YtcmdgjkoalophaaGreatDoor
open Go.RowKit

theorem makeE_kind (la lb lc : List Int) (k K ch vars : Int) (hk : 0 ≤ k) : (makeE la lb lc k K ch vars).kind = 1 + k.tmod 23 := by
  have h0 := Int.tmod_nonneg 23 hk
  unfold makeE
  simp only [s9_kind, s8_kind, s7_kind, s6_kind, s5_kind, s4_kind, s3_kind, s2_kind]
  show (((1 + k.tmod 23).toNat : Nat) : Int) = _
  omega
/-- What may be of fewer variables may be of more. -/
theorem right_more {c : ConL} {n m : Int} (h : rightE c n = 0) (hm : n ≤ m) : rightE c m = 0 := by
  obtain ⟨k1, k2, hs, ha, hb, hn⟩ := right_parts h
  have hf : (foundF (kindP c.kind)).2 ≠ false := by
    intro e
    unfold rightE at h
    rw [if_pos e] at h
    cases h
  have hout : ∀ l : List Int, l.any (outV n) = false → l.any (outV m) = false := fun l hl => by
    rw [List.any_eq_false] at hl ⊢
    intro x hx
    have := hl x hx
    simp only [outV, Bool.or_eq_true, decide_eq_true_eq, not_or] at this ⊢
    omega
  unfold rightE
  rw [if_neg hf, hs, hout _ ha, hout _ hb, hn]
  rfl
theorem mulKind_any (n : Int) (w : World) (hn : 0 ≤ n ∧ n ≤ 255) : Calls Tryz.prog 42 #[.int .u8 n] w fun e w' => e = .returned (.int .i64 (5 + n.tmod 3)) ∧ w = w' := by
  have h := tmod_in n 3 (by omega)
  have h0 := Int.tmod_nonneg 3 hn.1
  have w1 : IntKind.i64.wrap (n.tmod 3) = n.tmod 3 := IntWalk.i64_in _ (by omega)
  have w2 : IntKind.i64.wrap (5 + n.tmod 3) = 5 + n.tmod 3 := IntWalk.i64_in _ (by omega)
  clear hn h h0
  go_enter Tryz.func42, Tryz.ntmps42
  go_wp2_with fail
  go_ret
  exact ⟨rfl, rfl⟩
end Go.Proofs.YtcmdgjkoalophaaGreatDoor

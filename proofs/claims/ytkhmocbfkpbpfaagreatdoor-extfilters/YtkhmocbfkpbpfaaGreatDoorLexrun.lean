/- Contracts: what a rune is; a run of runes that are all of one sort; gaps. -/
import Derived.Test.YtkhmocbfkpbpfaaGreatDoorChecked
import Derived.Test.YtkhmocbfkpbpfaaGreatDoorLexg
import Derived.WalkKit
import Derived.Lib.Hide
import Derived.Lib.OthersKept
import Derived.Deep.LoopGhost
namespace Go.Proofs.YtkhmocbfkpbpfaaGreatDoor
open Go.RowKit

/-- A rune as it is handed on. -/
abbrev rn (n : Nat) : Value := .int .i32 (n : Int)

theorem ret_bool {a b : Bool} (h : a = b) : Ending.returned (Value.bool a) = Ending.returned (Value.bool b) := by rw [h]

theorem isLetter_any (n : Nat) (w : World) : Calls Tryz.prog 257 #[rn n] w fun e w' => e = .returned (.bool (letR n)) ∧ w = w' := by
  go_enter Tryz.func257, Tryz.ntmps257
  go_wp2
  all_goals go_ret
  all_goals refine ⟨ret_bool ?_, rfl⟩
  all_goals rw [Bool.eq_iff_iff]
  all_goals simp [letR]
  all_goals omega

theorem isDigit_any (n : Nat) (w : World) : Calls Tryz.prog 263 #[rn n] w fun e w' => e = .returned (.bool (digR n)) ∧ w = w' := by
  go_enter Tryz.func263, Tryz.ntmps263
  go_wp2
  all_goals go_ret
  all_goals refine ⟨ret_bool ?_, rfl⟩
  all_goals rw [Bool.eq_iff_iff]
  all_goals simp [digR]
  all_goals omega

theorem isInWord_any (n : Nat) (w : World) : Calls Tryz.prog 258 #[rn n] w fun e w' => e = .returned (.bool (parR n)) ∧ w = w' := by
  have c1 := isLetter_any n w
  have c2 := isDigit_any n w
  unfold parR
  cases h1 : letR n <;> cases h2 : digR n <;> rw [h1] at c1 <;> rw [h2] at c2
  all_goals go_enter Tryz.func258, Tryz.ntmps258
  all_goals go_wp2_with (first | (go_at_call 257; refine c1.mono ?_; rintro e w' ⟨rfl, rfl⟩) | (go_at_call 263; refine c2.mono ?_; rintro e w' ⟨rfl, rfl⟩))
  all_goals go_ret
  all_goals refine ⟨ret_bool ?_, rfl⟩
  all_goals rw [Bool.eq_iff_iff]
  all_goals simp
  all_goals omega

theorem int_eq {a b : Int} (h : a = b) : Ending.returned (Value.int .i64 a) = Ending.returned (Value.int .i64 b) := by rw [h]

set_option maxHeartbeats 1000000 in
/-- A run of a sort that no rune from 128 on is of. -/
theorem run_pred (g : Nat) (eg : ∀ args w, (callFunc g args).run Tryz.prog w = .ok (.enter g args) w) (p : Nat → Bool) (hhi : ∀ n, 128 ≤ n → p n = false)
    (hp : ∀ (n : Nat) (W : World), Calls Tryz.prog g #[rn n] W fun e w' => e = .returned (.bool (p n)) ∧ W = w') (s : ByteArray) (w : World) :
    Calls Tryz.prog 256 #[.string s, .func (.func g) #[] #[]] w fun e w' => e = .returned (.int .i64 (((bl s).takeWhile fun c => p c.toNat).length : Nat)) ∧ Below w.heap.size w w' := by
  go_enter Tryz.func256, Tryz.ntmps256
  go_wp2
  go_loopg [] s.size (fun gf wx => ∃ pos : Nat, wx.heap[w.heap.size]? = some (.stringIter s pos) ∧ Below w.heap.size w wx ∧ ((bl s).takeWhile fun c => p c.toNat).length = pos + (((bl s).drop pos).takeWhile fun c => p c.toNat).length ∧ pos ≤ s.size ∧ s.size ≤ pos + gf)
  case atStart => exact ⟨0, World.iter_heap w s 0, (Below.refl _ w).alloc (Nat.le_refl _) _, by simp, by omega, by omega⟩
  case round =>
    obtain ⟨pos, hit, hbw, hlen, hle, hfu⟩ := hrel
    by_cases hps : pos < s.size
    · obtain ⟨g', rfl⟩ : ∃ g', gk = g' + 1 := ⟨gk - 1, by omega⟩
      have hnx : ∀ ty, (Instr.next (.pointer (some ⟨w.heap.size, 0, none⟩)) true ty).run Tryz.prog wr = _ := fun ty => Lib.run_next_any_at wr w.heap.size s pos ty hit hps
      have HON := Lib.hid (tw_on hhi hps)
      have HOFF := Lib.hid (tw_off hhi hps)
      have HLEN := Lib.hid hlen
      clear hlen
      obtain ⟨R, hR⟩ : ∃ R, (Utf8.decode s pos).1 = R := ⟨_, rfl⟩
      obtain ⟨K, hK⟩ : ∃ K, (Utf8.decode s pos).2 = K := ⟨_, rfl⟩
      rw [hR, hK] at hnx
      rw [hR, hK] at HON
      rw [hR] at HOFF
      have hit2 := Lib.iterAt_heap wr w.heap.size s pos (pos + K) hit
      have hbw2 := Lib.below_iterAt hbw (k := w.heap.size) (Nat.le_refl _) s (pos + K)
      obtain ⟨W, hWd⟩ : ∃ W, wr.iterAt w.heap.size s (pos + K) = W := ⟨_, rfl⟩
      rw [hWd] at hnx hit2 hbw2
      have cS := hp R W
      have HHI := Lib.hid hhi
      clear hp hhi
      cases hsp : p R <;> rw [hsp] at cS
      · have HF := Lib.hid (HOFF.out hsp)
        clear HOFF HON
        clear hsp
        go_wp2_with fail
        refine cS.mono ?_
        rintro e W' ⟨rfl, rfl⟩
        go_wp2_with fail
        go_ret
        exact ⟨int_eq (by have h1 := HLEN.out; have h2 := HF.out; omega), hbw2⟩
      · obtain ⟨k1, k2⟩ := HON.out hsp
        subst k1
        have HF := Lib.hid k2
        clear HOFF HON k2
        clear hsp
        go_wp2_with fail
        refine cS.mono ?_
        rintro e W' ⟨rfl, rfl⟩
        go_wp2_with fail
        go_roundg g'
        case measure => omega
        case rel => exact ⟨pos + 1, hit2, hbw2, by have h1 := HLEN.out; have h2 := HF.out; omega, by omega, by omega⟩
    · have hnx : ∀ ty, (Instr.next (.pointer (some ⟨w.heap.size, 0, none⟩)) true ty).run Tryz.prog wr = _ := fun ty => Lib.run_next_end_at wr w.heap.size s pos ty hit hps
      have HL : Hid (((bl s).takeWhile fun c => p c.toNat).length = s.size) := Lib.hid (by
        rw [hlen, List.drop_of_length_le (by rw [bl_len]; omega)]
        simp
        omega)
      clear hlen hhi hp
      go_wp2_with fail
      go_ret
      exact ⟨int_eq (by have h1 := HL.out; omega), hbw⟩
end Go.Proofs.YtkhmocbfkpbpfaaGreatDoor

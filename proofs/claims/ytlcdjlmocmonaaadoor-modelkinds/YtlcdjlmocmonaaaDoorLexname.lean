/- Names; what the law's wakes tells: true. -/
import Derived.Test.YtlcdjlmocmonaaaDoorLexref
namespace Go.Proofs.YtlcdjlmocmonaaaDoor
open Go.RowKit

/-- May a text be a name? -/
def nameB (bs : Bs) : Bool := decide (0 < wordN bs) && (wordN bs == bs.length) && decide (wordN bs ≤ 32)

theorem name_any (s : ByteArray) (w : World) (hs : s.size ≤ 9223372036854775807) : Calls Tryd.prog 47 #[.string s] w fun e w' => e = .returned (.bool (nameB (bl s))) ∧ Below w.heap.size w w' := by
  have C1 := Lib.hid (word_any s w)
  have hN : nameB (bl s) = (decide (0 < wordN (bl s)) && (wordN (bl s) == s.size) && decide (wordN (bl s) ≤ 32)) := by rw [nameB, bl_len]
  have hle : wordN (bl s) ≤ s.size := wfrom_le (bl s)
  generalize wordN (bl s) = n at C1 hN hle
  generalize nameB (bl s) = B at hN
  have hem : s.toList.isEmpty = decide (s.size = 0) := by
    rw [ByteArray.toList_eq, Bool.eq_iff_iff, List.isEmpty_iff, decide_eq_true_eq]
    show bl s = [] ↔ s.size = 0
    rw [← bl_len]
    exact List.length_eq_zero_iff.symm
  have HN := Lib.hid hN
  clear hN
  by_cases h0 : s.size = 0
  · obtain rfl : B = false := by rw [HN.out]; simp; omega
    have he : s.toList.isEmpty = true := by rw [hem]; simpa using h0
    have he2 : s.toList = [] := by simpa using he
    clear HN hem h0
    go_enter Tryd.func47, Tryd.ntmps47
    go_wp2_with fail
    go_ret
    exact ⟨rfl, Below.refl _ _⟩
  · have he : s.toList.isEmpty = false := by rw [hem]; simpa using h0
    have he2 : ¬ s.toList = [] := by
      intro e
      rw [e] at he
      cases he
    clear hem
    by_cases h32 : s.size ≤ 32
    · by_cases hn : n = s.size
      · obtain rfl : B = true := by rw [HN.out]; simp; omega
        clear HN
        have hq : (((n : Nat) : Int) == ((s.size : Nat) : Int)) = true := by rw [beq_iff_eq]; omega
        have hn' : n ≤ s.size := hle
        clear hn
        go_enter Tryd.func47, Tryd.ntmps47
        go_wp2_with fail
        refine C1.out.mono ?_
        rintro e w1 ⟨rfl, b1⟩
        go_wp2_with fail
        go_ret
        exact ⟨rfl, b1⟩
      · obtain rfl : B = false := by rw [HN.out]; simp; omega
        clear HN
        have hq : (((n : Nat) : Int) == ((s.size : Nat) : Int)) = false := by rw [beq_eq_false_iff_ne]; omega
        clear hn
        go_enter Tryd.func47, Tryd.ntmps47
        go_wp2_with fail
        refine C1.out.mono ?_
        rintro e w1 ⟨rfl, b1⟩
        go_wp2_with fail
        go_ret
        exact ⟨rfl, b1⟩
    · obtain rfl : B = false := by rw [HN.out]; simp; omega
      clear HN
      go_enter Tryd.func47, Tryd.ntmps47
      go_wp2_with fail
      go_ret
      exact ⟨rfl, Below.refl _ _⟩

theorem refName (s : ByteArray) (w : World) (hs : s.size ≤ 4611686018427387904) : Calls Tryd.prog 21 #[.string s] w fun e w' => e = .returned (.bool (nameB (bl s))) ∧ w = w' := by
  have C1 := Lib.hid (refWord s 0 w hs (Nat.zero_le _))
  rw [List.drop_zero] at C1
  have hN : nameB (bl s) = (decide (0 < wordN (bl s)) && (wordN (bl s) == s.size) && decide (wordN (bl s) ≤ 32)) := by rw [nameB, bl_len]
  have hle : wordN (bl s) ≤ s.size := wfrom_le (bl s)
  generalize wordN (bl s) = n at C1 hN hle
  generalize nameB (bl s) = B at hN
  have HN := Lib.hid hN
  clear hN
  by_cases h0 : 0 < n
  · by_cases hn : n = s.size
    · have hq : (((n : Nat) : Int) == ((s.size : Nat) : Int)) = true := by rw [beq_iff_eq]; omega
      by_cases h32 : n ≤ 32
      · obtain rfl : B = true := by rw [HN.out]; simp; omega
        clear HN hn
        go_enter Tryd.func21, Tryd.ntmps21
        go_wp2_with fail
        refine C1.out.mono ?_
        rintro e w1 ⟨rfl, rfl⟩
        go_wp2_with fail
        go_ret
        exact ⟨ret_bool (a := decide ((n : Int) ≤ 32)) (by simp; omega), rfl⟩
      · obtain rfl : B = false := by rw [HN.out]; simp; omega
        clear HN hn
        go_enter Tryd.func21, Tryd.ntmps21
        go_wp2_with fail
        refine C1.out.mono ?_
        rintro e w1 ⟨rfl, rfl⟩
        go_wp2_with fail
        go_ret
        exact ⟨ret_bool (a := decide ((n : Int) ≤ 32)) (by simp; omega), rfl⟩
    · have hq : (((n : Nat) : Int) == ((s.size : Nat) : Int)) = false := by rw [beq_eq_false_iff_ne]; omega
      obtain rfl : B = false := by rw [HN.out]; simp; omega
      clear HN hn
      go_enter Tryd.func21, Tryd.ntmps21
      go_wp2_with fail
      refine C1.out.mono ?_
      rintro e w1 ⟨rfl, rfl⟩
      go_wp2_with fail
      go_ret
      exact ⟨rfl, rfl⟩
  · obtain rfl : B = false := by rw [HN.out]; simp; omega
    have hn0 : n ≤ 0 := by omega
    clear HN h0
    go_enter Tryd.func21, Tryd.ntmps21
    go_wp2_with fail
    refine C1.out.mono ?_
    rintro e w1 ⟨rfl, rfl⟩
    go_wp2_with fail
    go_ret
    exact ⟨rfl, rfl⟩
end Go.Proofs.YtlcdjlmocmonaaaDoor

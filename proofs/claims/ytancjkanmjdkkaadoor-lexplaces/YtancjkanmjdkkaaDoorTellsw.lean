/- The walk of LexTells. -/
import Derived.Test.YtancjkanmjdkkaaDoorSame
import Derived.Lib.MinMax
namespace Go.Proofs.YtancjkanmjdkkaaDoor
open Go.RowKit

theorem lexA_len (bs : Bs) : (lexA bs).1.length ≤ bs.length := by
  unfold lexA
  split
  · simp
  · cases h : lexL bs 0 with
    | error e => simp [lexT]
    | ok l =>
      have hrun := lexL_run _ _ _ h
      show l.length ≤ bs.length
      have : ∀ {bs : Bs} {p : Nat} {l : List Tok}, Run bs p l → l.length ≤ bs.length := by
        intro bs p l hr
        induction hr with
        | nil _ => simp
        | @cons g rest p t l h1 h2 h3 h4 h5 ih =>
          have : 0 < t.text.length := List.length_pos_iff.2 h2
          simp only [List.length_cons, List.length_append]
          omega
      exact this hrun

set_option maxHeartbeats 2000000 in
set_option maxRecDepth 100000 in
theorem tells_walk (s : ByteArray) (w : World) (hs : s.size ≤ 9223372036854775807) : Calls Tryd.prog 3 #[.string s] w fun e w' => e = .returned (.bool true) ∧ Below w.heap.size w w' := by
  have C1 := Lib.hid (fun t W h => lex_any t W h)
  have C2 := Lib.hid (fun t W h => reflex_any t W h)
  have C3 := Lib.hid wakes_true
  have C4 := Lib.hid same_true
  have hsz : (s.extract 0 (min (s.size : Int) 2000).toNat).size ≤ 2000 := by
    rw [ByteArray.size_extract]
    omega
  go_enter Tryd.func3, Tryd.ntmps3
  go_wp2_with fail
  generalize s.extract 0 (min (s.size : Int) 2000).toNat = t at hsz
  generalize min (s.size : Int) 2000 = mm
  have hl := lexA_len (bl t)
  rw [bl_len] at hl
  refine (C1.out t _ (by omega)).mono ?_
  rintro e w1 ⟨v1, rfl, t1, b1⟩
  have T1 := Lib.hid t1
  have B1 := Lib.hid b1
  clear t1 b1 C1
  go_wp2_with fail
  refine (C2.out t _ (by omega)).mono ?_
  rintro e w2 ⟨v2, rfl, t2, b2⟩
  have T2 := Lib.hid (And.intro (T1.out.below b2) t2)
  have B2 := Lib.hid (B1.out.trans (b2.mono B1.out.size))
  clear t2 b2 C2 T1 B1
  go_wp2_with fail
  refine (C3.out _).mono ?_
  rintro e w3 ⟨rfl, b3⟩
  have T3 := Lib.hid (And.intro (T2.out.1.below b3) (T2.out.2.below b3))
  have B3 := Lib.hid (B2.out.trans (b3.mono B2.out.size))
  clear b3 C3 T2 B2
  generalize lexA (bl t) = R at *
  go_wp2_with fail
  refine (C4.out _ _ _ _ T3.out.1 T3.out.2 (by omega)).mono ?_
  rintro e w4 ⟨rfl, b4⟩
  go_wp2_with fail
  go_ret
  exact ⟨rfl, B3.out.trans (b4.mono B3.out.size)⟩
end Go.Proofs.YtancjkanmjdkkaaDoor

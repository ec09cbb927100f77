/- Contract of became: what became of a domain, by its size and bounds. -/
import Derived.Test.YtegiaonlneamfaaDoorList
namespace Go.Proofs.YtegiaonlneamfaaDoor
open Go.RowKit

theorem below2 (w : World) (o p : Obj) : Below w.heap.size w ((w.alloc o).alloc p) := (below1 w o).alloc (by simp) _

/-- The two boxes of a method with two domains. -/
def Boxes2 (w : World) (d e : Value × Value × Value) (W : World) : Prop :=
  Below w.heap.size w W ∧ w.heap.size + 2 ≤ W.heap.size ∧
  W.cell? ⟨w.heap.size, 0, none⟩ = some d.1 ∧ W.cell? ⟨w.heap.size, 1, none⟩ = some d.2.1 ∧ W.cell? ⟨w.heap.size, 2, none⟩ = some d.2.2 ∧
  W.cell? ⟨w.heap.size + 1, 0, none⟩ = some e.1 ∧ W.cell? ⟨w.heap.size + 1, 1, none⟩ = some e.2.1 ∧ W.cell? ⟨w.heap.size + 1, 2, none⟩ = some e.2.2

theorem Boxes2.more {w W W' : World} {d e : Value × Value × Value} (h : Boxes2 w d e W) (hb : Below W.heap.size W W') : Boxes2 w d e W' := by
  obtain ⟨h0, hs, h1, h2, h3, h4, h5, h6⟩ := h
  refine ⟨h0.trans (hb.mono h0.size), Nat.le_trans hs hb.size, ?_, ?_, ?_, ?_, ?_, ?_⟩
  all_goals rw [hb.cell (by simp; omega)]
  all_goals assumption

theorem Boxes2.start (w : World) (a b c x y z : Value) (t u : TypeId) : Boxes2 w (a, b, c) (x, y, z) ((w.alloc (.cells #[a, b, c] t)).alloc (.cells #[x, y, z] u)).drew :=
  ⟨(below2 _ _ _).drew, by simp, by simp, by simp, by simp, by simp, by simp, by simp⟩

theorem became_fixed (s1 s2 z1 : Int) (A1 A2 : Option Addr) (n1 c1 n2 c2 : Nat) (w : World) :
    Calls Tryd.prog 55 #[.agg #[.int .i64 s1, .slice A1 n1 c1, .int .i64 z1], .agg #[.int .i64 s2, .slice A2 n2 c2, .int .i64 1]] w fun e w' => e = .returned (.int .i64 3) ∧ Below w.heap.size w w' := by
  go_enter Tryd.func55, Tryd.ntmps55
  go_wp2
  go_ret
  exact ⟨rfl, below2 _ _ _⟩

set_option maxHeartbeats 1000000 in
theorem became_min (s1 s2 z1 z2 m1 m2 : Int) (A1 A2 : Option Addr) (n1 c1 n2 c2 : Nat) (w : World) (hz : (z2 == 1) = false) (hne : (m2 != m1) = true)
    (H1 : Answers 50 #[.agg #[.int .i64 s1, .slice A1 n1 c1, .int .i64 z1]] w (.int .i64 m1))
    (H2 : Answers 50 #[.agg #[.int .i64 s2, .slice A2 n2 c2, .int .i64 z2]] w (.int .i64 m2)) :
    Calls Tryd.prog 55 #[.agg #[.int .i64 s1, .slice A1 n1 c1, .int .i64 z1], .agg #[.int .i64 s2, .slice A2 n2 c2, .int .i64 z2]] w fun e w' => e = .returned (.int .i64 2) ∧ Below w.heap.size w w' := by
  go_enter Tryd.func55, Tryd.ntmps55
  go_wp2
  have hS := Boxes2.start w (.int .i64 s1) (.slice A1 n1 c1) (.int .i64 z1) (.int .i64 s2) (.slice A2 n2 c2) (.int .i64 z2) 48 48
  go_region_with (first
     | (go_at_call_of 50 (Value.agg #[.int .i64 s1, .slice A1 n1 c1, .int .i64 z1]); refine (H1.on _ hS.1).mono ?_; rintro e w1 ⟨rfl, hb1⟩; have hS := hS.more hb1; clear hb1; obtain ⟨q0, q1, q2, q3, q4, q5, q6, q7⟩ := id hS)
     | (go_at_call_of 50 (Value.agg #[.int .i64 s2, .slice A2 n2 c2, .int .i64 z2]); refine (H2.on _ hS.1).mono ?_; rintro e w1 ⟨rfl, hb1⟩; have hS := hS.more hb1; clear hb1; obtain ⟨q0, q1, q2, q3, q4, q5, q6, q7⟩ := id hS))
  all_goals (go_wp2; go_ret; exact ⟨rfl, hS.1⟩)

set_option maxHeartbeats 2000000 in
theorem became_max (s1 s2 z1 z2 m x1 x2 : Int) (A1 A2 : Option Addr) (n1 c1 n2 c2 : Nat) (w : World) (hz : (z2 == 1) = false) (hx : (x2 != x1) = true)
    (H1 : Answers 50 #[.agg #[.int .i64 s1, .slice A1 n1 c1, .int .i64 z1]] w (.int .i64 m))
    (H2 : Answers 50 #[.agg #[.int .i64 s2, .slice A2 n2 c2, .int .i64 z2]] w (.int .i64 m))
    (H3 : Answers 57 #[.agg #[.int .i64 s1, .slice A1 n1 c1, .int .i64 z1]] w (.int .i64 x1))
    (H4 : Answers 57 #[.agg #[.int .i64 s2, .slice A2 n2 c2, .int .i64 z2]] w (.int .i64 x2)) :
    Calls Tryd.prog 55 #[.agg #[.int .i64 s1, .slice A1 n1 c1, .int .i64 z1], .agg #[.int .i64 s2, .slice A2 n2 c2, .int .i64 z2]] w fun e w' => e = .returned (.int .i64 2) ∧ Below w.heap.size w w' := by
  have hmm : (m != m) = false := by simp
  go_enter Tryd.func55, Tryd.ntmps55
  go_wp2
  have hS := Boxes2.start w (.int .i64 s1) (.slice A1 n1 c1) (.int .i64 z1) (.int .i64 s2) (.slice A2 n2 c2) (.int .i64 z2) 48 48
  go_region_held3 (fun W => Below w.heap.size w W ∧ w.heap.size + 2 ≤ W.heap.size ∧ W.cell? ⟨w.heap.size, 0, none⟩ = some (.int .i64 s1) ∧ W.cell? ⟨w.heap.size, 1, none⟩ = some (.slice A1 n1 c1) ∧ W.cell? ⟨w.heap.size, 2, none⟩ = some (.int .i64 z1) ∧ W.cell? ⟨w.heap.size + 1, 0, none⟩ = some (.int .i64 s2) ∧ W.cell? ⟨w.heap.size + 1, 1, none⟩ = some (.slice A2 n2 c2) ∧ W.cell? ⟨w.heap.size + 1, 2, none⟩ = some (.int .i64 z2)) (first | exact Boxes2.start _ _ _ _ _ _ _ _ _ | assumption)
    (first
     | (go_at_call_of 50 (Value.agg #[.int .i64 s1, .slice A1 n1 c1, .int .i64 z1]); refine (H1.on _ hS.1).mono ?_; rintro e w1 ⟨rfl, hb1⟩; have hS := hS.more hb1; clear hb1; obtain ⟨q0, q1, q2, q3, q4, q5, q6, q7⟩ := id hS)
     | (go_at_call_of 50 (Value.agg #[.int .i64 s2, .slice A2 n2 c2, .int .i64 z2]); refine (H2.on _ hS.1).mono ?_; rintro e w1 ⟨rfl, hb1⟩; have hS := hS.more hb1; clear hb1; obtain ⟨q0, q1, q2, q3, q4, q5, q6, q7⟩ := id hS)
     | (go_at_call_of 57 (Value.agg #[.int .i64 s1, .slice A1 n1 c1, .int .i64 z1]); refine (H3.on _ hS.1).mono ?_; rintro e w1 ⟨rfl, hb1⟩; have hS := hS.more hb1; clear hb1; obtain ⟨q0, q1, q2, q3, q4, q5, q6, q7⟩ := id hS)
     | (go_at_call_of 57 (Value.agg #[.int .i64 s2, .slice A2 n2 c2, .int .i64 z2]); refine (H4.on _ hS.1).mono ?_; rintro e w1 ⟨rfl, hb1⟩; have hS := hS.more hb1; clear hb1; obtain ⟨q0, q1, q2, q3, q4, q5, q6, q7⟩ := id hS))
  all_goals (go_wp2; go_ret; exact ⟨rfl, hS.1⟩)

set_option maxHeartbeats 2000000 in
theorem became_mid (s1 s2 z1 z2 m x1 x2 : Int) (A1 A2 : Option Addr) (n1 c1 n2 c2 : Nat) (w : World) (hz : (z2 == 1) = false) (hx : (x2 != x1) = false)
    (H1 : Answers 50 #[.agg #[.int .i64 s1, .slice A1 n1 c1, .int .i64 z1]] w (.int .i64 m))
    (H2 : Answers 50 #[.agg #[.int .i64 s2, .slice A2 n2 c2, .int .i64 z2]] w (.int .i64 m))
    (H3 : Answers 57 #[.agg #[.int .i64 s1, .slice A1 n1 c1, .int .i64 z1]] w (.int .i64 x1))
    (H4 : Answers 57 #[.agg #[.int .i64 s2, .slice A2 n2 c2, .int .i64 z2]] w (.int .i64 x2)) :
    Calls Tryd.prog 55 #[.agg #[.int .i64 s1, .slice A1 n1 c1, .int .i64 z1], .agg #[.int .i64 s2, .slice A2 n2 c2, .int .i64 z2]] w fun e w' => e = .returned (.int .i64 1) ∧ Below w.heap.size w w' := by
  have hmm : (m != m) = false := by simp
  go_enter Tryd.func55, Tryd.ntmps55
  go_wp2
  have hS := Boxes2.start w (.int .i64 s1) (.slice A1 n1 c1) (.int .i64 z1) (.int .i64 s2) (.slice A2 n2 c2) (.int .i64 z2) 48 48
  go_region_held3 (fun W => Below w.heap.size w W ∧ w.heap.size + 2 ≤ W.heap.size ∧ W.cell? ⟨w.heap.size, 0, none⟩ = some (.int .i64 s1) ∧ W.cell? ⟨w.heap.size, 1, none⟩ = some (.slice A1 n1 c1) ∧ W.cell? ⟨w.heap.size, 2, none⟩ = some (.int .i64 z1) ∧ W.cell? ⟨w.heap.size + 1, 0, none⟩ = some (.int .i64 s2) ∧ W.cell? ⟨w.heap.size + 1, 1, none⟩ = some (.slice A2 n2 c2) ∧ W.cell? ⟨w.heap.size + 1, 2, none⟩ = some (.int .i64 z2)) (first | exact Boxes2.start _ _ _ _ _ _ _ _ _ | assumption)
    (first
     | (go_at_call_of 50 (Value.agg #[.int .i64 s1, .slice A1 n1 c1, .int .i64 z1]); refine (H1.on _ hS.1).mono ?_; rintro e w1 ⟨rfl, hb1⟩; have hS := hS.more hb1; clear hb1; obtain ⟨q0, q1, q2, q3, q4, q5, q6, q7⟩ := id hS)
     | (go_at_call_of 50 (Value.agg #[.int .i64 s2, .slice A2 n2 c2, .int .i64 z2]); refine (H2.on _ hS.1).mono ?_; rintro e w1 ⟨rfl, hb1⟩; have hS := hS.more hb1; clear hb1; obtain ⟨q0, q1, q2, q3, q4, q5, q6, q7⟩ := id hS)
     | (go_at_call_of 57 (Value.agg #[.int .i64 s1, .slice A1 n1 c1, .int .i64 z1]); refine (H3.on _ hS.1).mono ?_; rintro e w1 ⟨rfl, hb1⟩; have hS := hS.more hb1; clear hb1; obtain ⟨q0, q1, q2, q3, q4, q5, q6, q7⟩ := id hS)
     | (go_at_call_of 57 (Value.agg #[.int .i64 s2, .slice A2 n2 c2, .int .i64 z2]); refine (H4.on _ hS.1).mono ?_; rintro e w1 ⟨rfl, hb1⟩; have hS := hS.more hb1; clear hb1; obtain ⟨q0, q1, q2, q3, q4, q5, q6, q7⟩ := id hS))
  all_goals (go_wp2; go_ret; exact ⟨rfl, hS.1⟩)
end Go.Proofs.YtegiaonlneamfaaDoor

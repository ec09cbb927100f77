/- What layer 9's wakes tells: true. -/
import Derived.Test.YtppiemgdjkehkaaDoorGholds
import Derived.Test.YtppiemgdjkehkaaDoorMwake
namespace Go.Proofs.YtppiemgdjkehkaaDoor
open Go.RowKit Go.Sort

abbrev gCon (kd : Int) : ConL := ⟨kd, [0, 1, 2], [], [], [], [], 0, []⟩
abbrev gV (g : Nat) : ConV := ⟨⟨some ⟨g, 0, none⟩, 3, 3⟩, ⟨none, 0, 0⟩, ⟨none, 0, 0⟩, ⟨none, 0, 0⟩, ⟨none, 0, 0⟩, ⟨none, 0, 0⟩⟩
abbrev g012 : Array Value := #[.int .i64 0, .int .i64 1, .int .i64 2]
abbrev gA (w : World) : World := (((w.alloc (.cells g012 3)).alloc (.cells ((gV w.heap.size).cells 17 0) 30)).alloc (.cells g012 3)).alloc (.cells ((gV (w.heap.size + 1 + 1)).cells 20 0) 30)
theorem gh1 : holdsE (gCon 17) [3, 1, 2] = true := by kernel_rfl
theorem gh2 : holdsE (gCon 17) [3, 1, 3] = false := by kernel_rfl
theorem gh3 : holdsE (gCon 20) [2, 3, 1] = true := by kernel_rfl
theorem gh4 : holdsE (gCon 20) [1, 3, 2] = false := by kernel_rfl
theorem gwake_call (kd : Int) (g : Nat) (a b c : Int) (W : World) (hE : EntIn W) (hA : IsInts W ⟨some ⟨g, 0, none⟩, 3, 3⟩ [0, 1, 2]) :
    Calls Tryd.prog 8 #[(gV g).val kd 0, .slice (some ⟨W.heap.size, 0, none⟩) 3 3] (W.alloc (.cells #[.int .i64 a, .int .i64 b, .int .i64 c] 3)) fun e w' => e = .returned (.bool (holdsE (gCon kd) [a, b, c])) ∧ Below W.heap.size W w' := by
  have hb := below1 W (.cells #[.int .i64 a, .int .i64 b, .int .i64 c] 3)
  have hi := ints_new W [a, b, c] 3 (by simp)
  refine (gHolds_any (gV g) (gCon kd) ⟨some ⟨W.heap.size, 0, none⟩, 3, 3⟩ [a, b, c] _ (hE.below hb) ⟨hA.below hb, IsInts.nil _, IsInts.nil _, IsInts.nil _, IsInts.nil _, IsRows.nil _⟩ hi).mono ?_
  rintro e w' ⟨h1, h2⟩
  exact ⟨h1, hb.trans (h2.mono (by simp))⟩
theorem gA_size (w : World) : (gA w).heap.size = w.heap.size + 4 := by simp
theorem gA_below (w : World) : Below w.heap.size w (gA w) := (((below1 w _).alloc (by simp) _).alloc (by simp; omega) _).alloc (by simp; omega) _
theorem gA_one (w : World) : IsInts (gA w) ⟨some ⟨w.heap.size, 0, none⟩, 3, 3⟩ [0, 1, 2] := by
  have h1 := ints_new w [0, 1, 2] 3 (by simp)
  have b : Below (w.alloc (.cells g012 3)).heap.size (w.alloc (.cells g012 3)) (gA w) := ((below1 _ _).alloc (by simp) _).alloc (by simp) _
  exact h1.below b
theorem gA_two (w : World) : IsInts (gA w) ⟨some ⟨w.heap.size + 1 + 1, 0, none⟩, 3, 3⟩ [0, 1, 2] := by
  have h1 := ints_new ((w.alloc (.cells g012 3)).alloc (.cells ((gV w.heap.size).cells 17 0) 30)) [0, 1, 2] 3 (by simp)
  have e : ((w.alloc (.cells g012 3)).alloc (.cells ((gV w.heap.size).cells 17 0) 30)).heap.size = w.heap.size + 1 + 1 := by simp
  rw [e] at h1
  have b := below1 (((w.alloc (.cells g012 3)).alloc (.cells ((gV w.heap.size).cells 17 0) 30)).alloc (.cells g012 3)) (.cells ((gV (w.heap.size + 1 + 1)).cells 20 0) 30)
  exact h1.below b

set_option maxHeartbeats 4000000 in
set_option maxRecDepth 100000 in
theorem gwakes_any (w : World) (hE : EntIn w) : Calls Tryd.prog 10 #[] w fun e w' => e = .returned (.bool true) ∧ Below w.heap.size w w' := by
  have CC : Hid (∀ (kd : Int) (g : Nat) (a b c : Int) (W : World), Below (gA w).heap.size (gA w) W → IsInts (gA w) ⟨some ⟨g, 0, none⟩, 3, 3⟩ [0, 1, 2] → Calls Tryd.prog 8 #[(gV g).val kd 0, .slice (some ⟨W.heap.size, 0, none⟩) 3 3] (W.alloc (.cells #[.int .i64 a, .int .i64 b, .int .i64 c] 3)) fun e w' => e = .returned (.bool (holdsE (gCon kd) [a, b, c])) ∧ Below W.heap.size W w') := Lib.hid (fun kd g a b c W hW h =>
    gwake_call kd g a b c W ((hE.below (gA_below w)).below hW) (h.below hW))
  have C1 : Hid (∀ W, Below (gA w).heap.size (gA w) W → Calls Tryd.prog 8 #[(gV w.heap.size).val 17 0, .slice (some ⟨W.heap.size, 0, none⟩) 3 3] (W.alloc (.cells #[.int .i64 3, .int .i64 1, .int .i64 2] 3)) fun e w' => e = .returned (.bool true) ∧ Below W.heap.size W w') := Lib.hid (fun W hW => by have := CC.out 17 w.heap.size 3 1 2 W hW (gA_one w); rwa [gh1] at this)
  have C2 : Hid (∀ W, Below (gA w).heap.size (gA w) W → Calls Tryd.prog 8 #[(gV w.heap.size).val 17 0, .slice (some ⟨W.heap.size, 0, none⟩) 3 3] (W.alloc (.cells #[.int .i64 3, .int .i64 1, .int .i64 3] 3)) fun e w' => e = .returned (.bool false) ∧ Below W.heap.size W w') := Lib.hid (fun W hW => by have := CC.out 17 w.heap.size 3 1 3 W hW (gA_one w); rwa [gh2] at this)
  have C3 : Hid (∀ W, Below (gA w).heap.size (gA w) W → Calls Tryd.prog 8 #[(gV (w.heap.size + 1 + 1)).val 20 0, .slice (some ⟨W.heap.size, 0, none⟩) 3 3] (W.alloc (.cells #[.int .i64 2, .int .i64 3, .int .i64 1] 3)) fun e w' => e = .returned (.bool true) ∧ Below W.heap.size W w') := Lib.hid (fun W hW => by have := CC.out 20 (w.heap.size + 1 + 1) 2 3 1 W hW (gA_two w); rwa [gh3] at this)
  have C4 : Hid (∀ W, Below (gA w).heap.size (gA w) W → Calls Tryd.prog 8 #[(gV (w.heap.size + 1 + 1)).val 20 0, .slice (some ⟨W.heap.size, 0, none⟩) 3 3] (W.alloc (.cells #[.int .i64 1, .int .i64 3, .int .i64 2] 3)) fun e w' => e = .returned (.bool false) ∧ Below W.heap.size W w') := Lib.hid (fun W hW => by have := CC.out 20 (w.heap.size + 1 + 1) 1 3 2 W hW (gA_two w); rwa [gh4] at this)
  obtain ⟨wb, hwb⟩ : ∃ wb, gA w = wb := ⟨_, rfl⟩
  have HWB := Lib.hid hwb
  have HBB : Hid (Below w.heap.size w wb) := Lib.hid (hwb ▸ gA_below w)
  have K1 : Hid (∀ W, Below wb.heap.size wb W → W.cell? ⟨w.heap.size + 1, 0, none⟩ = some (.int .i64 17) ∧ W.cell? ⟨w.heap.size + 1, 1, none⟩ = some (.slice (some ⟨w.heap.size, 0, none⟩) 3 3) ∧ W.cell? ⟨w.heap.size + 1, 2, none⟩ = some (.slice none 0 0) ∧ W.cell? ⟨w.heap.size + 1, 3, none⟩ = some (.slice none 0 0) ∧ W.cell? ⟨w.heap.size + 1, 4, none⟩ = some (.slice none 0 0) ∧ W.cell? ⟨w.heap.size + 1, 5, none⟩ = some (.slice none 0 0) ∧ W.cell? ⟨w.heap.size + 1, 6, none⟩ = some (.int .i64 0) ∧ W.cell? ⟨w.heap.size + 1, 7, none⟩ = some (.slice none 0 0)) := Lib.hid (fun W hW => by
    have e0 : (w.alloc (.cells g012 3)).heap.size = w.heap.size + 1 := by simp
    have hb : Below ((w.alloc (.cells g012 3)).heap.size + 1) ((w.alloc (.cells g012 3)).alloc (.cells ((gV w.heap.size).cells 17 0) 30)) wb := hwb ▸ ((Below.refl _ _).alloc (by simp) _).alloc (by simp) _
    have h8 := box8 (hb.trans (hW.mono (by have := hb.size; simp at this ⊢; omega)))
    rw [e0] at h8
    exact h8)
  have K2 : Hid (∀ W, Below wb.heap.size wb W → W.cell? ⟨w.heap.size + 1 + 1 + 1, 0, none⟩ = some (.int .i64 20) ∧ W.cell? ⟨w.heap.size + 1 + 1 + 1, 1, none⟩ = some (.slice (some ⟨w.heap.size + 1 + 1, 0, none⟩) 3 3) ∧ W.cell? ⟨w.heap.size + 1 + 1 + 1, 2, none⟩ = some (.slice none 0 0) ∧ W.cell? ⟨w.heap.size + 1 + 1 + 1, 3, none⟩ = some (.slice none 0 0) ∧ W.cell? ⟨w.heap.size + 1 + 1 + 1, 4, none⟩ = some (.slice none 0 0) ∧ W.cell? ⟨w.heap.size + 1 + 1 + 1, 5, none⟩ = some (.slice none 0 0) ∧ W.cell? ⟨w.heap.size + 1 + 1 + 1, 6, none⟩ = some (.int .i64 0) ∧ W.cell? ⟨w.heap.size + 1 + 1 + 1, 7, none⟩ = some (.slice none 0 0)) := Lib.hid (fun W hW => by
    have e0 : (((w.alloc (.cells g012 3)).alloc (.cells ((gV w.heap.size).cells 17 0) 30)).alloc (.cells g012 3)).heap.size = w.heap.size + 1 + 1 + 1 := by simp
    have hb : Below ((((w.alloc (.cells g012 3)).alloc (.cells ((gV w.heap.size).cells 17 0) 30)).alloc (.cells g012 3)).heap.size + 1) ((((w.alloc (.cells g012 3)).alloc (.cells ((gV w.heap.size).cells 17 0) 30)).alloc (.cells g012 3)).alloc (.cells ((gV (w.heap.size + 1 + 1)).cells 20 0) 30)) wb := hwb ▸ Below.refl _ _
    have h8 := box8 (hb.trans (hW.mono (by have := hb.size; simp at this ⊢; omega)))
    rw [e0] at h8
    exact h8)
  rw [hwb] at C1 C2 C3 C4
  clear CC hE hwb
  go_enter Tryd.func10, Tryd.ntmps10
  go_upto_region 3 with fail
  change Code.wp _ _ _ _ (gA w)
  rw [HWB.out]
  clear HWB
  have b0 := Lib.hid (Below.refl wb.heap.size wb)
  obtain ⟨p0, p1, p2, p3, p4, p5, p6, p7⟩ := K1.out wb b0.out
  go_wp2_with fail
  refine (C1.out _ b0.out).mono ?_
  rintro e w1 ⟨rfl, b1⟩
  have B1 := Lib.hid (b0.out.trans b1)
  obtain ⟨q0, q1, q2, q3, q4, q5, q6, q7⟩ := K1.out w1 B1.out
  clear b1 b0 p0 p1 p2 p3 p4 p5 p6 p7
  go_wp2_with fail
  refine (C2.out _ B1.out).mono ?_
  rintro e w2 ⟨rfl, b2⟩
  have B2 := Lib.hid (B1.out.trans (b2.mono B1.out.size))
  obtain ⟨p0, p1, p2, p3, p4, p5, p6, p7⟩ := K2.out w2 B2.out
  clear b2 B1 q0 q1 q2 q3 q4 q5 q6 q7 K1
  go_wp2_with fail
  refine (C3.out _ B2.out).mono ?_
  rintro e w3 ⟨rfl, b3⟩
  have B3 := Lib.hid (B2.out.trans (b3.mono B2.out.size))
  obtain ⟨q0, q1, q2, q3, q4, q5, q6, q7⟩ := K2.out w3 B3.out
  clear b3 B2 p0 p1 p2 p3 p4 p5 p6 p7 K2
  go_wp2_with fail
  refine (C4.out _ B3.out).mono ?_
  rintro e w4 ⟨rfl, b4⟩
  have B4 := Lib.hid (B3.out.trans (b4.mono B3.out.size))
  clear b4 B3 q0 q1 q2 q3 q4 q5 q6 q7
  go_wp2_with fail
  go_ret
  exact ⟨rfl, HBB.out.trans (B4.out.mono HBB.out.size)⟩
end Go.Proofs.YtppiemgdjkehkaaDoor

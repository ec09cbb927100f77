/- What the law's wakes tells: true. -/
import Derived.Test.YtfbpdkajonpphaaQr
namespace Go.Proofs.Ytfbpdkajonpphaa
open Go.RowKit Go.Maps

theorem Fq.Q {q q' : Qs} {w w' : World} (h : Fq q q' w w') : q'.Q = q.Q := h.same.1

theorem new_own (w : World) (n : Int) : ∀ b, Qs.own ⟨w.heap.size + 1, n, fun _ => .slice none 0 0, w.heap.size⟩ b → w.heap.size ≤ b := by
  rintro b (h | h | ⟨i, -, h⟩)
  · simp only at h
    omega
  · simp only at h
    omega
  · cases h

theorem new_any (w : World) (n : Int) : Calls Try.prog 6 #[.int .i64 n] w fun e w' => ∃ q : Qs, e = .returned (ptr q.Q) ∧ q.n = n ∧ IsQ w' q [] ∧ Below w.heap.size w w' ∧ ∀ b, q.own b → w.heap.size ≤ b := by
  refine (new_q w n).mono ?_
  rintro e w1 ⟨rfl, h1, hb1⟩
  exact ⟨⟨w.heap.size + 1, n, fun _ => .slice none 0 0, w.heap.size⟩, rfl, rfl, h1, hb1, new_own w n⟩

set_option maxHeartbeats 1000000 in
theorem wakes_true (w : World) : Calls Try.prog 15 #[] w fun e w' => e = .returned (.bool true) ∧ Below w.heap.size w w' := by
  have HN := Lib.hid (new_q w 6)
  have HO := Lib.hid (new_own w 6)
  go_enter Try.func15, Try.ntmps15
  go_wp2_with fail
  refine HN.out.mono ?_
  rintro e w1 ⟨rfl, h1, hb1⟩
  obtain ⟨q, hq⟩ : ∃ q : Qs, q = ⟨w.heap.size + 1, 6, fun _ => .slice none 0 0, w.heap.size⟩ := ⟨_, rfl⟩
  have hQ : q.Q = w.heap.size + 1 := by rw [hq]
  have hn : q.n = 6 := by rw [hq]
  rw [← hq] at h1 HO
  rw [← hQ]
  clear hq hQ HN
  have HB1 := Lib.hid hb1
  have H1 := Lib.hid h1
  have Hn := Lib.hid hn
  clear h1 hb1 hn
  go_wp2_with fail
  refine (push_yes H1.out 3 1 (by decide) (by decide) (by rw [Hn.out]; decide) (by simp) (by simp)).mono ?_
  rintro e w2 ⟨rfl, v2, h2, f2⟩
  have e2 : bk 1 = 1 := by decide
  rw [e2, List.nil_append] at h2
  rw [e2] at f2
  have H2 := Lib.hid h2
  have F2 := Lib.hid f2
  clear h2 f2 e2 H1
  go_wp2_with fail
  refine (push_yes H2.out 5 0 (by decide) (by decide) (by show decide (q.n ≤ 5) = false; rw [Hn.out]; decide) (by simp) (by simp)).mono ?_
  rintro e w3 ⟨rfl, v3, h3, f3⟩
  have e2 : bk 0 = 0 := by decide
  rw [e2, List.cons_append, List.nil_append] at h3
  rw [e2] at f3
  have H3 := Lib.hid h3
  have F3 := Lib.hid (F2.out.trans f3)
  clear h3 f3 e2 H2 F2
  go_wp2_with fail
  refine (push_there H3.out 3 0 (by decide) (by decide) (by show decide (q.n ≤ 3) = false; rw [Hn.out]; decide) (by simp)).mono ?_
  rintro e w4 ⟨rfl, b4⟩
  have H4 := Lib.hid (H3.out.below b4)
  have F4 := Lib.hid (F3.out.trans (Fq.of_below _ b4))
  clear H3 F3 b4
  generalize (q.put 1 v2).put 0 v3 = q4 at H4 F4
  have e4 := F4.out.Q
  go_wp2_with fail
  rw [← e4]
  clear e4
  refine (pop_most H4.out (l1 := [(3, 1)]) (l2 := []) (x := 5) (b := 0) ⟨rfl, by simp, by simp⟩).mono ?_
  rintro e w5 ⟨rfl, v5, h5, f5⟩
  rw [List.append_nil] at h5
  have H5 := Lib.hid h5
  have F5 := Lib.hid (F4.out.trans f5)
  have E5 := Lib.hid f5.Q
  clear h5 f5 H4 F4
  generalize q4.put 0 v5 = q5 at H5 F5 E5
  go_wp2_with fail
  rw [← E5.out]
  refine (pop_most H5.out (l1 := []) (l2 := []) (x := 3) (b := 1) ⟨rfl, by simp, by simp⟩).mono ?_
  rintro e w6 ⟨rfl, v6, h6, f6⟩
  rw [List.append_nil] at h6
  have H6 := Lib.hid h6
  have F6 := Lib.hid (F5.out.trans f6)
  have E6 := Lib.hid f6.Q
  clear h6 f6 H5 F5 E5
  generalize q5.put 1 v6 = q6 at H6 F6 E6
  go_wp2_with fail
  rw [← E6.out]
  refine (pop_none H6.out).mono ?_
  rintro e w7 ⟨rfl, rfl⟩
  go_wp2_with fail
  go_ret
  refine ⟨rfl, HB1.out.trans ?_⟩
  exact F6.out.below HO.out HB1.out.size
end Go.Proofs.Ytfbpdkajonpphaa

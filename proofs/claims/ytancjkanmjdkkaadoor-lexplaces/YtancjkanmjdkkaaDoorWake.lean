/- What the law's wakes tells: true. -/
import Derived.Test.YtancjkanmjdkkaaDoorName
namespace Go.Proofs.YtancjkanmjdkkaaDoor
open Go.RowKit

/-- A slice of tokens that isn't empty: where it lies. -/
theorem Toks.lies {ty : TypeId} {w : World} {v : Value} {l : List Tok} (h : Toks ty w v l) (hne : 0 < l.length) : ∃ g cap, v = .slice (some ⟨g, 0, none⟩) l.length cap ∧ l.length ≤ cap ∧ g < w.heap.size ∧ ∀ i (hi : i < l.length),
    w.cell? ⟨g, i * 4, none⟩ = some (.int .i64 ((l[i]).kind : Nat)) ∧ w.cell? ⟨g, i * 4 + 1, none⟩ = some (.string (txt (l[i]).text)) ∧ w.cell? ⟨g, i * 4 + 2, none⟩ = some (.int .i64 (l[i]).num) ∧ w.cell? ⟨g, i * 4 + 3, none⟩ = some (.int .i64 ((l[i]).at_ : Nat)) := by
  obtain ⟨a, cap0, e, hv⟩ := h.view
  obtain ⟨base, h1, h2⟩ := h
  rcases h2 with ⟨rfl, hn⟩ | ⟨g, cap, cur, rfl, hg, hh, hn, hc, hs, ht⟩
  · omega
  · cases e
    refine ⟨g, _, rfl, hn, lt_of_block hh, fun i hi => ?_⟩
    obtain ⟨ad, e1, -, h3, h4, h5, h6⟩ := hv i hi
    cases e1
    rw [add_at] at h3 h4 h5 h6
    exact ⟨h3, h4, h5, h6⟩

theorem wake1 : lexA [118, 97, 114, 32, 49, 46, 46, 45, 53, 37, 32, 120] = ([⟨1, [118, 97, 114], 0, 0⟩, ⟨2, [49], 1, 4⟩, ⟨3, [46, 46], 0, 5⟩, ⟨2, [45, 53], -5, 7⟩], 0, 0) := by
  have h5 : lexL [37, 32, 120] 9 = .ok [] := (lexL_skip (n := 3) (by simp) (by kernel_rfl)).trans (lexL_nil _)
  have h4 : lexL [45, 53, 37, 32, 120] 7 = .ok [⟨2, [45, 53], -5, 7⟩] := (lexL_tok (k := 2) (n := 2) (v := -5) (by simp) (by kernel_rfl)).trans (congrArg (Res.pre _) h5)
  have h3 : lexL [46, 46, 45, 53, 37, 32, 120] 5 = .ok [⟨3, [46, 46], 0, 5⟩, ⟨2, [45, 53], -5, 7⟩] := (lexL_tok (k := 3) (n := 2) (v := 0) (by simp) (by kernel_rfl)).trans (congrArg (Res.pre _) h4)
  have h2 : lexL [49, 46, 46, 45, 53, 37, 32, 120] 4 = .ok [⟨2, [49], 1, 4⟩, ⟨3, [46, 46], 0, 5⟩, ⟨2, [45, 53], -5, 7⟩] := (lexL_tok (k := 2) (n := 1) (v := 1) (by simp) (by kernel_rfl)).trans (congrArg (Res.pre _) h3)
  have h1 : lexL [32, 49, 46, 46, 45, 53, 37, 32, 120] 3 = .ok [⟨2, [49], 1, 4⟩, ⟨3, [46, 46], 0, 5⟩, ⟨2, [45, 53], -5, 7⟩] := (lexL_blank (by decide) _ _).trans h2
  have h0 : lexL [118, 97, 114, 32, 49, 46, 46, 45, 53, 37, 32, 120] 0 = .ok [⟨1, [118, 97, 114], 0, 0⟩, ⟨2, [49], 1, 4⟩, ⟨3, [46, 46], 0, 5⟩, ⟨2, [45, 53], -5, 7⟩] := (lexL_tok (k := 1) (n := 3) (v := 0) (by simp) (by kernel_rfl)).trans (congrArg (Res.pre _) h1)
  rw [lexA, if_neg (by simp), h0]
  rfl
theorem wake2 : lexA [48, 49] = ([], 0, 15) := by
  have h0 : lexL [48, 49] 0 = .error (0, 15) := lexL_bad (by simp) (by kernel_rfl)
  rw [lexA, if_neg (by simp), h0]
  rfl
theorem wake3 : lexA [97, 46, 98] = ([], 1, 6) := by
  have h1 : lexL [46, 98] 1 = .error (1, 6) := lexL_bad (by simp) (by kernel_rfl)
  have h0 : lexL [97, 46, 98] 0 = .error (1, 6) := (lexL_tok (k := 1) (n := 1) (v := 0) (by simp) (by kernel_rfl)).trans (congrArg (Res.pre _) h1)
  rw [lexA, if_neg (by simp), h0]
  rfl

set_option maxHeartbeats 2000000 in
set_option maxRecDepth 100000 in
theorem wakes_true (w : World) : Calls Tryd.prog 10 #[] w fun e w' => e = .returned (.bool true) ∧ Below w.heap.size w w' := by
  have C1 := Lib.hid (lex_any ⟨#[118, 97, 114, 32, 49, 46, 46, 45, 53, 37, 32, 120]⟩ w (by decide))
  rw [show bl ⟨#[118, 97, 114, 32, 49, 46, 46, 45, 53, 37, 32, 120]⟩ = [118, 97, 114, 32, 49, 46, 46, 45, 53, 37, 32, 120] from rfl, wake1] at C1
  have C2 := Lib.hid (fun W => lex_any ⟨#[48, 49]⟩ W (by decide))
  rw [show bl ⟨#[48, 49]⟩ = [48, 49] from rfl, wake2] at C2
  have C3 := Lib.hid (fun W => lex_any ⟨#[97, 46, 98]⟩ W (by decide))
  rw [show bl ⟨#[97, 46, 98]⟩ = [97, 46, 98] from rfl, wake3] at C3
  have C4 := Lib.hid (fun W => name_any ⟨#[120, 95, 49]⟩ W (by decide))
  rw [show nameB (bl ⟨#[120, 95, 49]⟩) = true from by kernel_rfl] at C4
  have C5 := Lib.hid (fun W => name_any ⟨#[49, 120]⟩ W (by decide))
  rw [show nameB (bl ⟨#[49, 120]⟩) = false from by kernel_rfl] at C5
  go_enter Tryd.func10, Tryd.ntmps10
  go_wp2_with fail
  refine C1.out.mono ?_
  rintro e w1 ⟨v1, rfl, t1, b1⟩
  have T1 := Lib.hid t1
  have B1 := Lib.hid b1
  clear t1 b1 C1
  go_wp2_with fail
  refine (C2.out _).mono ?_
  rintro e w2 ⟨v2, rfl, -, b2⟩
  have T2 := Lib.hid (T1.out.below b2)
  have B2 := Lib.hid (B1.out.trans (b2.mono B1.out.size))
  clear b2 C2 T1 B1
  go_wp2_with fail
  refine (C3.out _).mono ?_
  rintro e w3 ⟨v3, rfl, -, b3⟩
  have T3 := Lib.hid (T2.out.below b3)
  have B3 := Lib.hid (B2.out.trans (b3.mono B2.out.size))
  clear b3 C3 T2 B2
  obtain ⟨g, cap, rfl, hcap, hg, hcell⟩ := T3.out.lies (by simp)
  have x2 := (hcell 3 (by simp)).2.2.1
  have x3 := (hcell 3 (by simp)).2.2.2
  clear hcell T3
  simp only [List.length_cons, List.length_nil, List.getElem_cons_succ, List.getElem_cons_zero] at x2 x3 hcap ⊢
  go_wp2_with fail
  refine (C4.out _).mono ?_
  rintro e w4 ⟨rfl, b4⟩
  have B4 := Lib.hid (B3.out.trans (b4.mono B3.out.size))
  clear b4 C4 B3
  go_wp2_with fail
  refine (C5.out _).mono ?_
  rintro e w5 ⟨rfl, b5⟩
  go_wp2_with fail
  go_ret
  exact ⟨rfl, B4.out.trans (b5.mono B4.out.size)⟩
end Go.Proofs.YtancjkanmjdkkaaDoor

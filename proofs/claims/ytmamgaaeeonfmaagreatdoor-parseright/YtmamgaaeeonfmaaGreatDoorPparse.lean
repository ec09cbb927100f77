/- Contract: Parse. -/
import Derived.Test.YtmamgaaeeonfmaaGreatDoorPright
import Derived.Test.YtmamgaaeeonfmaaGreatDoorLexlex
namespace Go.Proofs.YtmamgaaeeonfmaaGreatDoor
open Go.RowKit Go.Sort Go.Maps

theorem makeMap_none (w : World) : (Instr.makeMap 46 none).run Tryz.prog w = .ok (.map (some w.heap.size)) (w.alloc (.map #[] 0)) := by
  simp [Instr.makeMap]
abbrev zeroMod : Obj := .cells #[.slice none 0 0, .slice none 0 0, .slice none 0 0, .int .i64 0, .int .i64 0] 26
abbrev start3 (w : World) : World := ((w.alloc zeroMod).alloc (.cells #[.int .i64 0] 3)).alloc (.cells #[.int .i64 0] 27)
theorem start3_boxes (w : World) : Boxes3 (start3 w) w.heap.size #[.slice none 0 0, .slice none 0 0, .slice none 0 0, .int .i64 0, .int .i64 0] (.int .i64 0) (.int .i64 0) := by
  refine ⟨?_, ?_, ?_⟩
  · rw [Below.heap_alloc _ _ _ (by simp; omega), Below.heap_alloc _ _ _ (by simp)]; exact heap_alloc_new w _
  · rw [Below.heap_alloc _ _ _ (by simp)]
    have := heap_alloc_new (w.alloc zeroMod) (.cells #[.int .i64 0] 3)
    rw [alloc_size] at this
    exact this
  · have := heap_alloc_new ((w.alloc zeroMod).alloc (.cells #[.int .i64 0] 3)) (.cells #[.int .i64 0] 27)
    rw [alloc_size, alloc_size] at this
    exact this
theorem start3_below (w : World) : Below w.heap.size w (start3 w) := ((below1 w _).trans ((below1 _ _).mono (by simp))).trans ((below1 _ _).mono (by simp; omega))
theorem Boxes3.two {w : World} {P : Nat} {mc : Array Value} {av ev : Value} (h : Boxes3 w P mc av ev) (a e : Value) : Boxes3 ((w.setCell ⟨P + 1, 0, none⟩ a).setCell ⟨P + 2, 0, none⟩ e) P mc a e := by
  refine ⟨?_, ?_, ?_⟩
  · simp [World.setCell, Array.getElem?_modify, h.m]
  · simp [World.setCell, Array.getElem?_modify, h.a]
  · simp [World.setCell, Array.getElem?_modify, h.e]
theorem Boxes3.cells {w : World} {P : Nat} {x0 x1 x2 x3 x4 av ev : Value} (h : Boxes3 w P #[x0, x1, x2, x3, x4] av ev) : (w.cell? ⟨P, 0, none⟩ = some x0 ∧ w.cell? ⟨P, 1, none⟩ = some x1 ∧ w.cell? ⟨P, 2, none⟩ = some x2 ∧ w.cell? ⟨P, 3, none⟩ = some x3 ∧ w.cell? ⟨P, 4, none⟩ = some x4) ∧ w.cell? ⟨P + 1, 0, none⟩ = some av ∧ w.cell? ⟨P + 2, 0, none⟩ = some ev := by
  refine ⟨⟨?_, ?_, ?_, ?_, ?_⟩, ?_, ?_⟩
  all_goals (unfold World.cell?; first | (rw [h.m]; rfl) | (rw [h.a]; rfl) | (rw [h.e]; rfl))
theorem Boxes3.free {w : World} {P : Nat} {mc : Array Value} {av ev : Value} (h : Boxes3 w P mc av ev) (j : Nat) : w.frozen? ⟨P, j, none⟩ = false ∧ w.frozen? ⟨P + 1, j, none⟩ = false ∧ w.frozen? ⟨P + 2, j, none⟩ = false := by
  refine ⟨?_, ?_, ?_⟩
  · unfold World.frozen?; rw [h.m]; simp
  · unfold World.frozen?; rw [h.a]; simp
  · unfold World.frozen?; rw [h.e]; simp

/-- The results are read at the end. -/
theorem results3 {P : Nat} {x0 x1 x2 x3 x4 av ev : Value} {w : World} {R : Ending → World → Prop} {tm : Array Value} (hB : Boxes3 w P #[x0, x1, x2, x3, x4] av ev) (h1 : tm[2]?.getD undef = Value.pointer (some ⟨P, 0, none⟩)) (h2 : tm[3]?.getD undef = Value.pointer (some ⟨P + 1, 0, none⟩)) (h3 : tm[4]?.getD undef = Value.pointer (some ⟨P + 2, 0, none⟩)) (hR : R (.returned (.tuple #[.agg #[x0, x1, x2, x3, x4], av, ev])) w) : Leaves Tryz.prog Tryz.f6 tm R [] .returning w := by
  refine ⟨_, ?_, hR⟩
  obtain ⟨⟨q0, q1, q2, q3, q4⟩, a1, a2⟩ := hB.cells
  simp [results, Tryz.results6, go_sem, h1, h2, h3, q0, q1, q2, q3, q4, a1, a2]

/-- A text that Lex refuses. -/
theorem parse_lex (s : ByteArray) (w : World) (hs : s.size ≤ 9223372036854775807) (he : (lexA (bl s)).2.2 ≠ 0) :
    Calls Tryz.prog 6 #[.string s] w fun e w' => e = .returned (.tuple #[.agg #[.slice none 0 0, .slice none 0 0, .slice none 0 0, .int .i64 0, .int .i64 0], .int .i64 ((lexA (bl s)).2.1 : Nat), .int .i64 (lexA (bl s)).2.2]) ∧ Below w.heap.size w w' := by
  have CL := Lib.hid (lex_any s (start3 w) hs)
  have HB := Lib.hid (start3_boxes w)
  have HS := Lib.hid (start3_below w)
  generalize (lexA (bl s)).2.1 = at_ at CL ⊢
  generalize (lexA (bl s)).2.2 = er at CL he ⊢
  have hne : (er != 0) = true := by simpa using he
  clear he
  go_enter_defers Tryz.func6, Tryz.ntmps6
  go_wp2_with fail
  change Calls _ _ _ (start3 w) _
  refine CL.out.mono ?_
  rintro e w1 ⟨v, rfl, -, b1⟩
  have hB1 := HB.out.below b1
  have hb1 : Below w.heap.size w w1 := HS.out.trans (b1.mono HS.out.size)
  have HB2 := Lib.hid (hB1.two (.int .i64 (at_ : Nat)) (.int .i64 er))
  have HS2 : Hid (Below w.heap.size w ((w1.setCell ⟨w.heap.size + 1, 0, none⟩ (.int .i64 (at_ : Nat))).setCell ⟨w.heap.size + 2, 0, none⟩ (.int .i64 er))) := Lib.hid ((hb1.setCell (p := ⟨w.heap.size + 1, 0, none⟩) (by simp) _).setCell (p := ⟨w.heap.size + 2, 0, none⟩) (by simp) _)
  obtain ⟨-, a1, a2⟩ := hB1.cells
  obtain ⟨-, f1, f2⟩ := hB1.free 0
  clear CL b1 hB1 hb1 HB HS
  go_upto_region 2 with fail
  change Code.wp _ _ _ _ ((w1.setCell ⟨w.heap.size + 1, 0, none⟩ (.int .i64 (at_ : Nat))).setCell ⟨w.heap.size + 2, 0, none⟩ (.int .i64 er))
  clear a1 a2 f1 f2
  generalize (w1.setCell ⟨w.heap.size + 1, 0, none⟩ (.int .i64 (at_ : Nat))).setCell ⟨w.heap.size + 2, 0, none⟩ (.int .i64 er) = w2 at *
  obtain ⟨⟨q0, q1, q2, q3, q4⟩, a1, a2⟩ := HB2.out.cells
  have f0 := fun j => (HB2.out.free j).1
  have f1 := (HB2.out.free 0).2.1
  have f2 := (HB2.out.free 0).2.2
  generalize hP : w.heap.size = P at *
  have HX := Lib.hid (HB2.out.set7 (.slice none 0 0) (.slice none 0 0) (.slice none 0 0) (.int .i64 0) (.int .i64 0) (.int .i64 (at_ : Nat)) (.int .i64 er)).drew
  have HY := Lib.hid (below_set7 HS2.out (Nat.le_refl P) (.slice none 0 0) (.slice none 0 0) (.slice none 0 0) (.int .i64 0) (.int .i64 0) (.int .i64 (at_ : Nat)) (.int .i64 er)).drew
  go_wp2_with fail
  go_region
  go_wp2_with fail
  show Leaves _ _ _ _ _ _ _
  refine results3 HX.out ?_ ?_ ?_ ⟨rfl, by rw [hP]; exact HY.out⟩
  all_goals rfl

/-- The tokens of a text, as the parser's. -/
theorem toks_in {w : World} {v : Value} {l : List Tok} (h : Toks 63 w v l) (hl : l.length ≤ 1048576) (hb : ∀ x ∈ l, x.text.length ≤ 1048576) : ∃ t : Sl, v = .slice t.A t.n t.c ∧ TokIn w t l ∧ (0 < t.n → ∃ g cur, t.A = some ⟨g, 0, none⟩ ∧ w.heap[g]? = some (.cells cur 63 (0, 0))) := by
  obtain ⟨a, cap, e, hv⟩ := h.view
  obtain ⟨base, h1, h2⟩ := h
  rcases h2 with ⟨e2, h0⟩ | ⟨g, cap', cur, e2, hg, hh, hn, hc, hs, ht⟩
  · refine ⟨⟨none, 0, 0⟩, e2, ⟨by rw [h0], Nat.le_refl _, by simp, hb, fun h => absurd h (by simp)⟩, fun h => absurd h (by simp)⟩
  · rw [e2] at e
    injection e with e3 e4 e5
    subst e3
    subst e5
    refine ⟨⟨some ⟨g, 0, none⟩, l.length, cap'⟩, e2, ⟨rfl, hn, hl, hb, fun _ => ⟨g, 0, rfl, lt_of_block hh, fun i hi => ?_⟩⟩, fun _ => ⟨g, cur, rfl, hh⟩⟩
    obtain ⟨ad, ea, -, c0, c1, c2, c3⟩ := hv i hi
    cases ea
    rw [add_at] at c0 c1 c2 c3
    rw [Nat.zero_add]
    exact ⟨c0, c1, c2, c3⟩
end Go.Proofs.YtmamgaaeeonfmaaGreatDoor

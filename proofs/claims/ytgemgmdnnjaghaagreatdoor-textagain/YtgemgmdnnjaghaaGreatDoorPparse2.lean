/- Contract: Parse. -/
import Derived.Test.YtgemgmdnnjaghaaGreatDoorPcatch2
import Derived.Test.YtgemgmdnnjaghaaGreatDoorLexlex
namespace Go.Proofs.YtgemgmdnnjaghaaGreatDoor
open Go.RowKit Go.Sort Go.Maps

theorem makeMap_none (w : World) : (Instr.makeMap 82 none).run Tryz.prog w = .ok (.map (some w.heap.size)) (w.alloc (.map #[] 0)) := by
  simp [Instr.makeMap]
abbrev zeroMod : Obj := .cells #[.slice none 0 0, .slice none 0 0, .slice none 0 0, .int .i64 0, .int .i64 0] 30
abbrev start3 (w : World) : World := ((w.alloc zeroMod).alloc (.cells #[.int .i64 0] 3)).alloc (.cells #[.int .i64 0] 32)
theorem start3_boxes (w : World) : Boxes3 (start3 w) w.heap.size #[.slice none 0 0, .slice none 0 0, .slice none 0 0, .int .i64 0, .int .i64 0] (.int .i64 0) (.int .i64 0) := by
  refine ⟨?_, ?_, ?_⟩
  · rw [Below.heap_alloc _ _ _ (by simp; omega), Below.heap_alloc _ _ _ (by simp)]; exact heap_alloc_new w _
  · rw [Below.heap_alloc _ _ _ (by simp)]
    have := heap_alloc_new (w.alloc zeroMod) (.cells #[.int .i64 0] 3)
    rw [alloc_size] at this
    exact this
  · have := heap_alloc_new ((w.alloc zeroMod).alloc (.cells #[.int .i64 0] 3)) (.cells #[.int .i64 0] 32)
    rw [alloc_size, alloc_size] at this
    exact this
theorem start3_below (w : World) : Below w.heap.size w (start3 w) := ((below1 w _).trans ((below1 _ _).mono (by simp))).trans ((below1 _ _).mono (by simp; omega))
theorem Boxes3.two {w : World} {P : Nat} {mc : Array Value} {av ev : Value} (h : Boxes3 w P mc av ev) (a e : Value) : Boxes3 ((w.setCell ⟨P + 1, 0, none⟩ a).setCell ⟨P + 2, 0, none⟩ e) P mc a e := by
  refine ⟨?_, ?_, ?_⟩
  · simp [World.setCell, Array.getElem?_modify, h.m]
  · simp [World.setCell, Array.getElem?_modify, h.a]
  · simp [World.setCell, Array.getElem?_modify, h.e]
theorem Boxes3.cells {w : World} {P : Nat} {x0 x1 x2 x3 x4 av ev : Value} (h : Boxes3 w P #[x0, x1, x2, x3, x4] av ev) : (w.cell? ⟨P, 0, none⟩ = some x0 ∧ w.cell? ⟨P, 1, none⟩ = some x1 ∧ w.cell? ⟨P, 2, none⟩ = some x2 ∧ w.cell? ⟨P, 3, none⟩ = some x3 ∧ w.cell? ⟨P, 4, none⟩ = some x4) ∧ w.cell? ⟨P + 1, 0, none⟩ = some av ∧ w.cell? ⟨P + 2, 0, none⟩ = some ev := by
  refine ⟨⟨?_, ?_, ?_, ?_, ?_⟩, ?_, ?_⟩
  all_goals (unfold World.cell?; first | (rw [h.m]; rfl) | (rw [h.a]; rfl) | (rw [h.e]; rfl))
theorem Boxes3.free {w : World} {P : Nat} {mc : Array Value} {av ev : Value} (h : Boxes3 w P mc av ev) (j : Nat) : w.frozen? ⟨P, j, none⟩ = false ∧ w.frozen? ⟨P + 1, j, none⟩ = false ∧ w.frozen? ⟨P + 2, j, none⟩ = false := by
  refine ⟨?_, ?_, ?_⟩
  · unfold World.frozen?; rw [h.m]; simp
  · unfold World.frozen?; rw [h.a]; simp
  · unfold World.frozen?; rw [h.e]; simp

/-- The results are read at the end. -/
theorem results3 {P : Nat} {x0 x1 x2 x3 x4 av ev : Value} {w : World} {R : Ending → World → Prop} {tm : Array Value} (hB : Boxes3 w P #[x0, x1, x2, x3, x4] av ev) (h1 : tm[2]?.getD undef = Value.pointer (some ⟨P, 0, none⟩)) (h2 : tm[3]?.getD undef = Value.pointer (some ⟨P + 1, 0, none⟩)) (h3 : tm[4]?.getD undef = Value.pointer (some ⟨P + 2, 0, none⟩)) (hR : R (.returned (.tuple #[.agg #[x0, x1, x2, x3, x4], av, ev])) w) : Leaves Tryz.prog Tryz.f15 tm R [] .returning w := by
  refine ⟨_, ?_, hR⟩
  obtain ⟨⟨q0, q1, q2, q3, q4⟩, a1, a2⟩ := hB.cells
  simp [results, Tryz.results15, go_sem, h1, h2, h3, q0, q1, q2, q3, q4, a1, a2]

/-- A text that Lex refuses. -/
theorem parse_lex (s : ByteArray) (w : World) (hs : s.size ≤ 9223372036854775807) (he : (lexA (bl s)).2.2 ≠ 0) :
    Calls Tryz.prog 15 #[.string s] w fun e w' => e = .returned (.tuple #[.agg #[.slice none 0 0, .slice none 0 0, .slice none 0 0, .int .i64 0, .int .i64 0], .int .i64 ((lexA (bl s)).2.1 : Nat), .int .i64 (lexA (bl s)).2.2]) ∧ Below w.heap.size w w' := by
  have CL := Lib.hid (lex_any s (start3 w) hs)
  have HB := Lib.hid (start3_boxes w)
  have HS := Lib.hid (start3_below w)
  generalize (lexA (bl s)).2.1 = at_ at CL ⊢
  generalize (lexA (bl s)).2.2 = er at CL he ⊢
  have hne : (er != 0) = true := by simpa using he
  clear he
  go_enter_defers Tryz.func15, Tryz.ntmps15
  go_wp2_with fail
  change Calls _ _ _ (start3 w) _
  refine CL.out.mono ?_
  rintro e w1 ⟨v, rfl, -, b1⟩
  have hB1 := HB.out.below b1
  have hb1 : Below w.heap.size w w1 := HS.out.trans (b1.mono HS.out.size)
  have HB2 := Lib.hid (hB1.two (.int .i64 (at_ : Nat)) (.int .i64 er))
  have HS2 : Hid (Below w.heap.size w ((w1.setCell ⟨w.heap.size + 1, 0, none⟩ (.int .i64 (at_ : Nat))).setCell ⟨w.heap.size + 2, 0, none⟩ (.int .i64 er))) := Lib.hid ((hb1.setCell (p := ⟨w.heap.size + 1, 0, none⟩) (by simp) _).setCell (p := ⟨w.heap.size + 2, 0, none⟩) (by simp) _)
  obtain ⟨-, a1, a2⟩ := hB1.cells
  obtain ⟨-, f1, f2⟩ := hB1.free 0
  clear CL b1 hB1 hb1 HB HS
  go_upto_region 2 with fail
  change Code.wp _ _ _ _ ((w1.setCell ⟨w.heap.size + 1, 0, none⟩ (.int .i64 (at_ : Nat))).setCell ⟨w.heap.size + 2, 0, none⟩ (.int .i64 er))
  clear a1 a2 f1 f2
  generalize (w1.setCell ⟨w.heap.size + 1, 0, none⟩ (.int .i64 (at_ : Nat))).setCell ⟨w.heap.size + 2, 0, none⟩ (.int .i64 er) = w2 at *
  obtain ⟨⟨q0, q1, q2, q3, q4⟩, a1, a2⟩ := HB2.out.cells
  have f0 := fun j => (HB2.out.free j).1
  have f1 := (HB2.out.free 0).2.1
  have f2 := (HB2.out.free 0).2.2
  generalize hP : w.heap.size = P at *
  have HX := Lib.hid (HB2.out.set7 (.slice none 0 0) (.slice none 0 0) (.slice none 0 0) (.int .i64 0) (.int .i64 0) (.int .i64 (at_ : Nat)) (.int .i64 er)).drew
  have HY := Lib.hid (below_set7 HS2.out (Nat.le_refl P) (.slice none 0 0) (.slice none 0 0) (.slice none 0 0) (.int .i64 0) (.int .i64 0) (.int .i64 (at_ : Nat)) (.int .i64 er)).drew
  go_wp2_with fail
  go_region
  go_wp2_with fail
  show Leaves _ _ _ _ _ _ _
  refine results3 HX.out ?_ ?_ ?_ ⟨rfl, by rw [hP]; exact HY.out⟩
  all_goals rfl

/-- The tokens of a text, as the parser's. -/
theorem toks_in {w : World} {v : Value} {l : List Tok} (h : Toks 118 w v l) (hl : l.length ≤ 1048576) (hb : ∀ x ∈ l, x.text.length ≤ 1048576) : ∃ t : Sl, v = .slice t.A t.n t.c ∧ TokIn w t l ∧ (0 < t.n → ∃ g cur, t.A = some ⟨g, 0, none⟩ ∧ w.heap[g]? = some (.cells cur 118 (0, 0))) := by
  obtain ⟨a, cap, e, hv⟩ := h.view
  obtain ⟨base, h1, h2⟩ := h
  rcases h2 with ⟨e2, h0⟩ | ⟨g, cap', cur, e2, hg, hh, hn, hc, hs, ht⟩
  · refine ⟨⟨none, 0, 0⟩, e2, ⟨by rw [h0], Nat.le_refl _, by simp, hb, fun h => absurd h (by simp)⟩, fun h => absurd h (by simp)⟩
  · rw [e2] at e
    injection e with e3 e4 e5
    subst e3
    subst e5
    refine ⟨⟨some ⟨g, 0, none⟩, l.length, cap'⟩, e2, ⟨rfl, hn, hl, hb, fun _ => ⟨g, 0, rfl, lt_of_block hh, fun i hi => ?_⟩⟩, fun _ => ⟨g, cur, rfl, hh⟩⟩
    obtain ⟨ad, ea, -, c0, c1, c2, c3⟩ := hv i hi
    cases ea
    rw [add_at] at c0 c1 c2 c3
    rw [Nat.zero_add]
    exact ⟨c0, c1, c2, c3⟩
end Go.Proofs.YtgemgmdnnjaghaaGreatDoor

/- Contract: Parse, whole. -/
namespace Go.Proofs.YtgemgmdnnjaghaaGreatDoor
open Go.RowKit Go.Sort Go.Maps

/-- How many tokens there are, how long they are and where they stand. -/
theorem lexL_all {bs : Bs} : ∀ {p : Nat} {l : List Tok}, lexL bs p = .ok l → l.length ≤ bs.length ∧ ∀ t ∈ l, t.text.length ≤ bs.length ∧ p ≤ t.at_ ∧ t.at_ ≤ p + bs.length := by
  refine lex_ind (P := fun bs => ∀ {p : Nat} {l : List Tok}, lexL bs p = .ok l → l.length ≤ bs.length ∧ ∀ t ∈ l, t.text.length ≤ bs.length ∧ p ≤ t.at_ ∧ t.at_ ≤ p + bs.length) (fun {p l} he => ?_) (fun bs n h hi ih {p l} he => ?_) (fun bs k n v h hi ih {p l} he => ?_) (fun bs e h hi {p l} he => ?_) bs
  · rw [lexL_nil] at he; cases he; exact ⟨Nat.le_refl _, fun t ht => by cases ht⟩
  · rw [lexL_skip h hi] at he
    obtain ⟨h1, h2⟩ := (item_pos h).1 n hi
    obtain ⟨a, b⟩ := ih he
    rw [List.length_drop] at a b
    exact ⟨by omega, fun t ht => by have := b t ht; omega⟩
  · rw [lexL_tok h hi] at he
    obtain ⟨h1, h2⟩ := (item_pos h).2 k n v hi
    rcases hr : lexL (bs.drop n) (p + n) with e0 | l0
    · rw [hr] at he; cases he
    · rw [hr] at he
      simp only [Res.pre] at he
      cases he
      obtain ⟨a, b⟩ := ih hr
      rw [List.length_drop] at a b
      refine ⟨by simp only [List.length_cons]; omega, fun t ht => ?_⟩
      rcases List.mem_cons.1 ht with e | e
      · rw [e]
        simp only [List.length_take]
        omega
      · have := b t e; omega
  · rw [lexL_bad h hi] at he; cases he
theorem item_bad {bs : Bs} {e : Int} (h : bs ≠ []) (hi : item bs = .bad e) : e ≠ 0 := by
  cases bs with
  | nil => exact absurd rfl h
  | cons c r =>
    unfold item at hi
    repeat' split at hi
    all_goals first
      | (next hx => cases hx; done)
      | (injection hi with hi; subst hi; decide)
      | cases hi
theorem lexL_wrong {bs : Bs} : ∀ {p q : Nat} {e : Int}, lexL bs p = .error (q, e) → e ≠ 0 := by
  refine lex_ind (P := fun bs => ∀ {p q : Nat} {e : Int}, lexL bs p = .error (q, e) → e ≠ 0) (fun {p q e} he => ?_) (fun bs n h hi ih {p q e} he => ?_) (fun bs k n v h hi ih {p q e} he => ?_) (fun bs e' h hi {p q e} he => ?_) bs
  · rw [lexL_nil] at he; cases he
  · rw [lexL_skip h hi] at he; exact ih he
  · rw [lexL_tok h hi] at he
    rcases hr : lexL (bs.drop n) (p + n) with e0 | l0
    · rw [hr] at he
      simp only [Res.pre] at he
      rw [he] at hr
      exact ih hr
    · rw [hr] at he; cases he
  · rw [lexL_bad h hi] at he
    injection he with he; injection he with h1 h2; subst h2
    exact item_bad h hi
theorem lexA_ok {bs : Bs} (h : (lexA bs).2.2 = 0) : (lexA bs).2.1 = 0 ∧ bs.length ≤ 1048576 ∧ (lexA bs).1.length ≤ bs.length ∧ ∀ t ∈ (lexA bs).1, t.text.length ≤ bs.length ∧ t.at_ ≤ bs.length := by
  unfold lexA at h ⊢
  split at h
  · cases h
  · next hl =>
    rw [if_neg hl]
    rcases hr : lexL bs 0 with e0 | l0
    · rw [hr] at h
      exact absurd h (lexL_wrong hr)
    · obtain ⟨a, b⟩ := lexL_all hr
      simp only [lexT]
      exact ⟨trivial, by omega, a, fun t ht => by have := b t ht; omega⟩

theorem own_view {w : World} {base : Nat} {e : TypeId} {size n k c : Nat} {A : Option Addr} {xs : List Value} (h : w.ownsRow base e size (.slice A k c) n xs) : k = n ∧ k ≤ c ∧ (0 < n → ∃ g, A = some ⟨g, 0, none⟩ ∧ g < w.heap.size ∧ ∀ (j : Nat) (u : Value), xs[j]? = some u → w.cell? ⟨g, j, none⟩ = some u) := by
  refine ⟨own_len h, ?_, fun h0 => ?_⟩
  · rcases h.2 with ⟨e, h1⟩ | ⟨g, cap, cur, e, hb, hg, hn2, hm, hs, ht⟩ <;> cases e
    · exact Nat.le_refl _
    · exact hn2
  · rcases h.2 with ⟨e, h1⟩ | ⟨g, cap, cur, e, hb, hg, hn2, hm, hs, ht⟩
    · omega
    · cases e
      refine ⟨g, rfl, lt_of_block hg, fun j u hj => ?_⟩
      have := h.cells (g := g) rfl j u hj
      rw [add_at] at this
      exact this
/-- The cells of constraints, one by one. -/
theorem flat8 : ∀ (l : List (ConV × ConL)) (i : Nat) (p : ConV × ConL) (j : Nat) (u : Value), l[i]? = some p → (p.1.cells p.2.kind p.2.K)[j]? = some u → (l.flatMap fun p => (p.1.cells p.2.kind p.2.K).toList)[i * 8 + j]? = some u := by
  intro l
  induction l with
  | nil => intro i p j u h; simp at h
  | cons q l ih =>
    intro i p j u hi hj
    have hj8 : j < 8 := by have := (Array.getElem?_eq_some_iff.1 hj).1; simpa using this
    rw [List.flatMap_cons]
    cases i with
    | zero =>
      simp only [List.getElem?_cons_zero] at hi
      cases hi
      rw [Nat.zero_mul, Nat.zero_add, List.getElem?_append_left (by simpa using hj8)]
      simpa using hj
    | succ i =>
      simp only [List.getElem?_cons_succ] at hi
      rw [List.getElem?_append_right (by simp; omega)]
      have := ih i p j u hi hj
      rw [show (i + 1) * 8 + j - (q.1.cells q.2.kind q.2.K).toList.length = i * 8 + j by simp; omega]
      exact this
/-- What was read, as a model. -/
theorem mod_of {S : Nat → Bool} {w w0 : World} {B : Nat} {r : PRest} {t : Sl} {ts : List Tok} {m : ModL} (h : IsP S w0 B r t ts m) (pn : w.ownsRow 0 9 1 (.slice r.n.A r.n.n r.n.c) m.names.length (m.names.map strB)) (pd : DomsIn S w (.slice r.d.A r.d.n r.d.c) m.doms) (pc : ConsIn S w (.slice r.c.A r.c.n r.c.c) m.cons) : ModIn w ⟨r.n, r.d, r.c⟩ m := by
  obtain ⟨hn, hnc, hnv⟩ := own_view pn
  obtain ⟨xs, hd1, hd2⟩ := pd
  obtain ⟨hd, hdc, hdv⟩ := own_view hd1
  obtain ⟨cs, hc0, hc1, hc2⟩ := pc
  obtain ⟨hc, hcc, hcv⟩ := own_view hc1
  have n256 := h.n256
  have c1024 := h.c1024
  have hl := h.len
  refine ⟨⟨hn, fun h0 => ?_, by simp only; omega, hnc⟩, ⟨hd, by simp only; omega, fun h0 => ?_⟩, ⟨hc, by simp only; omega, hcc, fun h0 => ?_⟩, h.short, fun b hb => by have := h.brief b hb; omega⟩
  · simp only at h0
    obtain ⟨g, e1, hg, hcell⟩ := hnv (by omega)
    refine ⟨⟨g, 0, none⟩, e1, hg, fun j hj => ?_⟩
    simp only at hj
    have hjl : j < m.names.length := by omega
    rw [add_at]
    refine hcell j _ ?_
    show _ = some (strV (m.names.getD j []))
    rw [List.getElem?_map, List.getElem?_eq_getElem hjl, List.getD_eq_getElem?_getD, List.getElem?_eq_getElem hjl]
    rfl
  · simp only at h0
    obtain ⟨g, e1, hg, hcell⟩ := hdv (by omega)
    refine ⟨⟨g, 0, none⟩, e1, hg, fun i hi => ?_⟩
    simp only at hi
    have hil : i < m.doms.length := by omega
    have hxl : xs.length = m.doms.length := by have := hd1.1; simpa using this
    have hx : xs[i]? = some (xs[i]'(by omega)) := List.getElem?_eq_getElem (by omega)
    have hm : m.doms[i]? = some (m.doms[i]'hil) := List.getElem?_eq_getElem hil
    refine ⟨xs[i]'(by omega), ?_, ?_⟩
    · rw [add_at]
      refine hcell i _ ?_
      rw [List.getElem?_map, hx]
      rfl
    · rw [List.getD_eq_getElem?_getD, hm]
      exact (hd2 i _ _ hx hm).unhide
  · simp only at h0
    obtain ⟨g, e1, hg, hcell⟩ := hcv (by omega)
    refine ⟨g, 0, e1, hg, fun i hi => ?_⟩
    simp only at hi
    have hil : i < m.cons.length := by omega
    have hx : cs[i]? = some (cs[i]'(by omega)) := List.getElem?_eq_getElem (by omega)
    have hm : m.cons[i]? = some (m.cons[i]'hil) := List.getElem?_eq_getElem hil
    refine ⟨cs[i]'(by omega), fun j u hj => ?_, ?_⟩
    · rw [Nat.zero_add]
      rw [List.getD_eq_getElem?_getD, hm] at hj
      refine hcell _ u (flat8 _ i (cs[i]'(by omega), m.cons[i]'hil) j u ?_ hj)
      rw [List.getElem?_zip_eq_some]
      exact ⟨hx, hm⟩
    · rw [List.getD_eq_getElem?_getD, hm]
      exact (hc2 i _ _ hx hm).unhide

theorem IsP.mod {S : Nat → Bool} {w : World} {B : Nat} {r : PRest} {t : Sl} {ts : List Tok} {m : ModL} (h : IsP S w B r t ts m) : ModIn w ⟨r.n, r.d, r.c⟩ m := mod_of h h.px.n h.px.d h.px.c
theorem set7_heap {w : World} {P g : Nat} (a b c d e av ev : Value) (h0 : g ≠ P) (h1 : g ≠ P + 1) (h2 : g ≠ P + 2) : (set7 w P a b c d e av ev).heap[g]? = w.heap[g]? := by
  simp [Go.Proofs.YtgemgmdnnjaghaaGreatDoor.set7, World.setCell, Array.getElem?_modify, Ne.symm h0, Ne.symm h1, Ne.symm h2]
/-- The model stays where Parse writes its results. -/
theorem IsP.mod7 {S : Nat → Bool} {w : World} {B P : Nat} {r : PRest} {t : Sl} {ts : List Tok} {m : ModL} {mc : Array Value} {x y : Value} (h : IsP S w B r t ts m) (hB : Boxes3 w P mc x y) (hS : S P = true ∧ S (P + 1) = true ∧ S (P + 2) = true) (a b c d e av ev : Value) : ModIn (set7 w P a b c d e av ev) ⟨r.n, r.d, r.c⟩ m := by
  have hm : Mv S w (set7 w P a b c d e av ev) := (((((((Mv.refl S w).setCell (p := ⟨P, 0, none⟩) hS.1 a).setCell (p := ⟨P, 1, none⟩) hS.1 b).setCell (p := ⟨P, 2, none⟩) hS.1 c).setCell (p := ⟨P, 3, none⟩) hS.1 d).setCell (p := ⟨P, 4, none⟩) hS.1 e).setCell (p := ⟨P + 1, 0, none⟩) hS.2.1 av).setCell (p := ⟨P + 2, 0, none⟩) hS.2.2 ev
  have hk : ∀ (g : Nat) (cur : Array Value) (s : TypeId), w.heap[g]? = some (.cells cur s (0, 0)) → s ≠ 30 → s ≠ 3 → s ≠ 32 → (set7 w P a b c d e av ev).heap[g]? = w.heap[g]? := fun g cur s hg s0 s1 s2 => set7_heap a b c d e av ev (ty_ne hg hB.m s0) (ty_ne hg hB.a s1) (ty_ne hg hB.e s2)
  refine mod_of h (own_same h.px.n fun g hg hl => ?_) (h.px.d.keep hm (fun _ _ => rfl) fun g hg hl => ?_) (h.px.c.keep hm (fun _ _ => rfl) fun g hg hl => ?_)
  · obtain ⟨cur, hc⟩ := h.px.nT hg
    exact hk g cur _ hc (by decide) (by decide) (by decide)
  · obtain ⟨cur, hc⟩ := h.px.dT hg
    exact hk g cur _ hc (by decide) (by decide) (by decide)
  · obtain ⟨cur, hc⟩ := h.px.cT hg
    exact hk g cur _ hc (by decide) (by decide) (by decide)

/-- The set of the parser's own blocks, at its start. -/
def startS (kp : List (Nat × Array Value × TypeId)) (B : Nat) (t : Sl) : Nat → Bool := fun g => g == B || g + 1 == B || decide (0 < t.n ∧ t.A = some ⟨g, 0, none⟩) || kp.any (·.1 == g)
theorem startS_no {kp : List (Nat × Array Value × TypeId)} {B : Nat} {t : Sl} {g : Nat} (h1 : g + 1 < B) (h2 : 0 < t.n → t.A ≠ some ⟨g, 0, none⟩) (h3 : ∀ p ∈ kp, p.1 ≠ g) : startS kp B t g = false := by
  unfold startS
  have a : (g == B) = false := by simp; omega
  have b : (g + 1 == B) = false := by simp; omega
  have c : kp.any (·.1 == g) = false := by
    rw [List.any_eq_false]
    intro p hp e
    exact h3 p hp (by simpa using e)
  rw [a, b, c]
  simp
  exact h2
theorem startS_yes {kp : List (Nat × Array Value × TypeId)} {B : Nat} {t : Sl} {g : Nat} (h : startS kp B t g = true) : g = B ∨ g + 1 = B ∨ (0 < t.n ∧ t.A = some ⟨g, 0, none⟩) ∨ ∃ p ∈ kp, p.1 = g := by
  unfold startS at h
  simp only [Bool.or_eq_true, beq_iff_eq, decide_eq_true_eq, List.any_eq_true] at h
  rcases h with ((h | h) | h) | h
  · exact .inl h
  · exact .inr (.inl h)
  · exact .inr (.inr (.inl h))
  · exact .inr (.inr (.inr h))
theorem startS_kp {kp : List (Nat × Array Value × TypeId)} {B : Nat} {t : Sl} {p : Nat × Array Value × TypeId} (h : p ∈ kp) : startS kp B t p.1 = true := by
  unfold startS
  simp only [Bool.or_eq_true, List.any_eq_true]
  exact .inr ⟨p, h, by simp⟩
/-- The parser at its start. -/
theorem IsP.start {w : World} {t : Sl} {ts : List Tok} {en : Nat} (kp : List (Nat × Array Value × TypeId)) (hkp : ∀ p ∈ kp, w.heap[p.1]? = some (.cells p.2.1 p.2.2 (0, 0)) ∧ p.2.2 ∉ [9, 35, 37, 84] ∧ p.1 ≠ 0 ∧ p.1 ≠ 5) (hE : EntIn w) (hT : TabZ w) (hti : TokIn w t ts) (hto : 0 < t.n → ∃ g cur, t.A = some ⟨g, 0, none⟩ ∧ w.heap[g]? = some (.cells cur 118 (0, 0))) :
    IsP (startS kp (w.heap.size + 1) t) ((w.alloc (.map #[] 0)).alloc (.cells (pcells t ⟨en, .map (some w.heap.size), ⟨none, 0, 0⟩, ⟨none, 0, 0⟩, ⟨none, 0, 0⟩, 0, 0, kp⟩) 84)) (w.heap.size + 1) ⟨en, .map (some w.heap.size), ⟨none, 0, 0⟩, ⟨none, 0, 0⟩, ⟨none, 0, 0⟩, 0, 0, kp⟩ t ts noMod := by
  have hb1 := below1 w (.map #[] 0)
  have hb2 := below1 (w.alloc (.map #[] 0)) (.cells (pcells t ⟨en, .map (some w.heap.size), ⟨none, 0, 0⟩, ⟨none, 0, 0⟩, ⟨none, 0, 0⟩, 0, 0, kp⟩) 84)
  have hb : Below w.heap.size w ((w.alloc (.map #[] 0)).alloc (.cells (pcells t ⟨en, .map (some w.heap.size), ⟨none, 0, 0⟩, ⟨none, 0, 0⟩, ⟨none, 0, 0⟩, 0, 0, kp⟩) 84)) := hb1.trans (hb2.mono (by simp))
  have hbox := heap_alloc_new (w.alloc (.map #[] 0)) (.cells (pcells t ⟨en, .map (some w.heap.size), ⟨none, 0, 0⟩, ⟨none, 0, 0⟩, ⟨none, 0, 0⟩, 0, 0, kp⟩) 84)
  rw [alloc_size] at hbox
  have hSt : ∀ g cur, 0 < t.n → t.A = some ⟨g, 0, none⟩ → w.heap[g]? = some (.cells cur 118 (0, 0)) → startS kp (w.heap.size + 1) t g = true := fun g cur h0 e _ => by unfold startS; simp [h0, e]
  have hEn : startS kp (w.heap.size + 1) t 0 = false := startS_no (by have := hE.1; omega) (fun h0 e => by
    obtain ⟨g, o, e2, hg, hc⟩ := hti.lies h0
    rw [e] at e2
    cases e2
    have h1 := (hc 0 (by rw [← hti.len]; exact h0)).2.2.1
    have h2 := hE.2 2 _ rfl
    rw [Nat.zero_mul] at h1
    rw [h2] at h1
    cases h1) (fun p hp => (hkp p hp).2.2.1)
  have hTb : startS kp (w.heap.size + 1) t 5 = false := startS_no (by have := hT.1; omega) (fun h0 e => by
    obtain ⟨g, o, e2, hg, hc⟩ := hti.lies h0
    rw [e] at e2
    cases e2
    have h1 := (hc 0 (by rw [← hti.len]; exact h0)).1
    have h2 := hT.2 0 (by decide)
    rw [Nat.zero_mul] at h1
    rw [h2] at h1
    cases h1) (fun p hp => (hkp p hp).2.2.2)
  refine ⟨⟨⟨hbox, by simp [startS], fun g hg => ?_, hti.below hb, fun h0 => ?_⟩, ⟨w.heap.size, rfl, (Plc.new w).keep (hb2.block _ (by simp)), by omega, by simp [startS]⟩, World.ownsRow_nil _ _ _ _, ⟨[], World.ownsRow_nil _ _ _ _, fun k x l h => by simp at h⟩, ⟨[], rfl, World.ownsRow_nil _ _ _ _, fun k x l h => by simp at h⟩, fun g e => (by cases e), fun g e => (by cases e), fun g e => (by cases e), ?_, ?_, fun p hp => ⟨(hb.block _ (lt_of_block (hkp p hp).1)).trans (hkp p hp).1, startS_kp hp, (hkp p hp).2.1⟩⟩, rfl, rfl, rfl, by simp [noMod], by simp [noMod], fun b hb => absurd hb (by simp [noMod]), fun l hl => absurd hl (by simp [noMod])⟩
  · rcases startS_yes hg with e | e | ⟨h0, e⟩ | ⟨p, hp, e⟩
    · simp; omega
    · simp; omega
    · obtain ⟨g', cur, e2, h3⟩ := hto h0
      rw [e] at e2
      cases e2
      have := lt_of_block h3
      simp; omega
    · have := lt_of_block (hkp p hp).1
      simp; omega
  · obtain ⟨g, cur, e, h3⟩ := hto h0
    refine ⟨⟨g, 0, none⟩, cur, e, hSt g cur h0 e h3, ?_, (hb.block g (lt_of_block h3)).trans h3⟩
    have := lt_of_block h3
    simp only
    omega
  · exact ⟨by rw [hide_size]; exact (hE.below hb).1, fun j v e => cell_hide ((hE.below hb).2 j v e) hEn⟩
  · exact ⟨by rw [hide_size]; exact (hT.below hb).1, fun j hj => cell_hide ((hT.below hb).2 j hj) hTb⟩

theorem TokIn.same {w w' : World} {t : Sl} {ts : List Tok} (h : TokIn w t ts) (hto : 0 < t.n → ∃ g cur, t.A = some ⟨g, 0, none⟩ ∧ w.heap[g]? = some (.cells cur 118 (0, 0))) (hk : ∀ (g : Nat) (cur : Array Value), w.heap[g]? = some (.cells cur 118 (0, 0)) → w'.heap[g]? = w.heap[g]?) : TokIn w' t ts ∧ (0 < t.n → ∃ g cur, t.A = some ⟨g, 0, none⟩ ∧ w'.heap[g]? = some (.cells cur 118 (0, 0))) := by
  refine ⟨⟨h.len, h.cap, h.big, h.brief, fun h0 => ?_⟩, fun h0 => ?_⟩
  · obtain ⟨g, o, e, hg, hc⟩ := h.lies h0
    obtain ⟨g', cur, e2, h3⟩ := hto h0
    rw [e] at e2
    cases e2
    have hh := hk _ cur h3
    have hcell : ∀ o, w'.cell? ⟨g, o, none⟩ = w.cell? ⟨g, o, none⟩ := fun o => World.cell?_of_block hh
    refine ⟨g, 0, e, lt_of_block (hh.trans h3), fun i hi => ?_⟩
    obtain ⟨a, b, c, d⟩ := hc i hi
    exact ⟨(hcell _).trans a, (hcell _).trans b, (hcell _).trans c, (hcell _).trans d⟩
  · obtain ⟨g', cur, e2, h3⟩ := hto h0
    exact ⟨g', cur, e2, (hk _ cur h3).trans h3⟩
theorem lex_fresh (s : ByteArray) (w : World) (hs : s.size ≤ 9223372036854775807) :
    Calls Tryz.prog 37 #[.string s] w fun e w' => ∃ v, e = .returned (.tuple #[v, .int .i64 ((lexA (bl s)).2.1 : Nat), .int .i64 (lexA (bl s)).2.2]) ∧ w'.ownsRow w.heap.size 118 4 v (lexA (bl s)).1.length (cellsL (lexA (bl s)).1) ∧ Below w.heap.size w w' := by
  unfold lexA
  rw [bl_len]
  by_cases h : 1048576 < s.size
  · rw [if_pos h]
    refine (lex_long s w h hs).mono ?_
    rintro e w' ⟨rfl, rfl⟩
    exact ⟨_, rfl, World.ownsRow_nil _ _ _ _, Below.refl _ _⟩
  · rw [if_neg h]
    refine (lex_short s w (by omega)).mono ?_
    rintro e w' ⟨v, rfl, h1, h2⟩
    exact ⟨_, rfl, h1, h2⟩
/-- What Parse hands back. -/
def ParseR (w : World) (a : ModL × Nat × Int) (e : Ending) (w' : World) : Prop := ∃ v : ModV, e = .returned (.tuple #[v.val a.1.goal a.1.obj, .int .i64 (a.2.1 : Nat), .int .i64 a.2.2]) ∧ ModIn w' v a.1 ∧ Below w.heap.size w w'
theorem noMod_in (w : World) : ModIn w ⟨⟨none, 0, 0⟩, ⟨none, 0, 0⟩, ⟨none, 0, 0⟩⟩ noMod := ⟨IsStrs.nil w, IsRows.nil w, IsCons.nil w, fun l hl => absurd hl (by simp [noMod]), fun b hb => absurd hb (by simp [noMod])⟩

end Go.Proofs.YtgemgmdnnjaghaaGreatDoor

/- The parser's box; contracts: throw, ahead, take, found, want, nothing. -/
import Derived.Test.YtgemgmdnnjaghaaGreatDoorPm
import Derived.WalkSmall
namespace Go.Proofs.YtgemgmdnnjaghaaGreatDoor
open Go.RowKit

/-- What is thrown. -/
def fltV (f : Flt) : List PanicEntry := [{ v := .iface 80 (.agg #[.int .i64 (f.1 : Nat), .int .i64 f.2]), recovered := false }]
/-- What a box holds beside its tokens. -/
structure PRest where
  en : Nat
  mp : Value
  n : Sl
  d : Sl
  c : Sl
  goal : Int
  obj : Int
  /-- What else is known: blocks that nobody writes to, and what they hold. -/
  kp : List (Nat × Array Value × TypeId)
def pcells (t : Sl) (r : PRest) : Array Value := #[.slice t.A t.n t.c, .int .i64 (r.en : Nat), r.mp, .slice r.n.A r.n.n r.n.c, .slice r.d.A r.d.n r.d.c, .slice r.c.A r.c.n r.c.c, .int .i64 r.goal, .int .i64 r.obj]
/-- A token's value. -/
def ptokV (t : Tok) : Value := .agg #[.int .i64 (t.kind : Nat), .string (txt t.text), .int .i64 t.num, .int .i64 (t.at_ : Nat)]
/-- Tokens that aren't read yet. -/
structure TokIn (w : World) (t : Sl) (ts : List Tok) : Prop where
  len : t.n = ts.length
  cap : t.n ≤ t.c
  big : t.n ≤ 1048576
  brief : ∀ x ∈ ts, x.text.length ≤ 1048576
  lies : 0 < t.n → ∃ g o, t.A = some ⟨g, o, none⟩ ∧ g < w.heap.size ∧ ∀ i (hi : i < ts.length), w.cell? ⟨g, o + i * 4, none⟩ = some (.int .i64 ((ts[i]).kind : Nat)) ∧ w.cell? ⟨g, o + i * 4 + 1, none⟩ = some (.string (txt (ts[i]).text)) ∧ w.cell? ⟨g, o + i * 4 + 2, none⟩ = some (.int .i64 (ts[i]).num) ∧ w.cell? ⟨g, o + i * 4 + 3, none⟩ = some (.int .i64 ((ts[i]).at_ : Nat))
theorem TokIn.below {w w' : World} {t : Sl} {ts : List Tok} (h : TokIn w t ts) (hb : Below w.heap.size w w') : TokIn w' t ts := by
  refine ⟨h.len, h.cap, h.big, h.brief, fun h0 => ?_⟩
  obtain ⟨g, o, e, hg, hc⟩ := h.lies h0
  refine ⟨g, o, e, Nat.lt_of_lt_of_le hg hb.size, fun i hi => ?_⟩
  obtain ⟨a, b, c, d⟩ := hc i hi
  exact ⟨(hb.cell hg).trans a, (hb.cell hg).trans b, (hb.cell hg).trans c, (hb.cell hg).trans d⟩
/-- The parser, with what is to be read. -/
structure IsTk (S : Nat → Bool) (w : World) (B : Nat) (r : PRest) (t : Sl) (ts : List Tok) : Prop where
  box : w.heap[B]? = some (.cells (pcells t r) 84 (0, 0))
  hid : S B = true
  lt : ∀ g, S g = true → g < w.heap.size
  tok : TokIn w t ts
  own : 0 < t.n → ∃ ad cur, t.A = some ad ∧ S ad.block = true ∧ ad.block ≠ B ∧ w.heap[ad.block]? = some (.cells cur 118 (0, 0))
/-- It stays where its blocks do. -/
theorem IsTk.keep {S : Nat → Bool} {w w' : World} {B : Nat} {r : PRest} {t : Sl} {ts : List Tok} (h : IsTk S w B r t ts) (hk : ∀ g, S g = true → w'.heap[g]? = w.heap[g]?) : IsTk S w' B r t ts := by
  have hlt : ∀ g, S g = true → g < w'.heap.size := fun g hg => by
    have h1 := h.lt g hg
    have h2 := hk g hg
    rw [Array.getElem?_eq_getElem h1] at h2
    exact (Array.getElem?_eq_some_iff.1 h2).1
  refine ⟨(hk B h.hid).trans h.box, h.hid, hlt, ⟨h.tok.len, h.tok.cap, h.tok.big, h.tok.brief, fun h0 => ?_⟩, fun h0 => by
    obtain ⟨ad, cur, e2, hS, hne, hb⟩ := h.own h0
    exact ⟨ad, cur, e2, hS, hne, (hk _ hS).trans hb⟩⟩
  obtain ⟨g, o, e, hg, hc⟩ := h.tok.lies h0
  obtain ⟨ad, cur, e2, hS, hne, hb⟩ := h.own h0
  rw [e] at e2
  cases e2
  have hcell : ∀ o, w'.cell? ⟨g, o, none⟩ = w.cell? ⟨g, o, none⟩ := fun o => World.cell?_of_block (hk g hS)
  refine ⟨g, o, e, hlt g hS, fun i hi => ?_⟩
  obtain ⟨a, b, c, d⟩ := hc i hi
  exact ⟨(hcell _).trans a, (hcell _).trans b, (hcell _).trans c, (hcell _).trans d⟩
theorem IsTk.step {S : Nat → Bool} {w w' : World} {B : Nat} {r : PRest} {t : Sl} {ts : List Tok} (h : IsTk S w B r t ts) (hb : Below w.heap.size w w') : IsTk S w' B r t ts :=
  h.keep fun g hg => hb.block g (h.lt g hg)
theorem IsTk.cells {S : Nat → Bool} {w : World} {B : Nat} {r : PRest} {t : Sl} {ts : List Tok} (h : IsTk S w B r t ts) :
    w.cell? ⟨B, 0, none⟩ = some (.slice t.A t.n t.c) ∧ w.cell? ⟨B, 1, none⟩ = some (.int .i64 (r.en : Nat)) ∧ w.cell? ⟨B, 2, none⟩ = some r.mp ∧ w.cell? ⟨B, 3, none⟩ = some (.slice r.n.A r.n.n r.n.c) ∧ w.cell? ⟨B, 4, none⟩ = some (.slice r.d.A r.d.n r.d.c) ∧ w.cell? ⟨B, 5, none⟩ = some (.slice r.c.A r.c.n r.c.c) ∧ w.cell? ⟨B, 6, none⟩ = some (.int .i64 r.goal) ∧ w.cell? ⟨B, 7, none⟩ = some (.int .i64 r.obj) := by
  refine ⟨?_, ?_, ?_, ?_, ?_, ?_, ?_, ?_⟩ <;> (unfold World.cell?; rw [h.box]; rfl)
theorem IsTk.free {S : Nat → Bool} {w : World} {B : Nat} {r : PRest} {t : Sl} {ts : List Tok} (h : IsTk S w B r t ts) (j : Nat) : w.frozen? ⟨B, j, none⟩ = false := by
  unfold World.frozen?; rw [h.box]; simp
/-- What is ahead. -/
theorem TokIn.head {w : World} {t : Sl} {x : Tok} {ts : List Tok} (h : TokIn w t (x :: ts)) : ∃ g o, t.A = some ⟨g, o, none⟩ ∧ g < w.heap.size ∧ w.cell? ⟨g, o, none⟩ = some (.int .i64 (x.kind : Nat)) ∧ w.cell? ⟨g, o + 1, none⟩ = some (.string (txt x.text)) ∧ w.cell? ⟨g, o + 2, none⟩ = some (.int .i64 x.num) ∧ w.cell? ⟨g, o + 3, none⟩ = some (.int .i64 (x.at_ : Nat)) := by
  obtain ⟨g, o, e, hg, hc⟩ := h.lies (by rw [h.len]; simp)
  have := hc 0 (by simp)
  simp only [Nat.zero_mul, Nat.add_zero, List.getElem_cons_zero] at this
  exact ⟨g, o, e, hg, this⟩
/-- Behind it. -/
theorem TokIn.tail {w : World} {t : Sl} {x : Tok} {ts : List Tok} {g o : Nat} (h : TokIn w t (x :: ts)) (hA : t.A = some ⟨g, o, none⟩) (A' : Option Addr) (hA' : 0 < ts.length → A' = some ⟨g, o + 4, none⟩) : TokIn w ⟨A', t.n - 1, t.c - 1⟩ ts := by
  have hl := h.len
  have hc' := h.cap
  have hb := h.big
  simp only [List.length_cons] at hl
  refine ⟨by simp only; omega, by simp only; omega, by simp only; omega, fun y hy => h.brief y (List.mem_cons_of_mem _ hy), fun h0 => ?_⟩
  obtain ⟨g', o', e, hg, hc⟩ := h.lies (by omega)
  rw [hA] at e
  injection e with e
  injection e with e1 e2
  subst e1; subst e2
  refine ⟨g, o + 4, hA' (by simp only at h0; omega), hg, fun i hi => ?_⟩
  have := hc (i + 1) (by simp; omega)
  simp only [List.getElem_cons_succ] at this
  rw [show o + (i + 1) * 4 = o + 4 + i * 4 by omega] at this
  exact this

theorem throw_any (t : Tok) (e : Int) (w : World) : Calls Tryz.prog 74 #[ptokV t, .int .i64 e] w fun x w' => x = .panicked (fltV (t.at_, e)) ∧ Below w.heap.size w w' := by
  unfold ptokV fltV
  go_enter Tryz.func74, Tryz.ntmps74
  go_wp2
  exact ⟨rfl, rfl, below1 _ _⟩

/-- One block alone. -/
def one (B : Nat) : Nat → Bool := (· == B)
theorem one_self (B : Nat) : one B B = true := by simp [one]
/-- What a reading of tokens leaves: a value, or a fault. -/
def After {α : Type} (S : Nat → Bool) (B : Nat) (r : PRest) (w : World) (res : PR α) (ret : α → World → Value → Prop) (e : Ending) (w' : World) : Prop :=
  Mv (one B) w w' ∧ match res with
  | .ok (x, rs) => (∃ v, e = .returned v ∧ ret x w' v) ∧ ∃ t', IsTk S w' B r t' rs
  | .error f => e = .panicked (fltV f)
theorem IsTk.head {S : Nat → Bool} {w : World} {B : Nat} {r : PRest} {t : Sl} {x : Tok} {ts : List Tok} (h : IsTk S w B r t (x :: ts)) : ∃ g o, t.A = some ⟨g, o, none⟩ ∧ g < w.heap.size ∧ g ≠ B ∧ w.cell? ⟨g, o, none⟩ = some (.int .i64 (x.kind : Nat)) ∧ w.cell? ⟨g, o + 1, none⟩ = some (.string (txt x.text)) ∧ w.cell? ⟨g, o + 2, none⟩ = some (.int .i64 x.num) ∧ w.cell? ⟨g, o + 3, none⟩ = some (.int .i64 (x.at_ : Nat)) := by
  obtain ⟨g, o, e, hg, h0, h1, h2, h3⟩ := h.tok.head
  obtain ⟨ad, cur, e2, hS, hne, hb⟩ := h.own (by rw [h.tok.len]; simp)
  rw [e] at e2
  cases e2
  exact ⟨g, o, e, hg, hne, h0, h1, h2, h3⟩

theorem ahead_any {S : Nat → Bool} {B : Nat} {r : PRest} {t : Sl} {ts : List Tok} (w : World) (h : IsTk S w B r t ts) : Calls Tryz.prog 109 #[.pointer (some ⟨B, 0, none⟩)] w fun e w' => e = .returned (ptokV (aheadT r.en ts)) ∧ Below w.heap.size w w' := by
  obtain ⟨c0, c1, -⟩ := (h.step (below1 w (.cells #[.int .i64 0, .string ⟨#[]⟩, .int .i64 0, .int .i64 0] 118))).cells
  have hlen := h.tok.len
  cases ts with
  | nil =>
    have ht : t.n = 0 := hlen
    have HB := Lib.hid (h.lt B h.hid)
    rw [ht] at c0
    clear h hlen ht
    unfold aheadT ptokV txt
    go_enter Tryz.func109, Tryz.ntmps109
    go_wp2
    exact bodyPost_ret (v := .agg #[.int .i64 0, .string ⟨#[]⟩, .int .i64 0, .int .i64 (r.en : Nat)]) (by simp [results, Tryz.results109, go_sem]) rfl ⟨rfl, below1 _ _⟩
  | cons x ts =>
    obtain ⟨g, o, hA, hg, hne, d0, d1, d2, d3⟩ := h.head
    have k := below1 w (.cells #[.int .i64 0, .string ⟨#[]⟩, .int .i64 0, .int .i64 0] 118)
    have e0 := (k.cell (p := ⟨g, o, none⟩) hg).trans d0
    have e1 := (k.cell (p := ⟨g, o + 1, none⟩) hg).trans d1
    have e2 := (k.cell (p := ⟨g, o + 2, none⟩) hg).trans d2
    have e3 := (k.cell (p := ⟨g, o + 3, none⟩) hg).trans d3
    have hn : t.n = ts.length + 1 := hlen
    have hn0 : (((t.n : Nat) : Int) == 0) = false := by simp; omega
    have hn1 : (0 : Int) < (t.n : Nat) := by omega
    rw [hA] at c0
    clear h hlen hA k d0 d1 d2 d3 hn
    unfold aheadT ptokV
    go_enter Tryz.func109, Tryz.ntmps109
    go_wp2
    exact bodyPost_ret (v := .agg #[.int .i64 (x.kind : Nat), .string (txt x.text), .int .i64 x.num, .int .i64 (x.at_ : Nat)]) (by simp [results, Tryz.results109, go_sem]) rfl ⟨rfl, below1 _ _⟩

/-- One token less is to be read. -/
theorem IsTk.drop {S : Nat → Bool} {w : World} {B : Nat} {r : PRest} {t : Sl} {x : Tok} {ts : List Tok} (h : IsTk S w B r t (x :: ts)) :
    ∃ A', (∀ W, (Instr.slice 76 (.slice t.A t.n t.c) (some (.int .i64 1)) none none).run Tryz.prog W = .ok (.slice A' (t.n - 1) (t.c - 1)) W) ∧ TokIn w ⟨A', t.n - 1, t.c - 1⟩ ts ∧ (0 < t.n - 1 → ∃ ad cur, A' = some ad ∧ S ad.block = true ∧ ad.block ≠ B ∧ w.heap[ad.block]? = some (.cells cur 118 (0, 0))) := by
  obtain ⟨g, o, hA, hg, hne, -⟩ := h.head
  have hn : t.n = ts.length + 1 := h.tok.len
  have hc := h.tok.cap
  refine ⟨if t.c = 1 then t.A else t.A.map (·.add (1 * 4)), fun W => ?_, ?_, fun h0 => ?_⟩
  · have hu := run_underlying Tryz.underlying76 W
    have h1 : (1 : Int) ≤ (t.n : Nat) := by omega
    simp [Instr.slice, hu, Instr.sliceBounds, Instr.sliceBound, asIntOf, h1, go_sem]
  · refine h.tok.tail hA _ fun h0 => ?_
    rw [if_neg (by omega), hA]
    simp [Addr.add]
  · obtain ⟨ad, cur, e2, hS, hne, hb⟩ := h.own (by omega)
    rw [if_neg (by omega), e2]
    exact ⟨_, cur, rfl, by rw [add_block]; exact hS, by rw [add_block]; exact hne, by rw [add_block]; exact hb⟩
/-- Behind a step that writes to the box alone. -/
theorem IsTk.moved {S : Nat → Bool} {w w' : World} {B : Nat} {r r' : PRest} {t t' : Sl} {ts ts' : List Tok} (h : IsTk S w B r t ts) (hm : Mv (one B) w w') (hbox : w'.heap[B]? = some (.cells (pcells t' r') 84 (0, 0))) (htok : TokIn w t' ts') (hown : 0 < t'.n → ∃ ad cur, t'.A = some ad ∧ S ad.block = true ∧ ad.block ≠ B ∧ w.heap[ad.block]? = some (.cells cur 118 (0, 0))) : IsTk S w' B r' t' ts' := by
  refine ⟨hbox, h.hid, fun g hg => Nat.lt_of_lt_of_le (h.lt g hg) hm.size, ⟨htok.len, htok.cap, htok.big, htok.brief, fun h0 => ?_⟩, fun h0 => by
    obtain ⟨ad, cur, e2, hS, hne, hb⟩ := hown h0
    exact ⟨ad, cur, e2, hS, hne, (hm.block _ (lt_of_block hb) (by simpa [one] using hne)).trans hb⟩⟩
  obtain ⟨g, o, e, hg, hc⟩ := htok.lies h0
  obtain ⟨ad, cur, e2, hS, hne, hb⟩ := hown h0
  rw [e] at e2
  cases e2
  have hcell : ∀ o, w'.cell? ⟨g, o, none⟩ = w.cell? ⟨g, o, none⟩ := fun o => World.cell?_of_block (hm.block g hg (by simpa [one] using hne))
  refine ⟨g, o, e, Nat.lt_of_lt_of_le hg hm.size, fun i hi => ?_⟩
  obtain ⟨a, b, c, d⟩ := hc i hi
  exact ⟨(hcell _).trans a, (hcell _).trans b, (hcell _).trans c, (hcell _).trans d⟩
/-- The tokens in the box. -/
theorem box_tok {w : World} {B : Nat} {r : PRest} {t : Sl} (h : w.heap[B]? = some (.cells (pcells t r) 84 (0, 0))) (t' : Sl) : (w.setCell ⟨B, 0, none⟩ (.slice t'.A t'.n t'.c)).heap[B]? = some (.cells (pcells t' r) 84 (0, 0)) := by
  simp [World.setCell, Array.getElem?_modify, h, pcells]
theorem setCell_block (w : World) (a : Addr) (v : Value) {k : Nat} (h : k ≠ a.block) : (w.setCell a v).heap[k]? = w.heap[k]? := Below.heap_setCell w a v k h

theorem Mv.put4 {S : Nat → Bool} {w w' : World} (h : Mv S w w') (a b c d : Value) : Mv S w (put4 w' w.heap.size a b c d) :=
  ⟨h.os, h.tape, h.output, by rw [put4_size]; exact h.size, fun k hk hS => (put4_heap _ _ _ _ _ _ _ (by omega)).trans (h.block k hk hS)⟩

abbrev tokObj (t : Tok) : Obj := .cells #[.int .i64 (t.kind : Nat), .string (txt t.text), .int .i64 t.num, .int .i64 (t.at_ : Nat)] 118
abbrev zeroTok : Obj := .cells #[.int .i64 0, .string ⟨#[]⟩, .int .i64 0, .int .i64 0] 118

theorem take_any {S : Nat → Bool} {B : Nat} {r : PRest} {t : Sl} {ts : List Tok} (k : Nat) (hk : k ≠ 0) (w : World) (h : IsTk S w B r t ts) : Calls Tryz.prog 69 #[.pointer (some ⟨B, 0, none⟩), .int .i64 (k : Nat)] w (After S B r w (takeP r.en k ts) fun x _ v => v = ptokV x) := by
  have hB : B < w.heap.size := h.lt B h.hid
  have A0 := Lib.hid (ahead_any (w.alloc zeroTok) (h.step (below1 w zeroTok)))
  have HT := Lib.hid h
  obtain ⟨x, hx⟩ : ∃ x, x = aheadT r.en ts := ⟨_, rfl⟩
  have HX := Lib.hid hx
  have CT := Lib.hid (throw_any x 6)
  rw [← hx] at A0
  unfold ptokV at A0 CT
  have HK := Lib.hid hk
  clear h hx hk
  go_enter Tryz.func69, Tryz.ntmps69
  go_wp2_with fail
  refine A0.out.mono ?_
  rintro e w1 ⟨rfl, b1⟩
  have T0 := (TBox.new 118 w (.int .i64 0) (.string ⟨#[]⟩) (.int .i64 0) (.int .i64 0)).below b1
  have hs1 : w.heap.size < w1.heap.size := by have := b1.size; simp at this; omega
  have B1 := Lib.hid ((below1 w zeroTok).trans (b1.mono (by simp)))
  have HT1 := Lib.hid (HT.out.step B1.out)
  cases hkk : ((x.kind : Nat) : Int) != (k : Nat)
  · have hxk : Hid (x.kind = k) := Lib.hid (by have := hkk; simp only [bne_eq_false_iff_eq] at this; omega)
    cases ts with
    | nil => exfalso; have h1 := hxk.out; rw [HX.out] at h1; exact HK.out h1.symm
    | cons y ts =>
      have hxy : Hid (x = y) := Lib.hid HX.out
      have HT2 := Lib.hid (HT1.out.step (below1 w1 (tokObj x)))
      obtain ⟨A', hsl, hT3, hO3⟩ := HT.out.drop
      have HO3 := Lib.hid hO3
      obtain ⟨c0, -⟩ := HT2.out.cells
      have f0 := HT2.out.free 0
      have HT3 := Lib.hid hT3
      obtain ⟨W3, hW3⟩ : ∃ W3, W3 = (w1.alloc (tokObj x)).setCell ⟨B, 0, none⟩ (.slice A' (t.n - 1) (t.c - 1)) := ⟨_, rfl⟩
      have HW3 := Lib.hid hW3
      have HB3 : Hid (W3.heap[B]? = some (.cells (pcells ⟨A', t.n - 1, t.c - 1⟩ r) 84 (0, 0))) := Lib.hid (by rw [hW3]; exact box_tok HT2.out.box ⟨A', t.n - 1, t.c - 1⟩)
      have T3 : TBox 118 W3 w.heap.size (.int .i64 0) (.string ⟨#[]⟩) (.int .i64 0) (.int .i64 0) := by
        rw [hW3]; exact (setCell_block _ _ _ (by simp; omega)).trans (T0.below (below1 _ _))
      have T4 : TBox 118 W3 w1.heap.size (.int .i64 (x.kind : Nat)) (.string (txt x.text)) (.int .i64 x.num) (.int .i64 (x.at_ : Nat)) := by
        rw [hW3]; exact (setCell_block _ _ _ (by simp; omega)).trans (TBox.new _ _ _ _ _ _)
      have M3 : Hid (Mv (one B) w W3) := Lib.hid (by rw [hW3]; exact ((Mv.of_below B1.out).alloc _).setCell (p := ⟨B, 0, none⟩) (one_self B) _)
      clear hT3 hO3 hW3 T0 b1 A0 HT1 HT2 B1
      go_upto_region 5 with fail
      rw [← HW3.out]
      obtain ⟨x0, x1, x2, x3⟩ := T3.cells
      obtain ⟨y0, y1, y2, y3⟩ := T4.cells
      have f0' := T3.free 0
      have f1' := T3.free 1
      have f2' := T3.free 2
      have f3' := T3.free 3
      have H3 := Lib.hid T3
      have MF : Hid (Mv (one B) w (put4 W3 w.heap.size (.int .i64 (x.kind : Nat)) (.string (txt x.text)) (.int .i64 x.num) (.int .i64 (x.at_ : Nat)))) := Lib.hid (M3.out.put4 _ _ _ _)
      have HF : Hid (IsTk S (put4 W3 w.heap.size (.int .i64 (x.kind : Nat)) (.string (txt x.text)) (.int .i64 x.num) (.int .i64 (x.at_ : Nat))) B r ⟨A', t.n - 1, t.c - 1⟩ ts) := Lib.hid (HT.out.moved MF.out ((put4_heap _ _ _ _ _ _ _ (by omega)).trans HB3.out) HT3.out HO3.out)
      have HTK : Hid (takeP r.en k (y :: ts) = .ok (x, ts)) := Lib.hid (by unfold takeP; rw [← HX.out, if_pos hxk.out]; rfl)
      clear T3 T4 HT3 HB3 M3 HT
      go_wp2
      refine bodyPost_ret (v := ptokV x) ?_ rfl ?_
      · have := (put4_same H3.out (.int .i64 (x.kind : Nat)) (.string (txt x.text)) (.int .i64 x.num) (.int .i64 (x.at_ : Nat))).cells
        obtain ⟨z0, z1, z2, z3⟩ := this
        simp [results, Tryz.results69, go_sem, z0, z1, z2, z3, ptokV]
      · unfold After
        rw [HTK.out]
        exact ⟨MF.out, ⟨_, rfl, rfl⟩, _, HF.out⟩
  · have HTK : Hid (takeP r.en k ts = .error (x.at_, 6)) := Lib.hid (by unfold takeP; rw [← HX.out, if_neg (fun e => by rw [e] at hkk; simp at hkk)])
    go_wp2_with fail
    refine (CT.out _).mono ?_
    rintro e w2 ⟨rfl, b2⟩
    refine ⟨rfl, ?_⟩
    unfold After
    rw [HTK.out]
    exact ⟨((Mv.of_below B1.out).alloc _).trans (Mv.of_below b2), rfl⟩

theorem txt_list (l : Bs) : (txt l).toList = l := by rw [ByteArray.toList_eq]; simp [txt]

theorem field1 (k v p : Int) (s : ByteArray) (W : World) : (Instr.field 118 (.agg #[.int .i64 k, .string s, .int .i64 v, .int .i64 p]) 1).run Tryz.prog W = .ok (.string s) W := by kernel_rfl
theorem field2 (k v p : Int) (s : ByteArray) (W : World) : (Instr.field 118 (.agg #[.int .i64 k, .string s, .int .i64 v, .int .i64 p]) 2).run Tryz.prog W = .ok (.int .i64 v) W := by kernel_rfl

theorem found_any {S : Nat → Bool} {B : Nat} {r : PRest} {t : Sl} {ts : List Tok} (sign : Bs) (hs : sign ≠ []) (w : World) (h : IsTk S w B r t ts) : Calls Tryz.prog 141 #[.pointer (some ⟨B, 0, none⟩), .string (txt sign)] w fun e w' => Mv (one B) w w' ∧
    (if (aheadT r.en ts).text = sign then e = .returned (.bool true) ∧ ∃ t', IsTk S w' B r t' ts.tail else e = .returned (.bool false) ∧ IsTk S w' B r t ts) := by
  have hB : B < w.heap.size := h.lt B h.hid
  have A0 := Lib.hid (ahead_any w h)
  have HT := Lib.hid h
  obtain ⟨x, hx⟩ : ∃ x, x = aheadT r.en ts := ⟨_, rfl⟩
  have HX := Lib.hid hx
  rw [← hx] at A0 ⊢
  unfold ptokV at A0
  have HS := Lib.hid hs
  clear h hx hs
  by_cases hxs : x.text = sign
  · simp only [if_pos hxs]
    cases ts with
    | nil => exfalso; apply HS.out; rw [← hxs, HX.out]; rfl
    | cons y ts =>
      have ht := txt_list x.text
      have ht2 := txt_list sign
      have hd1 : (x.text == sign) = true := by simpa using hxs
      have hd2 : (x.text != sign) = false := by simpa using hxs
      obtain ⟨A', hsl, hT3, hO3⟩ := HT.out.drop
      have HT3 := Lib.hid hT3
      have HO3 := Lib.hid hO3
      have hf := field1 (x.kind : Nat) x.num (x.at_ : Nat) (txt x.text)
      clear hxs hT3 hO3
      go_enter Tryz.func141, Tryz.ntmps141
      go_wp2_with fail
      refine A0.out.mono ?_
      rintro e w1 ⟨rfl, b1⟩
      have HT2 := HT.out.step b1
      obtain ⟨c0, -⟩ := HT2.cells
      have f0 := HT2.free 0
      have MF : Hid (Mv (one B) w (w1.setCell ⟨B, 0, none⟩ (.slice A' (t.n - 1) (t.c - 1)))) := Lib.hid ((Mv.of_below b1).setCell (p := ⟨B, 0, none⟩) (one_self B) _)
      have HF := Lib.hid (HT.out.moved MF.out (box_tok HT2.box ⟨A', t.n - 1, t.c - 1⟩) HT3.out HO3.out)
      clear b1 HT2
      go_wp2
      go_ret
      exact ⟨MF.out, rfl, _, HF.out⟩
  · simp only [if_neg hxs]
    have ht := txt_list x.text
    have ht2 := txt_list sign
    have hd1 : (x.text == sign) = false := by simpa using hxs
    have hd2 : (x.text != sign) = true := by simpa using hxs
    have hf := field1 (x.kind : Nat) x.num (x.at_ : Nat) (txt x.text)
    clear hxs
    go_enter Tryz.func141, Tryz.ntmps141
    go_wp2_with fail
    refine A0.out.mono ?_
    rintro e w1 ⟨rfl, b1⟩
    have B1 := Lib.hid b1
    clear b1
    go_wp2
    go_ret
    exact ⟨Mv.of_below B1.out, rfl, HT.out.step B1.out⟩

theorem want_any {S : Nat → Bool} {B : Nat} {r : PRest} {t : Sl} {ts : List Tok} (sign : Bs) (hs : sign ≠ []) (w : World) (h : IsTk S w B r t ts) : Calls Tryz.prog 111 #[.pointer (some ⟨B, 0, none⟩), .string (txt sign)] w fun e w' => Mv (one B) w w' ∧
    match wantP r.en sign ts with
    | .ok rs => e = .returned (.tuple #[]) ∧ ∃ t', IsTk S w' B r t' rs
    | .error f => e = .panicked (fltV f) := by
  have F0 := Lib.hid (found_any sign hs w h)
  have HP : Hid (wantP r.en sign ts = if (aheadT r.en ts).text = sign then .ok ts.tail else .error ((aheadT r.en ts).at_, 6)) := Lib.hid rfl
  have HA := Lib.hid (fun (W : World) (hW : IsTk S W B r t ts) => ahead_any W hW)
  obtain ⟨x, hx⟩ : ∃ x, x = aheadT r.en ts := ⟨_, rfl⟩
  have CT := Lib.hid (throw_any x 6)
  rw [← hx] at F0 HP HA
  rw [HP.out]
  unfold ptokV at HA CT
  clear h hx hs
  go_enter Tryz.func111, Tryz.ntmps111
  go_wp2_with fail
  refine F0.out.mono ?_
  rintro e w1 ⟨m1, h1⟩
  have M1 := Lib.hid m1
  clear m1
  by_cases hxs : x.text = sign
  · rw [if_pos hxs] at h1
    obtain ⟨rfl, h2⟩ := h1
    have H2 := Lib.hid h2
    have HXS := Lib.hid hxs
    clear h2 hxs
    go_wp2
    go_end0
    exact ⟨M1.out, rfl, H2.out⟩
  · rw [if_neg hxs] at h1
    obtain ⟨rfl, h2⟩ := h1
    have H2 := Lib.hid h2
    have HXS := Lib.hid hxs
    clear h2 hxs
    go_wp2_with fail
    refine (HA.out _ H2.out).mono ?_
    rintro e w2 ⟨rfl, b2⟩
    have B2 := Lib.hid b2
    clear b2
    go_wp2_with fail
    refine (CT.out _).mono ?_
    rintro e w3 ⟨rfl, b3⟩
    refine ⟨rfl, ?_⟩
    rw [if_neg HXS.out]
    exact ⟨(M1.out.trans (Mv.of_below B2.out)).trans (Mv.of_below b3), rfl⟩

theorem nothing_any {S : Nat → Bool} {B : Nat} {r : PRest} {t : Sl} {ts : List Tok} (w : World) (h : IsTk S w B r t ts) : Calls Tryz.prog 73 #[.pointer (some ⟨B, 0, none⟩)] w fun e w' => Below w.heap.size w w' ∧
    (if ts = [] then e = .returned (.tuple #[]) else e = .panicked (fltV ((aheadT r.en ts).at_, 6))) := by
  obtain ⟨c0, -⟩ := h.cells
  have hn := h.tok.len
  by_cases hts : ts = []
  · simp only [if_pos hts]
    have h0 : t.n = 0 := by rw [hn, hts]; rfl
    rw [h0] at c0
    clear h hn hts h0
    go_enter Tryz.func73, Tryz.ntmps73
    go_wp2
    go_end0
    exact ⟨Below.refl _ _, rfl⟩
  · simp only [if_neg hts]
    have h0 : 1 ≤ t.n := by cases ts with | nil => exact absurd rfl hts | cons y ts => rw [hn]; simp
    have HA := Lib.hid (ahead_any w h)
    have CT := Lib.hid (throw_any (aheadT r.en ts) 6)
    unfold ptokV at HA CT
    generalize aheadT r.en ts = x at HA CT ⊢
    clear h hn hts
    go_enter Tryz.func73, Tryz.ntmps73
    go_wp2_with fail
    refine HA.out.mono ?_
    rintro e w2 ⟨rfl, b2⟩
    have B2 := Lib.hid b2
    clear b2
    go_wp2_with fail
    refine (CT.out _).mono ?_
    rintro e w3 ⟨rfl, b3⟩
    exact ⟨rfl, B2.out.trans (b3.mono B2.out.size), rfl⟩
end Go.Proofs.YtgemgmdnnjaghaaGreatDoor

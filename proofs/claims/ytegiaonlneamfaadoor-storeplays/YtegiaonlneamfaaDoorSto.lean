/- A store in memory: definitions, and what its parts are read as. -/
import Derived.Test.YtegiaonlneamfaaDoorSt
namespace Go.Proofs.YtegiaonlneamfaaDoor
open Go.RowKit

/-- A variable: its domain's parts, its numbers, the level at which it became that. -/
structure Vr where
  s : Int
  A : Option Addr
  n : Nat
  c : Nat
  L : List Int
  since : Nat

def Vr.dom (v : Vr) : Value := .agg #[.int .i64 v.s, .slice v.A v.n v.c, .int .i64 (v.L.length : Nat)]
def Vr.cells (v : Vr) : List Value := [.int .i64 v.s, .slice v.A v.n v.c, .int .i64 (v.L.length : Nat), .int .i64 (v.since : Nat)]

/-- What a variable was. -/
structure Er where
  place : Nat
  was : Vr

def Er.cells (e : Er) : List Value := [.int .i64 (e.place : Nat), .int .i64 e.was.s, .slice e.was.A e.was.n e.was.c, .int .i64 (e.was.L.length : Nat), .int .i64 (e.was.since : Nat)]
def evCells (p : Int × Int) : List Value := [.int .i64 p.1, .int .i64 p.2]

structure Sto where
  V : Nat
  vs : List Vr
  bv : Value
  bs : List Er
  lev : Nat
  ev : Value
  es : List (Int × Int)

structure IsStore (base : Nat) (w : World) (S : Nat) (st : Sto) : Prop where
  head : Blk w S #[.slice (some ⟨st.V, 0, none⟩) st.vs.length st.vs.length, st.bv, .int .i64 (st.lev : Nat), st.ev] 74
  vars : Blk w st.V (st.vs.flatMap Vr.cells).toArray 71
  before : Row base w 90 5 st.bv st.bs.length (st.bs.flatMap Er.cells)
  events : Row base w 77 2 st.ev st.es.length (st.es.flatMap evCells)
  atS : base ≤ S
  atV : base ≤ st.V
  doms : ∀ v ∈ st.vs, IsDom w v.dom v.L
  was : ∀ e ∈ st.bs, IsDom w e.was.dom e.was.L
  places : ∀ e ∈ st.bs, e.place < st.vs.length

theorem IsStore.below {base : Nat} {w w' : World} {S : Nat} {st : Sto} (h : IsStore base w S st) (hb : Below w.heap.size w w') : IsStore base w' S st :=
  ⟨h.head.below hb, h.vars.below hb, h.before.below hb, h.events.below hb, h.atS, h.atV, fun v hv => (h.doms v hv).below hb, fun e he => (h.was e he).below hb, h.places⟩

theorem IsStore.lt {base : Nat} {w : World} {S : Nat} {st : Sto} (h : IsStore base w S st) : base < w.heap.size := Nat.lt_of_le_of_lt h.atS h.head.lt

/-- Rows of equal length, one behind the other: what stands at a place. -/
theorem flat_get {α : Type} (f : α → List Value) (k : Nat) (hf : ∀ a, (f a).length = k) : ∀ (l : List α) (i j : Nat), j < k → (l.flatMap f)[i * k + j]? = (l[i]?).bind fun a => (f a)[j]?
  | [], i, j, _ => by simp
  | a :: l, 0, j, hj => by
    rw [List.flatMap_cons, Nat.zero_mul, Nat.zero_add, List.getElem?_append_left (by rw [hf]; exact hj)]
    simp
  | a :: l, i + 1, j, hj => by
    rw [List.flatMap_cons, List.getElem?_append_right (by rw [hf, Nat.add_mul]; omega), hf, show (i + 1) * k + j - k = i * k + j by rw [Nat.add_mul]; omega, flat_get f k hf l i j hj]
    simp

theorem flat_len {α : Type} (f : α → List Value) (k : Nat) (hf : ∀ a, (f a).length = k) (l : List α) : (l.flatMap f).length = l.length * k := by
  induction l with
  | nil => simp
  | cons a l ih => rw [List.flatMap_cons, List.length_append, hf, ih, List.length_cons, Nat.add_mul]; omega

theorem vr_len (v : Vr) : v.cells.length = 4 := rfl
theorem er_len (e : Er) : e.cells.length = 5 := rfl
theorem ev_len (p : Int × Int) : (evCells p).length = 2 := rfl

theorem vr_cell {w : World} {V : Nat} {vs : List Vr} (h : Blk w V (vs.flatMap Vr.cells).toArray 71) {i : Nat} {v : Vr} (hi : vs[i]? = some v) :
    w.cell? ⟨V, i * 4, none⟩ = some (.int .i64 v.s) ∧ w.cell? ⟨V, i * 4 + 1, none⟩ = some (.slice v.A v.n v.c) ∧ w.cell? ⟨V, i * 4 + 2, none⟩ = some (.int .i64 (v.L.length : Nat)) ∧ w.cell? ⟨V, i * 4 + 3, none⟩ = some (.int .i64 (v.since : Nat)) := by
  have q : ∀ j, j < 4 → w.cell? ⟨V, i * 4 + j, none⟩ = v.cells[j]? := by
    intro j hj
    rw [h.cell, List.getElem?_toArray, flat_get _ 4 vr_len vs i j hj, hi]
    rfl
  exact ⟨q 0 (by omega), q 1 (by omega), q 2 (by omega), q 3 (by omega)⟩

theorem vr_plain (v : Vr) : ∀ u ∈ v.cells, plainV u := by
  intro u hu x e
  subst e
  simp [Vr.cells] at hu
theorem er_plain (v : Er) : ∀ u ∈ v.cells, plainV u := by
  intro u hu x e
  subst e
  simp [Er.cells] at hu
theorem ev_plain (v : Int × Int) : ∀ u ∈ evCells v, plainV u := by
  intro u hu x e
  subst e
  simp [evCells] at hu

theorem vars_plain (vs : List Vr) : ∀ u ∈ (vs.flatMap Vr.cells).toArray, plainV u := by
  intro u hu
  simp only [List.mem_toArray, List.mem_flatMap] at hu
  obtain ⟨v, -, hv⟩ := hu
  exact vr_plain v u hv

theorem row_nowords {base : Nat} {w : World} {e : TypeId} {size : Nat} {v : Value} {n : Nat} {xs : List Value} (h : Row base w e size v n xs) : ∀ x, v ≠ .int .u64 x := by
  intro x e'
  rcases h.1.2 with ⟨rfl, _⟩ | ⟨_, _, _, rfl, _⟩ <;> cases e'

theorem IsStore.head_plain {base : Nat} {w : World} {S : Nat} {st : Sto} (h : IsStore base w S st) : ∀ u ∈ #[.slice (some ⟨st.V, 0, none⟩) st.vs.length st.vs.length, st.bv, Value.int .i64 (st.lev : Nat), st.ev], plainV u := by
  intro u hu x e
  subst e
  have h1 := row_nowords h.before x
  have h2 := row_nowords h.events x
  simp only [List.mem_toArray, List.mem_cons, List.not_mem_nil, or_false, reduceCtorEq, false_or, Value.int.injEq, false_and] at hu
  rcases hu with hu | hu
  · exact h1 hu.symm
  · exact h2 hu.symm

theorem IsStore.cells {base : Nat} {w : World} {S : Nat} {st : Sto} (h : IsStore base w S st) :
    w.cell? ⟨S, 0, none⟩ = some (.slice (some ⟨st.V, 0, none⟩) st.vs.length st.vs.length) ∧ w.cell? ⟨S, 1, none⟩ = some st.bv ∧ w.cell? ⟨S, 2, none⟩ = some (.int .i64 (st.lev : Nat)) ∧ w.cell? ⟨S, 3, none⟩ = some st.ev :=
  ⟨h.head.cell 0, h.head.cell 1, h.head.cell 2, h.head.cell 3⟩

/-- A store whose level is another. -/
theorem IsStore.level {base : Nat} {w : World} {S : Nat} {st : Sto} (h : IsStore base w S st) (l : Nat) : IsStore base (w.setCell ⟨S, 2, none⟩ (.int .i64 (l : Nat))) S { st with lev := l } ∧ Fr base w (w.setCell ⟨S, 2, none⟩ (.int .i64 (l : Nat))) := by
  have hf : Fr base w (w.setCell ⟨S, 2, none⟩ (.int .i64 (l : Nat))) := Fr.set h.head (.inr (.inl rfl)) h.atS h.head_plain _ _
  refine ⟨⟨?_, h.vars.other (h.vars.ne h.head (by decide)) _, h.before.set h.head (by decide) _ _, h.events.set h.head (by decide) _ _, h.atS, h.atV, fun v hv => (h.doms v hv).fr hf, fun e he => (h.was e he).fr hf, h.places⟩, hf⟩
  exact h.head.set 2 _

/-- A store whose events are gone. -/
theorem IsStore.quiet {base : Nat} {w : World} {S : Nat} {st : Sto} (h : IsStore base w S st) : IsStore base (w.setCell ⟨S, 3, none⟩ (.slice none 0 0)) S { st with ev := .slice none 0 0, es := [] } ∧ Fr base w (w.setCell ⟨S, 3, none⟩ (.slice none 0 0)) := by
  have hf : Fr base w (w.setCell ⟨S, 3, none⟩ (.slice none 0 0)) := Fr.set h.head (.inr (.inl rfl)) h.atS h.head_plain _ _
  refine ⟨⟨?_, h.vars.other (h.vars.ne h.head (by decide)) _, h.before.set h.head (by decide) _ _, Row.nil _ _ _ _, h.atS, h.atV, fun v hv => (h.doms v hv).fr hf, fun e he => (h.was e he).fr hf, h.places⟩, hf⟩
  exact h.head.set 3 _
end Go.Proofs.YtegiaonlneamfaaDoor

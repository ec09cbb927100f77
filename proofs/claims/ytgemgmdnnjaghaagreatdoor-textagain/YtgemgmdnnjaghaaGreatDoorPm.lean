/- A model in memory; what Check tells. No walk. -/
import Derived.Test.YtgemgmdnnjaghaaGreatDoorMshapes
import Derived.Test.YtgemgmdnnjaghaaGreatDoorDRefOf
import Derived.Test.YtgemgmdnnjaghaaGreatDoorLexname
import Derived.Test.YtgemgmdnnjaghaaGreatDoorLexgap
import Derived.Test.YtgemgmdnnjaghaaGreatDoorDMore
namespace Go.Proofs.YtgemgmdnnjaghaaGreatDoor
open Go.RowKit

def noCon : ConL := ⟨0, [], [], [], [], [], 0, []⟩
/-- A slice of constraints. -/
structure IsCons (w : World) (x : Sl) (L : List ConL) : Prop where
  len : x.n = L.length
  big : x.n ≤ 4611686018427387903
  cap : x.n ≤ x.c
  lies : 0 < x.n → ∃ g o, x.A = some ⟨g, o, none⟩ ∧ g < w.heap.size ∧ ∀ i, i < x.n → ∃ v : ConV, (∀ j u, (v.cells (L.getD i noCon).kind (L.getD i noCon).K)[j]? = some u → w.cell? ⟨g, o + i * 8 + j, none⟩ = some u) ∧ ConIn w v (L.getD i noCon)
theorem IsCons.below {w w' : World} {x : Sl} {L : List ConL} (h : IsCons w x L) (hb : Below w.heap.size w w') : IsCons w' x L := by
  refine ⟨h.len, h.big, h.cap, fun h0 => ?_⟩
  obtain ⟨g, o, e, hg, hc⟩ := h.lies h0
  refine ⟨g, o, e, Nat.lt_of_lt_of_le hg hb.size, fun i hi => ?_⟩
  obtain ⟨v, h1, h2⟩ := hc i hi
  exact ⟨v, fun j u hj => (hb.cell hg).trans (h1 j u hj), h2.below hb⟩
theorem IsCons.nil (w : World) : IsCons w ⟨none, 0, 0⟩ [] := ⟨rfl, by simp, Nat.le_refl _, fun h => absurd h (by simp)⟩
theorem IsStrs.nil (w : World) : IsStrs w ⟨none, 0, 0⟩ [] := ⟨rfl, Lies.none _ _ _, by simp, Nat.le_refl _⟩

/-- A model, as lists. -/
structure ModL where
  names : List Bs
  doms : List (List Int)
  cons : List ConL
  goal : Int
  obj : Int
structure ModV where
  n : Sl
  d : Sl
  c : Sl
abbrev ModV.cells (v : ModV) (goal obj : Int) : Array Value := #[.slice v.n.A v.n.n v.n.c, .slice v.d.A v.d.n v.d.c, .slice v.c.A v.c.n v.c.c, .int .i64 goal, .int .i64 obj]
abbrev ModV.val (v : ModV) (goal obj : Int) : Value := .agg #[.slice v.n.A v.n.n v.n.c, .slice v.d.A v.d.n v.d.c, .slice v.c.A v.c.n v.c.c, .int .i64 goal, .int .i64 obj]
structure ModIn (w : World) (v : ModV) (m : ModL) : Prop where
  n : IsStrs w v.n m.names
  d : IsRows w v.d m.doms
  c : IsCons w v.c m.cons
  short : ∀ l ∈ m.doms, l.length ≤ 1000000
  brief : ∀ b ∈ m.names, b.length ≤ 4611686018427387903
theorem ModIn.below {w w' : World} {v : ModV} {m : ModL} (h : ModIn w v m) (hb : Below w.heap.size w w') : ModIn w' v m := ⟨h.n.below hb, h.d.below hb, h.c.below hb, h.short, h.brief⟩

/-- The first error of some, one by one. -/
def firstE (f : Nat → Int) (n : Nat) : Int := match (List.range n).find? (fun i => f i != 0) with
  | some i => f i
  | none => 0
/-- The first place of an error, and the error. -/
def firstP (f : Nat → Int) (n : Nat) : Option (Nat × Int) := ((List.range n).find? (fun i => f i != 0)).map fun i => (i, f i)
theorem find_range {f : Nat → Int} {n k : Nat} (hk : k < n) (h0 : ∀ j, j < k → f j = 0) (h1 : f k ≠ 0) : (List.range n).find? (fun i => f i != 0) = some k := by
  rw [List.find?_range_eq_some]
  exact ⟨by simpa using h1, by simpa using hk, fun j hj => by simp [h0 j hj]⟩
theorem find_range_no {f : Nat → Int} {n : Nat} (h0 : ∀ j, j < n → f j = 0) : (List.range n).find? (fun i => f i != 0) = none := by
  rw [List.find?_eq_none]
  intro j hj
  simp [h0 j (List.mem_range.1 hj)]
theorem firstE_at {f : Nat → Int} {n k : Nat} (hk : k < n) (h0 : ∀ j, j < k → f j = 0) (h1 : f k ≠ 0) : firstE f n = f k := by
  unfold firstE
  rw [find_range hk h0 h1]
theorem firstE_no {f : Nat → Int} {n : Nat} (h0 : ∀ j, j < n → f j = 0) : firstE f n = 0 := by
  unfold firstE
  rw [find_range_no h0]
theorem firstP_at {f : Nat → Int} {n k : Nat} (hk : k < n) (h0 : ∀ j, j < k → f j = 0) (h1 : f k ≠ 0) : firstP f n = some (k, f k) := by
  unfold firstP
  rw [find_range hk h0 h1]
  rfl
theorem firstP_no {f : Nat → Int} {n : Nat} (h0 : ∀ j, j < n → f j = 0) : firstP f n = none := by
  unfold firstP
  rw [find_range_no h0]
  rfl

/-- May a variable have this name? -/
def mayNameB (b : Bs) : Bool := !(b == [118, 97, 114]) && !(b == [99, 111, 110, 115, 116, 114, 97, 105, 110, 116]) && !(b == [115, 111, 108, 118, 101]) && nameB b
/-- Does a list rise? Up to a place. -/
def riseTo (l : List Int) (k : Nat) : Prop := ∀ i, 1 ≤ i → i < k → l.getD (i - 1) 0 < l.getD i 0
def riseB (l : List Int) : Bool := (List.range l.length).all fun i => i == 0 || decide (l.getD (i - 1) 0 < l.getD i 0)
theorem rise_yes {l : List Int} (h : riseTo l l.length) : riseB l = true := by
  unfold riseB
  rw [List.all_eq_true]
  intro i hi
  have hi' := List.mem_range.1 hi
  by_cases h0 : i = 0
  · simp [h0]
  · have := h i (by omega) hi'
    rw [decide_eq_true this, Bool.or_true]
theorem rise_no {l : List Int} {i : Nat} (h1 : 1 ≤ i) (hi : i < l.length) (h : ¬ l.getD (i - 1) 0 < l.getD i 0) : riseB l = false := by
  unfold riseB
  rw [List.all_eq_false]
  refine ⟨i, List.mem_range.2 hi, ?_⟩
  have : (i == 0) = false := by simp; omega
  rw [this, decide_eq_false h]
  decide
theorem rise_pair {l : List Int} (h : riseB l = true) : riseTo l l.length := by
  intro i h1 hi
  unfold riseB at h
  have := List.all_eq_true.1 h i (List.mem_range.2 hi)
  have h0 : (i == 0) = false := by simp; omega
  rw [h0, Bool.false_or, decide_eq_true_eq] at this
  exact this
/-- Is a list a domain's? -/
def mayListB (l : List Int) : Bool := riseB l && (ofErr l == 0)

theorem take_getD1 (zs : List Int) (k : Nat) (h : k < zs.length) : zs.take (k + 1) = zs.take k ++ [zs.getD k 0] := take_getD zs k h
theorem rise_lt {l : List Int} (h : riseTo l l.length) : ∀ k, k < l.length → ∀ u ∈ l.take k, u < l.getD k 0 := by
  intro k
  induction k with
  | zero => intro _ u hu; simp at hu
  | succ k ih =>
    intro hk u hu
    have h1 := h (k + 1) (by omega) hk
    rw [show k + 1 - 1 = k by omega] at h1
    rw [take_getD1 l k (by omega)] at hu
    rcases List.mem_append.1 hu with hu | hu
    · have := ih (by omega) u hu
      omega
    · rw [List.mem_singleton.1 hu]
      exact h1
theorem set_of_rise {l : List Int} (h : riseTo l l.length) : setOf l = l := by
  have key : ∀ k, k ≤ l.length → setOf (l.take k) = l.take k := by
    intro k
    induction k with
    | zero => intro _; rfl
    | succ k ih =>
      intro hk
      rw [setOf_snoc l k (by omega), ih (by omega), take_getD1 l k (by omega)]
      have := ins_end (l.getD k 0) (l.take k) [] (rise_lt h k (by omega))
      rw [List.append_nil] at this
      rw [this]
      rfl
  have := key l.length (Nat.le_refl _)
  rwa [List.take_length] at this
theorem rise_of_set {l : List Int} (h : setOf l = l) : riseTo l l.length := by
  have hp := rising_setOf l
  rw [h] at hp
  intro i h1 hi
  rw [List.getD_eq_getElem?_getD, List.getD_eq_getElem?_getD, List.getElem?_eq_getElem hi, List.getElem?_eq_getElem (by omega : i - 1 < l.length)]
  exact List.pairwise_iff_getElem.1 hp (i - 1) i (by omega) hi (by omega)
/-- As the document asks it. -/
theorem list_same (l : List Int) : (ofErr l != 0 || !(ofL l == l)) = !mayListB l := by
  unfold mayListB
  by_cases he : ofErr l = 0
  · rw [ofL_ok l he]
    have e1 : (ofErr l != 0) = false := by simp [he]
    have e2 : (ofErr l == 0) = true := by simp [he]
    rw [e1, e2, Bool.false_or, Bool.and_true]
    congr 1
    rw [Bool.eq_iff_iff, beq_iff_eq]
    exact ⟨fun h => rise_yes (rise_of_set h), fun h => set_of_rise (rise_pair h)⟩
  · have e1 : (ofErr l != 0) = true := by simpa using he
    have e2 : (ofErr l == 0) = false := by simpa using he
    rw [e1, e2, Bool.true_or, Bool.and_false]
    rfl

def varE (m : ModL) (i : Nat) : Int := if mayNameB (m.names.getD i []) = false then 7 else if (m.names.take i).any (· == m.names.getD i []) = true then 8 else if mayListB (m.doms.getD i []) = false then 3 else 0
def conE (m : ModL) (i : Nat) : Int := rightE (m.cons.getD i noCon) (m.names.length : Nat)
def goalB (m : ModL) : Bool := if m.goal == 0 then m.obj == 0 else if m.goal == 1 || m.goal == 2 then decide (0 ≤ m.obj) && decide (m.obj < ((m.names.length : Nat) : Int)) else false
/-- What Check tells. -/
def checkE (m : ModL) : Int × Int :=
  if m.names.length ≠ m.doms.length then (-1, 2)
  else if 256 < m.names.length ∨ 1024 < m.cons.length then (-1, 12)
  else if firstE (varE m) m.names.length ≠ 0 then (-1, firstE (varE m) m.names.length)
  else match firstP (conE m) m.cons.length with
    | some (i, e) => ((i : Nat), e)
    | none => if goalB m = false then (-1, 17) else (-1, 0)

section
variable {m : ModL}
theorem checkE_len (h : m.names.length ≠ m.doms.length) : checkE m = (-1, 2) := by unfold checkE; rw [if_pos h]
theorem checkE_many (h : m.names.length = m.doms.length) (h2 : 256 < m.names.length ∨ 1024 < m.cons.length) : checkE m = (-1, 12) := by unfold checkE; rw [if_neg (by omega), if_pos h2]
theorem checkE_var (h : m.names.length = m.doms.length) (h2 : m.names.length ≤ 256) (h3 : m.cons.length ≤ 1024) (h4 : firstE (varE m) m.names.length ≠ 0) : checkE m = (-1, firstE (varE m) m.names.length) := by unfold checkE; rw [if_neg (by omega), if_neg (by omega), if_pos h4]
theorem checkE_con (h : m.names.length = m.doms.length) (h2 : m.names.length ≤ 256) (h3 : m.cons.length ≤ 1024) (h4 : firstE (varE m) m.names.length = 0) {k : Nat} (hk : k < m.cons.length) (h5 : ∀ j, j < k → conE m j = 0) (h6 : conE m k ≠ 0) : checkE m = (((k : Nat) : Int), conE m k) := by
  unfold checkE
  rw [if_neg (by omega), if_neg (by omega), if_neg (by simpa using h4), firstP_at hk h5 h6]
theorem checkE_end (h : m.names.length = m.doms.length) (h2 : m.names.length ≤ 256) (h3 : m.cons.length ≤ 1024) (h4 : firstE (varE m) m.names.length = 0) (h5 : ∀ j, j < m.cons.length → conE m j = 0) : checkE m = (-1, if goalB m = false then 17 else 0) := by
  unfold checkE
  rw [if_neg (by omega), if_neg (by omega), if_neg (by simpa using h4), firstP_no h5]
  cases goalB m <;> rfl
end
end Go.Proofs.YtgemgmdnnjaghaaGreatDoor

/- Worlds with some blocks hidden; what stays where only these are written to. No walk. -/
namespace Go.Proofs.YtgemgmdnnjaghaaGreatDoor
open Go.RowKit

/-- A world in which some blocks hold nothing. -/
def hide (S : Nat → Bool) (w : World) : World := { w with heap := w.heap.mapIdx fun g o => if S g then .cells #[] 0 (0, 0) else o }
theorem hide_size (S : Nat → Bool) (w : World) : (hide S w).heap.size = w.heap.size := by simp [hide]
theorem hide_block {S : Nat → Bool} (w : World) {g : Nat} (h : S g = false) : (hide S w).heap[g]? = w.heap[g]? := by
  simp [hide, h, Array.getElem?_mapIdx]
theorem hide_gone {S : Nat → Bool} (w : World) {g : Nat} (h : S g = true) : (hide S w).heap[g]? = (w.heap[g]?).map fun _ => .cells #[] 0 (0, 0) := by
  simp [hide, h, Array.getElem?_mapIdx]
theorem hide_cell {S : Nat → Bool} {w : World} {a : Addr} {x : Value} (h : (hide S w).cell? a = some x) : S a.block = false ∧ w.cell? a = some x := by
  cases hS : S a.block
  · exact ⟨rfl, by rw [← h]; exact (World.cell?_of_block (w := w) (hide_block w hS)).symm⟩
  · exfalso
    unfold World.cell? at h
    rw [hide_gone w hS] at h
    cases hb : w.heap[a.block]? <;> rw [hb] at h <;> simp at h
theorem cell_hide {S : Nat → Bool} {w : World} {a : Addr} {x : Value} (h : w.cell? a = some x) (hS : S a.block = false) : (hide S w).cell? a = some x := by
  rw [← h]; exact World.cell?_of_block (w := w) (hide_block w hS)

/-- All blocks but some stay. -/
structure Mv (S : Nat → Bool) (w w' : World) : Prop where
  os : w'.os = w.os
  tape : w'.tape = w.tape
  output : w'.output = w.output
  size : w.heap.size ≤ w'.heap.size
  block : ∀ k, k < w.heap.size → S k = false → w'.heap[k]? = w.heap[k]?
theorem Mv.refl (S : Nat → Bool) (w : World) : Mv S w w := ⟨rfl, rfl, rfl, Nat.le_refl _, fun _ _ _ => rfl⟩
theorem Mv.trans {S : Nat → Bool} {a b c : World} (h : Mv S a b) (k : Mv S b c) : Mv S a c :=
  ⟨k.os.trans h.os, k.tape.trans h.tape, k.output.trans h.output, Nat.le_trans h.size k.size, fun i hi hS => (k.block i (Nat.lt_of_lt_of_le hi h.size) hS).trans (h.block i hi hS)⟩
/-- The set may have grown by new blocks. -/
theorem Mv.trans2 {S T : Nat → Bool} {a b c : World} (h : Mv S a b) (k : Mv T b c) (hST : ∀ g, g < a.heap.size → S g = false → T g = false) : Mv S a c :=
  ⟨k.os.trans h.os, k.tape.trans h.tape, k.output.trans h.output, Nat.le_trans h.size k.size, fun i hi hS => (k.block i (Nat.lt_of_lt_of_le hi h.size) (hST i hi hS)).trans (h.block i hi hS)⟩
theorem Mv.wide {S T : Nat → Bool} {a b : World} (h : Mv S a b) (hST : ∀ g, g < a.heap.size → T g = false → S g = false) : Mv T a b :=
  ⟨h.os, h.tape, h.output, h.size, fun i hi hS => h.block i hi (hST i hi hS)⟩
theorem Mv.of_below {S : Nat → Bool} {w w' : World} (h : Below w.heap.size w w') : Mv S w w' := ⟨h.os, h.tape, h.output, h.size, fun k hk _ => h.block k hk⟩
theorem Mv.drew {S : Nat → Bool} {w w' : World} (h : Mv S w w') : Mv S w w'.drew := ⟨h.os, h.tape, h.output, h.size, h.block⟩
theorem Mv.alloc {S : Nat → Bool} {w w' : World} (h : Mv S w w') (o : Obj) : Mv S w (w'.alloc o) :=
  h.trans (Mv.of_below ((Below.refl _ _).alloc (Nat.le_refl _) o))
theorem Mv.setCell {S : Nat → Bool} {w w' : World} (h : Mv S w w') {p : Addr} (hp : S p.block = true) (u : Value) : Mv S w (w'.setCell p u) :=
  h.trans ⟨rfl, rfl, rfl, by simp [World.setCell], fun k _ hS => Below.heap_setCell _ _ _ _ (fun e => by rw [← e, hS] at hp; cases hp)⟩
theorem Mv.grown {S : Nat → Bool} {w w' w'' : World} {row : Option Nat} (h : Mv S w w') (hg : w'.grownBy w'' row) (hr : ∀ k, row = some k → S k = true) : Mv S w w'' :=
  h.trans ⟨hg.os, hg.tape, hg.output, hg.size, fun k hk hS => hg.block k hk (fun e => by rw [hr k e.symm] at hS; cases hS)⟩
theorem Mv.grownFrom {S : Nat → Bool} {w w' w'' : World} {row : Option Nat} (h : Mv S w w') (hg : w'.grownBy w'' row) (hr : ∀ k, row = some k → w.heap.size ≤ k) : Mv S w w'' :=
  ⟨hg.os.trans h.os, hg.tape.trans h.tape, hg.output.trans h.output, Nat.le_trans h.size hg.size, fun k hk hS => (hg.block k (Nat.lt_of_lt_of_le hk h.size) (fun e => by have := hr k e.symm; omega)).trans (h.block k hk hS)⟩
theorem Mv.hide {S : Nat → Bool} {w w' : World} (h : Mv S w w') : Below w.heap.size (hide S w) (hide S w') := by
  refine ⟨h.os, h.tape, h.output, by rw [hide_size, hide_size]; exact h.size, fun k hk => ?_⟩
  cases hS : S k
  · rw [hide_block _ hS, hide_block _ hS]; exact h.block k hk hS
  · rw [hide_gone _ hS, hide_gone _ hS]
    have h1 : k < w'.heap.size := Nat.lt_of_lt_of_le hk h.size
    simp [hk, h1]
/-- Below the blocks that are hidden all is as it was. -/
theorem Mv.below {S : Nat → Bool} {b : Nat} {w w' : World} (h : Mv S w w') (hb : b ≤ w.heap.size) (hS : ∀ g, g < b → S g = false) : Below b w w' :=
  ⟨h.os, h.tape, h.output, h.size, fun k hk => h.block k (by omega) (hS k hk)⟩
/-- More is hidden: only new blocks. -/
theorem hide_more {S T : Nat → Bool} {b : Nat} {w : World} (hST : ∀ g, g < b → T g = S g) : Below b (hide S w) (hide T w) := by
  refine ⟨rfl, rfl, rfl, by rw [hide_size, hide_size]; exact Nat.le_refl _, fun k hk => ?_⟩
  cases hS : S k
  · rw [hide_block _ hS, hide_block _ ((hST k hk).trans hS)]
  · rw [hide_gone _ hS, hide_gone _ ((hST k hk).trans hS)]

theorem Lies.unhide {S : Nat → Bool} {w : World} {A : Option Addr} {n : Nat} {f : Nat → Value} (h : Lies (hide S w) A n f) : Lies w A n f := by
  intro hn
  obtain ⟨ad, e, hl, hc⟩ := h hn
  exact ⟨ad, e, by rw [hide_size] at hl; exact hl, fun j hj => (hide_cell (hc j hj)).2⟩
theorem IsInts.unhide {S : Nat → Bool} {w : World} {v : Sl} {L : List Int} (h : IsInts (hide S w) v L) : IsInts w v L := ⟨h.len, h.lies.unhide, h.big, h.cap⟩
theorem IsRows.unhide {S : Nat → Bool} {w : World} {v : Sl} {R : List (List Int)} (h : IsRows (hide S w) v R) : IsRows w v R := by
  refine ⟨h.len, h.big, fun h0 => ?_⟩
  obtain ⟨ad, e, hl, hc⟩ := h.lies h0
  refine ⟨ad, e, by rw [hide_size] at hl; exact hl, fun i hi => ?_⟩
  obtain ⟨u, h3, h4⟩ := hc i hi
  exact ⟨u, (hide_cell h3).2, h4.unhide⟩
theorem ConIn.unhide {S : Nat → Bool} {w : World} {v : ConV} {c : ConL} (h : ConIn (hide S w) v c) : ConIn w v c :=
  ⟨h.a.unhide, h.b.unhide, h.c.unhide, h.d.unhide, h.e.unhide, h.r.unhide⟩
/-- A new block is not hidden. -/
theorem Lies.hide {S : Nat → Bool} {w : World} {A : Option Addr} {n : Nat} {f : Nat → Value} (h : Lies w A n f) (hS : ∀ ad, A = some ad → S ad.block = false) : Lies (hide S w) A n f := by
  intro hn
  obtain ⟨ad, e, hl, hc⟩ := h hn
  exact ⟨ad, e, by rw [hide_size]; exact hl, fun j hj => cell_hide (hc j hj) (by rw [add_block]; exact hS ad e)⟩
theorem IsInts.hide {S : Nat → Bool} {w : World} {v : Sl} {L : List Int} (h : IsInts w v L) (hS : ∀ ad, v.A = some ad → S ad.block = false) : IsInts (hide S w) v L := ⟨h.len, h.lies.hide hS, h.big, h.cap⟩
end Go.Proofs.YtgemgmdnnjaghaaGreatDoor

/- Models of texts, as the program reads them: lists of tokens. No walk. -/
namespace Go.Proofs.YtgemgmdnnjaghaaGreatDoor
open Go.RowKit

/-- Where a text is wrong, and why. -/
abbrev Flt := Nat × Int
abbrev PR (α : Type) := Except Flt (α × List Tok)
/-- The token ahead. -/
def aheadT (en : Nat) : List Tok → Tok
  | [] => ⟨0, [], 0, en⟩
  | t :: _ => t
def takeP (en k : Nat) (ts : List Tok) : PR Tok := if (aheadT en ts).kind = k then .ok (aheadT en ts, ts.tail) else .error ((aheadT en ts).at_, 6)
def wantP (en : Nat) (sign : Bs) (ts : List Tok) : Except Flt (List Tok) := if (aheadT en ts).text = sign then .ok ts.tail else .error ((aheadT en ts).at_, 6)
/-- A list's elements behind the first. -/
def tailP {α : Type} (en : Nat) (last : Bs) (el : List Tok → PR α) : Nat → List Tok → PR (List α)
  | 0, ts => if (aheadT en ts).text = last then .ok ([], ts.tail) else .error ((aheadT en ts).at_, 6)
  | n + 1, ts =>
    if (aheadT en ts).text = last then .ok ([], ts.tail) else
    match wantP en [44] ts with
    | .error f => .error f
    | .ok r =>
      match el r with
      | .error f => .error f
      | .ok (x, r2) =>
        match tailP en last el n r2 with
        | .error f => .error f
        | .ok (xs, r3) => .ok (x :: xs, r3)
def listP {α : Type} (en : Nat) (first last : Bs) (el : List Tok → PR α) (ts : List Tok) : PR (List α) :=
  match wantP en first ts with
  | .error f => .error f
  | .ok r =>
    if (aheadT en r).text = last then .ok ([], r.tail) else
    match el r with
    | .error f => .error f
    | .ok (x, r2) =>
      match tailP en last el r2.length r2 with
      | .error f => .error f
      | .ok (xs, r3) => .ok (x :: xs, r3)
def numP (en : Nat) (ts : List Tok) : PR Int :=
  match takeP en 2 ts with
  | .error f => .error f
  | .ok (t, r) => .ok (t.num, r)
def placeP (en : Nat) (names : List Bs) (ts : List Tok) : PR Int :=
  match takeP en 1 ts with
  | .error f => .error f
  | .ok (t, r) => if t.text ∈ names then .ok (((names.idxOf t.text : Nat) : Int), r) else .error (t.at_, 7)
def rowP (en : Nat) (ts : List Tok) : PR (List Int) := listP en [91] [93] (numP en) ts
/-- A domain: its numbers and its error. -/
def rosP (en : Nat) (ts : List Tok) : PR (List Int × Int) :=
  if (aheadT en ts).text = [123] then
    match listP en [123] [125] (numP en) ts with
    | .error f => .error f
    | .ok (l, r) => .ok ((ofL l, ofErr l), r)
  else
    match takeP en 2 ts with
    | .error f => .error f
    | .ok (t, r) =>
      match wantP en [46, 46] r with
      | .error f => .error f
      | .ok r1 =>
        match takeP en 2 r1 with
        | .error f => .error f
        | .ok (t2, r2) => .ok ((if rangeErr t.num t2.num = 0 then rangeL t.num t2.num else [], rangeErr t.num t2.num), r2)
def domP (en : Nat) (ts : List Tok) : PR (List Int) :=
  match rosP en ts with
  | .error f => .error f
  | .ok ((l, e), r) => if e = 0 then .ok (l, r) else .error ((aheadT en ts).at_, e)
def newNameP (en : Nat) (names : List Bs) (ts : List Tok) : PR Bs :=
  match takeP en 1 ts with
  | .error f => .error f
  | .ok (t, r) => if mayNameB t.text = false then .error (t.at_, 7) else if t.text ∈ names then .error (t.at_, 8) else .ok (t.text, r)
def varP (en : Nat) (m : ModL) (start : Tok) (ts : List Tok) : PR ModL :=
  if m.names.length = 256 then .error (start.at_, 12) else
  match domP en ts with
  | .error f => .error f
  | .ok (d, r) =>
    match wantP en [58] r with
    | .error f => .error f
    | .ok r1 =>
      match newNameP en m.names r1 with
      | .error f => .error f
      | .ok (b, r2) =>
        match wantP en [59] r2 with
        | .error f => .error f
        | .ok r3 => .ok ({ m with names := m.names ++ [b], doms := m.doms ++ [d] }, r3)
def partP (en : Nat) (names : List Bs) (letter : Nat) (c : ConL) (ts : List Tok) : PR ConL :=
  if letter = 118 then (match placeP en names ts with | .error f => .error f | .ok (x, r) => .ok ({ c with A := c.A ++ [x] }, r))
  else if letter = 119 then (match placeP en names ts with | .error f => .error f | .ok (x, r) => .ok ({ c with B := c.B ++ [x] }, r))
  else if letter = 86 then (match listP en [91] [93] (placeP en names) ts with | .error f => .error f | .ok (l, r) => .ok ({ c with A := l }, r))
  else if letter = 87 then (match listP en [91] [93] (placeP en names) ts with | .error f => .error f | .ok (l, r) => .ok ({ c with B := l }, r))
  else if letter = 99 then (match rowP en ts with | .error f => .error f | .ok (l, r) => .ok ({ c with C := l }, r))
  else if letter = 100 then (match rowP en ts with | .error f => .error f | .ok (l, r) => .ok ({ c with D := l }, r))
  else if letter = 101 then (match rowP en ts with | .error f => .error f | .ok (l, r) => .ok ({ c with E := l }, r))
  else if letter = 107 then (match numP en ts with | .error f => .error f | .ok (x, r) => .ok ({ c with K := x }, r))
  else if letter = 114 then (match listP en [91] [93] (rowP en) ts with | .error f => .error f | .ok (l, r) => .ok ({ c with rows := l }, r))
  else .ok (c, ts)
/-- The parts from one on. -/
def partsP (en : Nat) (names : List Bs) : Nat → List UInt8 → ConL → List Tok → PR ConL
  | _, [], c, ts => .ok (c, ts)
  | i, b :: bs, c, ts =>
    match (if 0 < i then wantP en [44] ts else .ok ts) with
    | .error f => .error f
    | .ok r =>
      match partP en names b.toNat c r with
      | .error f => .error f
      | .ok (c2, r2) => partsP en names (i + 1) bs c2 r2
def conP (en : Nat) (m : ModL) (start : Tok) (ts : List Tok) : PR ModL :=
  if m.cons.length = 1024 then .error (start.at_, 12) else
  match takeP en 1 ts with
  | .error f => .error f
  | .ok (t, r) =>
    if (foundF (wordP (txt t.text))).2 = false then .error (t.at_, 9) else
    match wantP en [40] r with
    | .error f => .error f
    | .ok r1 =>
      match partsP en m.names 0 (foundF (kindP (((foundF (wordP (txt t.text))).1.k : Nat) : Int))).1.shape { noCon with kind := (((foundF (wordP (txt t.text))).1.k : Nat) : Int) } r1 with
      | .error f => .error f
      | .ok (c, r2) =>
        match wantP en [41] r2 with
        | .error f => .error f
        | .ok r3 =>
          if rightE c (m.names.length : Nat) ≠ 0 then .error (t.at_, rightE c (m.names.length : Nat)) else
          match wantP en [59] r3 with
          | .error f => .error f
          | .ok r4 => .ok ({ m with cons := m.cons ++ [c] }, r4)
def goalP (en : Nat) (m : ModL) (ts : List Tok) : PR ModL :=
  match takeP en 1 ts with
  | .error f => .error f
  | .ok (t, r) =>
    match (if t.text = [115, 97, 116, 105, 115, 102, 121] then .ok ({ m with goal := 0 }, r)
      else if t.text = [109, 105, 110, 105, 109, 105, 122, 101] then (match placeP en m.names r with | .error f => .error f | .ok (x, r2) => .ok ({ m with goal := 1, obj := x }, r2))
      else if t.text = [109, 97, 120, 105, 109, 105, 122, 101] then (match placeP en m.names r with | .error f => .error f | .ok (x, r2) => .ok ({ m with goal := 2, obj := x }, r2))
      else .error (t.at_, 6) : PR ModL) with
    | .error f => .error f
    | .ok (m2, r2) =>
      match wantP en [59] r2 with
      | .error f => .error f
      | .ok r3 => .ok (m2, r3)
def itemsP (en : Nat) : Nat → ModL → List Tok → Except Flt ModL
  | 0, _, ts => .error ((aheadT en ts).at_, 6)
  | n + 1, m, ts =>
    match takeP en 1 ts with
    | .error f => .error f
    | .ok (t, r) =>
      if t.text = [118, 97, 114] then
        (match varP en m t r with
        | .error f => .error f
        | .ok (m2, r2) => itemsP en n m2 r2)
      else if t.text = [99, 111, 110, 115, 116, 114, 97, 105, 110, 116] then
        (match conP en m t r with
        | .error f => .error f
        | .ok (m2, r2) => itemsP en n m2 r2)
      else if t.text = [115, 111, 108, 118, 101] then
        (match goalP en m r with
        | .error f => .error f
        | .ok (m2, r2) => if r2 = [] then .ok m2 else .error ((aheadT en r2).at_, 6))
      else .error (t.at_, 6)
def noMod : ModL := ⟨[], [], [], 0, 0⟩
/-- What Parse tells of a text: the model, the place, the error. -/
def parseA (bs : Bs) : ModL × Nat × Int :=
  if (lexA bs).2.2 ≠ 0 then (noMod, (lexA bs).2.1, (lexA bs).2.2) else
  match itemsP bs.length (lexA bs).1.length noMod (lexA bs).1 with
  | .error (p, e) => (noMod, p, e)
  | .ok m => (m, 0, 0)

/-- What is left is no longer than what was. -/
theorem take_len {en k : Nat} {ts r : List Tok} {t : Tok} (h : takeP en k ts = .ok (t, r)) : r = ts.tail ∧ t = aheadT en ts ∧ (aheadT en ts).kind = k := by
  unfold takeP at h
  split at h
  · next hk => injection h with h; injection h with h1 h2; exact ⟨h2.symm, h1.symm, hk⟩
  · cases h
theorem want_len {en : Nat} {s : Bs} {ts r : List Tok} (h : wantP en s ts = .ok r) : r = ts.tail ∧ (aheadT en ts).text = s := by
  unfold wantP at h
  split at h
  · next hk => injection h with h; exact ⟨h.symm, hk⟩
  · cases h
theorem tail_le (ts : List Tok) : ts.tail.length ≤ ts.length := by simp
/-- What reads an element leaves no more than there was. -/
def Eats {α : Type} (el : List Tok → PR α) : Prop := ∀ ts x r, el ts = .ok (x, r) → r.length ≤ ts.length
theorem numP_eats (en : Nat) : Eats (numP en) := by
  intro ts x r h
  unfold numP at h
  split at h
  · cases h
  · next t r' e => injection h with h; injection h with h1 h2; subst h2; rw [(take_len e).1]; exact tail_le ts
theorem placeP_eats (en : Nat) (names : List Bs) : Eats (placeP en names) := by
  intro ts x r h
  unfold placeP at h
  split at h
  · cases h
  · next t r' e =>
    split at h
    · injection h with h; injection h with h1 h2; subst h2; rw [(take_len e).1]; exact tail_le ts
    · cases h
theorem tailP_eats {α : Type} (en : Nat) (last : Bs) {el : List Tok → PR α} (he : Eats el) : ∀ n, Eats (tailP en last el n) := by
  intro n
  induction n with
  | zero =>
    intro ts x r h
    simp only [tailP] at h
    split at h
    · injection h with h; injection h with h1 h2; subst h2; exact tail_le ts
    · cases h
  | succ n ih =>
    intro ts x r h
    simp only [tailP] at h
    split at h
    · injection h with h; injection h with h1 h2; subst h2; exact tail_le ts
    · split at h
      · cases h
      · next r1 e1 =>
        split at h
        · cases h
        · next x2 r2 e2 =>
          split at h
          · cases h
          · next xs r3 e3 =>
            injection h with h; injection h with h1 h2; subst h2
            have a := he _ _ _ e2
            have b := ih _ _ _ e3
            have c := (want_len e1).1
            have d := tail_le ts
            subst c
            omega
theorem listP_eats {α : Type} (en : Nat) (first last : Bs) {el : List Tok → PR α} (he : Eats el) : Eats (listP en first last el) := by
  intro ts x r h
  unfold listP at h
  split at h
  · cases h
  · next r1 e1 =>
    have c := (want_len e1).1
    have d := tail_le ts
    split at h
    · injection h with h; injection h with h1 h2; subst h2; have := tail_le r1; subst c; omega
    · split at h
      · cases h
      · next x2 r2 e2 =>
        split at h
        · cases h
        · next xs r3 e3 =>
          injection h with h; injection h with h1 h2; subst h2
          have a := he _ _ _ e2
          have b := tailP_eats en last he _ _ _ _ e3
          subst c
          omega
theorem rowP_eats (en : Nat) : Eats (rowP en) := listP_eats en _ _ (numP_eats en)
end Go.Proofs.YtgemgmdnnjaghaaGreatDoor

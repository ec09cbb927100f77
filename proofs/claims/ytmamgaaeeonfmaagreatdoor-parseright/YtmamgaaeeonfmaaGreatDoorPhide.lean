/- The document's own small functions: has, list, in, Shapes, Words. -/
import Derived.Test.YtmamgaaeeonfmaaGreatDoorMright
import Derived.Test.YtmamgaaeeonfmaaGreatDoorDRefOf
import Derived.Test.YtmamgaaeeonfmaaGreatDoorLexname
import Derived.Test.YtmamgaaeeonfmaaGreatDoorLexgap
import Derived.BigRegion
namespace Go.Proofs.YtmamgaaeeonfmaaGreatDoor
open Go.RowKit Go.Sort

def listB (n one all : Int) : Bool := if 0 < all then decide (1 ≤ n) && decide (n ≤ 64) else n == one

theorem count_take_succ (l : Bs) (c : UInt8) (k : Nat) (h : k < l.length) : (l.take (k + 1)).count c = (l.take k).count c + (if l[k] == c then 1 else 0) := by
  rw [List.take_add_one, List.getElem?_eq_getElem h, Option.toList_some, List.count_append, List.count_singleton]
theorem count_le (l : Bs) (c : UInt8) (k : Nat) : (l.take k).count c ≤ k := Nat.le_trans List.count_le_length (by rw [List.length_take]; omega)

end Go.Proofs.YtmamgaaeeonfmaaGreatDoor

/- The document's lists of words and shapes. -/
namespace Go.Proofs.YtmamgaaeeonfmaaGreatDoor
open Go.RowKit Go.Sort

def shapesL : List Bs := [] :: ents.map Ent.shape
def wordsL : List Bs := [] :: ents.map Ent.word
def strV (b : Bs) : Value := .string ⟨b.toArray⟩
/-- A slice of texts. -/
structure IsStrs (w : World) (x : Sl) (l : List Bs) : Prop where
  len : x.n = l.length
  lies : Lies w x.A x.n (fun j => strV (l.getD j []))
  big : x.n ≤ 4611686018427387903
  cap : x.n ≤ x.c
theorem IsStrs.below {w w' : World} {x : Sl} {l : List Bs} (h : IsStrs w x l) (hb : Below w.heap.size w w') : IsStrs w' x l := ⟨h.len, h.lies.below hb, h.big, h.cap⟩

theorem strs_new (w : World) (l : List Bs) (t : TypeId) (hl : l.length ≤ 4611686018427387903) : IsStrs (w.alloc (.cells (l.map strV).toArray t)) ⟨some ⟨w.heap.size, 0, none⟩, l.length, l.length⟩ l := by
  refine ⟨rfl, fun _ => ⟨_, rfl, by simp, fun j hj => ?_⟩, hl, Nat.le_refl _⟩
  rw [Addr.add_mid, Nat.zero_add]
  have hj' : j < l.length := hj
  simp [hj', List.getD_eq_getElem?_getD]

def cntI (sh : ByteArray) (x : UInt8) : Int := (((bl sh).count x : Nat) : Int)
def lenI (l : List Int) : Int := ((l.length : Nat) : Int)

/-- Are all lists as they must be? As the document asks it. -/
def arityB (c : ConL) (sh : ByteArray) : Bool :=
  if (c.K != 0 && cntI sh 107 == 0) = true then false
  else if (c.kind == 12) = true then decide (1 ≤ lenI c.A + lenI c.B) && decide (lenI c.A ≤ 64) && decide (lenI c.B ≤ 64) && lenI c.C == 0 && lenI c.D == 0 && lenI c.E == 0 && ((c.rows.length : Nat) : Int) == 0
  else if (!listB (lenI c.A) (cntI sh 118) (cntI sh 86) || !listB (lenI c.B) (cntI sh 119) (cntI sh 87) || !listB (lenI c.C) 0 (cntI sh 99) || !listB (lenI c.D) 0 (cntI sh 100) || !listB (lenI c.E) 0 (cntI sh 101)) = true then false
  else if (cntI sh 114 == 0 && decide (0 < ((c.rows.length : Nat) : Int)) || decide (0 < cntI sh 114) && (decide (((c.rows.length : Nat) : Int) < 1) || decide (1024 < ((c.rows.length : Nat) : Int)))) = true then false
  else if (decide (c.kind ≤ 4) && lenI c.C != lenI c.A) = true then false
  else if (c.kind == 19 && (lenI c.C != lenI c.A || lenI c.D != lenI c.A) || c.kind == 21 && (lenI c.D != lenI c.C || lenI c.E != lenI c.C) || decide (22 ≤ c.kind) && lenI c.B != lenI c.A) = true then false
  else !c.rows.any (fun r => r.length != c.A.length)

def secD (c : ConL) : Int := if c.kind = 19 ∨ c.kind = 21 then 0 else -1000000
/-- Are all numbers within their bounds? As the document asks it. -/
def coefsB (c : ConL) : Bool := !c.C.any (outB (lowC c) 1000000) && !c.D.any (outB (secD c) 1000000) && !c.E.any (outB (secD c) 1000000) && !outB (lowK c) 9999999999 c.K && !c.rows.any (fun r => r.any (outB (-1000000) 1000000)) && (c.kind != 21 || countsB c)

end Go.Proofs.YtmamgaaeeonfmaaGreatDoor

/- A model in memory; what Check tells. No walk. -/
namespace Go.Proofs.YtmamgaaeeonfmaaGreatDoor
open Go.RowKit

def noCon : ConL := ⟨0, [], [], [], [], [], 0, []⟩
/-- A slice of constraints. -/
structure IsCons (w : World) (x : Sl) (L : List ConL) : Prop where
  len : x.n = L.length
  big : x.n ≤ 4611686018427387903
  cap : x.n ≤ x.c
  lies : 0 < x.n → ∃ g o, x.A = some ⟨g, o, none⟩ ∧ g < w.heap.size ∧ ∀ i, i < x.n → ∃ v : ConV, (∀ j u, (v.cells (L.getD i noCon).kind (L.getD i noCon).K)[j]? = some u → w.cell? ⟨g, o + i * 8 + j, none⟩ = some u) ∧ ConIn w v (L.getD i noCon)
theorem IsCons.below {w w' : World} {x : Sl} {L : List ConL} (h : IsCons w x L) (hb : Below w.heap.size w w') : IsCons w' x L := by
  refine ⟨h.len, h.big, h.cap, fun h0 => ?_⟩
  obtain ⟨g, o, e, hg, hc⟩ := h.lies h0
  refine ⟨g, o, e, Nat.lt_of_lt_of_le hg hb.size, fun i hi => ?_⟩
  obtain ⟨v, h1, h2⟩ := hc i hi
  exact ⟨v, fun j u hj => (hb.cell hg).trans (h1 j u hj), h2.below hb⟩
theorem IsCons.nil (w : World) : IsCons w ⟨none, 0, 0⟩ [] := ⟨rfl, by simp, Nat.le_refl _, fun h => absurd h (by simp)⟩
theorem IsStrs.nil (w : World) : IsStrs w ⟨none, 0, 0⟩ [] := ⟨rfl, Lies.none _ _ _, by simp, Nat.le_refl _⟩

/-- A model, as lists. -/
structure ModL where
  names : List Bs
  doms : List (List Int)
  cons : List ConL
  goal : Int
  obj : Int
structure ModV where
  n : Sl
  d : Sl
  c : Sl
abbrev ModV.cells (v : ModV) (goal obj : Int) : Array Value := #[.slice v.n.A v.n.n v.n.c, .slice v.d.A v.d.n v.d.c, .slice v.c.A v.c.n v.c.c, .int .i64 goal, .int .i64 obj]
abbrev ModV.val (v : ModV) (goal obj : Int) : Value := .agg #[.slice v.n.A v.n.n v.n.c, .slice v.d.A v.d.n v.d.c, .slice v.c.A v.c.n v.c.c, .int .i64 goal, .int .i64 obj]
structure ModIn (w : World) (v : ModV) (m : ModL) : Prop where
  n : IsStrs w v.n m.names
  d : IsRows w v.d m.doms
  c : IsCons w v.c m.cons
  short : ∀ l ∈ m.doms, l.length ≤ 1000000
  brief : ∀ b ∈ m.names, b.length ≤ 4611686018427387903
theorem ModIn.below {w w' : World} {v : ModV} {m : ModL} (h : ModIn w v m) (hb : Below w.heap.size w w') : ModIn w' v m := ⟨h.n.below hb, h.d.below hb, h.c.below hb, h.short, h.brief⟩

/-- The first error of some, one by one. -/
def firstE (f : Nat → Int) (n : Nat) : Int := match (List.range n).find? (fun i => f i != 0) with
  | some i => f i
  | none => 0
/-- The first place of an error, and the error. -/
def firstP (f : Nat → Int) (n : Nat) : Option (Nat × Int) := ((List.range n).find? (fun i => f i != 0)).map fun i => (i, f i)
theorem find_range {f : Nat → Int} {n k : Nat} (hk : k < n) (h0 : ∀ j, j < k → f j = 0) (h1 : f k ≠ 0) : (List.range n).find? (fun i => f i != 0) = some k := by
  rw [List.find?_range_eq_some]
  exact ⟨by simpa using h1, by simpa using hk, fun j hj => by simp [h0 j hj]⟩
theorem find_range_no {f : Nat → Int} {n : Nat} (h0 : ∀ j, j < n → f j = 0) : (List.range n).find? (fun i => f i != 0) = none := by
  rw [List.find?_eq_none]
  intro j hj
  simp [h0 j (List.mem_range.1 hj)]
theorem firstE_at {f : Nat → Int} {n k : Nat} (hk : k < n) (h0 : ∀ j, j < k → f j = 0) (h1 : f k ≠ 0) : firstE f n = f k := by
  unfold firstE
  rw [find_range hk h0 h1]
theorem firstE_no {f : Nat → Int} {n : Nat} (h0 : ∀ j, j < n → f j = 0) : firstE f n = 0 := by
  unfold firstE
  rw [find_range_no h0]
theorem firstP_at {f : Nat → Int} {n k : Nat} (hk : k < n) (h0 : ∀ j, j < k → f j = 0) (h1 : f k ≠ 0) : firstP f n = some (k, f k) := by
  unfold firstP
  rw [find_range hk h0 h1]
  rfl
theorem firstP_no {f : Nat → Int} {n : Nat} (h0 : ∀ j, j < n → f j = 0) : firstP f n = none := by
  unfold firstP
  rw [find_range_no h0]
  rfl

/-- May a variable have this name? -/
def mayNameB (b : Bs) : Bool := !(b == [118, 97, 114]) && !(b == [99, 111, 110, 115, 116, 114, 97, 105, 110, 116]) && !(b == [115, 111, 108, 118, 101]) && nameB b
/-- Does a list rise? Up to a place. -/
def riseTo (l : List Int) (k : Nat) : Prop := ∀ i, 1 ≤ i → i < k → l.getD (i - 1) 0 < l.getD i 0
def riseB (l : List Int) : Bool := (List.range l.length).all fun i => i == 0 || decide (l.getD (i - 1) 0 < l.getD i 0)
theorem rise_yes {l : List Int} (h : riseTo l l.length) : riseB l = true := by
  unfold riseB
  rw [List.all_eq_true]
  intro i hi
  have hi' := List.mem_range.1 hi
  by_cases h0 : i = 0
  · simp [h0]
  · have := h i (by omega) hi'
    rw [decide_eq_true this, Bool.or_true]
theorem rise_no {l : List Int} {i : Nat} (h1 : 1 ≤ i) (hi : i < l.length) (h : ¬ l.getD (i - 1) 0 < l.getD i 0) : riseB l = false := by
  unfold riseB
  rw [List.all_eq_false]
  refine ⟨i, List.mem_range.2 hi, ?_⟩
  have : (i == 0) = false := by simp; omega
  rw [this, decide_eq_false h]
  decide
theorem rise_pair {l : List Int} (h : riseB l = true) : riseTo l l.length := by
  intro i h1 hi
  unfold riseB at h
  have := List.all_eq_true.1 h i (List.mem_range.2 hi)
  have h0 : (i == 0) = false := by simp; omega
  rw [h0, Bool.false_or, decide_eq_true_eq] at this
  exact this
/-- Is a list a domain's? -/
def mayListB (l : List Int) : Bool := riseB l && (ofErr l == 0)

theorem take_getD1 (zs : List Int) (k : Nat) (h : k < zs.length) : zs.take (k + 1) = zs.take k ++ [zs.getD k 0] := take_getD zs k h
theorem rise_lt {l : List Int} (h : riseTo l l.length) : ∀ k, k < l.length → ∀ u ∈ l.take k, u < l.getD k 0 := by
  intro k
  induction k with
  | zero => intro _ u hu; simp at hu
  | succ k ih =>
    intro hk u hu
    have h1 := h (k + 1) (by omega) hk
    rw [show k + 1 - 1 = k by omega] at h1
    rw [take_getD1 l k (by omega)] at hu
    rcases List.mem_append.1 hu with hu | hu
    · have := ih (by omega) u hu
      omega
    · rw [List.mem_singleton.1 hu]
      exact h1
theorem set_of_rise {l : List Int} (h : riseTo l l.length) : setOf l = l := by
  have key : ∀ k, k ≤ l.length → setOf (l.take k) = l.take k := by
    intro k
    induction k with
    | zero => intro _; rfl
    | succ k ih =>
      intro hk
      rw [setOf_snoc l k (by omega), ih (by omega), take_getD1 l k (by omega)]
      have := ins_end (l.getD k 0) (l.take k) [] (rise_lt h k (by omega))
      rw [List.append_nil] at this
      rw [this]
      rfl
  have := key l.length (Nat.le_refl _)
  rwa [List.take_length] at this
theorem rise_of_set {l : List Int} (h : setOf l = l) : riseTo l l.length := by
  have hp := rising_setOf l
  rw [h] at hp
  intro i h1 hi
  rw [List.getD_eq_getElem?_getD, List.getD_eq_getElem?_getD, List.getElem?_eq_getElem hi, List.getElem?_eq_getElem (by omega : i - 1 < l.length)]
  exact List.pairwise_iff_getElem.1 hp (i - 1) i (by omega) hi (by omega)
/-- As the document asks it. -/
theorem list_same (l : List Int) : (ofErr l != 0 || !(ofL l == l)) = !mayListB l := by
  unfold mayListB
  by_cases he : ofErr l = 0
  · rw [ofL_ok l he]
    have e1 : (ofErr l != 0) = false := by simp [he]
    have e2 : (ofErr l == 0) = true := by simp [he]
    rw [e1, e2, Bool.false_or, Bool.and_true]
    congr 1
    rw [Bool.eq_iff_iff, beq_iff_eq]
    exact ⟨fun h => rise_yes (rise_of_set h), fun h => set_of_rise (rise_pair h)⟩
  · have e1 : (ofErr l != 0) = true := by simpa using he
    have e2 : (ofErr l == 0) = false := by simpa using he
    rw [e1, e2, Bool.true_or, Bool.and_false]
    rfl

def varE (m : ModL) (i : Nat) : Int := if mayNameB (m.names.getD i []) = false then 7 else if (m.names.take i).any (· == m.names.getD i []) = true then 8 else if mayListB (m.doms.getD i []) = false then 3 else 0
def conE (m : ModL) (i : Nat) : Int := rightE (m.cons.getD i noCon) (m.names.length : Nat)
def goalB (m : ModL) : Bool := if m.goal == 0 then m.obj == 0 else if m.goal == 1 || m.goal == 2 then decide (0 ≤ m.obj) && decide (m.obj < ((m.names.length : Nat) : Int)) else false
/-- What Check tells. -/
def checkE (m : ModL) : Int × Int :=
  if m.names.length ≠ m.doms.length then (-1, 2)
  else if 256 < m.names.length ∨ 1024 < m.cons.length then (-1, 12)
  else if firstE (varE m) m.names.length ≠ 0 then (-1, firstE (varE m) m.names.length)
  else match firstP (conE m) m.cons.length with
    | some (i, e) => ((i : Nat), e)
    | none => if goalB m = false then (-1, 17) else (-1, 0)

section
variable {m : ModL}
theorem checkE_len (h : m.names.length ≠ m.doms.length) : checkE m = (-1, 2) := by unfold checkE; rw [if_pos h]
theorem checkE_many (h : m.names.length = m.doms.length) (h2 : 256 < m.names.length ∨ 1024 < m.cons.length) : checkE m = (-1, 12) := by unfold checkE; rw [if_neg (by omega), if_pos h2]
theorem checkE_var (h : m.names.length = m.doms.length) (h2 : m.names.length ≤ 256) (h3 : m.cons.length ≤ 1024) (h4 : firstE (varE m) m.names.length ≠ 0) : checkE m = (-1, firstE (varE m) m.names.length) := by unfold checkE; rw [if_neg (by omega), if_neg (by omega), if_pos h4]
theorem checkE_con (h : m.names.length = m.doms.length) (h2 : m.names.length ≤ 256) (h3 : m.cons.length ≤ 1024) (h4 : firstE (varE m) m.names.length = 0) {k : Nat} (hk : k < m.cons.length) (h5 : ∀ j, j < k → conE m j = 0) (h6 : conE m k ≠ 0) : checkE m = (((k : Nat) : Int), conE m k) := by
  unfold checkE
  rw [if_neg (by omega), if_neg (by omega), if_neg (by simpa using h4), firstP_at hk h5 h6]
theorem checkE_end (h : m.names.length = m.doms.length) (h2 : m.names.length ≤ 256) (h3 : m.cons.length ≤ 1024) (h4 : firstE (varE m) m.names.length = 0) (h5 : ∀ j, j < m.cons.length → conE m j = 0) : checkE m = (-1, if goalB m = false then 17 else 0) := by
  unfold checkE
  rw [if_neg (by omega), if_neg (by omega), if_neg (by simpa using h4), firstP_no h5]
  cases goalB m <;> rfl
end
end Go.Proofs.YtmamgaaeeonfmaaGreatDoor

/- Worlds with some blocks hidden; what stays where only these are written to. No walk. -/
namespace Go.Proofs.YtmamgaaeeonfmaaGreatDoor
open Go.RowKit

/-- A world in which some blocks hold nothing. -/
def hide (S : Nat → Bool) (w : World) : World := { w with heap := w.heap.mapIdx fun g o => if S g then .cells #[] 0 (0, 0) else o }
theorem hide_size (S : Nat → Bool) (w : World) : (hide S w).heap.size = w.heap.size := by simp [hide]
theorem hide_block {S : Nat → Bool} (w : World) {g : Nat} (h : S g = false) : (hide S w).heap[g]? = w.heap[g]? := by
  simp [hide, h, Array.getElem?_mapIdx]
theorem hide_gone {S : Nat → Bool} (w : World) {g : Nat} (h : S g = true) : (hide S w).heap[g]? = (w.heap[g]?).map fun _ => .cells #[] 0 (0, 0) := by
  simp [hide, h, Array.getElem?_mapIdx]
theorem hide_cell {S : Nat → Bool} {w : World} {a : Addr} {x : Value} (h : (hide S w).cell? a = some x) : S a.block = false ∧ w.cell? a = some x := by
  cases hS : S a.block
  · exact ⟨rfl, by rw [← h]; exact (World.cell?_of_block (w := w) (hide_block w hS)).symm⟩
  · exfalso
    unfold World.cell? at h
    rw [hide_gone w hS] at h
    cases hb : w.heap[a.block]? <;> rw [hb] at h <;> simp at h
theorem cell_hide {S : Nat → Bool} {w : World} {a : Addr} {x : Value} (h : w.cell? a = some x) (hS : S a.block = false) : (hide S w).cell? a = some x := by
  rw [← h]; exact World.cell?_of_block (w := w) (hide_block w hS)

/-- All blocks but some stay. -/
structure Mv (S : Nat → Bool) (w w' : World) : Prop where
  os : w'.os = w.os
  tape : w'.tape = w.tape
  output : w'.output = w.output
  size : w.heap.size ≤ w'.heap.size
  block : ∀ k, k < w.heap.size → S k = false → w'.heap[k]? = w.heap[k]?
theorem Mv.refl (S : Nat → Bool) (w : World) : Mv S w w := ⟨rfl, rfl, rfl, Nat.le_refl _, fun _ _ _ => rfl⟩
theorem Mv.trans {S : Nat → Bool} {a b c : World} (h : Mv S a b) (k : Mv S b c) : Mv S a c :=
  ⟨k.os.trans h.os, k.tape.trans h.tape, k.output.trans h.output, Nat.le_trans h.size k.size, fun i hi hS => (k.block i (Nat.lt_of_lt_of_le hi h.size) hS).trans (h.block i hi hS)⟩
/-- The set may have grown by new blocks. -/
theorem Mv.trans2 {S T : Nat → Bool} {a b c : World} (h : Mv S a b) (k : Mv T b c) (hST : ∀ g, g < a.heap.size → S g = false → T g = false) : Mv S a c :=
  ⟨k.os.trans h.os, k.tape.trans h.tape, k.output.trans h.output, Nat.le_trans h.size k.size, fun i hi hS => (k.block i (Nat.lt_of_lt_of_le hi h.size) (hST i hi hS)).trans (h.block i hi hS)⟩
theorem Mv.wide {S T : Nat → Bool} {a b : World} (h : Mv S a b) (hST : ∀ g, g < a.heap.size → T g = false → S g = false) : Mv T a b :=
  ⟨h.os, h.tape, h.output, h.size, fun i hi hS => h.block i hi (hST i hi hS)⟩
theorem Mv.of_below {S : Nat → Bool} {w w' : World} (h : Below w.heap.size w w') : Mv S w w' := ⟨h.os, h.tape, h.output, h.size, fun k hk _ => h.block k hk⟩
theorem Mv.drew {S : Nat → Bool} {w w' : World} (h : Mv S w w') : Mv S w w'.drew := ⟨h.os, h.tape, h.output, h.size, h.block⟩
theorem Mv.alloc {S : Nat → Bool} {w w' : World} (h : Mv S w w') (o : Obj) : Mv S w (w'.alloc o) :=
  h.trans (Mv.of_below ((Below.refl _ _).alloc (Nat.le_refl _) o))
theorem Mv.setCell {S : Nat → Bool} {w w' : World} (h : Mv S w w') {p : Addr} (hp : S p.block = true) (u : Value) : Mv S w (w'.setCell p u) :=
  h.trans ⟨rfl, rfl, rfl, by simp [World.setCell], fun k _ hS => Below.heap_setCell _ _ _ _ (fun e => by rw [← e, hS] at hp; cases hp)⟩
theorem Mv.grown {S : Nat → Bool} {w w' w'' : World} {row : Option Nat} (h : Mv S w w') (hg : w'.grownBy w'' row) (hr : ∀ k, row = some k → S k = true) : Mv S w w'' :=
  h.trans ⟨hg.os, hg.tape, hg.output, hg.size, fun k hk hS => hg.block k hk (fun e => by rw [hr k e.symm] at hS; cases hS)⟩
theorem Mv.grownFrom {S : Nat → Bool} {w w' w'' : World} {row : Option Nat} (h : Mv S w w') (hg : w'.grownBy w'' row) (hr : ∀ k, row = some k → w.heap.size ≤ k) : Mv S w w'' :=
  ⟨hg.os.trans h.os, hg.tape.trans h.tape, hg.output.trans h.output, Nat.le_trans h.size hg.size, fun k hk hS => (hg.block k (Nat.lt_of_lt_of_le hk h.size) (fun e => by have := hr k e.symm; omega)).trans (h.block k hk hS)⟩
theorem Mv.hide {S : Nat → Bool} {w w' : World} (h : Mv S w w') : Below w.heap.size (hide S w) (hide S w') := by
  refine ⟨h.os, h.tape, h.output, by rw [hide_size, hide_size]; exact h.size, fun k hk => ?_⟩
  cases hS : S k
  · rw [hide_block _ hS, hide_block _ hS]; exact h.block k hk hS
  · rw [hide_gone _ hS, hide_gone _ hS]
    have h1 : k < w'.heap.size := Nat.lt_of_lt_of_le hk h.size
    simp [hk, h1]
/-- Below the blocks that are hidden all is as it was. -/
theorem Mv.below {S : Nat → Bool} {b : Nat} {w w' : World} (h : Mv S w w') (hb : b ≤ w.heap.size) (hS : ∀ g, g < b → S g = false) : Below b w w' :=
  ⟨h.os, h.tape, h.output, h.size, fun k hk => h.block k (by omega) (hS k hk)⟩
/-- More is hidden: only new blocks. -/
theorem hide_more {S T : Nat → Bool} {b : Nat} {w : World} (hST : ∀ g, g < b → T g = S g) : Below b (hide S w) (hide T w) := by
  refine ⟨rfl, rfl, rfl, by rw [hide_size, hide_size]; exact Nat.le_refl _, fun k hk => ?_⟩
  cases hS : S k
  · rw [hide_block _ hS, hide_block _ ((hST k hk).trans hS)]
  · rw [hide_gone _ hS, hide_gone _ ((hST k hk).trans hS)]

theorem Lies.unhide {S : Nat → Bool} {w : World} {A : Option Addr} {n : Nat} {f : Nat → Value} (h : Lies (hide S w) A n f) : Lies w A n f := by
  intro hn
  obtain ⟨ad, e, hl, hc⟩ := h hn
  exact ⟨ad, e, by rw [hide_size] at hl; exact hl, fun j hj => (hide_cell (hc j hj)).2⟩
theorem IsInts.unhide {S : Nat → Bool} {w : World} {v : Sl} {L : List Int} (h : IsInts (hide S w) v L) : IsInts w v L := ⟨h.len, h.lies.unhide, h.big, h.cap⟩
theorem IsRows.unhide {S : Nat → Bool} {w : World} {v : Sl} {R : List (List Int)} (h : IsRows (hide S w) v R) : IsRows w v R := by
  refine ⟨h.len, h.big, fun h0 => ?_⟩
  obtain ⟨ad, e, hl, hc⟩ := h.lies h0
  refine ⟨ad, e, by rw [hide_size] at hl; exact hl, fun i hi => ?_⟩
  obtain ⟨u, h3, h4⟩ := hc i hi
  exact ⟨u, (hide_cell h3).2, h4.unhide⟩
theorem ConIn.unhide {S : Nat → Bool} {w : World} {v : ConV} {c : ConL} (h : ConIn (hide S w) v c) : ConIn w v c :=
  ⟨h.a.unhide, h.b.unhide, h.c.unhide, h.d.unhide, h.e.unhide, h.r.unhide⟩
/-- A new block is not hidden. -/
theorem Lies.hide {S : Nat → Bool} {w : World} {A : Option Addr} {n : Nat} {f : Nat → Value} (h : Lies w A n f) (hS : ∀ ad, A = some ad → S ad.block = false) : Lies (hide S w) A n f := by
  intro hn
  obtain ⟨ad, e, hl, hc⟩ := h hn
  exact ⟨ad, e, by rw [hide_size]; exact hl, fun j hj => cell_hide (hc j hj) (by rw [add_block]; exact hS ad e)⟩
theorem IsInts.hide {S : Nat → Bool} {w : World} {v : Sl} {L : List Int} (h : IsInts w v L) (hS : ∀ ad, v.A = some ad → S ad.block = false) : IsInts (hide S w) v L := ⟨h.len, h.lies.hide hS, h.big, h.cap⟩
end Go.Proofs.YtmamgaaeeonfmaaGreatDoor

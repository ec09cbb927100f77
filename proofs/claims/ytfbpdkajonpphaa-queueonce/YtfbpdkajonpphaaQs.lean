/- A queue in memory, whole, with what it has: a list of numbers with their buckets, in the order of their pushes. No walk. -/
import Derived.Test.YtfbpdkajonpphaaQ
namespace Go.Proofs.Ytfbpdkajonpphaa
open Go.RowKit Go.Maps

abbrev ptr (g : Nat) : Value := .pointer (some ⟨g, 0, none⟩)
abbrev key (x : Int) : Lit := .int .i64 x

theorem law3 : Keyed Try.prog 3 := int_keyed Try.underlying3
theorem zero50 (w : World) : (zeroValue 50).run Try.prog w = .ok (.agg #[]) w := by kernel_rfl
theorem key_mk {x : Int} (h : (Lit.int .i64 x).wf = true) : keyOf Try.prog 3 (.int .i64 x) = some (key x) := keyOf_int_mk Try.underlying3 h
theorem key_ne {x y : Int} (h : x ≠ y) : key x ≠ key y := by
  intro e
  injection e with _ e
  exact h e
theorem key_lit (x : Int) : WideAt.IsKeyLit (key x) := trivial

/-- Where a queue lies: its block, its count, its four slices, its map. -/
structure Qs where
  Q : Nat
  n : Int
  s : Nat → Value
  m : Nat

/-- The numbers of a bucket. -/
def inB (l : List (Int × Nat)) (i : Nat) : List Int := (l.filter fun p => p.2 == i).map Prod.fst

/-- The blocks that are a queue's own. -/
def Qs.own (q : Qs) (b : Nat) : Prop := b = q.Q ∨ b = q.m ∨ ∃ i, i < 4 ∧ (q.s i).ownBlock = some b

def Qs.cells (q : Qs) : Array Value := #[.int .i64 q.n, q.s 0, q.s 1, q.s 2, q.s 3, .map (some q.m)]

/-- The queue q has l. -/
structure IsQ (w : World) (q : Qs) (l : List (Int × Nat)) : Prop where
  head : Blk w q.Q q.cells 46
  bkt : ∀ i, i < 4 → Bkt w (q.s i) (inB l i)
  apart : ∀ i j g, i < 4 → j < 4 → (q.s i).ownBlock = some g → (q.s j).ownBlock = some g → i = j
  map : ∃ D : DataW Unit, w.ownsMap Try.prog 3 unitElem q.m (size D) D ∧ (∀ x, has D (key x) = decide (x ∈ l.map Prod.fst)) ∧ size D = l.length
  nodup : (l.map Prod.fst).Nodup
  four : ∀ p ∈ l, p.2 < 4
  wf : ∀ p ∈ l, (Lit.int .i64 p.1).wf = true

/-- What a queue's call leaves: all but its own blocks. -/
structure Fq (q q' : Qs) (w w' : World) : Prop where
  os : w'.os = w.os
  tape : w'.tape = w.tape
  output : w'.output = w.output
  size : w.heap.size ≤ w'.heap.size
  block : ∀ b, b < w.heap.size → ¬ q.own b → w'.heap[b]? = w.heap[b]?
  own : ∀ b, q'.own b → q.own b ∨ w.heap.size ≤ b
  same : q'.Q = q.Q ∧ q'.n = q.n

section
variable {w w' : World} {q q' : Qs} {l : List (Int × Nat)}

theorem Fq.refl (q : Qs) (w : World) : Fq q q w w := ⟨rfl, rfl, rfl, Nat.le_refl _, fun _ _ _ => rfl, fun _ h => .inl h, rfl, rfl⟩

theorem Fq.trans {q'' : Qs} {w'' : World} (h : Fq q q' w w') (k : Fq q' q'' w' w'') : Fq q q'' w w'' := by
  refine ⟨k.os.trans h.os, k.tape.trans h.tape, k.output.trans h.output, Nat.le_trans h.size k.size, fun b hb hn => ?_, fun b hb => ?_, k.same.1.trans h.same.1, k.same.2.trans h.same.2⟩
  · rw [k.block b (Nat.lt_of_lt_of_le hb h.size) (fun ho => ?_), h.block b hb hn]
    rcases h.own b ho with h1 | h1
    · exact hn h1
    · omega
  · rcases k.own b hb with h1 | h1
    · exact h.own b h1
    · exact .inr (Nat.le_trans h.size h1)

theorem Fq.of_below (q : Qs) (h : Below w.heap.size w w') : Fq q q w w' := ⟨h.os, h.tape, h.output, h.size, fun b hb _ => h.block b hb, fun _ h => .inl h, rfl, rfl⟩

theorem Fq.below {base : Nat} (h : Fq q q' w w') (hb : ∀ b, q.own b → base ≤ b) (hs : base ≤ w.heap.size) : Below base w w' :=
  ⟨h.os, h.tape, h.output, h.size, fun b hb' => h.block b (by omega) (fun ho => by have := hb b ho; omega)⟩

theorem Fq.above {base : Nat} (h : Fq q q' w w') (hb : ∀ b, q.own b → base ≤ b) (hs : base ≤ w.heap.size) : ∀ b, q'.own b → base ≤ b := by
  intro b ho
  rcases h.own b ho with h1 | h1
  · exact hb b h1
  · omega

theorem Fq.blk {g : Nat} {cs : Array Value} {t : TypeId} (h : Fq q q' w w') (hB : Blk w g cs t) (hn : ¬ q.own g) : Blk w' g cs t := (h.block g hB.lt hn).trans hB

theorem IsQ.lt (h : IsQ w q l) : ∀ b, q.own b → b < w.heap.size := by
  rintro b (rfl | rfl | ⟨i, hi, hb⟩)
  · exact h.head.lt
  · obtain ⟨D, hD, -⟩ := h.map
    exact hD.lt
  · exact (h.bkt i hi).lt b hb

theorem IsQ.keep (h : IsQ w q l) (hk : ∀ b, q.own b → w'.heap[b]? = w.heap[b]?) : IsQ w' q l := by
  refine ⟨(hk _ (.inl rfl)).trans h.head, fun i hi => (h.bkt i hi).keep fun g hg => hk g (.inr (.inr ⟨i, hi, hg⟩)), h.apart, ?_, h.nodup, h.four, h.wf⟩
  obtain ⟨D, ⟨es, clock, hb, r⟩, h2⟩ := h.map
  exact ⟨D, ⟨es, clock, (hk _ (.inr (.inl rfl))).trans hb, r⟩, h2⟩

theorem IsQ.below (h : IsQ w q l) (hb : Below w.heap.size w w') : IsQ w' q l := h.keep fun b ho => hb.block b (h.lt b ho)

/-- Another's block stays out of a queue's own. -/
theorem IsQ.out (h : IsQ w q l) {g : Nat} {cs : Array Value} {t : TypeId} (hB : Blk w g cs t) (h3 : t ≠ 3) (h46 : t ≠ 46) : ¬ q.own g := by
  rintro (rfl | rfl | ⟨i, hi, hb⟩)
  · exact hB.ne h.head h46 rfl
  · obtain ⟨D, ⟨es, clock, hb, r⟩, h2⟩ := h.map
    unfold Blk at hB
    rw [hB] at hb
    cases hb
  · rcases h.bkt i hi with ⟨e, -⟩ | ⟨g', off, cap, cur, e, hB', -⟩
    · rw [e] at hb
      cases hb
    · rw [e] at hb
      simp only [Value.ownBlock, Option.some.injEq] at hb
      subst hb
      exact hB.ne hB' h3 rfl

theorem IsQ.cells (h : IsQ w q l) : w.cell? ⟨q.Q, 0, none⟩ = some (.int .i64 q.n) ∧ (∀ i, i < 4 → w.cell? ⟨q.Q, 1 + i, none⟩ = some (q.s i)) ∧ w.cell? ⟨q.Q, 5, none⟩ = some (.map (some q.m)) := by
  refine ⟨h.head.cell 0, fun i hi => ?_, h.head.cell 5⟩
  match i, hi with
  | 0, _ => exact h.head.cell 1
  | 1, _ => exact h.head.cell 2
  | 2, _ => exact h.head.cell 3
  | 3, _ => exact h.head.cell 4

theorem inB_nil (i : Nat) : inB [] i = [] := rfl
theorem inB_snoc (l : List (Int × Nat)) (x : Int) (b i : Nat) : inB (l ++ [(x, b)]) i = if b = i then inB l i ++ [x] else inB l i := by
  unfold inB
  rw [List.filter_append, List.map_append]
  by_cases h : b = i
  · simp [h]
  · simp [h]

theorem inB_len (l : List (Int × Nat)) (i : Nat) : (inB l i).length ≤ l.length := by
  unfold inB
  rw [List.length_map]
  exact List.length_filter_le _ _
theorem inB_mem {l : List (Int × Nat)} {i : Nat} {x : Int} : x ∈ inB l i ↔ (x, i) ∈ l := by
  unfold inB
  simp

/-- A queue's slices, one set. -/
def Qs.put (q : Qs) (i : Nat) (v : Value) : Qs := { q with s := fun j => if j = i then v else q.s j }
theorem Qs.put_cells (q : Qs) (i : Nat) (v : Value) (hi : i < 4) : (q.put i v).cells = q.cells.setIfInBounds (1 + i) v := by
  unfold Qs.put Qs.cells
  match i, hi with
  | 0, _ => simp
  | 1, _ => simp
  | 2, _ => simp
  | 3, _ => simp
theorem Qs.put_same (q : Qs) (i : Nat) (v : Value) : (q.put i v).s i = v := by simp [Qs.put]
theorem Qs.put_other (q : Qs) {i j : Nat} (v : Value) (h : j ≠ i) : (q.put i v).s j = q.s j := by simp [Qs.put, h]

theorem Qs.put_own (q : Qs) (i : Nat) (v : Value) (w : World) (hv : ∀ g, v.ownBlock = some g → (q.s i).ownBlock = some g ∨ w.heap.size ≤ g) (hi : i < 4) : ∀ b, (q.put i v).own b → q.own b ∨ w.heap.size ≤ b := by
  rintro b (hb | hb | ⟨j, hj, hb⟩)
  · exact .inl (.inl hb)
  · exact .inl (.inr (.inl hb))
  · by_cases e : j = i
    · subst e
      rw [Qs.put_same] at hb
      rcases hv b hb with h1 | h1
      · exact .inl (.inr (.inr ⟨j, hj, h1⟩))
      · exact .inr h1
    · rw [Qs.put_other q v e] at hb
      exact .inl (.inr (.inr ⟨j, hj, hb⟩))

/-- A new queue. -/
theorem IsQ.new (w : World) (n : Int) :
    IsQ ((w.alloc (.map #[] 0)).alloc (.cells #[.int .i64 n, .slice none 0 0, .slice none 0 0, .slice none 0 0, .slice none 0 0, .map (some w.heap.size)] 46)) ⟨w.heap.size + 1, n, fun _ => .slice none 0 0, w.heap.size⟩ [] := by
  have hm : (w.alloc (.map #[] 0)).ownsMap Try.prog 3 (unitElem (H := Unit)) w.heap.size 0 (.map []) := World.ownsMap_made _ _ _ _
  refine ⟨?_, fun i _ => .inl ⟨rfl, rfl⟩, fun i j g _ _ h => (by cases h), ⟨.map [], hm.alloc _, fun x => ?_, rfl⟩, by simp, by simp, by simp⟩
  · have := Blk.new (w.alloc (.map #[] 0)) #[.int .i64 n, .slice none 0 0, .slice none 0 0, .slice none 0 0, .slice none 0 0, .map (some w.heap.size)] 46
    rw [show (w.alloc (.map #[] 0)).heap.size = w.heap.size + 1 by simp] at this
    exact this
  · simp [has]

/-- The last one of a bucket. -/
theorem IsQ.push {x : Int} {b : Nat} {v : Value} {w1 w2 w3 : World} (h : IsQ w q l) (hb : b < 4) (hx : x ∉ l.map Prod.fst) (hw : (Lit.int .i64 x).wf = true) (hl : l.length + 1 ≤ 1000000)
    (h0 : Below w.heap.size w w1) (hv : Bkt w2 v (inB l b ++ [x])) (hg : w1.grownBy w2 (q.s b).ownBlock) (ho : ∀ g, v.ownBlock = some g → (q.s b).ownBlock = some g ∨ w1.heap.size ≤ g)
    (e3 : w3 = w2.setCell ⟨q.Q, 1 + b, none⟩ v) :
    ∃ D : DataW Unit, w3.ownsMap Try.prog 3 unitElem q.m (size D) D ∧ size D < maxLen ∧
      ∀ w4, w4.ownsMap Try.prog 3 unitElem q.m (size D + 1) (D.put (key x) (.agg [])) → w3.mapTurned w4 q.m → IsQ w4 (q.put b v) (l ++ [(x, b)]) ∧ Fq q (q.put b v) w w4 := by
  subst e3
  obtain ⟨D, hD, hD1, hD2⟩ := h.map
  have hmQ : q.m ≠ q.Q := by
    intro e
    obtain ⟨es, clock, hb', r⟩ := hD
    have := h.head
    unfold Blk at this
    rw [← e, hb'] at this
    cases this
  have hms : ∀ i, i < 4 → (q.s i).ownBlock ≠ some q.m := by
    intro i hi e
    obtain ⟨es, clock, hb', r⟩ := hD
    rcases h.bkt i hi with ⟨e', -⟩ | ⟨g', off, cap, cur, e', hB', -⟩
    · rw [e'] at e
      cases e
    · rw [e'] at e
      simp only [Value.ownBlock, Option.some.injEq] at e
      subst e
      unfold Blk at hB'
      rw [hb'] at hB'
      cases hB'
  have hQs : ∀ i, i < 4 → (q.s i).ownBlock ≠ some q.Q := by
    intro i hi e
    rcases h.bkt i hi with ⟨e', -⟩ | ⟨g', off, cap, cur, e', hB', -⟩
    · rw [e'] at e
      cases e
    · rw [e'] at e
      simp only [Value.ownBlock, Option.some.injEq] at e
      subst e
      exact hB'.ne h.head (by decide) rfl
  have h1 : IsQ w1 q l := h.below h0
  obtain ⟨D', hD', -⟩ := h1.map
  have hD1' : w1.ownsMap Try.prog 3 unitElem q.m (size D) D := by
    obtain ⟨es, clock, hb', r⟩ := hD
    exact ⟨es, clock, (h0.block _ (lt_of_heap hb')).trans hb', r⟩
  have hD2' : w2.ownsMap Try.prog 3 unitElem q.m (size D) D := hD1'.kept hg (fun e => hms b hb e.symm)
  have hD3' : (w2.setCell ⟨q.Q, 1 + b, none⟩ v).ownsMap Try.prog 3 unitElem q.m (size D) D := hD2'.setCell hmQ _
  have hB2 : Blk w2 q.Q q.cells 46 := h1.head.grown hg (fun e => hQs b hb e.symm)
  have hB3 := hB2.set (1 + b) v
  rw [← Qs.put_cells q b v hb] at hB3
  have hvQ : ∀ g, v.ownBlock = some g → g ≠ q.Q := by
    intro g hg' e
    rcases hv with ⟨e', -⟩ | ⟨g', off, cap, cur, e', hB', -⟩
    · rw [e'] at hg'
      cases hg'
    · rw [e'] at hg'
      simp only [Value.ownBlock, Option.some.injEq] at hg'
      subst hg'
      exact hB'.ne hB2 (by decide) e
  have hvm : ∀ g, v.ownBlock = some g → g ≠ q.m := by
    intro g hg' e
    rcases ho g hg' with h2 | h2
    · exact hms b hb (e ▸ h2)
    · have := hD1'.lt
      omega
  refine ⟨D, hD3', by rw [hD2]; unfold maxLen; omega, fun w4 hown4 ht => ?_⟩
  have hg4 := ht.grown
  have hk4 : ∀ k, k < w2.heap.size → k ≠ q.Q → k ≠ q.m → w4.heap[k]? = w2.heap[k]? := by
    intro k hk e1 e2
    rw [hg4.block k (by simpa [World.setCell] using hk) (fun e => e2 (by injection e)), heap_setCell_other w2 ⟨q.Q, 1 + b, none⟩ k v e1]
  have hkk : ∀ k, k < w1.heap.size → k ≠ q.Q → k ≠ q.m → (q.s b).ownBlock ≠ some k → w4.heap[k]? = w1.heap[k]? := by
    intro k hk e1 e2 e3
    rw [hk4 k (Nat.lt_of_lt_of_le hk hg.size) e1 e2, hg.block k hk (fun e => e3 e.symm)]
  have hown := Qs.put_own q b v w1 ho hb
  refine ⟨⟨?_, fun i hi => ?_, fun i j g hi hj => ?_, ?_, ?_, ?_, ?_⟩, ⟨?_, ?_, ?_, ?_, ?_, ?_, rfl, rfl⟩⟩
  · exact (hg4.block _ hB3.lt (fun e => hmQ (by injection e with e; exact e.symm))).trans hB3
  · rw [inB_snoc]
    by_cases e : i = b
    · subst e
      rw [Qs.put_same, if_pos rfl]
      exact hv.keep fun g hg' => hk4 g (hv.lt g hg') (hvQ g hg') (hvm g hg')
    · rw [Qs.put_other q v e, if_neg (fun h => e h.symm)]
      refine (h1.bkt i hi).keep fun g hg' => hkk g ((h1.bkt i hi).lt g hg') (fun e' => hQs i hi (e' ▸ hg')) (fun e' => hms i hi (e' ▸ hg')) (fun e' => e (h.apart i b g hi hb hg' e'))
  · intro hgi hgj
    by_cases ei : i = b
    · by_cases ej : j = b
      · rw [ei, ej]
      · subst ei
        rw [Qs.put_same] at hgi
        rw [Qs.put_other q v ej] at hgj
        rcases ho g hgi with h2 | h2
        · exact (h.apart i j g hi hj h2 hgj)
        · have := (h1.bkt j hj).lt g hgj
          omega
    · rw [Qs.put_other q v ei] at hgi
      by_cases ej : j = b
      · subst ej
        rw [Qs.put_same] at hgj
        rcases ho g hgj with h2 | h2
        · exact (h.apart i j g hi hj hgi h2)
        · have := (h1.bkt i hi).lt g hgi
          omega
      · rw [Qs.put_other q v ej] at hgj
        exact h.apart i j g hi hj hgi hgj
  · have htidy := hD.tidy law3
    have hnot : has D (key x) = false := by rw [hD1]; simpa using hx
    have hsz : size (D.put (key x) (.agg [])) = size D + 1 := by rw [size_put htidy, hnot]; rfl
    refine ⟨D.put (key x) (.agg []), by rw [hsz]; exact hown4, fun y => ?_, by rw [hsz, hD2]; simp⟩
    by_cases e : y = x
    · subst e
      rw [has_put_same hD.isMap (key_lit _)]
      simp
    · rw [has_put_other (key_ne e), hD1]
      simp [e]
  · rw [List.map_append, List.nodup_append]
    refine ⟨h.nodup, by simp, ?_⟩
    intro a ha c hc e
    simp at hc
    subst hc
    subst e
    exact hx ha
  · intro p hp
    rcases List.mem_append.1 hp with hp | hp
    · exact h.four p hp
    · rw [List.mem_singleton.1 hp]
      exact hb
  · intro p hp
    rcases List.mem_append.1 hp with hp | hp
    · exact h.wf p hp
    · rw [List.mem_singleton.1 hp]
      exact hw
  · rw [hg4.os, show (w2.setCell ⟨q.Q, 1 + b, none⟩ v).os = w2.os from rfl, hg.os, h0.os]
  · rw [hg4.tape, show (w2.setCell ⟨q.Q, 1 + b, none⟩ v).tape = w2.tape from rfl, hg.tape, h0.tape]
  · rw [hg4.output, show (w2.setCell ⟨q.Q, 1 + b, none⟩ v).output = w2.output from rfl, hg.output, h0.output]
  · have e1 := hg4.size
    have e2 : (w2.setCell ⟨q.Q, 1 + b, none⟩ v).heap.size = w2.heap.size := by simp [World.setCell]
    have e3 := hg.size
    have e4 := h0.size
    omega
  · intro k hk hn
    rw [hkk k (Nat.lt_of_lt_of_le hk h0.size) (fun e => hn (.inl e)) (fun e => hn (.inr (.inl e))) (fun e => hn (.inr (.inr ⟨b, hb, e⟩))), h0.block k hk]
  · intro k hk
    rcases hown k hk with h2 | h2
    · exact .inl h2
    · exact .inr (Nat.le_trans h0.size h2)
end
end Go.Proofs.Ytfbpdkajonpphaa

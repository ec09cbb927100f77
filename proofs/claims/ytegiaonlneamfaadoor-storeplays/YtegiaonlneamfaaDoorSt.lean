/- How a store's calls leave memory: what they write to, and what stays. Definitions and plain facts; no walk. -/
import Derived.Test.YtegiaonlneamfaaDoorList
import Derived.Maps.AppendAt
namespace Go.Proofs.YtegiaonlneamfaaDoor
open Go.RowKit

/-- A value that is no word of 64 bits. -/
def plainV (v : Value) : Prop := ∀ x, v ≠ .int .u64 x

/-- The types of the blocks that a store writes to. -/
def ofStore (t : TypeId) : Prop := t = 71 ∨ t = 74 ∨ t = 77 ∨ t = 90

/-- What a store's call leaves as it was: all below base; all blocks of other types; all words. -/
structure Fr (base : Nat) (w w' : World) : Prop where
  os : w'.os = w.os
  tape : w'.tape = w.tape
  output : w'.output = w.output
  size : w.heap.size ≤ w'.heap.size
  low : ∀ b : Nat, b < base → w'.heap[b]? = w.heap[b]?
  far : ∀ (b : Nat) (cs : Array Value) (t : TypeId) (fr : Nat × Nat), w.heap[b]? = some (Obj.cells cs t fr) → ¬ ofStore t → w'.heap[b]? = w.heap[b]?
  words : ∀ (ad : Addr) (x : Int), w.cell? ad = some (.int .u64 x) → w'.cell? ad = some (.int .u64 x)

theorem Fr.refl (base : Nat) (w : World) : Fr base w w := ⟨rfl, rfl, rfl, Nat.le_refl _, fun _ _ => rfl, fun _ _ _ _ _ _ => rfl, fun _ _ h => h⟩

theorem Fr.trans {base : Nat} {a b c : World} (h : Fr base a b) (k : Fr base b c) : Fr base a c :=
  ⟨k.os.trans h.os, k.tape.trans h.tape, k.output.trans h.output, Nat.le_trans h.size k.size, fun i hi => (k.low i hi).trans (h.low i hi),
   fun i cs t fr hi ht => (k.far i cs t fr ((h.far i cs t fr hi ht).trans hi) ht).trans (h.far i cs t fr hi ht), fun ad x hx => k.words ad x (h.words ad x hx)⟩

theorem lt_of_heap {w : World} {b : Nat} {o : Obj} (h : w.heap[b]? = some o) : b < w.heap.size := (Array.getElem?_eq_some_iff.1 h).1

theorem Fr.of_below {base : Nat} {w w' : World} (h : Below w.heap.size w w') (hb : base ≤ w.heap.size) : Fr base w w' :=
  ⟨h.os, h.tape, h.output, h.size, fun b hb' => h.block b (by omega), fun b cs t fr hg _ => h.block b (lt_of_heap hg),
   fun ad x hx => (h.cell (World.block_lt_of_cell? w ad hx)).trans hx⟩

theorem Fr.below {base : Nat} {w w' : World} (h : Fr base w w') : Below base w w' := ⟨h.os, h.tape, h.output, h.size, h.low⟩

theorem Fr.drewN {base : Nat} {a w : World} (h : Fr base a w) (n : Nat) : Fr base a (w.drewN n) := ⟨h.os, h.tape, h.output, h.size, h.low, h.far, h.words⟩

theorem Lies.words {w w' : World} {A : Option Addr} {ws : List Nat} {base : Nat} (h : Lies w A ws.length (u64f ws)) (hf : Fr base w w') : Lies w' A ws.length (u64f ws) := by
  intro hn
  obtain ⟨ad, e, hl, hc⟩ := h hn
  exact ⟨ad, e, Nat.lt_of_lt_of_le hl hf.size, fun j hj => hf.words _ _ (hc j hj)⟩

theorem IsDom.fr {base : Nat} {w w' : World} {d : Value} {L : List Int} (h : IsDom w d L) (hf : Fr base w w') : IsDom w' d L := by
  obtain ⟨s, A, ws, c, e, h1, h2, h3⟩ := h
  exact ⟨s, A, ws, c, e, h1.words hf, h2, h3⟩

theorem Tab.fr {base : Nat} {w w' : World} (h : Tab w) (hb : 0 < base) (hf : Fr base w w') : Tab w' :=
  ⟨Nat.lt_of_lt_of_le h.1 hf.size, fun j hj => (World.cell?_of_block (hf.low 0 hb)).trans (h.2 j hj)⟩

/-- A block, whole. -/
def Blk (w : World) (g : Nat) (cs : Array Value) (t : TypeId) : Prop := w.heap[g]? = some (.cells cs t (0, 0))
theorem Blk.lt {w : World} {g : Nat} {cs : Array Value} {t : TypeId} (h : Blk w g cs t) : g < w.heap.size := lt_of_heap h
theorem Blk.below {w w' : World} {g : Nat} {cs : Array Value} {t : TypeId} (h : Blk w g cs t) (hb : Below w.heap.size w w') : Blk w' g cs t := (hb.block g h.lt).trans h
theorem Blk.fr {base : Nat} {w w' : World} {g : Nat} {cs : Array Value} {t : TypeId} (h : Blk w g cs t) (ht : ¬ ofStore t) (hf : Fr base w w') : Blk w' g cs t := (hf.far g cs t _ h ht).trans h
theorem Blk.new (w : World) (cs : Array Value) (t : TypeId) : Blk (w.alloc (.cells cs t)) w.heap.size cs t := heap_alloc_new w _
theorem Blk.cell {w : World} {g : Nat} {cs : Array Value} {t : TypeId} (h : Blk w g cs t) (i : Nat) : w.cell? ⟨g, i, none⟩ = cs[i]? := by
  unfold Blk at h; simp [World.cell?, h]
theorem Blk.free {w : World} {g : Nat} {cs : Array Value} {t : TypeId} (h : Blk w g cs t) (i : Nat) : w.frozen? ⟨g, i, none⟩ = false := by
  unfold Blk at h; simp [World.frozen?, h]
theorem Blk.set {w : World} {g : Nat} {cs : Array Value} {t : TypeId} (h : Blk w g cs t) (i : Nat) (v : Value) : Blk (w.setCell ⟨g, i, none⟩ v) g (cs.setIfInBounds i v) t := heap_setCell_same w g i cs t v h
theorem Blk.other {w : World} {g : Nat} {cs : Array Value} {t : TypeId} (h : Blk w g cs t) {a : Addr} (hne : g ≠ a.block) (v : Value) : Blk (w.setCell a v) g cs t := (heap_setCell_other w a g v hne).trans h
theorem Blk.ne {w : World} {g g' : Nat} {cs cs' : Array Value} {t t' : TypeId} (h : Blk w g cs t) (h' : Blk w g' cs' t') (ht : t ≠ t') : g ≠ g' := by
  rintro rfl
  unfold Blk at h h'
  rw [h] at h'
  injection h' with h'; injection h' with _ h'
  exact ht h'

/-- A step that changes one block alone, a store's, without words. -/
theorem Fr.of_grown {base : Nat} {w w' : World} {row : Option Nat} (h : w.grownBy w' row) (hb : base ≤ w.heap.size)
    (hrow : ∀ g, row = some g → base ≤ g ∧ ∃ cs t, Blk w g cs t ∧ ofStore t ∧ ∀ u ∈ cs, plainV u) : Fr base w w' := by
  refine ⟨h.os, h.tape, h.output, h.size, fun b hb' => h.block b (by omega) (fun e => ?_), fun b cs t fr hg ht => h.block b (lt_of_heap hg) (fun e => ?_), fun ad x hx => h.cell hx (fun e => ?_)⟩
  · have := (hrow b e.symm).1
    omega
  · obtain ⟨_, cs', t', hB, ht', _⟩ := hrow b e.symm
    unfold Blk at hB
    rw [hg] at hB
    injection hB with hB; injection hB with _ hB
    exact ht (hB ▸ ht')
  · obtain ⟨_, cs', t', hB, _, hp⟩ := hrow ad.block e.symm
    unfold Blk at hB
    unfold World.cell? at hx
    rw [hB] at hx
    simp only at hx
    split at hx
    · exact absurd hx (by simp)
    · exact hp _ (Array.mem_of_getElem? hx) x rfl

theorem grown_set (w : World) (a : Addr) (v : Value) : w.grownBy (w.setCell a v) (some a.block) :=
  ⟨rfl, rfl, rfl, by simp [World.setCell], fun k _ hk => heap_setCell_other w a k v (fun e => hk (by rw [e]))⟩

theorem Fr.set {base : Nat} {w : World} {g : Nat} {cs : Array Value} {t : TypeId} (hB : Blk w g cs t) (ht : ofStore t) (hb : base ≤ g) (hp : ∀ u ∈ cs, plainV u) (i : Nat) (v : Value) : Fr base w (w.setCell ⟨g, i, none⟩ v) := by
  refine Fr.of_grown (grown_set w ⟨g, i, none⟩ v) (by have := hB.lt; omega) ?_
  rintro g' e
  injection e with e
  subst e
  exact ⟨hb, cs, t, hB, ht, hp⟩

/-- A row of a store's own, without words, also behind its end. -/
def Row (base : Nat) (w : World) (e : TypeId) (size : Nat) (v : Value) (n : Nat) (xs : List Value) : Prop :=
  w.ownsRow base e size v n xs ∧ ∀ g, v.ownBlock = some g → ∀ cur, Blk w g cur e → ∀ u ∈ cur, plainV u

theorem Row.nil (base : Nat) (w : World) (e : TypeId) (size : Nat) : Row base w e size (.slice none 0 0) 0 [] := ⟨World.ownsRow_nil w base e size, by rintro g h; cases h⟩

theorem Row.keep {base : Nat} {w w' : World} {e : TypeId} {size : Nat} {v : Value} {n : Nat} {xs : List Value} (h : Row base w e size v n xs) (hk : ∀ g cs, Blk w g cs e → w'.heap[g]? = w.heap[g]?) : Row base w' e size v n xs := by
  obtain ⟨⟨h1, h2⟩, h3⟩ := h
  rcases h2 with ⟨rfl, rfl⟩ | ⟨g, cap, cur, rfl, hb, hg, hr⟩
  · exact ⟨⟨h1, .inl ⟨rfl, rfl⟩⟩, by rintro g h; cases h⟩
  · refine ⟨⟨h1, .inr ⟨g, cap, cur, rfl, hb, (hk g cur hg).trans hg, hr⟩⟩, ?_⟩
    rintro g' e' cur' hB
    simp only [Value.ownBlock, Option.some.injEq] at e'
    subst e'
    exact h3 g rfl cur' ((hk g cur hg).symm.trans hB)

theorem Row.below {base : Nat} {w w' : World} {e : TypeId} {size : Nat} {v : Value} {n : Nat} {xs : List Value} (h : Row base w e size v n xs) (hb : Below w.heap.size w w') : Row base w' e size v n xs :=
  h.keep fun g _ hB => hb.block g (Blk.lt hB)

theorem Row.set {base : Nat} {w : World} {e t : TypeId} {size : Nat} {v : Value} {n : Nat} {xs : List Value} {g : Nat} {cs : Array Value} (h : Row base w e size v n xs) (hB : Blk w g cs t) (ht : e ≠ t) (i : Nat) (x : Value) : Row base (w.setCell ⟨g, i, none⟩ x) e size v n xs :=
  h.keep fun g' _ hB' => heap_setCell_other w _ g' x (hB'.ne hB ht)

theorem zeroCells_mem {z : Array Value} {k : Nat} {u : Value} (h : u ∈ Builtin.zeroCells z k) : u ∈ z := by
  unfold Builtin.zeroCells at h
  rw [Array.mem_map] at h
  obtain ⟨i, hi, rfl⟩ := h
  rw [Array.mem_range] at hi
  have hz : 0 < z.size := by
    rcases Nat.eq_zero_or_pos z.size with h0 | h0
    · rw [h0] at hi; omega
    · exact h0
  have hm := Nat.mod_lt i hz
  rw [getElem!_pos z _ hm]
  exact Array.getElem_mem hm

section
variable {P : Program} (w : World)

theorem run_append_row (base : Nat) (t ty e : TypeId) (i : TypeInfo) (z : Value) (size bytes : Nat) (ht : P.underlying t = some (.slice e)) (hi : P.info? e = some i) (hz : i.zero = some z)
    (hsize : i.size = size) (hby : i.bytes = bytes) (hzs : z.cells.size = size) (hsz : 0 < size)
    (v : Value) (n : Nat) (xs : List Value) (hR : Row base w e size v n xs) (he : ofStore e) (hzp : ∀ u ∈ z.cells, plainV u)
    (a : Addr) (m c : Nat) (news : List Value) (hl : news.length = m * size) (hnews : ∀ j u, news[j]? = some u → w.cell? (a.add j) = some u) (h1 : ∀ u ∈ news, u.oneCell' = true) (hnp : ∀ u ∈ news, plainV u)
    (hm : 0 < m) (h63 : n + m ≤ maxLen) (hbytes : (n + m) * bytes ≤ 140737488355328) (hbase : base ≤ w.heap.size) :
    ∃ v' w', (Builtin.append_ #[t, t] ty #[v, .slice (some a) m c]).run P w = .ok v' w' ∧ Row base w' e size v' (n + m) (xs ++ news) ∧ Fr base w w' ∧ w.grownBy w' v.ownBlock := by
  obtain ⟨v', w', hr, h2, h3, h4, h5⟩ := run_append_own_at (P := P) w base t ty e i z size bytes ht hi hz hsize hby hzs hsz v n xs hR.1 a m c news hl hnews h1 h63 hbytes hbase
  have hsmall : n + m ≤ 9223372036854775807 := by simp only [maxLen] at h63; omega
  have hfr : Fr base w w' := by
    refine Fr.of_grown h3 hbase ?_
    intro g hg
    rcases hR.1.2 with ⟨rfl, rfl⟩ | ⟨g', cap, cur, rfl, hb, hB, hr⟩
    · cases hg
    · simp only [Value.ownBlock, Option.some.injEq] at hg
      subst hg
      exact ⟨hb, cur, e, hB, he, hR.2 _ rfl cur hB⟩
  refine ⟨v', w', hr, ⟨h2, ?_⟩, hfr, h3⟩
  subst hsize
  subst hby
  rcases hR.1.2 with ⟨rfl, rfl⟩ | ⟨g, cap, cur, rfl, hb, hB, hnc, hcm, hcs, htake⟩
  · have hx : xs = [] := List.eq_nil_of_length_eq_zero (by simpa using hR.1.1)
    subst hx
    have hr' := run_append_nil (P := P) w t ty e i z ht hi hz a m c news hl hnews hm (by omega) (by have hb := hbytes; simp only [Nat.zero_add] at hb; omega)
    rw [hr'] at hr
    injection hr with hr1 hr2
    subst hr1
    subst hr2
    intro g' hg' cur' hB' u hu
    simp only [Value.ownBlock, Option.some.injEq] at hg'
    subst hg'
    have hN := heap_alloc_new w.drew (.cells (news.toArray ++ Builtin.zeroCells z.cells (grownCap w m 0 e - m)) e)
    unfold Blk at hB'
    rw [show w.heap.size = w.drew.heap.size from rfl] at hB'
    rw [hN] at hB'
    injection hB' with hB'; injection hB' with hB' _
    subst hB'
    rcases Array.mem_append.1 hu with h | h
    · exact hnp u (by simpa using h)
    · exact hzp u (zeroCells_mem h)
  · by_cases hroom : n + m ≤ cap
    · have hfit : n * i.size + news.length ≤ cur.size := by rw [hl, hcs, ← Nat.add_mul]; exact Nat.mul_le_mul_right _ hroom
      have hr' := run_append_room (P := P) w t ty e i ht hi g n cap cur hB a m c news hl hnews h1 hroom hfit
      rw [hr'] at hr
      injection hr with hr1 hr2
      subst hr1
      subst hr2
      intro g' hg' cur' hB' u hu
      simp only [Value.ownBlock, Option.some.injEq] at hg'
      subst hg'
      have hN := setRow_heap w g cur (cur.toList.take (n * i.size) ++ news ++ cur.toList.drop (n * i.size + news.length)).toArray e _ hB
      unfold Blk at hB'
      rw [hN] at hB'
      injection hB' with hB'; injection hB' with hB' _
      subst hB'
      have hcur := hR.2 _ rfl cur hB
      simp only [List.mem_toArray, List.mem_append] at hu
      rcases hu with (h | h) | h
      · exact hcur u (by simpa using List.mem_of_mem_take h)
      · exact hnp u h
      · exact hcur u (by simpa using List.mem_of_mem_drop h)
    · have holds : ∀ j u, xs[j]? = some u → w.cell? ((⟨g, 0, none⟩ : Addr).add j) = some u := hR.1.cells (g := g) rfl
      have hr' := run_append_grow (P := P) w t ty e i z ht hi hz ⟨g, 0, none⟩ n cap xs hR.1.1 holds a m c news hl hnews (by omega) (by omega) (growslice_fits (by omega) hbytes)
      rw [hr'] at hr
      injection hr with hr1 hr2
      subst hr1
      subst hr2
      intro g' hg' cur' hB' u hu
      simp only [Value.ownBlock, Option.some.injEq] at hg'
      subst hg'
      have hN := heap_alloc_new w.drew (.cells (xs.toArray ++ news.toArray ++ Builtin.zeroCells z.cells (grownCap w (n + m) cap e - (n + m))) e)
      unfold Blk at hB'
      rw [show w.heap.size = w.drew.heap.size from rfl] at hB'
      rw [hN] at hB'
      injection hB' with hB'; injection hB' with hB' _
      subst hB'
      have hcur := hR.2 _ rfl cur hB
      rcases Array.mem_append.1 hu with h | h
      · rcases Array.mem_append.1 h with h | h
        · have h' : u ∈ xs := by simpa using h
          rw [← htake] at h'
          exact hcur u (by simpa using List.mem_of_mem_take h')
        · exact hnp u (by simpa using h)
      · exact hzp u (zeroCells_mem h)

/-- append at the walk's operation, onto a store's row. -/
theorem wpList_append_row {ops : Array Oper} {rest : List Oper} {o : Oper} {a : Act} {Q : Exit → Act → World → Prop} (hgd : o.guard = none) (s x : Operand) (t : TypeId)
    (ho : o.op = .call { callee := .builtin .append, args := #[s, x], argTypes := #[t, t] })
    (base : Nat) (e : TypeId) (i : TypeInfo) (z : Value) (size bytes : Nat) (ht : P.underlying t = some (.slice e)) (hi : P.info? e = some i) (hz : i.zero = some z)
    (hsize : i.size = size) (hby : i.bytes = bytes) (hzs : z.cells.size = size) (hsz : 0 < size) (he : ofStore e) (hzp : ∀ u ∈ z.cells, plainV u)
    (v : Value) (n : Nat) (xs : List Value) (hs : a.eval s = v) (hR : Row base w e size v n xs)
    (ad : Addr) (c : Nat) (news : List Value) (hx : a.eval x = .slice (some ad) 1 c) (hl : news.length = 1 * size) (hnews : ∀ j u, news[j]? = some u → w.cell? (ad.add j) = some u) (h1 : ∀ u ∈ news, u.oneCell' = true) (hnp : ∀ u ∈ news, plainV u)
    (h63 : n + 1 ≤ maxLen) (hbytes : (n + 1) * bytes ≤ 140737488355328) (hbase : base ≤ w.heap.size)
    (h : ∀ v' w', Row base w' e size v' (n + 1) (xs ++ news) → Fr base w w' → w.grownBy w' v.ownBlock → wpList P ops Q rest (a.put o.dst v') w') :
    wpList P ops Q (o :: rest) a w := by
  refine wpList_plain hgd fun K hK => ?_
  obtain ⟨v', w', hr, h2, h3, h4⟩ := run_append_row (P := P) w base t o.type e i z size bytes ht hi hz hsize hby hzs hsz v n xs hR he hzp ad 1 c news hl hnews h1 hnp (by omega) h63 hbytes hbase
  unfold Oper.wp execOp
  simp only [ho, resolve, invoke, builtin, Sem.run_bind, Sem.run_pure, Result.andThen_ok, List.map_toArray, List.map_cons, List.map_nil, hs, hx, hr]
  exact hK _ _ (h v' w' h2 h3 h4)
end
end Go.Proofs.YtegiaonlneamfaaDoor

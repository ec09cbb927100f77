/- The walk of StoreNil. -/
import Derived.Test.YtegiaonlneamfaaDoorSame3
import Derived.Test.YtegiaonlneamfaaDoorWake3
namespace Go.Proofs.YtegiaonlneamfaaDoor
open Go.RowKit

/-- One cell of a block of another type is written: words stay. -/
theorem words_set {w : World} {g : Nat} {cs : Array Value} {t : TypeId} (hB : Blk w g cs t) (hp : ∀ u ∈ cs, plainV u) (i : Nat) (v : Value) : ∀ (ad : Addr) (x : Int), w.cell? ad = some (.int .u64 x) → (w.setCell ⟨g, i, none⟩ v).cell? ad = some (.int .u64 x) := by
  intro ad x hx
  refine (grown_set w ⟨g, i, none⟩ v).cell hx fun e => ?_
  simp only [Option.some.injEq] at e
  unfold World.cell? at hx
  unfold Blk at hB
  rw [e, hB] at hx
  simp only at hx
  split at hx
  · exact absurd hx (by simp)
  · exact hp _ (Array.mem_of_getElem? hx) x rfl

theorem IsDom.poke {w : World} {d : Value} {L : List Int} {g : Nat} {cs : Array Value} {t : TypeId} (h : IsDom w d L) (hB : Blk w g cs t) (hp : ∀ u ∈ cs, plainV u) (i : Nat) (v : Value) : IsDom (w.setCell ⟨g, i, none⟩ v) d L := by
  obtain ⟨s, A, ws, c, e', h1, h2, h3⟩ := h
  refine ⟨s, A, ws, c, e', fun hn => ?_, h2, h3⟩
  obtain ⟨ad, q, hl, hc⟩ := h1 hn
  exact ⟨ad, q, Nat.lt_of_lt_of_le hl (grown_set w ⟨g, i, none⟩ v).size, fun j hj => words_set hB hp i v _ _ (hc j hj)⟩

theorem IsStore.poke {base S : Nat} {w : World} {st : Sto} {g : Nat} {cs : Array Value} (h : IsStore base w S st) (hB : Blk w g cs 48) (hp : ∀ u ∈ cs, plainV u) (i : Nat) (v : Value) : IsStore base (w.setCell ⟨g, i, none⟩ v) S st :=
  ⟨h.head.other (h.head.ne hB (by decide)) _, h.vars.other (h.vars.ne hB (by decide)) _, h.before.set hB (by decide) _ _, h.events.set hB (by decide) _ _, h.atS, h.atV, fun u hu => (h.doms u hu).poke hB hp i v, fun e he => (h.was e he).poke hB hp i v, h.places⟩

theorem RowsT.poke {w : World} {x : Value} {LL : List (List Int)} {g : Nat} {cs : Array Value} (h : RowsT w x LL) (hB : Blk w g cs 48) (i : Nat) (v : Value) : RowsT (w.setCell ⟨g, i, none⟩ v) x LL := by
  obtain ⟨vs, h1, h2⟩ := h
  exact ⟨vs, own_keep h1 fun k _ hk => heap_setCell_other w _ k v (hk.ne hB (by decide)), fun k x L a b => own_keep (h2 k x L a b) fun k _ hk => heap_setCell_other w _ k v (hk.ne hB (by decide))⟩

/-- A store and rows beside a block that is written. -/
structure Beside (base : Nat) (w wr : World) (S : Nat) (st : Sto) (vb : Value) (LL : List (List Int)) (g : Nat) (cur : Array Value) : Prop where
  store : IsStore base wr S st
  rows : RowsT wr vb LL
  blk : Blk wr g cur 48
  plain : ∀ u ∈ cur, plainV u
  low : Below w.heap.size w wr

theorem Beside.poke {base : Nat} {w wr : World} {S : Nat} {st : Sto} {vb : Value} {LL : List (List Int)} {g : Nat} {cur : Array Value} (h : Beside base w wr S st vb LL g cur) (hg : w.heap.size ≤ g) (i : Nat) (v : Value) (hv : plainV v) : Beside base w (wr.setCell ⟨g, i, none⟩ v) S st vb LL g (cur.setIfInBounds i v) :=
  ⟨h.store.poke h.blk h.plain i v, h.rows.poke h.blk i v, h.blk.set i v, plain_set h.plain hv, h.low.grown (grown_set wr ⟨g, i, none⟩ v) h.low.size (fun k hk => by simp only [Option.some.injEq] at hk; omega)⟩

abbrev put0 (w : World) (g k : Nat) : World := ((w.setCell ⟨g, k * 3, none⟩ (.int .i64 0)).setCell ⟨g, k * 3 + 1, none⟩ (.slice none 0 0)).setCell ⟨g, k * 3 + 2, none⟩ (.int .i64 0)

theorem Beside.put0 {base : Nat} {w wr : World} {S : Nat} {st : Sto} {vb : Value} {LL : List (List Int)} {g : Nat} {cur : Array Value} (h : Beside base w wr S st vb LL g cur) (hg : w.heap.size ≤ g) (k : Nat) : ∃ cur', Beside base w (put0 wr g k) S st vb LL g cur' ∧ cur'.size = cur.size :=
  ⟨_, ((h.poke hg (k * 3) _ (plain_int 0)).poke hg (k * 3 + 1) _ plain_nil).poke hg (k * 3 + 2) _ (plain_int 0), by simp⟩

end Go.Proofs.YtegiaonlneamfaaDoor

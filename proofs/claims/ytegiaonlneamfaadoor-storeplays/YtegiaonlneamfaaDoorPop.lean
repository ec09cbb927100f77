/- The newest of what was: how it is read and taken away. No walk. -/
import Derived.Test.YtegiaonlneamfaaDoorPut
namespace Go.Proofs.YtegiaonlneamfaaDoor
open Go.RowKit

section
variable {base S : Nat} {w : World} {st : Sto}

theorem Blk.same {g : Nat} {cs cs' : Array Value} {t t' : TypeId} (h : Blk w g cs t) (h' : Blk w g cs' t') : cs = cs' := by
  unfold Blk at h h'
  rw [h] at h'
  injection h' with h'; injection h' with h' _

theorem Row.blk {e : TypeId} {size : Nat} {v : Value} {n : Nat} {xs : List Value} (h : Row base w e size v n xs) (hn : 0 < n) :
    ∃ g cap cur, v = .slice (some ⟨g, 0, none⟩) n cap ∧ base ≤ g ∧ Blk w g cur e ∧ n ≤ cap ∧ cap ≤ maxLen ∧ cur.size = cap * size ∧ cur.toList.take (n * size) = xs ∧ ∀ u ∈ cur, plainV u := by
  rcases h.1.2 with ⟨rfl, rfl⟩ | ⟨g, cap, cur, rfl, hb, hg, h1, h2, h3, h4⟩
  · omega
  · exact ⟨g, cap, cur, rfl, hb, hg, h1, h2, h3, h4, h.2 g rfl cur hg⟩

/-- What stands in a row. -/
theorem row_cell {α : Type} {f : α → List Value} {k : Nat} (hf : ∀ a, (f a).length = k) {g : Nat} {cur : Array Value} {e : TypeId} {l : List α} (hB : Blk w g cur e) (ht : cur.toList.take (l.length * k) = l.flatMap f) {i : Nat} {a : α} (hi : l[i]? = some a) (j : Nat) (hj : j < k) :
    w.cell? ⟨g, i * k + j, none⟩ = (f a)[j]? := by
  have hil : i < l.length := (List.getElem?_eq_some_iff.1 hi).1
  have hlt : i * k + j < l.length * k := by
    have := Nat.mul_le_mul_right k (show i + 1 ≤ l.length from hil)
    rw [Nat.add_mul] at this
    omega
  have h2 := flat_get f k hf l i j hj
  rw [← ht, List.getElem?_take_of_lt hlt, hi] at h2
  rw [hB.cell, ← Array.getElem?_toList, h2]
  rfl

theorem er_cell {g cap : Nat} {cur : Array Value} {bs : List Er} (hB : Blk w g cur 90) (ht : cur.toList.take (bs.length * 5) = bs.flatMap Er.cells) {i : Nat} {a : Er} (hi : bs[i]? = some a) (_hc : bs.length ≤ cap) :
    w.cell? ⟨g, i * 5, none⟩ = some (.int .i64 (a.place : Nat)) ∧ w.cell? ⟨g, i * 5 + 1, none⟩ = some (.int .i64 a.was.s) ∧ w.cell? ⟨g, i * 5 + 2, none⟩ = some (.slice a.was.A a.was.n a.was.c) ∧ w.cell? ⟨g, i * 5 + 3, none⟩ = some (.int .i64 (a.was.L.length : Nat)) ∧ w.cell? ⟨g, i * 5 + 4, none⟩ = some (.int .i64 (a.was.since : Nat)) :=
  ⟨row_cell er_len hB ht hi 0 (by omega), row_cell er_len hB ht hi 1 (by omega), row_cell er_len hB ht hi 2 (by omega), row_cell er_len hB ht hi 3 (by omega), row_cell er_len hB ht hi 4 (by omega)⟩

theorem ev_cell {g cap : Nat} {cur : Array Value} {es : List (Int × Int)} {t : TypeId} (hB : Blk w g cur t) (ht : cur.toList.take (es.length * 2) = es.flatMap evCells) {i : Nat} {a : Int × Int} (hi : es[i]? = some a) (_hc : es.length ≤ cap) :
    w.cell? ⟨g, i * 2, none⟩ = some (.int .i64 a.1) ∧ w.cell? ⟨g, i * 2 + 1, none⟩ = some (.int .i64 a.2) :=
  ⟨row_cell ev_len hB ht hi 0 (by omega), row_cell ev_len hB ht hi 1 (by omega)⟩

/-- The five cells of one that was, emptied. -/
abbrev store5 (w : World) (g i : Nat) : World := ((((w.setCell ⟨g, i * 5, none⟩ (.int .i64 0)).setCell ⟨g, i * 5 + 1, none⟩ (.int .i64 0)).setCell ⟨g, i * 5 + 2, none⟩ (.slice none 0 0)).setCell ⟨g, i * 5 + 3, none⟩ (.int .i64 0)).setCell ⟨g, i * 5 + 4, none⟩ (.int .i64 0)

theorem take_set (cur : Array Value) (i m : Nat) (v : Value) (h : m ≤ i) : (cur.setIfInBounds i v).toList.take m = cur.toList.take m := by
  rw [Array.toList_setIfInBounds, List.take_set, List.set_eq_of_length_le]
  rw [List.length_take]
  omega

/-- Events that were handed out stay. -/
def K77 (w w' : World) : Prop := ∀ g cur, Blk w g cur 77 → Blk w' g cur 77
theorem K77.refl (w : World) : K77 w w := fun _ _ h => h
theorem K77.trans {a b c : World} (h : K77 a b) (k : K77 b c) : K77 a c := fun g cur hB => k g cur (h g cur hB)
theorem K77.of_below {w w' : World} (h : Below w.heap.size w w') : K77 w w' := fun _ _ hB => hB.below h
theorem K77.set {w : World} {g : Nat} {cs : Array Value} {t : TypeId} (hB : Blk w g cs t) (ht : t ≠ 77) (i : Nat) (v : Value) : K77 w (w.setCell ⟨g, i, none⟩ v) := fun _ _ h => h.other (h.ne hB (Ne.symm ht)) _

theorem IsStore.k77_var (h : IsStore base w S st) (i : Nat) (v : Vr) : K77 w (store4 w st.V i v) := by
  have b1 := h.vars.set (i * 4) (.int .i64 v.s)
  have b2 := b1.set (i * 4 + 1) (.slice v.A v.n v.c)
  have b3 := b2.set (i * 4 + 2) (.int .i64 (v.L.length : Nat))
  exact (((K77.set h.vars (by decide) _ _).trans (K77.set b1 (by decide) _ _)).trans (K77.set b2 (by decide) _ _)).trans (K77.set b3 (by decide) _ _)

/-- Cells of one block of a store were written, none of the first m. -/
structure Zap (base : Nat) (w w' : World) (g m : Nat) (t : TypeId) (cur cur' : Array Value) : Prop where
  fr : Fr base w w'
  blk : Blk w' g cur' t
  plain : ∀ u ∈ cur', plainV u
  size : cur'.size = cur.size
  take : cur'.toList.take m = cur.toList.take m
  other : ∀ k, k ≠ g → w'.heap[k]? = w.heap[k]?

theorem Zap.step {w' : World} {g m : Nat} {t : TypeId} {cur cur' : Array Value} (h : Zap base w w' g m t cur cur') (ht : ofStore t) (hb : base ≤ g) (i : Nat) (v : Value) (hi : m ≤ i) (hv : plainV v) : Zap base w (w'.setCell ⟨g, i, none⟩ v) g m t cur (cur'.setIfInBounds i v) :=
  ⟨h.fr.trans (Fr.set h.blk ht hb h.plain _ _), h.blk.set i v, plain_set h.plain hv, by rw [Array.size_setIfInBounds]; exact h.size, by rw [take_set _ _ _ _ hi]; exact h.take,
   fun k hk => (heap_setCell_other w' ⟨g, i, none⟩ k v hk).trans (h.other k hk)⟩

theorem plain_int (k : Int) : plainV (.int .i64 k) := by intro x e; cases e
theorem plain_nil : plainV (.slice none 0 0) := by intro x e; cases e

theorem zap5 {g m : Nat} {cur : Array Value} (hB : Blk w g cur 90) (hb : base ≤ g) (hp : ∀ u ∈ cur, plainV u) : ∃ cur', Zap base w (store5 w g m) g (m * 5) 90 cur cur' := by
  have o : ofStore 90 := .inr (.inr (.inr rfl))
  have z0 : Zap base w w g (m * 5) 90 cur cur := ⟨Fr.refl _ _, hB, hp, rfl, rfl, fun _ _ => rfl⟩
  exact ⟨_, ((((z0.step o hb (m * 5) _ (by omega) (plain_int 0)).step o hb (m * 5 + 1) _ (by omega) (plain_int 0)).step o hb (m * 5 + 2) _ (by omega) plain_nil).step o hb (m * 5 + 3) _ (by omega) (plain_int 0)).step o hb (m * 5 + 4) _ (by omega) (plain_int 0)⟩

theorem Row.zap {e t : TypeId} {size : Nat} {v : Value} {n : Nat} {xs : List Value} {w' : World} {g m : Nat} {cur cur' : Array Value} (h : Row base w e size v n xs) (hB : Blk w g cur t) (z : Zap base w w' g m t cur cur') (ht : e ≠ t) : Row base w' e size v n xs :=
  h.keep fun k _ hk => z.other k (hk.ne hB ht)

theorem IsStore.pop (h : IsStore base w S st) (bs0 : List Er) (e : Er) (hbs : st.bs = bs0 ++ [e]) :
    ∃ g cap cur, st.bv = .slice (some ⟨g, 0, none⟩) st.bs.length cap ∧ Blk w g cur 90 ∧ st.bs.length ≤ cap ∧ cap ≤ maxLen ∧ cur.toList.take (st.bs.length * 5) = st.bs.flatMap Er.cells ∧
      IsStore base ((store5 w g bs0.length).setCell ⟨S, 1, none⟩ (.slice (some ⟨g, 0, none⟩) bs0.length cap)) S { st with bv := .slice (some ⟨g, 0, none⟩) bs0.length cap, bs := bs0 } ∧
      Fr base w ((store5 w g bs0.length).setCell ⟨S, 1, none⟩ (.slice (some ⟨g, 0, none⟩) bs0.length cap)) ∧
      Blk (store5 w g bs0.length) S #[.slice (some ⟨st.V, 0, none⟩) st.vs.length st.vs.length, st.bv, .int .i64 (st.lev : Nat), st.ev] 74 ∧
      K77 w ((store5 w g bs0.length).setCell ⟨S, 1, none⟩ (.slice (some ⟨g, 0, none⟩) bs0.length cap)) := by
  have hl : st.bs.length = bs0.length + 1 := by rw [hbs]; simp
  obtain ⟨g, cap, cur, e1, hb, hB, hc, hm, hs, ht, hp⟩ := h.before.blk (by omega)
  refine ⟨g, cap, cur, e1, hB, hc, hm, ht, ?_⟩
  obtain ⟨cur', z⟩ := zap5 (m := bs0.length) hB hb hp
  generalize store5 w g bs0.length = w5 at z ⊢
  have hS5 : Blk w5 S _ 74 := (z.other S (h.head.ne hB (by decide))).trans h.head
  have hV5 : Blk w5 st.V _ 71 := (z.other st.V (h.vars.ne hB (by decide))).trans h.vars
  have hE5 := h.events.zap hB z (by decide)
  have hf6 : Fr base w5 (w5.setCell ⟨S, 1, none⟩ (.slice (some ⟨g, 0, none⟩) bs0.length cap)) := Fr.set hS5 (.inr (.inl rfl)) h.atS h.head_plain _ _
  have hB6 : Row base w5 90 5 (.slice (some ⟨g, 0, none⟩) bs0.length cap) bs0.length (bs0.flatMap Er.cells) := by
    refine ⟨⟨by rw [flat_len _ 5 er_len], .inr ⟨g, cap, cur', rfl, hb, z.blk, by omega, hm, z.size.trans hs, ?_⟩⟩, ?_⟩
    · have : cur.toList.take (bs0.length * 5) = (cur.toList.take (st.bs.length * 5)).take (bs0.length * 5) := by rw [List.take_take, Nat.min_eq_left (by omega)]
      rw [z.take, this, ht, hbs, List.flatMap_append, List.take_left' (flat_len _ 5 er_len bs0)]
    · rintro g' e' cur2 hB'
      simp only [Value.ownBlock, Option.some.injEq] at e'
      subst e'
      rw [hB'.same z.blk]
      exact z.plain
  exact ⟨⟨hS5.set 1 _, hV5.other (hV5.ne hS5 (by decide)) _, hB6.set hS5 (by decide) _ _, hE5.set hS5 (by decide) _ _, h.atS, h.atV, fun v hv => ((h.doms v hv).fr z.fr).fr hf6, fun x hx => ((h.was x (by rw [hbs]; exact List.mem_append_left _ hx)).fr z.fr).fr hf6, fun x hx => h.places x (by rw [hbs]; exact List.mem_append_left _ hx)⟩, z.fr.trans hf6, hS5, K77.trans (fun k cur hk => (z.other k (hk.ne hB (by decide))).trans hk) (K77.set hS5 (by decide) _ _)⟩
end
end Go.Proofs.YtegiaonlneamfaaDoor

/- What is written to a store: a variable, what one was, an event. No walk. -/
import Derived.Test.YtegiaonlneamfaaDoorGet
namespace Go.Proofs.YtegiaonlneamfaaDoor
open Go.RowKit

instance (t : TypeId) : Decidable (ofStore t) := by unfold ofStore; infer_instance

theorem cells_new (w : World) (cs : List Value) (t : TypeId) : ∀ j u, cs[j]? = some u → (w.alloc (.cells cs.toArray t)).cell? ((⟨w.heap.size, 0, none⟩ : Addr).add j) = some u := by
  intro j u hj
  rw [Addr.add_lit, Nat.zero_add, (Blk.new w cs.toArray t).cell, List.getElem?_toArray]
  exact hj

theorem flat_set (vs : List Vr) (i : Nat) (v : Vr) (hi : i < vs.length) :
    (((((vs.flatMap Vr.cells).toArray.setIfInBounds (i * 4) (.int .i64 v.s)).setIfInBounds (i * 4 + 1) (.slice v.A v.n v.c)).setIfInBounds (i * 4 + 2) (.int .i64 (v.L.length : Nat))).setIfInBounds (i * 4 + 3) (.int .i64 (v.since : Nat))) = ((vs.set i v).flatMap Vr.cells).toArray := by
  have hl := flat_len Vr.cells 4 vr_len vs
  apply Array.ext_getElem?
  intro k
  obtain ⟨q, r, hr, rfl⟩ : ∃ q r, r < 4 ∧ k = q * 4 + r := ⟨k / 4, k % 4, by omega, by omega⟩
  simp only [Array.getElem?_setIfInBounds, Array.size_setIfInBounds, List.size_toArray, hl, List.getElem?_toArray]
  rw [flat_get _ 4 vr_len (vs.set i v) q r hr, List.getElem?_set]
  by_cases hq : i = q
  · subst hq
    rw [if_pos rfl, if_pos hi]
    have hb : i * 4 + 3 < vs.length * 4 := by omega
    match r, hr with
    | 0, _ => rw [if_neg (by omega), if_neg (by omega), if_neg (by omega), if_pos (by omega), if_pos (by omega)]; rfl
    | 1, _ => rw [if_neg (by omega), if_neg (by omega), if_pos (by omega), if_pos (by omega)]; rfl
    | 2, _ => rw [if_neg (by omega), if_pos (by omega), if_pos (by omega)]; rfl
    | 3, _ => rw [if_pos (by omega), if_pos (by omega)]; rfl
  · rw [if_neg hq, if_neg (by omega), if_neg (by omega), if_neg (by omega), if_neg (by omega), flat_get _ 4 vr_len _ q r hr]

/-- The four cells of a variable, written. -/
abbrev store4 (w : World) (V i : Nat) (v : Vr) : World := (((w.setCell ⟨V, i * 4, none⟩ (.int .i64 v.s)).setCell ⟨V, i * 4 + 1, none⟩ (.slice v.A v.n v.c)).setCell ⟨V, i * 4 + 2, none⟩ (.int .i64 (v.L.length : Nat))).setCell ⟨V, i * 4 + 3, none⟩ (.int .i64 (v.since : Nat))

theorem plain_set {cs : Array Value} {i : Nat} {v : Value} (h : ∀ u ∈ cs, plainV u) (hv : plainV v) : ∀ u ∈ cs.setIfInBounds i v, plainV u := by
  intro u hu
  rcases Array.mem_or_eq_of_mem_setIfInBounds hu with h' | h'
  · exact h u h'
  · subst h'; exact hv

section
variable {base S : Nat} {w : World} {st : Sto}

theorem IsStore.put_var (h : IsStore base w S st) (i : Nat) (v : Vr) (hi : i < st.vs.length) (hd : IsDom w v.dom v.L) :
    IsStore base (store4 w st.V i v) S { st with vs := st.vs.set i v } ∧ Fr base w (store4 w st.V i v) := by
  have p := vars_plain st.vs
  have b1 := h.vars.set (i * 4) (.int .i64 v.s)
  have p1 := plain_set (i := i * 4) p (v := .int .i64 v.s) (by intro x e; cases e)
  have b2 := b1.set (i * 4 + 1) (.slice v.A v.n v.c)
  have p2 := plain_set (i := i * 4 + 1) p1 (v := .slice v.A v.n v.c) (by intro x e; cases e)
  have b3 := b2.set (i * 4 + 2) (.int .i64 (v.L.length : Nat))
  have p3 := plain_set (i := i * 4 + 2) p2 (v := .int .i64 (v.L.length : Nat)) (by intro x e; cases e)
  have b4 := b3.set (i * 4 + 3) (.int .i64 (v.since : Nat))
  have hf : Fr base w (store4 w st.V i v) :=
    (((Fr.set h.vars (.inl rfl) h.atV p _ _).trans (Fr.set b1 (.inl rfl) h.atV p1 _ _)).trans (Fr.set b2 (.inl rfl) h.atV p2 _ _)).trans (Fr.set b3 (.inl rfl) h.atV p3 _ _)
  rw [flat_set _ _ _ hi] at b4
  have hS := h.head.ne h.vars (by decide)
  refine ⟨⟨?_, b4, ?_, ?_, h.atS, h.atV, ?_, fun e he => (h.was e he).fr hf, ?_⟩, hf⟩
  · simp only [List.length_set]
    exact (((h.head.other hS _).other hS _).other hS _).other hS _
  · exact (((h.before.set h.vars (by decide) _ _).set b1 (by decide) _ _).set b2 (by decide) _ _).set b3 (by decide) _ _
  · exact (((h.events.set h.vars (by decide) _ _).set b1 (by decide) _ _).set b2 (by decide) _ _).set b3 (by decide) _ _
  · intro u hu
    rcases List.mem_or_eq_of_mem_set hu with hu | hu
    · exact (h.doms u hu).fr hf
    · subst hu; exact hd.fr hf
  · intro e he
    simpa using h.places e he

theorem Row.shape {e : TypeId} {size : Nat} {v : Value} {n : Nat} {xs : List Value} (h : Row base w e size v n xs) : ∃ A c, v = .slice A n c := by
  rcases h.1.2 with ⟨rfl, rfl⟩ | ⟨g', cap, cur, rfl, hb, hg, hr⟩
  · exact ⟨_, _, rfl⟩
  · exact ⟨_, _, rfl⟩

theorem Row.ne {e t : TypeId} {size : Nat} {v : Value} {n : Nat} {xs : List Value} {g : Nat} {cs : Array Value} (h : Row base w e size v n xs) (hB : Blk w g cs t) (ht : e ≠ t) : some g ≠ v.ownBlock := by
  rcases h.1.2 with ⟨rfl, rfl⟩ | ⟨g', cap, cur, rfl, hb, hg, hr⟩
  · simp [Value.ownBlock]
  · intro e'
    simp only [Value.ownBlock, Option.some.injEq] at e'
    subst e'
    exact Blk.ne hg hB ht rfl

theorem Row.grown {e t : TypeId} {size : Nat} {v : Value} {n : Nat} {xs : List Value} {v2 : Value} {n2 size2 : Nat} {xs2 : List Value} {w' : World} (h : Row base w e size v n xs) (h2 : Row base w t size2 v2 n2 xs2) (hG : w.grownBy w' v2.ownBlock) (ht : e ≠ t) : Row base w' e size v n xs :=
  h.keep fun g _ hB => hG.block g (Blk.lt hB) (h2.ne hB (Ne.symm ht))

theorem IsStore.head_before (h : IsStore base w S st) {w' : World} (hG : w.grownBy w' st.bv.ownBlock) : w'.heap[S]? = w.heap[S]? := hG.block S h.head.lt (h.before.ne h.head (by decide))
theorem IsStore.head_event (h : IsStore base w S st) {w' : World} (hG : w.grownBy w' st.ev.ownBlock) : w'.heap[S]? = w.heap[S]? := hG.block S h.head.lt (h.events.ne h.head (by decide))

theorem IsStore.put_before (h : IsStore base w S st) (e : Er) {w' : World} {v' : Value} (hR : Row base w' 90 5 v' (st.bs.length + 1) (st.bs.flatMap Er.cells ++ e.cells)) (hF : Fr base w w') (hG : w.grownBy w' st.bv.ownBlock)
    (hp : e.place < st.vs.length) (hd : IsDom w e.was.dom e.was.L) :
    IsStore base (w'.setCell ⟨S, 1, none⟩ v') S { st with bv := v', bs := st.bs ++ [e] } ∧ Fr base w (w'.setCell ⟨S, 1, none⟩ v') := by
  have hS : Blk w' S _ 74 := (h.head_before hG).trans h.head
  have hf : Fr base w' (w'.setCell ⟨S, 1, none⟩ v') := Fr.set hS (.inr (.inl rfl)) h.atS h.head_plain _ _
  have hV : Blk w' st.V _ 71 := (hG.block st.V h.vars.lt (h.before.ne h.vars (by decide))).trans h.vars
  refine ⟨⟨hS.set 1 _, hV.other (hV.ne hS (by decide)) _, ?_, (h.events.grown h.before hG (by decide)).set hS (by decide) _ _, h.atS, h.atV, fun v hv => ((h.doms v hv).fr hF).fr hf, ?_, ?_⟩, hF.trans hf⟩
  · have := hR.set hS (by decide) 1 v'
    simpa using this
  · intro x hx
    rcases List.mem_append.1 hx with hx | hx
    · exact ((h.was x hx).fr hF).fr hf
    · rw [List.mem_singleton.1 hx]; exact (hd.fr hF).fr hf
  · intro x hx
    rcases List.mem_append.1 hx with hx | hx
    · exact h.places x hx
    · rw [List.mem_singleton.1 hx]; exact hp

theorem IsStore.put_event (h : IsStore base w S st) (p : Int × Int) {w' : World} {v' : Value} (hR : Row base w' 77 2 v' (st.es.length + 1) (st.es.flatMap evCells ++ evCells p)) (hF : Fr base w w') (hG : w.grownBy w' st.ev.ownBlock) :
    IsStore base (w'.setCell ⟨S, 3, none⟩ v') S { st with ev := v', es := st.es ++ [p] } ∧ Fr base w (w'.setCell ⟨S, 3, none⟩ v') := by
  have hS : Blk w' S _ 74 := (h.head_event hG).trans h.head
  have hf : Fr base w' (w'.setCell ⟨S, 3, none⟩ v') := Fr.set hS (.inr (.inl rfl)) h.atS h.head_plain _ _
  have hV : Blk w' st.V _ 71 := (hG.block st.V h.vars.lt (h.events.ne h.vars (by decide))).trans h.vars
  refine ⟨⟨hS.set 3 _, hV.other (hV.ne hS (by decide)) _, (h.before.grown h.events hG (by decide)).set hS (by decide) _ _, ?_, h.atS, h.atV, fun v hv => ((h.doms v hv).fr hF).fr hf, fun e he => ((h.was e he).fr hF).fr hf, h.places⟩, hF.trans hf⟩
  have := hR.set hS (by decide) 3 v'
  simpa using this
end
end Go.Proofs.YtegiaonlneamfaaDoor

/- The first one of a bucket, taken from a queue in memory. No walk. -/
import Derived.Test.YtfbpdkajonpphaaQs
namespace Go.Proofs.Ytfbpdkajonpphaa
open Go.RowKit Go.Maps

section
variable {w w' : World} {q q' : Qs} {l l1 l2 : List (Int × Nat)} {x : Int} {b : Nat}

theorem inB_append (l1 l2 : List (Int × Nat)) (i : Nat) : inB (l1 ++ l2) i = inB l1 i ++ inB l2 i := by
  unfold inB
  rw [List.filter_append, List.map_append]
theorem inB_none (h : ∀ p ∈ l1, p.2 ≠ b) : inB l1 b = [] := by
  unfold inB
  rw [List.map_eq_nil_iff, List.filter_eq_nil_iff]
  intro p hp
  simpa using h p hp
theorem inB_cons (x : Int) (b i : Nat) (l : List (Int × Nat)) : inB ((x, b) :: l) i = if b = i then x :: inB l i else inB l i := by
  unfold inB
  by_cases h : b = i <;> simp [h]

/-- The first one of the lowest bucket that isn't empty. -/
structure Most (l l1 l2 : List (Int × Nat)) (x : Int) (b : Nat) : Prop where
  eq : l = l1 ++ (x, b) :: l2
  first : ∀ p ∈ l1, p.2 ≠ b
  low : ∀ p ∈ l, b ≤ p.2

theorem first_split : ∀ (l : List (Int × Nat)) (b : Nat), (∃ p ∈ l, p.2 = b) → ∃ l1 l2 x, l = l1 ++ (x, b) :: l2 ∧ ∀ p ∈ l1, p.2 ≠ b
  | [], b, ⟨p, hp, _⟩ => by cases hp
  | (y, c) :: l, b, h => by
    by_cases e : c = b
    · subst e
      exact ⟨[], l, y, rfl, by simp⟩
    · obtain ⟨p, hp, hb⟩ := h
      rcases List.mem_cons.1 hp with rfl | hp
      · exact absurd hb e
      · obtain ⟨l1, l2, x, rfl, h2⟩ := first_split l b ⟨p, hp, hb⟩
        refine ⟨(y, c) :: l1, l2, x, rfl, ?_⟩
        intro p hp
        rcases List.mem_cons.1 hp with rfl | hp
        · exact e
        · exact h2 p hp

theorem least : ∀ (l : List (Int × Nat)), l ≠ [] → ∃ p ∈ l, ∀ p' ∈ l, p.2 ≤ p'.2
  | [], h => absurd rfl h
  | [p], _ => ⟨p, by simp, by simp⟩
  | p :: p' :: l, _ => by
    obtain ⟨m, hm, hl⟩ := least (p' :: l) (by simp)
    by_cases h : p.2 ≤ m.2
    · refine ⟨p, by simp, fun r hr => ?_⟩
      rcases List.mem_cons.1 hr with rfl | hr
      · exact Nat.le_refl _
      · exact Nat.le_trans h (hl r hr)
    · refine ⟨m, List.mem_cons_of_mem _ hm, fun r hr => ?_⟩
      rcases List.mem_cons.1 hr with rfl | hr
      · omega
      · exact hl r hr

theorem most_of (h : l ≠ []) : ∃ l1 l2 x b, Most l l1 l2 x b := by
  obtain ⟨p, hp, hl⟩ := least l h
  obtain ⟨l1, l2, x, e, h2⟩ := first_split l p.2 ⟨p, hp, rfl⟩
  exact ⟨l1, l2, x, p.2, e, h2, hl⟩

theorem Most.mem (h : Most l l1 l2 x b) : (x, b) ∈ l := by rw [h.eq]; simp
theorem Most.inB (h : Most l l1 l2 x b) : inB l b = x :: Ytfbpdkajonpphaa.inB l2 b := by
  rw [h.eq, inB_append, inB_none h.first, inB_cons, if_pos rfl, List.nil_append]
theorem Most.none (h : Most l l1 l2 x b) {i : Nat} (hi : i < b) : Ytfbpdkajonpphaa.inB l i = [] :=
  inB_none fun p hp e => by have := h.low p hp; omega

theorem tighten {H : Type} {R : Value → Option (DataW H × List MemPlace)} {g n : Nat} {D : DataW H} (h : w.ownsMap Try.prog 3 R g n D) : w.ownsMap Try.prog 3 R g (size D) D := by
  obtain ⟨es, clock, h1, h2, h3, rfl⟩ := h
  refine ⟨es, clock, h1, h2, ?_, rfl⟩
  simp [size, length_sorted]

theorem IsQ.m_ne (h : IsQ w q l) : q.m ≠ q.Q := by
  intro e
  obtain ⟨D, ⟨es, clock, hb', r⟩, -⟩ := h.map
  have := h.head
  unfold Blk at this
  rw [← e, hb'] at this
  cases this

theorem IsQ.m_s (h : IsQ w q l) : ∀ i, i < 4 → (q.s i).ownBlock ≠ some q.m := by
  intro i hi e
  obtain ⟨D, ⟨es, clock, hb', r⟩, -⟩ := h.map
  rcases h.bkt i hi with ⟨e', -⟩ | ⟨g', off, cap, cur, e', hB', -⟩
  · rw [e'] at e
    cases e
  · rw [e'] at e
    simp only [Value.ownBlock, Option.some.injEq] at e
    subst e
    unfold Blk at hB'
    rw [hb'] at hB'
    cases hB'

theorem IsQ.Q_s (h : IsQ w q l) : ∀ i, i < 4 → (q.s i).ownBlock ≠ some q.Q := by
  intro i hi e
  rcases h.bkt i hi with ⟨e', -⟩ | ⟨g', off, cap, cur, e', hB', -⟩
  · rw [e'] at e
    cases e
  · rw [e'] at e
    simp only [Value.ownBlock, Option.some.injEq] at e
    subst e
    exact hB'.ne h.head (by decide) rfl

/-- The first one of a bucket is taken. -/
theorem IsQ.take {v : Value} {w2 : World} (h : IsQ w q l) (hb : b < 4) (el : l = l1 ++ (x, b) :: l2) (hno : ∀ p ∈ l1, p.2 ≠ b) (hv : Bkt w v (inB l2 b)) (ho : ∀ g, v.ownBlock = some g → (q.s b).ownBlock = some g)
    (e2 : w2 = w.setCell ⟨q.Q, 1 + b, none⟩ v) :
    ∃ D : DataW Unit, w2.ownsMap Try.prog 3 unitElem q.m (size D) D ∧
      ∀ w3, w3.ownsMap Try.prog 3 unitElem q.m (size D) (D.del (key x)) → w2.mapTurned w3 q.m → IsQ w3 (q.put b v) (l1 ++ l2) ∧ Fq q (q.put b v) w w3 := by
  subst e2
  obtain ⟨D, hD, hD1, hD2⟩ := h.map
  have hmQ := h.m_ne
  have hms := h.m_s
  have hQs := h.Q_s
  have hD3' : (w.setCell ⟨q.Q, 1 + b, none⟩ v).ownsMap Try.prog 3 unitElem q.m (size D) D := hD.setCell hmQ _
  have hB3 := h.head.set (1 + b) v
  rw [← Qs.put_cells q b v hb] at hB3
  have hmem : ∀ p, p ∈ l1 ++ l2 → p ∈ l := by
    intro p hp
    rw [el]
    rcases List.mem_append.1 hp with hp | hp
    · exact List.mem_append_left _ hp
    · exact List.mem_append_right _ (List.mem_cons_of_mem _ hp)
  refine ⟨D, hD3', fun w4 hown4 ht => ?_⟩
  have hg4 := ht.grown
  have hk4 : ∀ k, k < w.heap.size → k ≠ q.Q → k ≠ q.m → w4.heap[k]? = w.heap[k]? := by
    intro k hk e1 e2
    rw [hg4.block k (by simpa [World.setCell] using hk) (fun e => e2 (by injection e)), heap_setCell_other w ⟨q.Q, 1 + b, none⟩ k v e1]
  have hown := Qs.put_own q b v w (fun g hg => .inl (ho g hg)) hb
  have hnd := h.nodup
  rw [el, List.map_append, List.map_cons] at hnd
  have hx1 : x ∉ (l1 ++ l2).map Prod.fst := by
    rw [List.map_append]
    intro hx
    rw [List.nodup_append] at hnd
    obtain ⟨-, h2, h3⟩ := hnd
    rcases List.mem_append.1 hx with hx | hx
    · exact h3 x hx x (by simp) rfl
    · exact (List.nodup_cons.1 h2).1 hx
  refine ⟨⟨?_, fun i hi => ?_, fun i j g hi hj => ?_, ?_, ?_, ?_, ?_⟩, ⟨?_, ?_, ?_, ?_, ?_, ?_, rfl, rfl⟩⟩
  · exact (hg4.block _ hB3.lt (fun e => hmQ (by injection e with e; exact e.symm))).trans hB3
  · by_cases e : i = b
    · subst e
      rw [Qs.put_same, inB_append, inB_none hno, List.nil_append]
      exact hv.keep fun g hg' => hk4 g (hv.lt g hg') (fun e' => hQs i hi (e' ▸ ho g hg')) (fun e' => hms i hi (e' ▸ ho g hg'))
    · have e5 : inB (l1 ++ l2) i = inB l i := by rw [el, inB_append, inB_append, inB_cons, if_neg (fun h => e h.symm)]
      rw [Qs.put_other q v e, e5]
      exact (h.bkt i hi).keep fun g hg' => hk4 g ((h.bkt i hi).lt g hg') (fun e' => hQs i hi (e' ▸ hg')) (fun e' => hms i hi (e' ▸ hg'))
  · intro hgi hgj
    by_cases ei : i = b
    · by_cases ej : j = b
      · rw [ei, ej]
      · subst ei
        rw [Qs.put_same] at hgi
        rw [Qs.put_other q v ej] at hgj
        exact h.apart i j g hi hj (ho g hgi) hgj
    · rw [Qs.put_other q v ei] at hgi
      by_cases ej : j = b
      · subst ej
        rw [Qs.put_same] at hgj
        exact h.apart i j g hi hj hgi (ho g hgj)
      · rw [Qs.put_other q v ej] at hgj
        exact h.apart i j g hi hj hgi hgj
  · have htidy := hD.tidy law3
    have hyes : has D (key x) = true := by rw [hD1, el]; simp
    have hsz := size_del (k := key x) htidy
    rw [hyes, if_pos rfl, hD2] at hsz
    refine ⟨D.del (key x), tighten hown4, fun y => ?_, ?_⟩
    · by_cases e : y = x
      · subst e
        rw [has_del_same]
        exact (decide_eq_false hx1).symm
      · rw [has_del_other (key_ne e), hD1, el]
        simp [e]
    · rw [el] at hsz
      simp at hsz ⊢
      omega
  · refine List.Sublist.nodup ?_ h.nodup
    rw [el]
    exact List.Sublist.map _ (List.Sublist.append_left (List.sublist_cons_self _ _) _)
  · intro p hp
    exact h.four p (hmem p hp)
  · intro p hp
    exact h.wf p (hmem p hp)
  · rw [hg4.os]; rfl
  · rw [hg4.tape]; rfl
  · rw [hg4.output]; rfl
  · have e1 := hg4.size
    have e2 : (w.setCell ⟨q.Q, 1 + b, none⟩ v).heap.size = w.heap.size := by simp [World.setCell]
    omega
  · intro k hk hn
    exact hk4 k hk (fun e => hn (.inl e)) (fun e => hn (.inr (.inl e)))
  · exact hown
end
end Go.Proofs.Ytfbpdkajonpphaa

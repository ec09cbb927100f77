/- A queue, and the law's own map of buckets beside it. No walk. -/
import Derived.Test.YtfbpdkajonpphaaPa
namespace Go.Proofs.Ytfbpdkajonpphaa
open Go.RowKit Go.Maps

abbrev num (x : Int) : DataW Unit := .lit (.int .i64 x)
theorem zero3 (w : World) : (zeroValue 3).run Try.prog w = .ok (.int .i64 0) w := by kernel_rfl

/-- The law's map has l's buckets. -/
def BmD (D : DataW Unit) (l : List (Int × Nat)) : Prop := (∀ x, has D (key x) = decide (x ∈ l.map Prod.fst)) ∧ (∀ p ∈ l, D.atKey (key p.1) (num 0) = num (p.2 : Nat)) ∧ size D = l.length
def Bm (w : World) (M : Nat) (l : List (Int × Nat)) : Prop := ∃ D : DataW Unit, w.ownsMap Try.prog 3 (plainElem Try.prog 3) M (size D) D ∧ BmD D l

section
variable {w w' : World} {M : Nat} {l l1 l2 : List (Int × Nat)} {x : Int} {b : Nat} {D : DataW Unit}

theorem own_map_keep {H : Type} {R : Value → Option (DataW H × List MemPlace)} {n : Nat} {E : DataW H} (h : w.ownsMap Try.prog 3 R M n E) (hk : w'.heap[M]? = w.heap[M]?) : w'.ownsMap Try.prog 3 R M n E := by
  obtain ⟨es, clock, hb, r⟩ := h
  exact ⟨es, clock, hk.trans hb, r⟩
theorem Bm.lt (h : Bm w M l) : M < w.heap.size := by
  obtain ⟨D, hD, -⟩ := h
  exact hD.lt
theorem Bm.keep (h : Bm w M l) (hk : w'.heap[M]? = w.heap[M]?) : Bm w' M l := by
  obtain ⟨D, hD, h2⟩ := h
  exact ⟨D, own_map_keep hD hk, h2⟩
theorem Bm.below (h : Bm w M l) (hb : Below w.heap.size w w') : Bm w' M l := h.keep (hb.block M h.lt)
theorem Bm.new (w : World) : Bm (w.alloc (.map #[] 0)) w.heap.size [] :=
  ⟨.map [], World.ownsMap_made _ _ _ _, fun x => by simp [has], by simp, rfl⟩

theorem BmD.put (hD : w.ownsMap Try.prog 3 (plainElem Try.prog 3) M (size D) D) (h : BmD D l) (hx : x ∉ l.map Prod.fst) : size (D.put (key x) (num (b : Nat))) = size D + 1 ∧ BmD (D.put (key x) (num (b : Nat))) (l ++ [(x, b)]) := by
  obtain ⟨h1, h2, h3⟩ := h
  have hnot : has D (key x) = false := by rw [h1]; simpa using hx
  have hsz : size (D.put (key x) (num (b : Nat))) = size D + 1 := by rw [size_put (hD.tidy law3), hnot]; rfl
  refine ⟨hsz, fun y => ?_, fun p hp => ?_, by rw [hsz, h3]; simp⟩
  · by_cases e : y = x
    · subst e
      rw [has_put_same hD.isMap (key_lit _)]
      simp
    · rw [has_put_other (key_ne e), h1]
      simp [e]
  · rcases List.mem_append.1 hp with hp | hp
    · have hne : p.1 ≠ x := fun e => hx (by rw [← e]; exact List.mem_map_of_mem hp)
      rw [atKey_put_other (key_ne hne)]
      exact h2 p hp
    · rw [List.mem_singleton.1 hp]
      exact atKey_put_same hD.isMap (key_lit _) _ _

theorem BmD.del (hD : w.ownsMap Try.prog 3 (plainElem Try.prog 3) M (size D) D) (h : BmD D l) (el : l = l1 ++ (x, b) :: l2) (hnd : (l.map Prod.fst).Nodup) : BmD (D.del (key x)) (l1 ++ l2) ∧ x ∉ (l1 ++ l2).map Prod.fst := by
  obtain ⟨h1, h2, h3⟩ := h
  rw [el, List.map_append, List.map_cons] at hnd
  have hx1 : x ∉ (l1 ++ l2).map Prod.fst := by
    rw [List.map_append]
    intro hx
    rw [List.nodup_append] at hnd
    obtain ⟨-, h2, h3⟩ := hnd
    rcases List.mem_append.1 hx with hx | hx
    · exact h3 x hx x (by simp) rfl
    · exact (List.nodup_cons.1 h2).1 hx
  have hyes : has D (key x) = true := by rw [h1, el]; simp
  have hsz := size_del (k := key x) (hD.tidy law3)
  rw [hyes, if_pos rfl, h3] at hsz
  refine ⟨⟨fun y => ?_, fun p hp => ?_, ?_⟩, hx1⟩
  · by_cases e : y = x
    · subst e
      rw [has_del_same]
      exact (decide_eq_false hx1).symm
    · rw [has_del_other (key_ne e), h1, el]
      simp [e]
  · have hne : p.1 ≠ x := fun e => hx1 (by rw [← e]; exact List.mem_map_of_mem hp)
    rw [atKey_del_other (key_ne hne)]
    refine h2 p ?_
    rw [el]
    rcases List.mem_append.1 hp with hp | hp
    · exact List.mem_append_left _ hp
    · exact List.mem_append_right _ (List.mem_cons_of_mem _ hp)
  · rw [el] at hsz
    simp at hsz ⊢
    omega
end

/-- The queue and the map, in the midst of the law. -/
structure Oq (w wr : World) (Q0 M : Nat) (q : Qs) (l : List (Int × Nat)) : Prop where
  isq : IsQ wr q l
  bm : Bm wr M l
  Q : q.Q = Q0
  n : q.n = 20
  own : ∀ b, q.own b → w.heap.size ≤ b
  out : ¬ q.own M
  atM : w.heap.size ≤ M
  low : Below w.heap.size w wr

section
variable {w wr w' : World} {Q0 M : Nat} {q q' : Qs} {l l1 l2 : List (Int × Nat)} {x : Int} {b : Nat}

theorem Oq.below (h : Oq w wr Q0 M q l) (hb : Below wr.heap.size wr w') : Oq w w' Q0 M q l :=
  ⟨h.isq.below hb, h.bm.below hb, h.Q, h.n, h.own, h.out, h.atM, h.low.trans (hb.mono h.low.size)⟩

theorem Oq.queue (h : Oq w wr Q0 M q l) (hf : Fq q q' wr w') : Bm w' M l ∧ q'.Q = Q0 ∧ q'.n = 20 ∧ (∀ b, q'.own b → w.heap.size ≤ b) ∧ ¬ q'.own M ∧ Below w.heap.size w w' := by
  refine ⟨h.bm.keep (hf.block M h.bm.lt h.out), hf.same.1.trans h.Q, hf.same.2.trans h.n, hf.above h.own h.low.size, fun ho => ?_, h.low.trans (hf.below h.own h.low.size)⟩
  rcases hf.own M ho with h1 | h1
  · exact h.out h1
  · have := h.bm.lt
    omega

/-- The map is written to: the queue stays. -/
theorem turned_q (hq : IsQ w q l) (ho : ¬ q.own M) (ht : w.mapTurned w' M) : IsQ w' q l :=
  hq.keep fun b hb => ht.grown.block b (hq.lt b hb) (fun e => ho (by injection e with e; exact e ▸ hb))
theorem turned_low {w0 : World} (hb : Below w0.heap.size w0 w) (hM : w0.heap.size ≤ M) (ht : w.mapTurned w' M) : Below w0.heap.size w0 w' :=
  hb.grown ht.grown hb.size (fun k hk => by injection hk with hk; omega)

theorem Oq.push (h : Oq w wr Q0 M q l) (hq : IsQ w' q' (l ++ [(x, b)])) (hf : Fq q q' wr w') (hx : x ∉ l.map Prod.fst) (hl : l.length + 1 ≤ 1000000) :
    ∃ D : DataW Unit, w'.ownsMap Try.prog 3 (plainElem Try.prog 3) M (size D) D ∧ size D < maxLen ∧ ∀ w'', w''.ownsMap Try.prog 3 (plainElem Try.prog 3) M (size D + 1) (D.put (key x) (num (b : Nat))) → w'.mapTurned w'' M → Oq w w'' Q0 M q' (l ++ [(x, b)]) := by
  obtain ⟨⟨D, hD, hBm⟩, h1, h2, h3, h4, h5⟩ := h.queue hf
  refine ⟨D, hD, by rw [hBm.2.2]; unfold maxLen; omega, fun w'' hown ht => ?_⟩
  obtain ⟨e1, e2⟩ := BmD.put (b := b) hD hBm hx
  exact ⟨turned_q hq h4 ht, ⟨_, by rw [e1]; exact hown, e2⟩, h1, h2, h3, h4, h.atM, turned_low h5 h.atM ht⟩

theorem Oq.pop (h : Oq w wr Q0 M q l) (hq : IsQ w' q' (l1 ++ l2)) (hf : Fq q q' wr w') (el : l = l1 ++ (x, b) :: l2) :
    ∃ D : DataW Unit, (∀ W, Below w'.heap.size w' W → W.ownsMap Try.prog 3 (plainElem Try.prog 3) M (size D) D) ∧ has D (key x) = true ∧ D.atKey (key x) (num 0) = num (b : Nat) ∧ x ∉ (l1 ++ l2).map Prod.fst ∧
      ∀ W, Below w'.heap.size w' W → ∀ w'', w''.ownsMap Try.prog 3 (plainElem Try.prog 3) M (size D) (D.del (key x)) → W.mapTurned w'' M → Oq w w'' Q0 M q' (l1 ++ l2) := by
  obtain ⟨⟨D, hD, hBm⟩, h1, h2, h3, h4, h5⟩ := h.queue hf
  obtain ⟨e1, e2⟩ := BmD.del hD hBm el h.isq.nodup
  refine ⟨D, fun W hW => own_map_keep hD (hW.block M hD.lt), by rw [hBm.1, el]; simp, hBm.2.1 (x, b) (by rw [el]; simp), e2, fun W hW w'' hown ht => ?_⟩
  exact ⟨turned_q (hq.below hW) h4 ht, ⟨_, tighten hown, e1⟩, h1, h2, h3, h4, h.atM, turned_low (h5.trans (hW.mono h5.size)) h.atM ht⟩
end
end Go.Proofs.Ytfbpdkajonpphaa

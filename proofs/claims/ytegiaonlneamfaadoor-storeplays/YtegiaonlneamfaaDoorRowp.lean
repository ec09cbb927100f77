/- Append onto a row without words: what stays. -/
import Derived.Test.YtegiaonlneamfaaDoorTyped
namespace Go.Proofs.YtegiaonlneamfaaDoor
open Go.RowKit

section
variable {P : Program} (w : World)

theorem run_append_rowp (base : Nat) (t ty e : TypeId) (i : TypeInfo) (z : Value) (size bytes : Nat) (ht : P.underlying t = some (.slice e)) (hi : P.info? e = some i) (hz : i.zero = some z)
    (hsize : i.size = size) (hby : i.bytes = bytes) (hzs : z.cells.size = size) (hsz : 0 < size)
    (v : Value) (n : Nat) (xs : List Value) (hR : Row base w e size v n xs) (hzp : ∀ u ∈ z.cells, plainV u)
    (a : Addr) (m c : Nat) (news : List Value) (hl : news.length = m * size) (hnews : ∀ j u, news[j]? = some u → w.cell? (a.add j) = some u) (h1 : ∀ u ∈ news, u.oneCell' = true) (hnp : ∀ u ∈ news, plainV u)
    (hm : 0 < m) (h63 : n + m ≤ maxLen) (hbytes : (n + m) * bytes ≤ 140737488355328) (hbase : base ≤ w.heap.size) :
    ∃ v' w', (Builtin.append_ #[t, t] ty #[v, .slice (some a) m c]).run P w = .ok v' w' ∧ Row base w' e size v' (n + m) (xs ++ news) ∧ w.grownBy w' v.ownBlock := by
  obtain ⟨v', w', hr, h2, h3, h4, h5⟩ := run_append_own_at (P := P) w base t ty e i z size bytes ht hi hz hsize hby hzs hsz v n xs hR.1 a m c news hl hnews h1 h63 hbytes hbase
  have hsmall : n + m ≤ 9223372036854775807 := by simp only [maxLen] at h63; omega
  refine ⟨v', w', hr, ⟨h2, ?_⟩, h3⟩
  subst hsize
  subst hby
  rcases hR.1.2 with ⟨rfl, rfl⟩ | ⟨g, cap, cur, rfl, hb, hB, hnc, hcm, hcs, htake⟩
  · have hx : xs = [] := List.eq_nil_of_length_eq_zero (by simpa using hR.1.1)
    subst hx
    have hr' := run_append_nil (P := P) w t ty e i z ht hi hz a m c news hl hnews hm (by omega) (by have hb := hbytes; simp only [Nat.zero_add] at hb; omega)
    rw [hr'] at hr
    injection hr with hr1 hr2
    subst hr1
    subst hr2
    intro g' hg' cur' hB' u hu
    simp only [Value.ownBlock, Option.some.injEq] at hg'
    subst hg'
    have hN := heap_alloc_new w.drew (.cells (news.toArray ++ Builtin.zeroCells z.cells (grownCap w m 0 e - m)) e)
    unfold Blk at hB'
    rw [show w.heap.size = w.drew.heap.size from rfl] at hB'
    rw [hN] at hB'
    injection hB' with hB'; injection hB' with hB' _
    subst hB'
    rcases Array.mem_append.1 hu with h | h
    · exact hnp u (by simpa using h)
    · exact hzp u (zeroCells_mem h)
  · by_cases hroom : n + m ≤ cap
    · have hfit : n * i.size + news.length ≤ cur.size := by rw [hl, hcs, ← Nat.add_mul]; exact Nat.mul_le_mul_right _ hroom
      have hr' := run_append_room (P := P) w t ty e i ht hi g n cap cur hB a m c news hl hnews h1 hroom hfit
      rw [hr'] at hr
      injection hr with hr1 hr2
      subst hr1
      subst hr2
      intro g' hg' cur' hB' u hu
      simp only [Value.ownBlock, Option.some.injEq] at hg'
      subst hg'
      have hN := setRow_heap w g cur (cur.toList.take (n * i.size) ++ news ++ cur.toList.drop (n * i.size + news.length)).toArray e _ hB
      unfold Blk at hB'
      rw [hN] at hB'
      injection hB' with hB'; injection hB' with hB' _
      subst hB'
      have hcur := hR.2 _ rfl cur hB
      simp only [List.mem_toArray, List.mem_append] at hu
      rcases hu with (h | h) | h
      · exact hcur u (by simpa using List.mem_of_mem_take h)
      · exact hnp u h
      · exact hcur u (by simpa using List.mem_of_mem_drop h)
    · have holds : ∀ j u, xs[j]? = some u → w.cell? ((⟨g, 0, none⟩ : Addr).add j) = some u := hR.1.cells (g := g) rfl
      have hr' := run_append_grow (P := P) w t ty e i z ht hi hz ⟨g, 0, none⟩ n cap xs hR.1.1 holds a m c news hl hnews (by omega) (by omega) (growslice_fits (by omega) hbytes)
      rw [hr'] at hr
      injection hr with hr1 hr2
      subst hr1
      subst hr2
      intro g' hg' cur' hB' u hu
      simp only [Value.ownBlock, Option.some.injEq] at hg'
      subst hg'
      have hN := heap_alloc_new w.drew (.cells (xs.toArray ++ news.toArray ++ Builtin.zeroCells z.cells (grownCap w (n + m) cap e - (n + m))) e)
      unfold Blk at hB'
      rw [show w.heap.size = w.drew.heap.size from rfl] at hB'
      rw [hN] at hB'
      injection hB' with hB'; injection hB' with hB' _
      subst hB'
      have hcur := hR.2 _ rfl cur hB
      rcases Array.mem_append.1 hu with h | h
      · rcases Array.mem_append.1 h with h | h
        · have h' : u ∈ xs := by simpa using h
          rw [← htake] at h'
          exact hcur u (by simpa using List.mem_of_mem_take h')
        · exact hnp u (by simpa using h)
      · exact hzp u (zeroCells_mem h)

/-- append at the walk's operation, onto a row without words. -/
theorem wpList_append_rowp {ops : Array Oper} {rest : List Oper} {o : Oper} {a : Act} {Q : Exit → Act → World → Prop} (hgd : o.guard = none) (s x : Operand) (t : TypeId)
    (ho : o.op = .call { callee := .builtin .append, args := #[s, x], argTypes := #[t, t] })
    (base : Nat) (e : TypeId) (i : TypeInfo) (z : Value) (size bytes : Nat) (ht : P.underlying t = some (.slice e)) (hi : P.info? e = some i) (hz : i.zero = some z)
    (hsize : i.size = size) (hby : i.bytes = bytes) (hzs : z.cells.size = size) (hsz : 0 < size) (hzp : ∀ u ∈ z.cells, plainV u)
    (v : Value) (n : Nat) (xs : List Value) (hs : a.eval s = v) (hR : Row base w e size v n xs)
    (ad : Addr) (c : Nat) (news : List Value) (hx : a.eval x = .slice (some ad) 1 c) (hl : news.length = 1 * size) (hnews : ∀ j u, news[j]? = some u → w.cell? (ad.add j) = some u) (h1 : ∀ u ∈ news, u.oneCell' = true) (hnp : ∀ u ∈ news, plainV u)
    (h63 : n + 1 ≤ maxLen) (hbytes : (n + 1) * bytes ≤ 140737488355328) (hbase : base ≤ w.heap.size)
    (h : ∀ v' w', Row base w' e size v' (n + 1) (xs ++ news) → w.grownBy w' v.ownBlock → wpList P ops Q rest (a.put o.dst v') w') :
    wpList P ops Q (o :: rest) a w := by
  refine wpList_plain hgd fun K hK => ?_
  obtain ⟨v', w', hr, h2, h3⟩ := run_append_rowp (P := P) w base t o.type e i z size bytes ht hi hz hsize hby hzs hsz v n xs hR hzp ad 1 c news hl hnews h1 hnp (by omega) h63 hbytes hbase
  unfold Oper.wp execOp
  simp only [ho, resolve, invoke, builtin, Sem.run_bind, Sem.run_pure, Result.andThen_ok, List.map_toArray, List.map_cons, List.map_nil, hs, hx, hr]
  exact hK _ _ (h v' w' h2 h3)

theorem words_grown {w w' : World} {base : Nat} {e : TypeId} {size n : Nat} {v : Value} {xs : List Value} (hR : Row base w e size v n xs) (hG : w.grownBy w' v.ownBlock) : ∀ (ad : Addr) (x : Int), w.cell? ad = some (.int .u64 x) → w'.cell? ad = some (.int .u64 x) := by
  intro ad x hx
  refine hG.cell hx fun e' => ?_
  rcases hR.1.2 with ⟨rfl, rfl⟩ | ⟨g, cap, cur, rfl, hb, hB, hr⟩
  · cases e'
  · simp only [Value.ownBlock, Option.some.injEq] at e'
    have hp := hR.2 g rfl cur hB
    unfold World.cell? at hx
    rw [e', hB] at hx
    simp only at hx
    split at hx
    · exact absurd hx (by simp)
    · exact hp _ (Array.mem_of_getElem? hx) x rfl

theorem IsDom.grown {w w' : World} {base : Nat} {e : TypeId} {size n : Nat} {v : Value} {xs : List Value} {d : Value} {L : List Int} (h : IsDom w d L) (hR : Row base w e size v n xs) (hG : w.grownBy w' v.ownBlock) : IsDom w' d L := by
  obtain ⟨s, A, ws, c, e', h1, h2, h3⟩ := h
  refine ⟨s, A, ws, c, e', fun hn => ?_, h2, h3⟩
  obtain ⟨ad, q, hl, hc⟩ := h1 hn
  exact ⟨ad, q, Nat.lt_of_lt_of_le hl hG.size, fun j hj => words_grown hR hG _ _ (hc j hj)⟩

theorem IntsT.grown {w w' : World} {base : Nat} {e : TypeId} {size n : Nat} {v : Value} {xs : List Value} {x : Value} {L : List Int} (h : IntsT w x L) (hR : Row base w e size v n xs) (hG : w.grownBy w' v.ownBlock) (he : e ≠ 3) : IntsT w' x L :=
  own_keep h fun g _ hB => hG.block g (Blk.lt hB) (hR.ne hB he)

theorem Row.base {w : World} {base base' : Nat} {e : TypeId} {size n : Nat} {v : Value} {xs : List Value} (h : Row base w e size v n xs) (hb : base' ≤ base) : Row base' w e size v n xs := ⟨own_base h.1 hb, h.2⟩
end
end Go.Proofs.YtegiaonlneamfaaDoor

/- Rows of one's own without words of 64 bits, also behind their end: domains stay beside them. No walk. -/
import Derived.Test.YtkhmocbfkpbpfaaGreatDoorMkp
import Derived.Test.YtkhmocbfkpbpfaaGreatDoorDRep
import Derived.Test.YtkhmocbfkpbpfaaGreatDoorLn2
import Derived.Test.YtkhmocbfkpbpfaaGreatDoorExth0
import Derived.Test.YtkhmocbfkpbpfaaGreatDoorMsize
import Derived.Test.YtkhmocbfkpbpfaaGreatDoorDGet
import Derived.Maps.AppendAt
namespace Go.Proofs.YtkhmocbfkpbpfaaGreatDoor
open Go.RowKit

/-- A value that is no word of 64 bits. -/
def plainV (v : Value) : Prop := ∀ x, v ≠ .int .u64 x
theorem lt_of_heap {w : World} {b : Nat} {o : Obj} (h : w.heap[b]? = some o) : b < w.heap.size := (Array.getElem?_eq_some_iff.1 h).1

def Blk (w : World) (g : Nat) (cs : Array Value) (t : TypeId) : Prop := w.heap[g]? = some (.cells cs t (0, 0))
theorem Blk.lt {w : World} {g : Nat} {cs : Array Value} {t : TypeId} (h : Blk w g cs t) : g < w.heap.size := lt_of_heap h
theorem Blk.below {w w' : World} {g : Nat} {cs : Array Value} {t : TypeId} (h : Blk w g cs t) (hb : Below w.heap.size w w') : Blk w' g cs t := (hb.block g h.lt).trans h
theorem Blk.new (w : World) (cs : Array Value) (t : TypeId) : Blk (w.alloc (.cells cs t)) w.heap.size cs t := heap_alloc_new w _
theorem Blk.cell {w : World} {g : Nat} {cs : Array Value} {t : TypeId} (h : Blk w g cs t) (i : Nat) : w.cell? ⟨g, i, none⟩ = cs[i]? := by
  unfold Blk at h; simp [World.cell?, h]
theorem Blk.free {w : World} {g : Nat} {cs : Array Value} {t : TypeId} (h : Blk w g cs t) (i : Nat) : w.frozen? ⟨g, i, none⟩ = false := by
  unfold Blk at h; simp [World.frozen?, h]
theorem Blk.set {w : World} {g : Nat} {cs : Array Value} {t : TypeId} (h : Blk w g cs t) (i : Nat) (v : Value) : Blk (w.setCell ⟨g, i, none⟩ v) g (cs.setIfInBounds i v) t := heap_setCell_same w g i cs t v h
theorem Blk.other {w : World} {g : Nat} {cs : Array Value} {t : TypeId} (h : Blk w g cs t) {a : Addr} (hne : g ≠ a.block) (v : Value) : Blk (w.setCell a v) g cs t := (heap_setCell_other w a g v hne).trans h
theorem Blk.ne {w : World} {g g' : Nat} {cs cs' : Array Value} {t t' : TypeId} (h : Blk w g cs t) (h' : Blk w g' cs' t') (ht : t ≠ t') : g ≠ g' := by
  rintro rfl
  unfold Blk at h h'
  rw [h] at h'
  injection h' with h'; injection h' with _ h'
  exact ht h'

/-- A row of one's own, without words, also behind its end. -/
def Row (base : Nat) (w : World) (e : TypeId) (size : Nat) (v : Value) (n : Nat) (xs : List Value) : Prop :=
  w.ownsRow base e size v n xs ∧ ∀ g, v.ownBlock = some g → ∀ cur, Blk w g cur e → ∀ u ∈ cur, plainV u

theorem Row.nil (base : Nat) (w : World) (e : TypeId) (size : Nat) : Row base w e size (.slice none 0 0) 0 [] := ⟨World.ownsRow_nil w base e size, by rintro g h; cases h⟩

theorem Row.keep {base : Nat} {w w' : World} {e : TypeId} {size : Nat} {v : Value} {n : Nat} {xs : List Value} (h : Row base w e size v n xs) (hk : ∀ g cs, Blk w g cs e → w'.heap[g]? = w.heap[g]?) : Row base w' e size v n xs := by
  obtain ⟨⟨h1, h2⟩, h3⟩ := h
  rcases h2 with ⟨rfl, rfl⟩ | ⟨g, cap, cur, rfl, hb, hg, hr⟩
  · exact ⟨⟨h1, .inl ⟨rfl, rfl⟩⟩, by rintro g h; cases h⟩
  · refine ⟨⟨h1, .inr ⟨g, cap, cur, rfl, hb, (hk g cur hg).trans hg, hr⟩⟩, ?_⟩
    rintro g' e' cur' hB
    simp only [Value.ownBlock, Option.some.injEq] at e'
    subst e'
    exact h3 g rfl cur' ((hk g cur hg).symm.trans hB)

theorem Row.below {base : Nat} {w w' : World} {e : TypeId} {size : Nat} {v : Value} {n : Nat} {xs : List Value} (h : Row base w e size v n xs) (hb : Below w.heap.size w w') : Row base w' e size v n xs :=
  h.keep fun g _ hB => hb.block g (Blk.lt hB)

theorem Row.set {base : Nat} {w : World} {e t : TypeId} {size : Nat} {v : Value} {n : Nat} {xs : List Value} {g : Nat} {cs : Array Value} (h : Row base w e size v n xs) (hB : Blk w g cs t) (ht : e ≠ t) (i : Nat) (x : Value) : Row base (w.setCell ⟨g, i, none⟩ x) e size v n xs :=
  h.keep fun g' _ hB' => heap_setCell_other w _ g' x (hB'.ne hB ht)

theorem zeroCells_mem {z : Array Value} {k : Nat} {u : Value} (h : u ∈ Builtin.zeroCells z k) : u ∈ z := by
  unfold Builtin.zeroCells at h
  rw [Array.mem_map] at h
  obtain ⟨i, hi, rfl⟩ := h
  rw [Array.mem_range] at hi
  have hz : 0 < z.size := by
    rcases Nat.eq_zero_or_pos z.size with h0 | h0
    · rw [h0] at hi; omega
    · exact h0
  have hm := Nat.mod_lt i hz
  rw [getElem!_pos z _ hm]
  exact Array.getElem_mem hm

section
variable {P : Program} (w : World)

theorem run_append_rowp (base : Nat) (t ty e : TypeId) (i : TypeInfo) (z : Value) (size bytes : Nat) (ht : P.underlying t = some (.slice e)) (hi : P.info? e = some i) (hz : i.zero = some z)
    (hsize : i.size = size) (hby : i.bytes = bytes) (hzs : z.cells.size = size) (hsz : 0 < size)
    (v : Value) (n : Nat) (xs : List Value) (hR : Row base w e size v n xs) (hzp : ∀ u ∈ z.cells, plainV u)
    (a : Addr) (m c : Nat) (news : List Value) (hl : news.length = m * size) (hnews : ∀ j u, news[j]? = some u → w.cell? (a.add j) = some u) (h1 : ∀ u ∈ news, u.oneCell' = true) (hnp : ∀ u ∈ news, plainV u)
    (hm : 0 < m) (h63 : n + m ≤ maxLen) (hbytes : (n + m) * bytes ≤ 140737488355328) (hbase : base ≤ w.heap.size) :
    ∃ v' w', (Builtin.append_ #[t, t] ty #[v, .slice (some a) m c]).run P w = .ok v' w' ∧ Row base w' e size v' (n + m) (xs ++ news) ∧ w.grownBy w' v.ownBlock := by
  obtain ⟨v', w', hr, h2, h3, h4, h5⟩ := run_append_own_at (P := P) w base t ty e i z size bytes ht hi hz hsize hby hzs hsz v n xs hR.1 a m c news hl hnews h1 h63 hbytes hbase
  have hsmall : n + m ≤ 9223372036854775807 := by simp only [maxLen] at h63; omega
  refine ⟨v', w', hr, ⟨h2, ?_⟩, h3⟩
  subst hsize
  subst hby
  rcases hR.1.2 with ⟨rfl, rfl⟩ | ⟨g, cap, cur, rfl, hb, hB, hnc, hcm, hcs, htake⟩
  · have hx : xs = [] := List.eq_nil_of_length_eq_zero (by simpa using hR.1.1)
    subst hx
    have hr' := run_append_nil (P := P) w t ty e i z ht hi hz a m c news hl hnews hm (by omega) (by have hb := hbytes; simp only [Nat.zero_add] at hb; omega)
    rw [hr'] at hr
    injection hr with hr1 hr2
    subst hr1
    subst hr2
    intro g' hg' cur' hB' u hu
    simp only [Value.ownBlock, Option.some.injEq] at hg'
    subst hg'
    have hN := heap_alloc_new w.drew (.cells (news.toArray ++ Builtin.zeroCells z.cells (grownCap w m 0 e - m)) e)
    unfold Blk at hB'
    rw [show w.heap.size = w.drew.heap.size from rfl] at hB'
    rw [hN] at hB'
    injection hB' with hB'; injection hB' with hB' _
    subst hB'
    rcases Array.mem_append.1 hu with h | h
    · exact hnp u (by simpa using h)
    · exact hzp u (zeroCells_mem h)
  · by_cases hroom : n + m ≤ cap
    · have hfit : n * i.size + news.length ≤ cur.size := by rw [hl, hcs, ← Nat.add_mul]; exact Nat.mul_le_mul_right _ hroom
      have hr' := run_append_room (P := P) w t ty e i ht hi g n cap cur hB a m c news hl hnews h1 hroom hfit
      rw [hr'] at hr
      injection hr with hr1 hr2
      subst hr1
      subst hr2
      intro g' hg' cur' hB' u hu
      simp only [Value.ownBlock, Option.some.injEq] at hg'
      subst hg'
      have hN := setRow_heap w g cur (cur.toList.take (n * i.size) ++ news ++ cur.toList.drop (n * i.size + news.length)).toArray e _ hB
      unfold Blk at hB'
      rw [hN] at hB'
      injection hB' with hB'; injection hB' with hB' _
      subst hB'
      have hcur := hR.2 _ rfl cur hB
      simp only [List.mem_toArray, List.mem_append] at hu
      rcases hu with (h | h) | h
      · exact hcur u (by simpa using List.mem_of_mem_take h)
      · exact hnp u h
      · exact hcur u (by simpa using List.mem_of_mem_drop h)
    · have holds : ∀ j u, xs[j]? = some u → w.cell? ((⟨g, 0, none⟩ : Addr).add j) = some u := hR.1.cells (g := g) rfl
      have hr' := run_append_grow (P := P) w t ty e i z ht hi hz ⟨g, 0, none⟩ n cap xs hR.1.1 holds a m c news hl hnews (by omega) (by omega) (growslice_fits (by omega) hbytes)
      rw [hr'] at hr
      injection hr with hr1 hr2
      subst hr1
      subst hr2
      intro g' hg' cur' hB' u hu
      simp only [Value.ownBlock, Option.some.injEq] at hg'
      subst hg'
      have hN := heap_alloc_new w.drew (.cells (xs.toArray ++ news.toArray ++ Builtin.zeroCells z.cells (grownCap w (n + m) cap e - (n + m))) e)
      unfold Blk at hB'
      rw [show w.heap.size = w.drew.heap.size from rfl] at hB'
      rw [hN] at hB'
      injection hB' with hB'; injection hB' with hB' _
      subst hB'
      have hcur := hR.2 _ rfl cur hB
      rcases Array.mem_append.1 hu with h | h
      · rcases Array.mem_append.1 h with h | h
        · have h' : u ∈ xs := by simpa using h
          rw [← htake] at h'
          exact hcur u (by simpa using List.mem_of_mem_take h')
        · exact hnp u (by simpa using h)
      · exact hzp u (zeroCells_mem h)

/-- append at the walk's operation, onto a row without words. -/
theorem wpList_append_rowp {ops : Array Oper} {rest : List Oper} {o : Oper} {a : Act} {Q : Exit → Act → World → Prop} (hgd : o.guard = none) (s x : Operand) (t : TypeId)
    (ho : o.op = .call { callee := .builtin .append, args := #[s, x], argTypes := #[t, t] })
    (base : Nat) (e : TypeId) (i : TypeInfo) (z : Value) (size bytes : Nat) (ht : P.underlying t = some (.slice e)) (hi : P.info? e = some i) (hz : i.zero = some z)
    (hsize : i.size = size) (hby : i.bytes = bytes) (hzs : z.cells.size = size) (hsz : 0 < size) (hzp : ∀ u ∈ z.cells, plainV u)
    (v : Value) (n : Nat) (xs : List Value) (hs : a.eval s = v) (hR : Row base w e size v n xs)
    (ad : Addr) (c : Nat) (news : List Value) (hx : a.eval x = .slice (some ad) 1 c) (hl : news.length = 1 * size) (hnews : ∀ j u, news[j]? = some u → w.cell? (ad.add j) = some u) (h1 : ∀ u ∈ news, u.oneCell' = true) (hnp : ∀ u ∈ news, plainV u)
    (h63 : n + 1 ≤ maxLen) (hbytes : (n + 1) * bytes ≤ 140737488355328) (hbase : base ≤ w.heap.size)
    (h : ∀ v' w', Row base w' e size v' (n + 1) (xs ++ news) → w.grownBy w' v.ownBlock → wpList P ops Q rest (a.put o.dst v') w') :
    wpList P ops Q (o :: rest) a w := by
  refine wpList_plain hgd fun K hK => ?_
  obtain ⟨v', w', hr, h2, h3⟩ := run_append_rowp (P := P) w base t o.type e i z size bytes ht hi hz hsize hby hzs hsz v n xs hR hzp ad 1 c news hl hnews h1 hnp (by omega) h63 hbytes hbase
  unfold Oper.wp execOp
  simp only [ho, resolve, invoke, builtin, Sem.run_bind, Sem.run_pure, Result.andThen_ok, List.map_toArray, List.map_cons, List.map_nil, hs, hx, hr]
  exact hK _ _ (h v' w' h2 h3)

theorem words_grown {w w' : World} {base : Nat} {e : TypeId} {size n : Nat} {v : Value} {xs : List Value} (hR : Row base w e size v n xs) (hG : w.grownBy w' v.ownBlock) : ∀ (ad : Addr) (x : Int), w.cell? ad = some (.int .u64 x) → w'.cell? ad = some (.int .u64 x) := by
  intro ad x hx
  refine hG.cell hx fun e' => ?_
  rcases hR.1.2 with ⟨rfl, rfl⟩ | ⟨g, cap, cur, rfl, hb, hB, hr⟩
  · cases e'
  · simp only [Value.ownBlock, Option.some.injEq] at e'
    have hp := hR.2 g rfl cur hB
    unfold World.cell? at hx
    rw [e', hB] at hx
    simp only at hx
    split at hx
    · exact absurd hx (by simp)
    · exact hp _ (Array.mem_of_getElem? hx) x rfl

theorem IsDom.grown {w w' : World} {base : Nat} {e : TypeId} {size n : Nat} {v : Value} {xs : List Value} {d : Value} {L : List Int} (h : IsDom w d L) (hR : Row base w e size v n xs) (hG : w.grownBy w' v.ownBlock) : IsDom w' d L := by
  obtain ⟨s, A, ws, c, e', h1, h2, h3⟩ := h
  refine ⟨s, A, ws, c, e', fun hn => ?_, h2, h3⟩
  obtain ⟨ad, q, hl, hc⟩ := h1 hn
  exact ⟨ad, q, Nat.lt_of_lt_of_le hl hG.size, fun j hj => words_grown hR hG _ _ (hc j hj)⟩

theorem Row.base {w : World} {base base' : Nat} {e : TypeId} {size n : Nat} {v : Value} {xs : List Value} (h : Row base w e size v n xs) (hb : base' ≤ base) : Row base' w e size v n xs := ⟨own_base h.1 hb, h.2⟩
end


theorem Row.ne {w : World} {base : Nat} {e t : TypeId} {size n : Nat} {v : Value} {xs : List Value} (h : Row base w e size v n xs) {g : Nat} {cs : Array Value} (hB : Blk w g cs t) (ht : e ≠ t) : v.ownBlock ≠ some g := by
  rcases h.1.2 with ⟨rfl, rfl⟩ | ⟨g', cap, cur, rfl, hb, hg, hr⟩
  · intro e; cases e
  · intro e
    simp only [Value.ownBlock, Option.some.injEq] at e
    subst e
    exact Blk.ne (show Blk w g' cur _ from hg) hB ht rfl
theorem Row.low {w w' : World} {b base : Nat} {e : TypeId} {size n : Nat} {v : Value} {xs : List Value} (h : Row base w e size v n xs) (hG : w.grownBy w' v.ownBlock) (hb : b ≤ w.heap.size) (hbb : b ≤ base) : Below b w w' :=
  ⟨hG.os, hG.tape, hG.output, hG.size, fun k hk => hG.block k (by omega) (fun e' => by have := own_ge h.1 k e'.symm; omega)⟩
end Go.Proofs.YtkhmocbfkpbpfaaGreatDoor

/- Slices of domains of one's own. No walk. -/
namespace Go.Proofs.YtkhmocbfkpbpfaaGreatDoor
open Go.RowKit

theorem blk_cell {W : World} {g j : Nat} {cs : Array Value} {t : TypeId} {x : Value} (h : W.heap[g]? = some (.cells cs t (0, 0))) (hx : cs[j]? = some x) : W.cell? ⟨g, j, none⟩ = some x := by
  unfold World.cell?
  rw [h]
  exact hx
/-- A domain's three cells. -/
structure Dv where
  s : Int
  A : Option Addr
  n : Nat
  c : Nat
  z : Int
abbrev Dv.cells (d : Dv) : List Value := [.int .i64 d.s, .slice d.A d.n d.c, .int .i64 d.z]
abbrev Dv.val (d : Dv) : Value := .agg #[.int .i64 d.s, .slice d.A d.n d.c, .int .i64 d.z]
theorem Dv.of {W : World} {d : Value} {L : List Int} (h : IsDom W d L) : ∃ v : Dv, d = v.val ∧ v.z = (L.length : Nat) := by
  obtain ⟨s, A, ws, c, rfl, -⟩ := h
  exact ⟨⟨s, A, ws.length, c, (L.length : Nat)⟩, rfl, rfl⟩
theorem dv_plain (d : Dv) : ∀ u ∈ d.cells, plainV u := by
  intro u hu x
  simp only [Dv.cells, List.mem_cons, List.not_mem_nil, or_false] at hu
  rcases hu with rfl | rfl | rfl <;> simp
theorem infoDom : (Tryz.prog.info? 53).map (fun i => (i.zero, i.size, i.bytes)) = some (some (.agg #[.int .i64 0, .slice none 0 0, .int .i64 0]), 3, 40) := by kernel_rfl
/-- Domains of one's own, one behind the other. -/
structure DomsO (base : Nat) (W : World) (y : Sl) (ds : List Dv) (LL : List (List Int)) : Prop where
  row : Row base W 53 3 (.slice y.A y.n y.c) ds.length (ds.flatMap Dv.cells)
  len : ds.length = LL.length
  doms : ∀ (k : Nat) (d : Dv) (L : List Int), ds[k]? = some d → LL[k]? = some L → IsDom W d.val L
theorem DomsO.nil (base : Nat) (W : World) : DomsO base W ⟨none, 0, 0⟩ [] [] := ⟨Row.nil _ _ _ _, rfl, fun k d L h => by cases h⟩
theorem DomsO.below {base : Nat} {W W' : World} {y : Sl} {ds : List Dv} {LL : List (List Int)} (h : DomsO base W y ds LL) (b : Below W.heap.size W W') : DomsO base W' y ds LL :=
  ⟨h.row.below b, h.len, fun k d L h1 h2 => (h.doms k d L h1 h2).below b⟩
/-- One more. -/
theorem DomsO.step {base : Nat} {W W' : World} {y y' : Sl} {ds : List Dv} {LL : List (List Int)} {d : Dv} {L : List Int} (h : DomsO base W y ds LL) (hd : IsDom W d.val L)
    (hR : Row base W' 53 3 (.slice y'.A y'.n y'.c) (ds.length + 1) (ds.flatMap Dv.cells ++ d.cells)) (hG : W.grownBy W' (Value.slice y.A y.n y.c).ownBlock) : DomsO base W' y' (ds ++ [d]) (LL ++ [L]) := by
  refine ⟨by simpa using hR, by simp [h.len], fun k e M h1 h2 => ?_⟩
  by_cases hk : k < ds.length
  · rw [List.getElem?_append_left hk] at h1
    rw [List.getElem?_append_left (by rw [← h.len]; exact hk)] at h2
    exact (h.doms k e M h1 h2).grown h.row hG
  · have hk' : k = ds.length := by
      have := (List.getElem?_eq_some_iff.1 h1).1
      simp at this
      omega
    subst hk'
    rw [List.getElem?_append_right (Nat.le_refl _)] at h1
    rw [h.len, List.getElem?_append_right (Nat.le_refl _)] at h2
    simp at h1 h2
    subst h1 h2
    exact hd.grown h.row hG
end Go.Proofs.YtkhmocbfkpbpfaaGreatDoor

/- Rows of rows of one's own: one more. Domains that lie one behind the other. No walk. -/
namespace Go.Proofs.YtkhmocbfkpbpfaaGreatDoor
open Go.RowKit

abbrev rowV (x : Sl) : Value := .slice x.A x.n x.c
/-- Rows of one's own, each with its numbers. -/
structure RowsO (base : Nat) (W : World) (y : Sl) (xs : List Sl) (R : List (List Int)) : Prop where
  row : W.ownsRow base 30 1 (.slice y.A y.n y.c) xs.length (xs.map rowV)
  len : xs.length = R.length
  each : ∀ (k : Nat) (x : Sl) (r : List Int), xs[k]? = some x → R[k]? = some r → Row3 W base x r
theorem RowsO.nil (base : Nat) (W : World) : RowsO base W ⟨none, 0, 0⟩ [] [] := ⟨World.ownsRow_nil _ _ _ _, rfl, fun k x r h => by cases h⟩
theorem RowsO.below {base : Nat} {W W' : World} {y : Sl} {xs : List Sl} {R : List (List Int)} (h : RowsO base W y xs R) (b : Below W.heap.size W W') : RowsO base W' y xs R :=
  ⟨own_keep' h.row fun g hg => b.block g (own_lt' h.row hg).2, h.len, fun k x r h1 h2 => own_keep' (h.each k x r h1 h2) fun g hg => b.block g (own_lt' (h.each k x r h1 h2) hg).2⟩
theorem RowsO.step {base : Nat} {W W' : World} {y y' : Sl} {xs : List Sl} {R : List (List Int)} {x : Sl} {r : List Int} (h : RowsO base W y xs R) (hx : Row3 W base x r)
    (hR : W'.ownsRow base 30 1 (.slice y'.A y'.n y'.c) (xs.length + 1) (xs.map rowV ++ [rowV x])) (hG : W.grownBy W' (Value.slice y.A y.n y.c).ownBlock) : RowsO base W' y' (xs ++ [x]) (R ++ [r]) := by
  have hkeep : ∀ {z : Sl} {q : List Int}, Row3 W base z q → Row3 W' base z q := fun {z q} hz => own_keep' hz fun g hg => by
    refine hG.block g (own_lt' hz hg).2 (fun e => ?_)
    obtain ⟨c1, h1⟩ := own_type hz hg
    obtain ⟨c2, h2⟩ := own_type h.row e.symm
    rw [h1] at h2
    simp at h2
  refine ⟨by simpa using hR, by simp [h.len], fun k z q h1 h2 => ?_⟩
  by_cases hk : k < xs.length
  · rw [List.getElem?_append_left hk] at h1
    rw [List.getElem?_append_left (by rw [← h.len]; exact hk)] at h2
    exact hkeep (h.each k z q h1 h2)
  · have hk' : k = xs.length := by
      have := (List.getElem?_eq_some_iff.1 h1).1
      simp at this
      omega
    subst hk'
    rw [List.getElem?_append_right (Nat.le_refl _)] at h1
    rw [h.len, List.getElem?_append_right (Nat.le_refl _)] at h2
    simp at h1 h2
    subst h1 h2
    exact hkeep hx
theorem RowsO.rows {base : Nat} {W : World} {y : Sl} {xs : List Sl} {R : List (List Int)} (h : RowsO base W y xs R) (hn : R.length ≤ 1000000) (hs : ∀ r ∈ R, r.length ≤ 1000000) : IsRows W y R := by
  have hO := h.row
  have hl := h.len
  obtain ⟨A, n, k⟩ := y
  obtain ⟨A', c', e⟩ := slice_row hO
  simp only [Value.slice.injEq] at e
  obtain ⟨rfl, rfl, rfl⟩ := e
  refine ⟨hl, by simp only; omega, fun h0 => ?_⟩
  simp only at h0 ⊢
  rcases hO.2 with ⟨e, h2⟩ | ⟨g, cap, cur, e, hb, hg, hn', hm, hs', ht⟩
  · omega
  · simp only [Value.slice.injEq] at e
    obtain ⟨rfl, -, rfl⟩ := e
    refine ⟨_, rfl, (Array.getElem?_eq_some_iff.1 hg).1, fun i hi => ?_⟩
    have hi : i < xs.length := hi
    have hiR : i < R.length := by omega
    refine ⟨xs[i], ?_, ?_⟩
    · have := hO.cellAt i (by show i < xs.length * 1; omega)
      rw [Addr.add_mid, Nat.zero_add, this, List.getElem?_map, List.getElem?_eq_getElem hi]
      rfl
    · have h1 := h.each i xs[i] R[i] (List.getElem?_eq_getElem hi) (List.getElem?_eq_getElem hiR)
      rw [List.getD_eq_getElem?_getD, List.getElem?_eq_getElem hiR]
      exact ints_own h1 (by have := hs _ (List.getElem_mem hiR); simp only [Option.getD_some]; omega)

/-- Domains, one behind the other, wherever they lie. -/
structure DomsIn (W : World) (x : Sl) (LL : List (List Int)) : Prop where
  len : x.n = LL.length
  big : x.n ≤ 1000000
  cap : x.n ≤ x.c
  lies : 0 < x.n → ∃ g o, x.A = some ⟨g, o, none⟩ ∧ g < W.heap.size ∧ ∀ i, i < x.n → ∃ d : Dv, (∀ (j : Nat) (u : Value), d.cells[j]? = some u → W.cell? ⟨g, o + i * 3 + j, none⟩ = some u) ∧ IsDom W d.val (LL.getD i [])
theorem DomsIn.below {W W' : World} {x : Sl} {LL : List (List Int)} (h : DomsIn W x LL) (b : Below W.heap.size W W') : DomsIn W' x LL := by
  refine ⟨h.len, h.big, h.cap, fun h0 => ?_⟩
  obtain ⟨g, o, e, hg, hc⟩ := h.lies h0
  refine ⟨g, o, e, Nat.lt_of_lt_of_le hg b.size, fun i hi => ?_⟩
  obtain ⟨d, h1, h2⟩ := hc i hi
  exact ⟨d, fun j u hj => (b.cell (p := ⟨g, o + i * 3 + j, none⟩) hg).trans (h1 j u hj), h2.below b⟩
theorem DomsIn.nil (W : World) : DomsIn W ⟨none, 0, 0⟩ [] := ⟨rfl, by simp, Nat.le_refl _, fun h => absurd h (by simp)⟩
theorem flat_get {ds : List Dv} {i j : Nat} {d : Dv} (hd : ds[i]? = some d) (hj : j < 3) : (ds.flatMap Dv.cells)[i * 3 + j]? = d.cells[j]? := by
  induction ds generalizing i with
  | nil => cases hd
  | cons a t ih =>
    rw [List.flatMap_cons]
    cases i with
    | zero =>
      simp only [List.getElem?_cons_zero, Option.some.injEq] at hd
      subst hd
      rw [Nat.zero_mul, Nat.zero_add, List.getElem?_append_left (by simpa [Dv.cells] using hj)]
    | succ i =>
      rw [List.getElem?_cons_succ] at hd
      rw [List.getElem?_append_right (by simp [Dv.cells]; omega)]
      have := ih hd
      rw [show (i + 1) * 3 + j - a.cells.length = i * 3 + j by simp [Dv.cells]; omega]
      exact this
theorem DomsO.within {base : Nat} {W : World} {y : Sl} {ds : List Dv} {LL : List (List Int)} (h : DomsO base W y ds LL) (hn : LL.length ≤ 1000000) : DomsIn W y LL := by
  have hO := h.row.1
  have hl := h.len
  obtain ⟨A, n, k⟩ := y
  obtain ⟨A', c', e⟩ := slice_row hO
  simp only [Value.slice.injEq] at e
  obtain ⟨rfl, rfl, rfl⟩ := e
  rcases hO.2 with ⟨e, h2⟩ | ⟨g, cap, cur, e, hb, hg, hn', hm, hs', ht⟩
  · simp only [Value.slice.injEq] at e
    obtain ⟨rfl, h0, rfl⟩ := e
    exact ⟨hl, by simp only; omega, by simp only; omega, fun hp => by simp only at hp; omega⟩
  · simp only [Value.slice.injEq] at e
    obtain ⟨rfl, -, rfl⟩ := e
    refine ⟨hl, by simp only; omega, hn', fun hp => ⟨g, 0, rfl, (Array.getElem?_eq_some_iff.1 hg).1, fun i hi => ?_⟩⟩
    have hi : i < ds.length := hi
    have hiL : i < LL.length := by omega
    refine ⟨ds[i], fun j u hj => ?_, ?_⟩
    · have hj3 : j < 3 := by
        have := (List.getElem?_eq_some_iff.1 hj).1
        simpa [Dv.cells] using this
      have := hO.cellAt (i * 3 + j) (by show i * 3 + j < ds.length * 3; omega)
      rw [Nat.zero_add, this, flat_get (List.getElem?_eq_getElem hi) hj3]
      exact hj
    · rw [List.getD_eq_getElem?_getD, List.getElem?_eq_getElem hiL]
      exact h.doms i ds[i] LL[i] (List.getElem?_eq_getElem hi) (List.getElem?_eq_getElem hiL)
end Go.Proofs.YtkhmocbfkpbpfaaGreatDoor

/- Contracts: slices.IndexFunc and ContainsFunc over domains: shared by layers 10 to 22. -/
namespace Go.Proofs.YtkhmocbfkpbpfaaGreatDoor
open Go.RowKit

theorem DomsIn.at_ {W : World} {x : Sl} {LL : List (List Int)} (h : DomsIn W x LL) (k : Nat) (hk : k < x.n) :
    ∃ (g o : Nat) (d : Dv), x.A = some ⟨g, o, none⟩ ∧ W.cell? ⟨g, o + k * 3, none⟩ = some (.int .i64 d.s) ∧ W.cell? ⟨g, o + k * 3 + 1, none⟩ = some (.slice d.A d.n d.c) ∧ W.cell? ⟨g, o + k * 3 + 2, none⟩ = some (.int .i64 d.z) ∧ IsDom W d.val (LL.getD k []) := by
  obtain ⟨g, o, e, hg, hc⟩ := h.lies (by omega)
  obtain ⟨d, hd, hD⟩ := hc k hk
  exact ⟨g, o, d, e, hd 0 _ rfl, hd 1 _ rfl, hd 2 _ rfl, hD⟩

set_option maxHeartbeats 1000000 in
theorem indexFunc_doms (g : Nat) (caps : Array Value) (eg : ∀ args w, (callFunc g args).run Tryz.prog w = .ok (.enter g args) w) (p : List Int → Bool) (x : Sl) (R : List (List Int)) (w : World) (h : DomsIn w x R)
    (hp : ∀ (d : Dv) (r : List Int) (W : World), Below w.heap.size w W → IsDom W d.val r → Calls Tryz.prog g (#[.agg #[.int .i64 d.s, .slice d.A d.n d.c, .int .i64 d.z]] ++ caps) W fun e w' => e = .returned (.bool (p r)) ∧ Below W.heap.size W w') :
    Calls Tryz.prog 118 #[.slice x.A x.n x.c, .func (.func g) #[] caps] w fun e w' => (∃ k : Int, e = .returned (.int .i64 k) ∧ decide (0 ≤ k) = R.any p) ∧ Below w.heap.size w w' := by
  have HD := Lib.hid h
  have HP := Lib.hid hp
  have Hn := Lib.hid h.len.symm
  have hlen := h.big
  clear hp h
  go_enter Tryz.func118, Tryz.ntmps118
  go_wp2_with fail
  go_loopw [8] (fun i wr => ∃ k : Nat, i = .int .i64 (k : Nat) ∧ k ≤ x.n ∧ Hid (anyRow p R k) ∧ Hid (Below w.heap.size w wr)) (fun i _ => x.n - (intOf i).toNat)
  case atStart => exact ⟨0, rfl, by omega, Lib.hid (fun j hj => absurd hj (by omega)), Lib.hid (Below.refl _ _)⟩
  case round =>
    obtain ⟨k, rfl, hk, H0, HB⟩ := hrel
    by_cases hlt : k < x.n
    · obtain ⟨b, o, d, ex, q0, q1, q2, hD⟩ := (HD.out.below HB.out).at_ k hlt
      rw [ex]
      have HY := Lib.hid (anyRow_yes (p := p) (R := R) (k := k) (by rw [Hn.out]; exact hlt))
      have HN : Hid (p (R.getD k []) = false → anyRow p R (k + 1)) := Lib.hid (fun e j hj => by
        by_cases h : j < k
        · exact H0.out j h
        · obtain rfl : j = k := by omega
          exact e)
      have cS := Lib.hid (HP.out d (R.getD k []) wr HB.out hD)
      clear hD
      generalize R.getD k [] = z at HY HN cS
      cases hz : p z
      · have HN2 := Lib.hid (HN.out hz)
        rw [hz] at cS
        clear HN HY hz
        go_wp2_with fail
        refine cS.out.mono ?_
        rintro e w1 ⟨rfl, b1⟩
        have B1 := Lib.hid (HB.out.trans (b1.mono HB.out.size))
        clear b1
        go_wp2_with fail
        go_roundw
        case rel => exact ⟨k + 1, by go_num, by omega, HN2, B1⟩
        case measure => simp [intOf]; omega
      · have HY2 := Lib.hid (HY.out hz)
        rw [hz] at cS
        clear HN HY hz
        go_wp2_with fail
        refine cS.out.mono ?_
        rintro e w1 ⟨rfl, b1⟩
        have B1 := Lib.hid (HB.out.trans (b1.mono HB.out.size))
        clear b1
        go_wp2_with fail
        go_ret
        exact ⟨⟨_, rfl, by rw [HY2.out]; simp⟩, B1.out⟩
    · have HN : Hid (R.any p = false) := Lib.hid (anyRow_no (by rw [Hn.out]; have := H0.out; rwa [show k = x.n by omega] at this))
      clear H0
      go_wp2_with fail
      go_ret
      exact ⟨⟨_, rfl, by rw [HN.out]; simp⟩, HB.out⟩

theorem containsFunc_doms (g : Nat) (caps : Array Value) (eg : ∀ args w, (callFunc g args).run Tryz.prog w = .ok (.enter g args) w) (p : List Int → Bool) (x : Sl) (R : List (List Int)) (w : World) (h : DomsIn w x R)
    (hp : ∀ (d : Dv) (r : List Int) (W : World), Below w.heap.size w W → IsDom W d.val r → Calls Tryz.prog g (#[.agg #[.int .i64 d.s, .slice d.A d.n d.c, .int .i64 d.z]] ++ caps) W fun e w' => e = .returned (.bool (p r)) ∧ Below W.heap.size W w') :
    Calls Tryz.prog 56 #[.slice x.A x.n x.c, .func (.func g) #[] caps] w fun e w' => e = .returned (.bool (R.any p)) ∧ Below w.heap.size w w' := by
  have C := Lib.hid (indexFunc_doms g caps eg p x R w h hp)
  clear hp h
  go_enter Tryz.func56, Tryz.ntmps56
  go_wp2_with fail
  refine C.out.mono ?_
  rintro e w1 ⟨⟨k, rfl, hk⟩, b1⟩
  have B1 := Lib.hid b1
  have HK := Lib.hid hk
  clear b1 hk
  go_wp2_with fail
  go_ret
  exact ⟨ret_bool HK.out, B1.out⟩
end Go.Proofs.YtkhmocbfkpbpfaaGreatDoor

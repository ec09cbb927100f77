/- Lists that are domains, a case's domains, fixed values: what all layers' laws want of them (layers 10 to 22). No walk. -/
import Derived.Test.YtkhmocbfkpbpfaaGreatDoorFix
import Derived.Test.YtkhmocbfkpbpfaaGreatDoorSh5
import Derived.Test.YtkhmocbfkpbpfaaGreatDoorMkr3
import Derived.Test.YtkhmocbfkpbpfaaGreatDoorDRefOf
import Derived.Lib.MinMax
namespace Go.Proofs.YtkhmocbfkpbpfaaGreatDoor
open Go.RowKit Go.Sort

/-- A list that is a domain's. -/
def DomL (L : List Int) : Prop := L.Pairwise (· < ·) ∧ (L ≠ [] → ofErr L = 0)
theorem ofErr_sub {L S : List Int} (h : ofErr L = 0) (hs : S ≠ []) (hm : ∀ v ∈ S, v ∈ L) : ofErr S = 0 := by
  unfold ofErr at h ⊢
  split at h
  · cases h
  · split at h
    · cases h
    · next h1 h2 =>
      split at h
      · cases h
      · next h3 =>
        rw [if_neg (by simpa using hs), if_neg, if_neg]
        · intro e
          apply h3
          rw [List.any_eq_true] at e ⊢
          obtain ⟨a, ha, e⟩ := e
          rw [List.any_eq_true] at e
          obtain ⟨b, hb, e⟩ := e
          exact ⟨a, hm a ha, List.any_eq_true.2 ⟨b, hm b hb, e⟩⟩
        · intro e
          apply h2
          rw [List.any_eq_true] at e ⊢
          obtain ⟨a, ha, e⟩ := e
          exact ⟨a, hm a ha, e⟩
theorem domL_in {L : List Int} (h : DomL L) : ∀ v ∈ L, -1000000 ≤ v ∧ v ≤ 1000000 := by
  intro v hv
  have he := h.2 (List.ne_nil_of_mem hv)
  unfold ofErr at he
  split at he
  · cases he
  · split at he
    · cases he
    · next h2 =>
      have := List.any_eq_false.1 (Bool.eq_false_iff.2 h2) v hv
      simp [mayB] at this
      omega
theorem ofL_ne {S : List Int} (h : ofErr S = 0) (hs : S ≠ []) : ofL S ≠ [] := by
  rw [ofL_ok _ h]
  intro e
  obtain ⟨v, hv⟩ := List.exists_mem_of_ne_nil S hs
  have := (mem_setOf S v).2 hv
  rw [e] at this
  cases this
theorem ofL_dom {L : List Int} (h : DomL L) : ofL L = L := by
  by_cases e : L = []
  · subst e; rfl
  · rw [ofL_ok _ (h.2 e)]
    exact eq_of_rising _ _ (rising_setOf _) h.1 (fun v => mem_setOf L v)
theorem domL_ofL (S : List Int) : DomL (ofL S) := by
  by_cases he : ofErr S = 0
  · rw [ofL_ok _ he]
    exact ⟨rising_setOf _, fun hn => ofErr_sub he hn fun v hv => (mem_setOf S v).1 hv⟩
  · rw [ofL_err _ _ rfl he]
    exact ⟨List.Pairwise.nil, fun h => absurd rfl h⟩
theorem ofL_short (S : List Int) : (ofL S).length ≤ S.length := by
  by_cases he : ofErr S = 0
  · rw [ofL_ok _ he]; exact setOf_len S
  · rw [ofL_err _ _ rfl he]; simp
/-- The domains that a case has. -/
def caseD (DD : List (List Int)) (wd : Int) (n : Nat) : List (List Int) := (List.range n).map (domsE DD wd)
theorem caseD_dom (DD : List (List Int)) (wd : Int) (n : Nat) : ∀ l ∈ caseD DD wd n, DomL l ∧ l.length ≤ 6 := by
  intro l hl
  unfold caseD at hl
  obtain ⟨i, -, rfl⟩ := List.mem_map.1 hl
  unfold domsE smallW
  exact ⟨domL_ofL _, Nat.le_trans (ofL_short _) (modW_len _ _ _)⟩
theorem caseD_ofL (DD : List (List Int)) (wd : Int) (n : Nat) : (caseD DD wd n).map ofL = caseD DD wd n := by
  have : ∀ l ∈ caseD DD wd n, ofL l = l := fun l hl => ofL_dom (caseD_dom DD wd n l hl).1
  exact (List.map_congr_left this).trans (List.map_id' _)
theorem caseD_len (DD : List (List Int)) (wd : Int) (n : Nat) : (caseD DD wd n).length = n := by simp [caseD]
theorem zero_drew (W : World) : (W.alloc (.cells #[.int .i64 0, .slice none 0 0, .slice none 0 0, .slice none 0 0, .slice none 0 0, .slice none 0 0, .int .i64 0, .slice none 0 0] 32)).drew.heap[W.heap.size]? = some (.cells zeroC 32 (0, 0)) := by
  have h := heap_new W (.cells #[.int .i64 0, .slice none 0 0, .slice none 0 0, .slice none 0 0, .slice none 0 0, .slice none 0 0, .int .i64 0, .slice none 0 0] 32)
  exact h
theorem makeE_kind (la lb lc : List Int) (k K ch vars : Int) (hk : 0 ≤ k) : (makeE la lb lc k K ch vars).kind = 1 + k.tmod 23 := by
  have h0 := Int.tmod_nonneg 23 hk
  unfold makeE
  simp only [s9_kind, s8_kind, s7_kind, s6_kind, s5_kind, s4_kind, s3_kind, s2_kind]
  show (((1 + k.tmod 23).toNat : Nat) : Int) = _
  omega
/-- What may be of fewer variables may be of more. -/
theorem right_more {c : ConL} {n m : Int} (h : rightE c n = 0) (hm : n ≤ m) : rightE c m = 0 := by
  obtain ⟨k1, k2, hs, ha, hb, hn⟩ := right_parts h
  have hf : (foundF (kindP c.kind)).2 ≠ false := by
    intro e
    unfold rightE at h
    rw [if_pos e] at h
    cases h
  have hout : ∀ l : List Int, l.any (outV n) = false → l.any (outV m) = false := fun l hl => by
    rw [List.any_eq_false] at hl ⊢
    intro x hx
    have := hl x hx
    simp only [outV, Bool.or_eq_true, decide_eq_true_eq, not_or] at this ⊢
    omega
  unfold rightE
  rw [if_neg hf, hs, hout _ ha, hout _ hb, hn]
  rfl
theorem ofL_one {a : Int} (h : -1000000 ≤ a ∧ a ≤ 1000000) : ofL [a] = [a] := by
  have he : ofErr [a] = 0 := by
    unfold ofErr
    have hm : mayB a = true := by unfold mayB; simp; omega
    simp [hm]
  rw [ofL_ok _ he]
  rfl
/-- The fixed values. -/
def fixE (a : List Int) (i : Nat) : Int := if i < a.length then a.getD i 0 else 1 + (i : Int)
def ones1 (l : List Int) : List (List Int) := l.map fun n => [n]
theorem ones1_app (l m : List Int) : ones1 (l ++ m) = ones1 l ++ ones1 m := by simp [ones1]
theorem ones1_short (l : List Int) : ∀ r ∈ ones1 l, r.length ≤ 100000 := fun r hr => by
  obtain ⟨n, -, rfl⟩ := List.mem_map.1 hr
  simp
theorem fixE_in (l : List Int) (bx : ∀ v ∈ l, -128 ≤ v ∧ v ≤ 127) (i : Nat) (hi : i < 1000) : -1000000 ≤ fixE l i ∧ fixE l i ≤ 1000000 := by
  unfold fixE
  split
  · next h => have := bx _ (getD_mem l i h); omega
  · omega
theorem rows_in {D : List (List Int)} (hp : 0 < prodN D) (k i : Nat) (hi : i < D.length) : (rowP D k).getD i 0 ∈ D.getD i [] := by
  induction D generalizing i with
  | nil => simp at hi
  | cons d D ih =>
    rw [prodN] at hp
    have h1 : 0 < d.length := Nat.pos_of_mul_pos_right hp
    cases i with
    | zero => exact getD_mem d _ (Nat.mod_lt _ h1)
    | succ i => exact ih (Nat.pos_of_mul_pos_left hp) i (by simpa using hi)
theorem mem_ofL {S L : List Int} {v : Int} (hL : DomL L) (hs : S ≠ []) (hm : ∀ v ∈ S, v ∈ L) : v ∈ ofL S ↔ v ∈ S := by
  obtain ⟨u, hu⟩ := List.exists_mem_of_ne_nil S hs
  rw [ofL_ok _ (ofErr_sub (hL.2 (List.ne_nil_of_mem (hm u hu))) hs hm)]
  exact mem_setOf S v
theorem ofL_same {S T L : List Int} (hL : DomL L) (hs : S ≠ []) (hm : ∀ v ∈ S, v ∈ L) (h : ∀ v, v ∈ T ↔ v ∈ S) : ofL T = ofL S := by
  obtain ⟨u, hu⟩ := List.exists_mem_of_ne_nil S hs
  have hT : T ≠ [] := List.ne_nil_of_mem ((h u).2 hu)
  have e := hL.2 (List.ne_nil_of_mem (hm u hu))
  rw [ofL_ok _ (ofErr_sub e hs hm), ofL_ok _ (ofErr_sub e hT fun v hv => hm v ((h v).1 hv))]
  exact eq_of_rising _ _ (rising_setOf _) (rising_setOf _) fun v => by rw [mem_setOf, mem_setOf, h]
theorem mem_getD_iff {L : List Int} {v : Int} : v ∈ L ↔ ∃ i, i < L.length ∧ L.getD i 0 = v := by
  constructor
  · intro h
    obtain ⟨i, hi, e⟩ := List.getElem_of_mem h
    exact ⟨i, hi, by rw [List.getD_eq_getElem?_getD, List.getElem?_eq_getElem hi]; exact e⟩
  · rintro ⟨i, hi, rfl⟩
    exact getD_mem L i hi
theorem fix_rows (l : List Int) (bx : ∀ v ∈ l, -128 ≤ v ∧ v ≤ 127) (N : Nat) (hN : N ≤ 1000) : (ones1 (mkL (fixE l) N)).map ofL = ones1 (mkL (fixE l) N) := by
  unfold ones1
  rw [List.map_map]
  apply List.map_congr_left
  intro q hq
  simp only [mkL, List.mem_map, List.mem_range] at hq
  obtain ⟨i, hi, rfl⟩ := hq
  exact ofL_one (fixE_in l bx i (by omega))
/-- A solution: a value of each domain, and the constraint holds. -/
theorem sol_in {c : ConL} {D : List (List Int)} {m : Nat} {r : List Int} (h : r ∈ solsE c D m) : r.length = D.length ∧ (∀ i, i < D.length → r.getD i 0 ∈ D.getD i []) ∧ holdsR c r = true := by
  unfold solsE at h
  obtain ⟨h1, h2⟩ := List.mem_filter.1 h
  refine ⟨prod_row h1, ?_, h2⟩
  unfold prodE at h1
  split at h1
  · cases h1
  · obtain ⟨k, hkk, rfl⟩ := List.mem_map.1 h1
    have hp : 0 < prodN D := by have := List.mem_range.1 hkk; omega
    exact fun i hi => rows_in hp k i hi
end Go.Proofs.YtkhmocbfkpbpfaaGreatDoor

/- What the laws on refused constraints need (layers 10 to 22): a shorter slice, a row taken away, a block of eight cells written. No walk. -/
namespace Go.Proofs.YtkhmocbfkpbpfaaGreatDoor
open Go.RowKit Go.Sort

theorem getD_take' {α : Type} (R : List α) (d : α) {k i : Nat} (h : i < k) : (R.take k).getD i d = R.getD i d := by
  rw [List.getD_eq_getElem?_getD, List.getD_eq_getElem?_getD, List.getElem?_take_of_lt h]
theorem IsRows.cut {w : World} {y : Sl} {R : List (List Int)} (h : IsRows w y R) {k : Nat} (hk : k ≤ y.n) : IsRows w ⟨y.A, k, y.c⟩ (R.take k) := by
  refine ⟨by have := h.len; simp only [List.length_take]; omega, by have := h.big; simp only; omega, fun hp => ?_⟩
  simp only at hp
  obtain ⟨ad, e, hb, hc⟩ := h.lies (by omega)
  refine ⟨ad, e, hb, fun i hi => ?_⟩
  simp only at hi
  obtain ⟨u, h1, h2⟩ := hc i (by omega)
  rw [getD_take' _ _ hi]
  exact ⟨u, h1, h2⟩
theorem IsNs.cut {w : World} {x : Sl} {L : List Int} (h : IsNs .i64 w x L) {k : Nat} (hk : k ≤ x.n) (h5 : k ≤ 1000) : IsInts w ⟨x.A, k, x.c⟩ (L.take k) := by
  refine ⟨by have := h.len; simp only [List.length_take]; omega, fun hp => ?_, by simp only; omega, by have := h.cap; simp only; omega⟩
  simp only at hp
  obtain ⟨ad, e, hb, hc⟩ := h.lies (by omega)
  refine ⟨ad, e, hb, fun i hi => ?_⟩
  simp only at hi
  rw [hc i (by omega)]
  show some (Value.int .i64 (L.getD i 0)) = some (Value.int .i64 ((L.take k).getD i 0))
  rw [getD_take' _ _ hi]
/-- The first row is taken away. -/
theorem RowsO.nil0 {B : Nat} {W : World} {y : Sl} {xs : List Sl} {R : List (List Int)} (h : RowsO B W y xs R) {g : Nat} (hA : y.A = some ⟨g, 0, none⟩) : RowsO B (W.setCell ⟨g, 0, none⟩ (.slice none 0 0)) y (xs.set 0 ⟨none, 0, 0⟩) (R.set 0 []) := by
  have hrow := h.row
  obtain ⟨A', c', e⟩ := slice_row h.row
  simp only [Value.slice.injEq] at e
  obtain ⟨-, hyn, -⟩ := e
  rw [hA, hyn] at hrow
  obtain ⟨h1, hG⟩ := World.ownsRow.stored hrow 0 (.slice none 0 0)
  refine ⟨?_, by rw [List.length_set, List.length_set]; exact h.len, fun k x r e1 e2 => ?_⟩
  · rw [List.length_set, List.map_set, hA, hyn]
    exact h1
  · by_cases hk : k = 0
    · subst hk
      rw [List.getElem?_set] at e1 e2
      simp only [if_true] at e1 e2
      split at e1
      · injection e1 with e1
        split at e2
        · injection e2 with e2
          subst e1
          subst e2
          exact Row3.nil _ _
        · cases e2
      · cases e1
    · rw [List.getElem?_set_ne (Ne.symm hk)] at e1 e2
      have hx := h.each k x r e1 e2
      refine own_keep' hx fun q hq => hG.block q (own_lt' hx hq).2 fun e => ?_
      obtain ⟨c1, k1⟩ := own_type hx hq
      have hoy : (Value.slice y.A y.n y.c).ownBlock = some g := by rw [hA]; rfl
      obtain ⟨c2, k2⟩ := own_type h.row hoy
      injection e with e
      rw [← e, k1] at k2
      simp at k2
/-- A block of eight cells, written whole. -/
theorem put8 {W : World} {g : Nat} {ty : TypeId} {b0 b1 b2 b3 b4 b5 b6 b7 : Value} (hb : W.heap[g]? = some (.cells #[b0, b1, b2, b3, b4, b5, b6, b7] ty (0, 0))) (a0 a1 a2 a3 a4 a5 a6 a7 : Value) :
    ((((((((W.setCell ⟨g, 0, none⟩ a0).setCell ⟨g, 1, none⟩ a1).setCell ⟨g, 2, none⟩ a2).setCell ⟨g, 3, none⟩ a3).setCell ⟨g, 4, none⟩ a4).setCell ⟨g, 5, none⟩ a5).setCell ⟨g, 6, none⟩ a6).setCell ⟨g, 7, none⟩ a7).heap[g]? = some (.cells #[a0, a1, a2, a3, a4, a5, a6, a7] ty (0, 0)) ∧
    Kp g W ((((((((W.setCell ⟨g, 0, none⟩ a0).setCell ⟨g, 1, none⟩ a1).setCell ⟨g, 2, none⟩ a2).setCell ⟨g, 3, none⟩ a3).setCell ⟨g, 4, none⟩ a4).setCell ⟨g, 5, none⟩ a5).setCell ⟨g, 6, none⟩ a6).setCell ⟨g, 7, none⟩ a7) := by
  have h0 : (W.setCell ⟨g, 0, none⟩ a0).heap[g]? = some (.cells #[a0, b1, b2, b3, b4, b5, b6, b7] ty (0, 0)) := by simpa using box_put (j := 0) (x := a0) hb
  have h1 : ((W.setCell ⟨g, 0, none⟩ a0).setCell ⟨g, 1, none⟩ a1).heap[g]? = some (.cells #[a0, a1, b2, b3, b4, b5, b6, b7] ty (0, 0)) := by simpa using box_put (j := 1) (x := a1) h0
  have h2 : (((W.setCell ⟨g, 0, none⟩ a0).setCell ⟨g, 1, none⟩ a1).setCell ⟨g, 2, none⟩ a2).heap[g]? = some (.cells #[a0, a1, a2, b3, b4, b5, b6, b7] ty (0, 0)) := by simpa using box_put (j := 2) (x := a2) h1
  have h3 : ((((W.setCell ⟨g, 0, none⟩ a0).setCell ⟨g, 1, none⟩ a1).setCell ⟨g, 2, none⟩ a2).setCell ⟨g, 3, none⟩ a3).heap[g]? = some (.cells #[a0, a1, a2, a3, b4, b5, b6, b7] ty (0, 0)) := by simpa using box_put (j := 3) (x := a3) h2
  have h4 : (((((W.setCell ⟨g, 0, none⟩ a0).setCell ⟨g, 1, none⟩ a1).setCell ⟨g, 2, none⟩ a2).setCell ⟨g, 3, none⟩ a3).setCell ⟨g, 4, none⟩ a4).heap[g]? = some (.cells #[a0, a1, a2, a3, a4, b5, b6, b7] ty (0, 0)) := by simpa using box_put (j := 4) (x := a4) h3
  have h5 : ((((((W.setCell ⟨g, 0, none⟩ a0).setCell ⟨g, 1, none⟩ a1).setCell ⟨g, 2, none⟩ a2).setCell ⟨g, 3, none⟩ a3).setCell ⟨g, 4, none⟩ a4).setCell ⟨g, 5, none⟩ a5).heap[g]? = some (.cells #[a0, a1, a2, a3, a4, a5, b6, b7] ty (0, 0)) := by simpa using box_put (j := 5) (x := a5) h4
  have h6 : (((((((W.setCell ⟨g, 0, none⟩ a0).setCell ⟨g, 1, none⟩ a1).setCell ⟨g, 2, none⟩ a2).setCell ⟨g, 3, none⟩ a3).setCell ⟨g, 4, none⟩ a4).setCell ⟨g, 5, none⟩ a5).setCell ⟨g, 6, none⟩ a6).heap[g]? = some (.cells #[a0, a1, a2, a3, a4, a5, a6, b7] ty (0, 0)) := by simpa using box_put (j := 6) (x := a6) h5
  have h7 : ((((((((W.setCell ⟨g, 0, none⟩ a0).setCell ⟨g, 1, none⟩ a1).setCell ⟨g, 2, none⟩ a2).setCell ⟨g, 3, none⟩ a3).setCell ⟨g, 4, none⟩ a4).setCell ⟨g, 5, none⟩ a5).setCell ⟨g, 6, none⟩ a6).setCell ⟨g, 7, none⟩ a7).heap[g]? = some (.cells #[a0, a1, a2, a3, a4, a5, a6, a7] ty (0, 0)) := by simpa using box_put (j := 7) (x := a7) h6
  exact ⟨h7, (((((((Kp.refl g W).put 0 a0).put 1 a1).put 2 a2).put 3 a3).put 4 a4).put 5 a5).put 6 a6 |>.put 7 a7⟩
theorem some_of {c : ConL} {n : Nat} (h : rightE c (n : Int) = 0) : 1 ≤ c.A.length + c.B.length ∧ c.A.length + c.B.length ≤ 128 := by
  have r := con_r h
  have h1 := r.a64
  have h2 := r.b64
  by_cases hk : c.kind = 12
  · obtain ⟨-, -, hs, -⟩ := right_parts h
    rw [size_12 c hk] at hs
    omega
  · have := r.a1 hk
    omega
/-- append of a new row of one number, at the walk's operation: blocks of another type stay. -/
theorem wpList_append_row1 {ops : Array Oper} {rest : List Oper} {o : Oper} {a : Act} {Q : Exit → Act → World → Prop} (hgd : o.guard = none) (s x : Operand)
    (ho : o.op = .call { callee := .builtin .append, args := #[s, x], argTypes := #[27, 27] })
    {B : Nat} {w : World} {y : Sl} {xs : List Sl} {R : List (List Int)} (hF : RowsO B w y xs R) (hlo : B ≤ w.heap.size) (v : Int) (hs : a.eval s = .slice y.A y.n y.c) (hx : a.eval x = .slice (some ⟨w.heap.size + 1, 0, none⟩) 1 1) (hn : xs.length < 1000000)
    (h : ∀ (y' : Sl) w', RowsO B w' y' (xs ++ [⟨some ⟨w.heap.size, 0, none⟩, 1, 1⟩]) (R ++ [[v]]) → Below B w w' → (∀ (k : Nat) (cs : Array Value) (t : TypeId), w.heap[k]? = some (.cells cs t (0, 0)) → t ≠ 30 → w'.heap[k]? = w.heap[k]?) → wpList Tryz.prog ops Q rest (a.put o.dst (.slice y'.A y'.n y'.c)) w') :
    wpList Tryz.prog ops Q (o :: rest) a ((w.alloc (.cells #[.int .i64 v] 3)).alloc (.cells #[.slice (some ⟨w.heap.size, 0, none⟩) 1 1] 30)) := by
  obtain ⟨i0, hi, hz0, hz1, hz2⟩ := info_parts infoSl'
  have b1 := below1 w (.cells #[.int .i64 v] 3)
  have s1 : (w.alloc (.cells #[.int .i64 v] 3)).heap.size = w.heap.size + 1 := by simp
  have b2 := below1 (w.alloc (.cells #[.int .i64 v] 3)) (.cells #[.slice (some ⟨w.heap.size, 0, none⟩) 1 1] 30)
  have hN : Row3 (w.alloc (.cells #[.int .i64 v] 3)) B ⟨some ⟨w.heap.size, 0, none⟩, 1, 1⟩ [v] := World.ownsRow_lit (base := B) (e := 3) (size := 1) w #[.int .i64 v] 1 hlo (by decide) rfl
  have hN2 := row3_below hN b2
  have hF2 := (hF.below b1).below b2
  have hlo2 : B ≤ ((w.alloc (.cells #[.int .i64 v] 3)).alloc (.cells #[.slice (some ⟨w.heap.size, 0, none⟩) 1 1] 30)).heap.size := by simp; omega
  refine wpList_plain hgd fun K hK => ?_
  obtain ⟨v', w', hr, h2, h3, h4, h5⟩ := run_append_own_at (P := Tryz.prog) ((w.alloc (.cells #[.int .i64 v] 3)).alloc (.cells #[.slice (some ⟨w.heap.size, 0, none⟩) 1 1] 30)) B 27 o.type 30 i0 (.slice none 0 0) 1 24 Tryz.underlying27 hi hz0 hz1 hz2 rfl (by decide) (.slice y.A y.n y.c) _ _ hF2.row ⟨w.heap.size + 1, 0, none⟩ 1 1 [.slice (some ⟨w.heap.size, 0, none⟩) 1 1] rfl
    (by have := new1_cells' (w.alloc (.cells #[.int .i64 v] 3)) (.slice (some ⟨w.heap.size, 0, none⟩) 1 1) 30; rw [s1] at this; exact this) (fun u hu => by simp at hu; subst hu; rfl) (by unfold maxLen; omega) (by omega) hlo2
  obtain ⟨Y, cY, rfl⟩ := slice_row h2
  unfold Oper.wp execOp
  simp only [ho, resolve, invoke, builtin, Sem.run_bind, Sem.run_pure, Result.andThen_ok, List.map_toArray, List.map_cons, List.map_nil, hs, hx, hr]
  have hO := hF2.step (y' := ⟨Y, xs.length + 1, cY⟩) hN2 h2 h3
  refine hK _ _ (h ⟨Y, xs.length + 1, cY⟩ w' hO ?_ (fun k cs t hk ht => ?_))
  · have b3 : Below B ((w.alloc (.cells #[.int .i64 v] 3)).alloc (.cells #[.slice (some ⟨w.heap.size, 0, none⟩) 1 1] 30)) w' := ⟨h3.os, h3.tape, h3.output, h3.size, fun q hq => h3.block q (by omega) (fun e => by have := (own_lt' hF2.row e.symm).1; omega)⟩
    exact ((b1.mono hlo).trans (b2.mono (by simp; omega))).trans b3
  · have hlt := (Array.getElem?_eq_some_iff.1 hk).1
    have k1 := (b1.block k hlt).trans hk
    have k2 := (b2.block k (Array.getElem?_eq_some_iff.1 k1).1).trans k1
    have h4 := h3.block k (Array.getElem?_eq_some_iff.1 k2).1 (fun e => by
      obtain ⟨c2, q2⟩ := own_type hF2.row e.symm
      rw [k2] at q2
      injection q2 with q2
      injection q2 with _ q2 _
      exact ht q2)
    rw [h4, k2, hk]
/-- Rows stay, when a block of another type is written. -/
theorem RowsO.far8 {B g : Nat} {W W' : World} {y : Sl} {xs : List Sl} {R : List (List Int)} {cs : Array Value} (h : RowsO B W y xs R) (hg : W.heap[g]? = some (.cells cs 32 (0, 0))) (k : Kp g W W') : RowsO B W' y xs R := by
  refine ⟨own_keep' h.row fun q hq => k.block q (own_lt' h.row hq).2 fun e => ?_, h.len, fun i x r h1 h2 => own_keep' (h.each i x r h1 h2) fun q hq => k.block q (own_lt' (h.each i x r h1 h2) hq).2 fun e => ?_⟩
  · obtain ⟨c1, k1⟩ := own_type h.row hq
    rw [e, hg] at k1
    simp at k1
  · obtain ⟨c1, k1⟩ := own_type (h.each i x r h1 h2) hq
    rw [e, hg] at k1
    simp at k1
def cut5 (n : Nat) : Nat := if n < 5 then n else 5
theorem cut5_le (n : Nat) : cut5 n ≤ n ∧ cut5 n ≤ 5 := by unfold cut5; split <;> omega
theorem cut5_min (n : Nat) : min ((n : Nat) : Int) 5 = (cut5 n : Nat) := by unfold cut5; split <;> omega
theorem cut5_run (A : Option Addr) (n c m : Nat) (h : m ≤ c) (W : World) : (Instr.slice 30 (.slice A n c) none (some (.int .i64 (m : Nat))) none).run Tryz.prog W = .ok (.slice A m c) W := by
  have hu := run_underlying Tryz.underlying30 W
  simp [Instr.slice, hu, Instr.sliceBounds, Instr.sliceBound, asIntOf, go_sem]
  intro h'
  omega
theorem cutR_run (A : Option Addr) (n c m : Nat) (h : m ≤ c) (W : World) : (Instr.slice 27 (.slice A n c) none (some (.int .i64 (m : Nat))) none).run Tryz.prog W = .ok (.slice A m c) W := by
  have hu := run_underlying Tryz.underlying27 W
  simp [Instr.slice, hu, Instr.sliceBounds, Instr.sliceBound, asIntOf, go_sem]
  intro h'
  omega
end Go.Proofs.YtkhmocbfkpbpfaaGreatDoor

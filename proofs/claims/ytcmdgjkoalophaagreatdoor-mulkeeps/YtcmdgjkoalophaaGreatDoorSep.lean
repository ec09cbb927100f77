/- A region that draws its order, by an invariant: one obligation for each operation, not one for each order. No walk. -/
import Derived.Test.YtcmdgjkoalophaaGreatDoorMkmore
import Derived.Test.YtcmdgjkoalophaaGreatDoorMkst
import Derived.Maps.AppendAt
namespace Go.Proofs.YtcmdgjkoalophaaGreatDoor
open Go.RowKit

theorem filter_lt {α : Type} (p q : α → Bool) (l : List α) (hpq : ∀ x ∈ l, p x = true → q x = true) {y : α} (hy : y ∈ l) (h1 : p y = false) (h2 : q y = true) : (l.filter p).length < (l.filter q).length := by
  induction l with
  | nil => cases hy
  | cons a t ih =>
    have hle : (t.filter p).length ≤ (t.filter q).length := by
      clear ih hy
      have ht : ∀ x ∈ t, p x = true → q x = true := fun x hx => hpq x (List.mem_cons_of_mem _ hx)
      clear hpq
      induction t with
      | nil => simp
      | cons b s ih2 =>
        have := ih2 fun x hx => ht x (List.mem_cons_of_mem _ hx)
        have hb := ht b List.mem_cons_self
        cases hp : p b
        · cases hq : q b
          · simp [hp, hq]; omega
          · simp [hp, hq]; omega
        · simp [hp, hb hp]; omega
    rcases List.mem_cons.1 hy with rfl | hy
    · simp [h1, h2]; omega
    · have hr := ih (fun x hx => hpq x (List.mem_cons_of_mem _ hx)) hy
      have ha := hpq a List.mem_cons_self
      cases hp : p a
      · cases hq : q a
        · simp [hp, hq]; omega
        · simp [hp, hq]; omega
      · simp [hp, ha hp]; omega

/-- How many operations haven't come up yet. -/
def leftOf (n : Nat) (listed : Array Bool) : Nat := ((List.range n).filter fun i => !listed.getD i true).length
theorem getD_mark (listed : Array Bool) (i j : Nat) (d : Bool) : (listed.setIfInBounds i true).getD j d = if i = j ∧ j < listed.size then true else listed.getD j d := by
  simp only [Array.getD_eq_getD_getElem?, Array.getElem?_setIfInBounds]
  by_cases h : i = j
  · subst h
    by_cases hs : i < listed.size
    · simp [hs]
    · simp [hs]
  · simp [h]
theorem leftOf_mark {n i : Nat} {listed : Array Bool} (h : listed.getD i true = false) (hi : i < n) : leftOf n (listed.setIfInBounds i true) < leftOf n listed := by
  have hs : i < listed.size := by
    apply Decidable.byContradiction
    intro hn
    rw [Array.getD_eq_getD_getElem?, Array.getElem?_eq_none (by omega)] at h
    cases h
  refine filter_lt _ _ _ (fun x _ hx => ?_) (List.mem_range.2 hi) ?_ ?_
  · rw [getD_mark] at hx
    split at hx
    · cases hx
    · exact hx
  · rw [getD_mark, if_pos ⟨rfl, hs⟩]; rfl
  · rw [h]; rfl

section
variable {P : Program} {ops : Array Oper} {Q : Exit → Act → World → Prop} {md : Region.Mode}

theorem wpAny_inv (Inv : Array Bool → Act → World → Prop)
    (hdone : ∀ listed a w, Inv listed a w → Region.ready md ops listed = [] → Q .normal a w)
    (hstep : ∀ listed a w, Inv listed a w → ∀ i ∈ Region.ready md ops listed, wpOp P ops Q i (Inv (listed.setIfInBounds i true)) a w) :
    ∀ fuel listed a w, leftOf ops.size listed ≤ fuel → Inv listed a w → wpAny P md ops Q fuel listed a w := by
  intro fuel
  induction fuel with
  | zero =>
    intro listed a w hl hI
    have hr : Region.ready md ops listed = [] := by
      apply List.eq_nil_iff_forall_not_mem.2
      intro i hi
      have h1 := (mem_ready.1 hi).1
      obtain ⟨-, o, ho, -⟩ := mem_ready.1 hi
      have := leftOf_mark (n := ops.size) h1 (Array.getElem?_eq_some_iff.1 ho).1
      omega
    exact ⟨hr, hdone listed a w hI hr⟩
  | succ fuel ih =>
    intro listed a w hl hI
    refine ⟨hdone listed a w hI, fun i hi => ?_⟩
    have h1 := (mem_ready.1 hi).1
    obtain ⟨-, o, ho, -⟩ := mem_ready.1 hi
    have hlt := leftOf_mark (n := ops.size) h1 (Array.getElem?_eq_some_iff.1 ho).1
    exact wpOp_mono (fun a' w' h => ih _ a' w' (by omega) h) (hstep listed a w hI i hi)

theorem leftOf_le (n : Nat) (listed : Array Bool) : leftOf n listed ≤ n := by
  have := List.length_filter_le (fun i => !listed.getD i true) (List.range n)
  rwa [List.length_range] at this

/-- The region, by an invariant. -/
theorem wp_region_inv {id : Nat} {a : Act} {w : World} (Inv : Array Bool → Act → World → Prop) (hm : P.follows .mixedOrders = true)
    (h0 : Inv (Array.replicate ops.size false) a w.drew)
    (hdone : ∀ listed a w, Inv listed a w → Region.ready .any ops listed = [] → Q .normal a w)
    (hstep : ∀ listed a w, Inv listed a w → ∀ i ∈ Region.ready .any ops listed, wpOp P ops Q i (Inv (listed.setIfInBounds i true)) a w) : (Code.region id ops true).wp P Q a w :=
  wp_region_any hm (wpAny_inv Inv hdone hstep _ _ _ _ (leftOf_le _ _) h0)
end

/-! ### The frame -/

/-- The frame behind those operations that have come up: the i-th leaves vs i at place T i; all other places are the beginning's. -/
structure FrameIs (n : Nat) (T : Nat → Nat) (a0 : Act) (vs : Nat → Value) (listed : Array Bool) (a : Act) : Prop where
  defers : a.defers = a0.defers
  size : a.tmps.size = a0.tmps.size
  at_ : ∀ i, i < n → listed.getD i true = true → a.tmps.getD (T i) undef = vs i
  far : ∀ t, (∀ i, i < n → T i ≠ t) → a.tmps.getD t undef = a0.tmps.getD t undef

theorem getD_replicate_false (n i : Nat) (h : i < n) : (Array.replicate n false).getD i true = false := by
  simp [Array.getD_eq_getD_getElem?, h]

theorem FrameIs.start {n : Nat} {T : Nat → Nat} {a0 : Act} (vs : Nat → Value) : FrameIs n T a0 vs (Array.replicate n false) a0 :=
  ⟨rfl, rfl, fun i hi h => (by rw [getD_replicate_false _ _ hi] at h; cases h), fun _ _ => rfl⟩

theorem getD_put (a : Array Value) (t u : Nat) (v : Value) (ht : t < a.size) : (a.setIfInBounds t v).getD u undef = if t = u then v else a.getD u undef := by
  simp only [Array.getD_eq_getD_getElem?, Array.getElem?_setIfInBounds]
  by_cases h : t = u
  · subst h; simp [ht]
  · simp [h]

theorem FrameIs.step {n : Nat} {T : Nat → Nat} {a0 a : Act} {vs : Nat → Value} {listed : Array Bool} (h : FrameIs n T a0 vs listed a) (i : Nat) (v : Value) (hi : i < n)
    (hT : ∀ j, j < n → j ≠ i → T j ≠ T i) (hs : T i < a0.tmps.size) :
    FrameIs n T a0 (fun j => if j = i then v else vs j) (listed.setIfInBounds i true) (a.put (some (T i)) v) := by
  have hs' : T i < a.tmps.size := by rw [h.size]; exact hs
  refine ⟨h.defers, by show (a.tmps.setIfInBounds _ _).size = _; rw [Array.size_setIfInBounds]; exact h.size, fun j hj e => ?_, fun t ht => ?_⟩
  · show (a.tmps.setIfInBounds (T i) v).getD (T j) undef = _
    rw [getD_put _ _ _ _ hs']
    by_cases hji : j = i
    · subst hji; rw [if_pos rfl, if_pos rfl]
    · rw [if_neg (fun e => hT j hj hji e.symm), if_neg hji]
      refine h.at_ j hj ?_
      rw [getD_mark, if_neg (fun q => hji q.1.symm)] at e
      exact e
  · show (a.tmps.setIfInBounds (T i) v).getD t undef = _
    rw [getD_put _ _ _ _ hs', if_neg (ht i hi)]
    exact h.far t ht

/-- The frame with all places written. -/
def chainA (l : List (Nat × Value)) (a : Act) : Act := l.foldl (fun a p => a.put (some p.1) p.2) a
theorem chainA_cons (t : Nat) (v : Value) (l : List (Nat × Value)) (a : Act) : chainA ((t, v) :: l) a = chainA l (a.put (some t) v) := rfl
theorem chainA_nil (a : Act) : chainA [] a = a := rfl
theorem chainA_size (l : List (Nat × Value)) (a : Act) : (chainA l a).tmps.size = a.tmps.size := by
  induction l generalizing a with
  | nil => rfl
  | cons p l ih => rw [show chainA (p :: l) a = chainA l (a.put (some p.1) p.2) from rfl, ih]; show (a.tmps.setIfInBounds _ _).size = _; rw [Array.size_setIfInBounds]
theorem chainA_defers (l : List (Nat × Value)) (a : Act) : (chainA l a).defers = a.defers := by
  induction l generalizing a with
  | nil => rfl
  | cons p l ih => rw [show chainA (p :: l) a = chainA l (a.put (some p.1) p.2) from rfl, ih]; rfl
theorem chainA_far (l : List (Nat × Value)) (a : Act) (t : Nat) (h : ∀ p ∈ l, p.1 ≠ t) (hs : ∀ p ∈ l, p.1 < a.tmps.size) : (chainA l a).tmps.getD t undef = a.tmps.getD t undef := by
  induction l generalizing a with
  | nil => rfl
  | cons p l ih =>
    rw [show chainA (p :: l) a = chainA l (a.put (some p.1) p.2) from rfl, ih _ (fun q hq => h q (List.mem_cons_of_mem _ hq)) (fun q hq => by show q.1 < (a.tmps.setIfInBounds _ _).size; rw [Array.size_setIfInBounds]; exact hs q (List.mem_cons_of_mem _ hq))]
    show (a.tmps.setIfInBounds p.1 p.2).getD t undef = _
    rw [getD_put _ _ _ _ (hs p List.mem_cons_self), if_neg (h p List.mem_cons_self)]
theorem chainA_at (l : List (Nat × Value)) (a : Act) (hd : (l.map Prod.fst).Nodup) (hs : ∀ p ∈ l, p.1 < a.tmps.size) : ∀ p ∈ l, (chainA l a).tmps.getD p.1 undef = p.2 := by
  induction l generalizing a with
  | nil => intro p hp; cases hp
  | cons q l ih =>
    intro p hp
    rw [List.map_cons, List.nodup_cons] at hd
    have hs' : ∀ r ∈ l, r.1 < (a.put (some q.1) q.2).tmps.size := fun r hr => by show r.1 < (a.tmps.setIfInBounds _ _).size; rw [Array.size_setIfInBounds]; exact hs r (List.mem_cons_of_mem _ hr)
    rcases List.mem_cons.1 hp with rfl | hp
    · rw [show chainA (p :: l) a = chainA l (a.put (some p.1) p.2) from rfl, chainA_far l _ _ (fun r hr e => hd.1 (by rw [← e]; exact List.mem_map_of_mem hr)) hs']
      show (a.tmps.setIfInBounds p.1 p.2).getD p.1 undef = _
      rw [getD_put _ _ _ _ (hs p List.mem_cons_self), if_pos rfl]
    · exact ih _ hd.2 hs' p hp

/-- All have come up: the frame is the beginning's with all places written, in the text's order. -/
theorem FrameIs.chain {n : Nat} {T : Nat → Nat} {a0 a : Act} {vs : Nat → Value} {listed : Array Bool} (h : FrameIs n T a0 vs listed a) (hall : ∀ i, i < n → listed.getD i true = true)
    (hd : ((List.range n).map T).Nodup) (hs : ∀ i, i < n → T i < a0.tmps.size) : a = chainA ((List.range n).map fun i => (T i, vs i)) a0 := by
  have hs' : ∀ p ∈ (List.range n).map (fun i => (T i, vs i)), p.1 < a0.tmps.size := by
    intro p hp
    obtain ⟨i, hi, rfl⟩ := List.mem_map.1 hp
    exact hs i (List.mem_range.1 hi)
  have hd' : (((List.range n).map (fun i => (T i, vs i))).map Prod.fst).Nodup := by
    rw [List.map_map]
    exact hd
  have key : a.tmps = (chainA ((List.range n).map fun i => (T i, vs i)) a0).tmps := by
    apply Array.ext
    · rw [chainA_size]; exact h.size
    · intro t h1 h2
      have e : ∀ (b : Array Value) (hb : t < b.size), b[t] = b.getD t undef := fun b hb => by simp [Array.getD_eq_getD_getElem?, hb]
      rw [e _ h1, e _ h2]
      by_cases hx : ∃ i, i < n ∧ T i = t
      · obtain ⟨i, hi, rfl⟩ := hx
        rw [h.at_ i hi (hall i hi)]
        exact (chainA_at _ a0 hd' hs' (T i, vs i) (List.mem_map.2 ⟨i, List.mem_range.2 hi, rfl⟩)).symm
      · have hx' : ∀ i, i < n → T i ≠ t := fun i hi e => hx ⟨i, hi, e⟩
        rw [h.far t hx', chainA_far _ _ _ (fun p hp => by obtain ⟨i, hi, rfl⟩ := List.mem_map.1 hp; exact hx' i (List.mem_range.1 hi)) hs']
  have hdf : a.defers = (chainA ((List.range n).map fun i => (T i, vs i)) a0).defers := by rw [chainA_defers]; exact h.defers
  cases a
  generalize chainA _ a0 = b at key hdf
  cases b
  simp only at key hdf
  rw [key, hdf]

/-- Nothing is ready: all have come up, if each waits for earlier ones alone. -/
theorem all_listed {ops : Array Oper} {listed : Array Bool} (hr : Region.ready .any ops listed = []) (hb : ∀ (i : Nat) (o : Oper), ops[i]? = some o → ∀ e ∈ o.after, e.on < i) (hs : listed.size = ops.size) : ∀ i, i < ops.size → listed.getD i true = true := by
  intro i
  induction i using Nat.strongRecOn with
  | _ i ih =>
    intro hi
    apply Decidable.byContradiction
    intro hn
    have hf : listed.getD i true = false := by cases h : listed.getD i true <;> simp_all
    have hm : i ∈ Region.ready .any ops listed := mem_ready.2 ⟨hf, ops[i], Array.getElem?_eq_getElem hi, fun e he _ => by
      have hlt := hb i ops[i] (Array.getElem?_eq_getElem hi) e he
      have := ih e.on hlt (by omega)
      have hsz : e.on < listed.size := by omega
      rw [Array.getD_eq_getD_getElem?, Array.getElem?_eq_getElem hsz] at this ⊢
      exact this⟩
    rw [hr] at hm
    cases hm
end Go.Proofs.YtcmdgjkoalophaaGreatDoor

/- Rows of numbers of one's own, no two in one block; an append to one of them, inside a region by its operations. No walk. -/
namespace Go.Proofs.YtcmdgjkoalophaaGreatDoor
open Go.RowKit

abbrev ownB (y : Sl) : Option Nat := (Value.slice y.A y.n y.c).ownBlock
abbrev slQ (y : Sl) : Value := .slice y.A y.n y.c

/-- So many rows, no two in one block. -/
structure Sep (B n : Nat) (w : World) (F : Nat → Sl × List Int) : Prop where
  row : ∀ i, i < n → Row3 w B (F i).1 (F i).2
  ne : ∀ i j, i < n → j < n → i ≠ j → ∀ g, ownB (F i).1 = some g → ownB (F j).1 ≠ some g
  lo : B ≤ w.heap.size

def putF (F : Nat → Sl × List Int) (i : Nat) (x : Sl × List Int) : Nat → Sl × List Int := fun j => if j = i then x else F j
theorem putF_same (F : Nat → Sl × List Int) (i : Nat) (x : Sl × List Int) : putF F i x i = x := by simp [putF]
theorem putF_ne (F : Nat → Sl × List Int) {i j : Nat} (x : Sl × List Int) (h : j ≠ i) : putF F i x j = F j := by simp [putF, h]

theorem row3_lt {w : World} {B : Nat} {y : Sl} {L : List Int} (h : Row3 w B y L) {g : Nat} (hg : ownB y = some g) : B ≤ g ∧ g < w.heap.size := own_lt' h hg

theorem Sep.below {B n : Nat} {w w' : World} {F : Nat → Sl × List Int} (h : Sep B n w F) (b : Below w.heap.size w w') : Sep B n w' F :=
  ⟨fun i hi => own_keep' (h.row i hi) fun g hg => b.block g (own_lt' (h.row i hi) hg).2, h.ne, Nat.le_trans h.lo b.size⟩

/-- One row becomes another one: its block is its own as before, or a new one. -/
theorem Sep.turn {B n : Nat} {w w' : World} {F : Nat → Sl × List Int} (h : Sep B n w F) {i : Nat} (y : Sl) (L : List Int) (hi : i < n) (hR : Row3 w' B y L) (hs : w.heap.size ≤ w'.heap.size)
    (hk : ∀ k, k < w.heap.size → some k ≠ ownB (F i).1 → w'.heap[k]? = w.heap[k]?) (ho : ownB y = ownB (F i).1 ∨ ownB y = some w.heap.size) : Sep B n w' (putF F i (y, L)) := by
  refine ⟨fun j hj => ?_, fun a b ha hb hab g hg => ?_, Nat.le_trans h.lo hs⟩
  · by_cases e : j = i
    · subst e; rw [putF_same]; exact hR
    · rw [putF_ne _ _ e]
      exact own_keep' (h.row j hj) fun g hg => hk g (own_lt' (h.row j hj) hg).2 fun e' => h.ne j i hj hi e g hg e'.symm
  · by_cases ea : a = i
    · subst ea
      rw [putF_same] at hg
      have eb : b ≠ a := fun e => hab e.symm
      rw [putF_ne _ _ eb]
      intro hg'
      rcases ho with ho | ho
      · rw [ho] at hg
        exact h.ne a b ha hb hab g hg hg'
      · rw [ho] at hg
        injection hg with hg
        have := (row3_lt (h.row b hb) hg').2
        omega
    · rw [putF_ne _ _ ea] at hg
      by_cases eb : b = i
      · subst eb
        rw [putF_same]
        intro hg'
        rcases ho with ho | ho
        · rw [ho] at hg'
          exact h.ne a b ha hb hab g hg hg'
        · rw [ho] at hg'
          injection hg' with hg'
          have := (row3_lt (h.row a ha) hg).2
          omega
      · rw [putF_ne _ _ eb]
        exact h.ne a b ha hb hab g hg

/-- A new row of one number. -/
theorem Sep.one {B n : Nat} {w : World} {F : Nat → Sl × List Int} (h : Sep B n w F) {i : Nat} (x : Int) (hi : i < n) : Sep B n (w.alloc (.cells #[.int .i64 x] 3)) (putF F i (⟨some ⟨w.heap.size, 0, none⟩, 1, 1⟩, [x])) := by
  refine h.turn _ _ hi ?_ (below1 w _).size (fun k hk _ => (below1 w _).block k hk) (.inr rfl)
  have := World.ownsRow_lit (base := B) (e := 3) (size := 1) w #[.int .i64 x] 1 h.lo (by decide) rfl
  exact this

/-- Rows that are new. -/
theorem Sep.nil (B n : Nat) (w : World) (h : B ≤ w.heap.size) : Sep B n w (fun _ => (⟨none, 0, 0⟩, [])) :=
  ⟨fun i _ => Row3.nil _ _, fun i j _ _ _ g hg => (by cases hg), h⟩
theorem Sep.base {B B' n : Nat} {w : World} {F : Nat → Sl × List Int} (h : Sep B n w F) (hb : B' ≤ B) : Sep B' n w F :=
  ⟨fun i hi => own_base (h.row i hi) hb, h.ne, Nat.le_trans hb h.lo⟩

section
variable {P : Program} {ops : Array Oper} {Q : Exit → Act → World → Prop}

theorem wpOp_plain {i : Nat} {o : Oper} {a : Act} {w : World} {K : Act → World → Prop} (ho : ops[i]? = some o) (hg : o.guard = none) (h : o.wp P a w K Q) : wpOp P ops Q i K a w := by
  unfold wpOp
  rw [ho]
  simp only
  rw [if_pos (by simp [Region.wanted, hg])]
  exact .inl h

theorem wpOp_value {i : Nat} {o : Oper} {a : Act} {w w' : World} {v : Value} {K : Act → World → Prop} (ho : ops[i]? = some o) (hg : o.guard = none) (hr : (execOp a.eval o).run P w = .ok (.value v) w') (h : K (a.put o.dst v) w') : wpOp P ops Q i K a w := by
  refine wpOp_plain ho hg ?_
  unfold Oper.wp
  rw [hr]
  exact h

/-- append of one number to one of the rows. -/
theorem wpOp_append {i : Nat} {o : Oper} {a : Act} {w : World} {K : Act → World → Prop} (ho : ops[i]? = some o) (hgd : o.guard = none) (s x : Operand) (t : TypeId)
    (hop : o.op = Op.call { callee := Callee.builtin Builtin.append, args := #[s, x], argTypes := #[t, t] }) (ht : P.underlying t = some (.slice 3)) (hI : (P.info? 3).map (fun i => (i.zero, i.size, i.bytes)) = some (some (.int .i64 0), 1, 8))
    {B n : Nat} {F : Nat → Sl × List Int} (hF : Sep B n w F) (k m : Nat) (v : Int) (hk : k < n) (hm : m < n) (hs : a.eval s = slQ (F k).1) (hx : a.eval x = slQ (F m).1) (hv : (F m).2 = [v]) (hn : (F k).2.length < 1000000)
    (hK : ∀ y w', Sep B n w' (putF F k (y, (F k).2 ++ [v])) → (∀ b, b ≤ B → Below b w w') → K (a.put o.dst (slQ y)) w') : wpOp P ops Q i K a w := by
  obtain ⟨i0, hi, hz0, hz1, hz2⟩ := info_parts hI
  have hR := hF.row k hk
  have hM := hF.row m hm
  rw [hv] at hM
  obtain ⟨ad, hA, hl, hb, hc⟩ := row_cell hM (k := 0) (by simp)
  have hxx : a.eval x = .slice (some ad) 1 (F m).1.c := by rw [hx]; unfold slQ; rw [hA, hl]; rfl
  obtain ⟨v', w', hr, h2, h3, h4, h5⟩ := run_append_own_at (P := P) w B t o.type 3 i0 (.int .i64 0) 1 8 ht hi hz0 hz1 hz2 rfl (by decide) (slQ (F k).1) _ _ hR ad 1 (F m).1.c [.int .i64 v] rfl (fun j u hj => by
    match j, hj with
    | 0, hj => simp at hj; subst hj; exact hc) (fun u hu => by simp at hu; subst hu; rfl) (by unfold maxLen; omega) (by omega) hF.lo
  obtain ⟨Y, cY, rfl⟩ := slice_row h2
  refine wpOp_value ho hgd (v := slQ ⟨Y, (F k).2.length + 1, cY⟩) (w' := w') ?_ ?_
  · simp [execOp, hop, resolve, invoke, builtin, hs, hxx, hr, Result.andThen]
  · have hRow : Row3 w' B ⟨Y, (F k).2.length + 1, cY⟩ ((F k).2 ++ [v]) := by
      unfold Row3
      rw [List.length_append, I_append]
      exact h2
    refine hK _ w' (hF.turn _ _ hk hRow h3.size (fun q hq hne => h3.block q hq hne) h5) (fun b hb => ?_)
    exact ⟨h3.os, h3.tape, h3.output, h3.size, fun q hq => h3.block q (by have := hF.lo; omega) (fun e => by have := (own_lt' hR e.symm).1; omega)⟩
end

/-! ### Rows told as a list -/
def fam (l : List (Sl × List Int)) : Nat → Sl × List Int := fun i => l.getD i (⟨none, 0, 0⟩, [])
def SepL (B : Nat) (w : World) (l : List (Sl × List Int)) : Prop := Sep B l.length w (fam l)
theorem Sep.congr {B n : Nat} {w : World} {F G : Nat → Sl × List Int} (h : Sep B n w F) (e : ∀ i, i < n → F i = G i) : Sep B n w G :=
  ⟨fun i hi => e i hi ▸ h.row i hi, fun i j hi hj hne g => by rw [← e i hi, ← e j hj]; exact h.ne i j hi hj hne g, h.lo⟩
theorem fam_at {l : List (Sl × List Int)} {k : Nat} {x : Sl × List Int} (h : l[k]? = some x) : fam l k = x := by unfold fam; rw [List.getD_eq_getElem?_getD, h]; rfl
theorem SepL.row {B : Nat} {w : World} {l : List (Sl × List Int)} (h : SepL B w l) {k : Nat} {y : Sl} {L : List Int} (hk : l[k]? = some (y, L)) : Row3 w B y L := by
  have := Sep.row h k (List.getElem?_eq_some_iff.1 hk).1
  rw [fam_at hk] at this
  exact this
theorem SepL.below {B : Nat} {w w' : World} {l : List (Sl × List Int)} (h : SepL B w l) (b : Below w.heap.size w w') : SepL B w' l := Sep.below h b
theorem SepL.lo {B : Nat} {w : World} {l : List (Sl × List Int)} (h : SepL B w l) : B ≤ w.heap.size := Sep.lo h
theorem fam_set {l : List (Sl × List Int)} {k : Nat} (x : Sl × List Int) (hk : k < l.length) (i : Nat) : putF (fam l) k x i = fam (l.set k x) i := by
  unfold putF fam
  rw [List.getD_eq_getElem?_getD, List.getD_eq_getElem?_getD, List.getElem?_set]
  by_cases h : i = k
  · subst h; simp [hk]
  · rw [if_neg h, if_neg (fun e => h e.symm)]
theorem SepL.turn {B : Nat} {w w' : World} {l : List (Sl × List Int)} (h : SepL B w l) {k : Nat} {y0 : Sl} {L0 : List Int} (hk : l[k]? = some (y0, L0)) (y : Sl) (L : List Int) (hR : Row3 w' B y L) (hs : w.heap.size ≤ w'.heap.size)
    (hb : ∀ q, q < w.heap.size → some q ≠ ownB y0 → w'.heap[q]? = w.heap[q]?) (ho : ownB y = ownB y0 ∨ ownB y = some w.heap.size) : SepL B w' (l.set k (y, L)) := by
  have hlt := (List.getElem?_eq_some_iff.1 hk).1
  unfold SepL
  rw [List.length_set]
  refine Sep.congr (Sep.turn h y L hlt hR hs ?_ ?_) (fun i _ => fam_set _ hlt i)
  · rw [fam_at hk]; exact hb
  · rw [fam_at hk]; exact ho
theorem SepL.nil (B : Nat) (w : World) (h : B ≤ w.heap.size) : SepL B w [] := ⟨fun i hi => absurd hi (by simp), fun i j hi => absurd hi (by simp), h⟩
/-- One more row: a new one, or an empty one. -/
theorem SepL.cons {B : Nat} {w w' : World} {l : List (Sl × List Int)} (h : SepL B w l) (b : Below w.heap.size w w') {y : Sl} {L : List Int} (hR : Row3 w' B y L) (hn : ∀ g, ownB y = some g → w.heap.size ≤ g) : SepL B w' ((y, L) :: l) := by
  have h2 := h.below b
  refine ⟨fun i hi => ?_, fun i j hi hj hne g hg => ?_, h2.lo⟩
  · match i, hi with
    | 0, _ => exact hR
    | i + 1, hi => exact Sep.row h2 i (by simpa using hi)
  · match i, j, hi, hj, hne, hg with
    | 0, 0, _, _, hne, _ => exact absurd rfl hne
    | 0, j + 1, _, hj, _, hg =>
      intro e
      have h1 := hn g hg
      have := (own_lt' (Sep.row h j (by simpa using hj)) e).2
      omega
    | i + 1, 0, hi, _, _, hg =>
      intro e
      have h1 := hn g e
      have := (own_lt' (Sep.row h i (by simpa using hi)) hg).2
      omega
    | i + 1, j + 1, hi, hj, hne, hg => exact Sep.ne h2 i j (by simpa using hi) (by simpa using hj) (fun e => hne (by rw [e])) g hg

/-- append of one number to one of the rows, at the walk's operation: the number's box was made just before. -/
theorem wpList_append_sep {P : Program} {ops : Array Oper} {rest : List Oper} {o : Oper} {a : Act} {Q : Exit → Act → World → Prop} (hgd : o.guard = none) (s x : Operand) (t : TypeId)
    (ho : o.op = .call { callee := .builtin .append, args := #[s, x], argTypes := #[t, t] }) (ht : P.underlying t = some (.slice 3)) (hI : (P.info? 3).map (fun i => (i.zero, i.size, i.bytes)) = some (some (.int .i64 0), 1, 8))
    {B : Nat} {w : World} {l : List (Sl × List Int)} (hF : SepL B w l) (k : Nat) (y : Sl) (L : List Int) (v : Int) (hk : l[k]? = some (y, L)) (hs : a.eval s = .slice y.A y.n y.c) (hx : a.eval x = .slice (some ⟨w.heap.size, 0, none⟩) 1 1) (hn : L.length < 1000000)
    (h : ∀ (y' : Sl) w', SepL B w' (l.set k (y', L ++ [v])) → Below B w w' → wpList P ops Q rest (a.put o.dst (.slice y'.A y'.n y'.c)) w') :
    wpList P ops Q (o :: rest) a (w.alloc (.cells #[.int .i64 v] 3)) := by
  obtain ⟨i0, hi, hz0, hz1, hz2⟩ := info_parts hI
  have b1 := below1 w (.cells #[.int .i64 v] 3)
  have hF1 := hF.below b1
  have hR := hF1.row hk
  refine wpList_plain hgd fun K hK => ?_
  obtain ⟨v', w', hr, h2, h3, h4, h5⟩ := run_append_own_at (P := P) (w.alloc (.cells #[.int .i64 v] 3)) B t o.type 3 i0 (.int .i64 0) 1 8 ht hi hz0 hz1 hz2 rfl (by decide) (.slice y.A y.n y.c) _ _ hR ⟨w.heap.size, 0, none⟩ 1 1 [.int .i64 v] rfl (new1_cells' w (.int .i64 v) 3) (fun u hu => by simp at hu; subst hu; rfl) (by unfold maxLen; omega) (by omega) hF1.lo
  obtain ⟨Y, cY, rfl⟩ := slice_row h2
  unfold Oper.wp execOp
  simp only [ho, resolve, invoke, builtin, Sem.run_bind, Sem.run_pure, Result.andThen_ok, List.map_toArray, List.map_cons, List.map_nil, hs, hx, hr]
  have hRow : Row3 w' B ⟨Y, L.length + 1, cY⟩ (L ++ [v]) := by
    unfold Row3
    rw [List.length_append, I_append]
    exact h2
  refine hK _ _ (h ⟨Y, L.length + 1, cY⟩ w' (hF1.turn hk _ _ hRow h3.size (fun q hq hne => h3.block q hq hne) h5) ?_)
  have b2 : Below B (w.alloc (.cells #[.int .i64 v] 3)) w' := ⟨h3.os, h3.tape, h3.output, h3.size, fun q hq => h3.block q (by have := hF1.lo; omega) (fun e => by have := (own_lt' hR e.symm).1; omega)⟩
  exact (b1.mono hF.lo).trans b2
end Go.Proofs.YtcmdgjkoalophaaGreatDoor

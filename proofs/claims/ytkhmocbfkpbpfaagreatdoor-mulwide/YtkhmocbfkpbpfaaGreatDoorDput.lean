/- Rows of numbers of one's own, no two in one block; an append to one of them, inside a region by its operations. No walk. -/
import Derived.Test.YtkhmocbfkpbpfaaGreatDoorMkmore
import Derived.Test.YtkhmocbfkpbpfaaGreatDoorMul1
import Derived.Test.YtkhmocbfkpbpfaaGreatDoorDCut
import Derived.Test.YtkhmocbfkpbpfaaGreatDoorRg1
import Derived.Maps.AppendAt
import Derived.Lib.MinMax
import Derived.Lib.QuietBelow
namespace Go.Proofs.YtkhmocbfkpbpfaaGreatDoor
open Go.RowKit

abbrev ownB (y : Sl) : Option Nat := (Value.slice y.A y.n y.c).ownBlock
abbrev slQ (y : Sl) : Value := .slice y.A y.n y.c

/-- So many rows, no two in one block. -/
structure Sep (B n : Nat) (w : World) (F : Nat → Sl × List Int) : Prop where
  row : ∀ i, i < n → Row3 w B (F i).1 (F i).2
  ne : ∀ i j, i < n → j < n → i ≠ j → ∀ g, ownB (F i).1 = some g → ownB (F j).1 ≠ some g
  lo : B ≤ w.heap.size

def putF (F : Nat → Sl × List Int) (i : Nat) (x : Sl × List Int) : Nat → Sl × List Int := fun j => if j = i then x else F j
theorem putF_same (F : Nat → Sl × List Int) (i : Nat) (x : Sl × List Int) : putF F i x i = x := by simp [putF]
theorem putF_ne (F : Nat → Sl × List Int) {i j : Nat} (x : Sl × List Int) (h : j ≠ i) : putF F i x j = F j := by simp [putF, h]

theorem row3_lt {w : World} {B : Nat} {y : Sl} {L : List Int} (h : Row3 w B y L) {g : Nat} (hg : ownB y = some g) : B ≤ g ∧ g < w.heap.size := own_lt' h hg

theorem Sep.below {B n : Nat} {w w' : World} {F : Nat → Sl × List Int} (h : Sep B n w F) (b : Below w.heap.size w w') : Sep B n w' F :=
  ⟨fun i hi => own_keep' (h.row i hi) fun g hg => b.block g (own_lt' (h.row i hi) hg).2, h.ne, Nat.le_trans h.lo b.size⟩

/-- One row becomes another one: its block is its own as before, or a new one. -/
theorem Sep.turn {B n : Nat} {w w' : World} {F : Nat → Sl × List Int} (h : Sep B n w F) {i : Nat} (y : Sl) (L : List Int) (hi : i < n) (hR : Row3 w' B y L) (hs : w.heap.size ≤ w'.heap.size)
    (hk : ∀ k, k < w.heap.size → some k ≠ ownB (F i).1 → w'.heap[k]? = w.heap[k]?) (ho : ownB y = ownB (F i).1 ∨ ownB y = some w.heap.size) : Sep B n w' (putF F i (y, L)) := by
  refine ⟨fun j hj => ?_, fun a b ha hb hab g hg => ?_, Nat.le_trans h.lo hs⟩
  · by_cases e : j = i
    · subst e; rw [putF_same]; exact hR
    · rw [putF_ne _ _ e]
      exact own_keep' (h.row j hj) fun g hg => hk g (own_lt' (h.row j hj) hg).2 fun e' => h.ne j i hj hi e g hg e'.symm
  · by_cases ea : a = i
    · subst ea
      rw [putF_same] at hg
      have eb : b ≠ a := fun e => hab e.symm
      rw [putF_ne _ _ eb]
      intro hg'
      rcases ho with ho | ho
      · rw [ho] at hg
        exact h.ne a b ha hb hab g hg hg'
      · rw [ho] at hg
        injection hg with hg
        have := (row3_lt (h.row b hb) hg').2
        omega
    · rw [putF_ne _ _ ea] at hg
      by_cases eb : b = i
      · subst eb
        rw [putF_same]
        intro hg'
        rcases ho with ho | ho
        · rw [ho] at hg'
          exact h.ne a b ha hb hab g hg hg'
        · rw [ho] at hg'
          injection hg' with hg'
          have := (row3_lt (h.row a ha) hg).2
          omega
      · rw [putF_ne _ _ eb]
        exact h.ne a b ha hb hab g hg

/-- A new row of one number. -/
theorem Sep.one {B n : Nat} {w : World} {F : Nat → Sl × List Int} (h : Sep B n w F) {i : Nat} (x : Int) (hi : i < n) : Sep B n (w.alloc (.cells #[.int .i64 x] 3)) (putF F i (⟨some ⟨w.heap.size, 0, none⟩, 1, 1⟩, [x])) := by
  refine h.turn _ _ hi ?_ (below1 w _).size (fun k hk _ => (below1 w _).block k hk) (.inr rfl)
  have := World.ownsRow_lit (base := B) (e := 3) (size := 1) w #[.int .i64 x] 1 h.lo (by decide) rfl
  exact this

/-- Rows that are new. -/
theorem Sep.nil (B n : Nat) (w : World) (h : B ≤ w.heap.size) : Sep B n w (fun _ => (⟨none, 0, 0⟩, [])) :=
  ⟨fun i _ => Row3.nil _ _, fun i j _ _ _ g hg => (by cases hg), h⟩
theorem Sep.base {B B' n : Nat} {w : World} {F : Nat → Sl × List Int} (h : Sep B n w F) (hb : B' ≤ B) : Sep B' n w F :=
  ⟨fun i hi => own_base (h.row i hi) hb, h.ne, Nat.le_trans hb h.lo⟩

section
variable {P : Program} {ops : Array Oper} {Q : Exit → Act → World → Prop}

theorem wpOp_plain {i : Nat} {o : Oper} {a : Act} {w : World} {K : Act → World → Prop} (ho : ops[i]? = some o) (hg : o.guard = none) (h : o.wp P a w K Q) : wpOp P ops Q i K a w := by
  unfold wpOp
  rw [ho]
  simp only
  rw [if_pos (by simp [Region.wanted, hg])]
  exact .inl h

theorem wpOp_value {i : Nat} {o : Oper} {a : Act} {w w' : World} {v : Value} {K : Act → World → Prop} (ho : ops[i]? = some o) (hg : o.guard = none) (hr : (execOp a.eval o).run P w = .ok (.value v) w') (h : K (a.put o.dst v) w') : wpOp P ops Q i K a w := by
  refine wpOp_plain ho hg ?_
  unfold Oper.wp
  rw [hr]
  exact h

/-- append of one number to one of the rows. -/
theorem wpOp_append {i : Nat} {o : Oper} {a : Act} {w : World} {K : Act → World → Prop} (ho : ops[i]? = some o) (hgd : o.guard = none) (s x : Operand) (t : TypeId)
    (hop : o.op = Op.call { callee := Callee.builtin Builtin.append, args := #[s, x], argTypes := #[t, t] }) (ht : P.underlying t = some (.slice 3)) (hI : (P.info? 3).map (fun i => (i.zero, i.size, i.bytes)) = some (some (.int .i64 0), 1, 8))
    {B n : Nat} {F : Nat → Sl × List Int} (hF : Sep B n w F) (k m : Nat) (v : Int) (hk : k < n) (hm : m < n) (hs : a.eval s = slQ (F k).1) (hx : a.eval x = slQ (F m).1) (hv : (F m).2 = [v]) (hn : (F k).2.length < 1000000)
    (hK : ∀ y w', Sep B n w' (putF F k (y, (F k).2 ++ [v])) → (∀ b, b ≤ B → Below b w w') → K (a.put o.dst (slQ y)) w') : wpOp P ops Q i K a w := by
  obtain ⟨i0, hi, hz0, hz1, hz2⟩ := info_parts hI
  have hR := hF.row k hk
  have hM := hF.row m hm
  rw [hv] at hM
  obtain ⟨ad, hA, hl, hb, hc⟩ := row_cell hM (k := 0) (by simp)
  have hxx : a.eval x = .slice (some ad) 1 (F m).1.c := by rw [hx]; unfold slQ; rw [hA, hl]; rfl
  obtain ⟨v', w', hr, h2, h3, h4, h5⟩ := run_append_own_at (P := P) w B t o.type 3 i0 (.int .i64 0) 1 8 ht hi hz0 hz1 hz2 rfl (by decide) (slQ (F k).1) _ _ hR ad 1 (F m).1.c [.int .i64 v] rfl (fun j u hj => by
    match j, hj with
    | 0, hj => simp at hj; subst hj; exact hc) (fun u hu => by simp at hu; subst hu; rfl) (by unfold maxLen; omega) (by omega) hF.lo
  obtain ⟨Y, cY, rfl⟩ := slice_row h2
  refine wpOp_value ho hgd (v := slQ ⟨Y, (F k).2.length + 1, cY⟩) (w' := w') ?_ ?_
  · simp [execOp, hop, resolve, invoke, builtin, hs, hxx, hr, Result.andThen]
  · have hRow : Row3 w' B ⟨Y, (F k).2.length + 1, cY⟩ ((F k).2 ++ [v]) := by
      unfold Row3
      rw [List.length_append, I_append]
      exact h2
    refine hK _ w' (hF.turn _ _ hk hRow h3.size (fun q hq hne => h3.block q hq hne) h5) (fun b hb => ?_)
    exact ⟨h3.os, h3.tape, h3.output, h3.size, fun q hq => h3.block q (by have := hF.lo; omega) (fun e => by have := (own_lt' hR e.symm).1; omega)⟩
end

/-! ### Rows told as a list -/
def fam (l : List (Sl × List Int)) : Nat → Sl × List Int := fun i => l.getD i (⟨none, 0, 0⟩, [])
def SepL (B : Nat) (w : World) (l : List (Sl × List Int)) : Prop := Sep B l.length w (fam l)
theorem Sep.congr {B n : Nat} {w : World} {F G : Nat → Sl × List Int} (h : Sep B n w F) (e : ∀ i, i < n → F i = G i) : Sep B n w G :=
  ⟨fun i hi => e i hi ▸ h.row i hi, fun i j hi hj hne g => by rw [← e i hi, ← e j hj]; exact h.ne i j hi hj hne g, h.lo⟩
theorem fam_at {l : List (Sl × List Int)} {k : Nat} {x : Sl × List Int} (h : l[k]? = some x) : fam l k = x := by unfold fam; rw [List.getD_eq_getElem?_getD, h]; rfl
theorem SepL.row {B : Nat} {w : World} {l : List (Sl × List Int)} (h : SepL B w l) {k : Nat} {y : Sl} {L : List Int} (hk : l[k]? = some (y, L)) : Row3 w B y L := by
  have := Sep.row h k (List.getElem?_eq_some_iff.1 hk).1
  rw [fam_at hk] at this
  exact this
theorem SepL.below {B : Nat} {w w' : World} {l : List (Sl × List Int)} (h : SepL B w l) (b : Below w.heap.size w w') : SepL B w' l := Sep.below h b
theorem SepL.lo {B : Nat} {w : World} {l : List (Sl × List Int)} (h : SepL B w l) : B ≤ w.heap.size := Sep.lo h
theorem fam_set {l : List (Sl × List Int)} {k : Nat} (x : Sl × List Int) (hk : k < l.length) (i : Nat) : putF (fam l) k x i = fam (l.set k x) i := by
  unfold putF fam
  rw [List.getD_eq_getElem?_getD, List.getD_eq_getElem?_getD, List.getElem?_set]
  by_cases h : i = k
  · subst h; simp [hk]
  · rw [if_neg h, if_neg (fun e => h e.symm)]
theorem SepL.turn {B : Nat} {w w' : World} {l : List (Sl × List Int)} (h : SepL B w l) {k : Nat} {y0 : Sl} {L0 : List Int} (hk : l[k]? = some (y0, L0)) (y : Sl) (L : List Int) (hR : Row3 w' B y L) (hs : w.heap.size ≤ w'.heap.size)
    (hb : ∀ q, q < w.heap.size → some q ≠ ownB y0 → w'.heap[q]? = w.heap[q]?) (ho : ownB y = ownB y0 ∨ ownB y = some w.heap.size) : SepL B w' (l.set k (y, L)) := by
  have hlt := (List.getElem?_eq_some_iff.1 hk).1
  unfold SepL
  rw [List.length_set]
  refine Sep.congr (Sep.turn h y L hlt hR hs ?_ ?_) (fun i _ => fam_set _ hlt i)
  · rw [fam_at hk]; exact hb
  · rw [fam_at hk]; exact ho
theorem SepL.nil (B : Nat) (w : World) (h : B ≤ w.heap.size) : SepL B w [] := ⟨fun i hi => absurd hi (by simp), fun i j hi => absurd hi (by simp), h⟩
/-- One more row: a new one, or an empty one. -/
theorem SepL.cons {B : Nat} {w w' : World} {l : List (Sl × List Int)} (h : SepL B w l) (b : Below w.heap.size w w') {y : Sl} {L : List Int} (hR : Row3 w' B y L) (hn : ∀ g, ownB y = some g → w.heap.size ≤ g) : SepL B w' ((y, L) :: l) := by
  have h2 := h.below b
  refine ⟨fun i hi => ?_, fun i j hi hj hne g hg => ?_, h2.lo⟩
  · match i, hi with
    | 0, _ => exact hR
    | i + 1, hi => exact Sep.row h2 i (by simpa using hi)
  · match i, j, hi, hj, hne, hg with
    | 0, 0, _, _, hne, _ => exact absurd rfl hne
    | 0, j + 1, _, hj, _, hg =>
      intro e
      have h1 := hn g hg
      have := (own_lt' (Sep.row h j (by simpa using hj)) e).2
      omega
    | i + 1, 0, hi, _, _, hg =>
      intro e
      have h1 := hn g e
      have := (own_lt' (Sep.row h i (by simpa using hi)) hg).2
      omega
    | i + 1, j + 1, hi, hj, hne, hg => exact Sep.ne h2 i j (by simpa using hi) (by simpa using hj) (fun e => hne (by rw [e])) g hg

/-- append of one number to one of the rows, at the walk's operation: the number's box was made just before. -/
theorem wpList_append_sep {P : Program} {ops : Array Oper} {rest : List Oper} {o : Oper} {a : Act} {Q : Exit → Act → World → Prop} (hgd : o.guard = none) (s x : Operand) (t : TypeId)
    (ho : o.op = .call { callee := .builtin .append, args := #[s, x], argTypes := #[t, t] }) (ht : P.underlying t = some (.slice 3)) (hI : (P.info? 3).map (fun i => (i.zero, i.size, i.bytes)) = some (some (.int .i64 0), 1, 8))
    {B : Nat} {w : World} {l : List (Sl × List Int)} (hF : SepL B w l) (k : Nat) (y : Sl) (L : List Int) (v : Int) (hk : l[k]? = some (y, L)) (hs : a.eval s = .slice y.A y.n y.c) (hx : a.eval x = .slice (some ⟨w.heap.size, 0, none⟩) 1 1) (hn : L.length < 1000000)
    (h : ∀ (y' : Sl) w', SepL B w' (l.set k (y', L ++ [v])) → Below B w w' → wpList P ops Q rest (a.put o.dst (.slice y'.A y'.n y'.c)) w') :
    wpList P ops Q (o :: rest) a (w.alloc (.cells #[.int .i64 v] 3)) := by
  obtain ⟨i0, hi, hz0, hz1, hz2⟩ := info_parts hI
  have b1 := below1 w (.cells #[.int .i64 v] 3)
  have hF1 := hF.below b1
  have hR := hF1.row hk
  refine wpList_plain hgd fun K hK => ?_
  obtain ⟨v', w', hr, h2, h3, h4, h5⟩ := run_append_own_at (P := P) (w.alloc (.cells #[.int .i64 v] 3)) B t o.type 3 i0 (.int .i64 0) 1 8 ht hi hz0 hz1 hz2 rfl (by decide) (.slice y.A y.n y.c) _ _ hR ⟨w.heap.size, 0, none⟩ 1 1 [.int .i64 v] rfl (new1_cells' w (.int .i64 v) 3) (fun u hu => by simp at hu; subst hu; rfl) (by unfold maxLen; omega) (by omega) hF1.lo
  obtain ⟨Y, cY, rfl⟩ := slice_row h2
  unfold Oper.wp execOp
  simp only [ho, resolve, invoke, builtin, Sem.run_bind, Sem.run_pure, Result.andThen_ok, List.map_toArray, List.map_cons, List.map_nil, hs, hx, hr]
  have hRow : Row3 w' B ⟨Y, L.length + 1, cY⟩ (L ++ [v]) := by
    unfold Row3
    rw [List.length_append, I_append]
    exact h2
  refine hK _ _ (h ⟨Y, L.length + 1, cY⟩ w' (hF1.turn hk _ _ hRow h3.size (fun q hq hne => h3.block q hq hne) h5) ?_)
  have b2 : Below B (w.alloc (.cells #[.int .i64 v] 3)) w' := ⟨h3.os, h3.tape, h3.output, h3.size, fun q hq => h3.block q (by have := hF1.lo; omega) (fun e => by have := (own_lt' hR e.symm).1; omega)⟩
  exact (b1.mono hF.lo).trans b2
end Go.Proofs.YtkhmocbfkpbpfaaGreatDoor

/- Domains in memory: written whole, made into a slice, in a variable; constraints made of a list (layers 11 to 22). No walk. -/
namespace Go.Proofs.YtkhmocbfkpbpfaaGreatDoor
open Go.RowKit Go.Sort

/-- A domain stays one, when a block without words is written. -/
theorem IsDom.put {W : World} {d : Value} {L : List Int} (h : IsDom W d L) {g : Nat} {cs : Array Value} {t : TypeId} (hB : W.heap[g]? = some (.cells cs t (0, 0))) (hp : ∀ u ∈ cs, plainV u) (i : Nat) (v : Value) : IsDom (W.setCell ⟨g, i, none⟩ v) d L := by
  obtain ⟨s, A, ws, c, e, h1, h2, h3⟩ := h
  refine ⟨s, A, ws, c, e, fun hn => ?_, h2, h3⟩
  obtain ⟨ad, q, hl, hc⟩ := h1 hn
  have hne : ad.block ≠ g := by
    intro e
    have h0 := hc 0 hn
    unfold World.cell? at h0
    rw [add_block, e, hB] at h0
    simp only at h0
    split at h0
    · exact absurd h0 (by simp)
    · exact hp _ (Array.mem_of_getElem? h0) _ rfl
  refine ⟨ad, q, by simpa [World.setCell] using hl, fun j hj => ?_⟩
  rw [World.cell?_setCell_other _ _ _ _ (fun q => hne (by have := congrArg Addr.block q; rw [add_block] at this; exact this.symm))]
  exact hc j hj
/-- Three cells written, whole. -/
theorem IsDom.put3 {W : World} {d : Value} {L : List Int} (h : IsDom W d L) {g : Nat} {a0 a1 a2 : Value} {t : TypeId} (hB : W.heap[g]? = some (.cells #[a0, a1, a2] t (0, 0))) (h0 : plainV a0) (h1 : plainV a1) (h2 : plainV a2) (x y z : Value) (hx : plainV x) (hy : plainV y) :
    IsDom (((W.setCell ⟨g, 0, none⟩ x).setCell ⟨g, 1, none⟩ y).setCell ⟨g, 2, none⟩ z) d L := by
  have p0 : ∀ u ∈ (#[a0, a1, a2] : Array Value), plainV u := by intro u hu; simp at hu; rcases hu with rfl | rfl | rfl <;> assumption
  have p1 : ∀ u ∈ (#[x, a1, a2] : Array Value), plainV u := by intro u hu; simp at hu; rcases hu with rfl | rfl | rfl <;> assumption
  have p2 : ∀ u ∈ (#[x, y, a2] : Array Value), plainV u := by intro u hu; simp at hu; rcases hu with rfl | rfl | rfl <;> assumption
  have b1 := heap_setCell_same W g 0 #[a0, a1, a2] t x hB
  have b2 := heap_setCell_same _ g 1 _ t y b1
  exact ((h.put hB p0 0 x).put b1 p1 1 y).put b2 p2 2 z
theorem plain_int (k : IntKind) (v : Int) (h : k ≠ .u64) : plainV (.int k v) := by intro x e; injection e with e _; exact h e
theorem plain_sl (A : Option Addr) (n c : Nat) : plainV (.slice A n c) := by intro x e; cases e
theorem IsDom.lim {W : World} {d : Value} {L : List Int} (h : IsDom W d L) : ∀ v ∈ L, -2000000 ≤ v ∧ v ≤ 2000000 := by
  obtain ⟨s, A, ws, c, -, -, hF, rfl⟩ := h
  intro v hv
  have := D.in_places hF v hv
  omega
/-- Three domains made into a slice. -/
theorem doms_build3 {W : World} {d1 d2 d3 : Dv} {L1 L2 L3 : List Int} (h1 : IsDom W d1.val L1) (h2 : IsDom W d2.val L2) (h3 : IsDom W d3.val L3) :
    DomsIn (W.alloc (.cells (d1.cells ++ d2.cells ++ d3.cells).toArray 53)) ⟨some ⟨W.heap.size, 0, none⟩, 3, 3⟩ [L1, L2, L3] := by
  have b := below1 W (.cells (d1.cells ++ d2.cells ++ d3.cells).toArray 53)
  have hn := heap_alloc_new W (.cells (d1.cells ++ d2.cells ++ d3.cells).toArray 53)
  refine ⟨rfl, by simp, Nat.le_refl _, fun _ => ⟨W.heap.size, 0, rfl, (Array.getElem?_eq_some_iff.1 hn).1, fun i hi => ?_⟩⟩
  have key : ∀ (d : Dv) (k : Nat), (∀ (j : Nat) (u : Value), d.cells[j]? = some u → (d1.cells ++ d2.cells ++ d3.cells)[k * 3 + j]? = some u) → ∀ (j : Nat) (u : Value), d.cells[j]? = some u → (W.alloc (.cells (d1.cells ++ d2.cells ++ d3.cells).toArray 53)).cell? ⟨W.heap.size, 0 + k * 3 + j, none⟩ = some u := by
    intro d k hk j u hj
    refine blk_cell hn ?_
    rw [Nat.zero_add, List.getElem?_toArray]
    exact hk j u hj
  have hlt3 : ∀ (d : Dv) (j : Nat) (u : Value), d.cells[j]? = some u → j < 3 := fun d j u hj => by
    have := (List.getElem?_eq_some_iff.1 hj).1
    simpa [Dv.cells] using this
  match i, hi with
  | 0, _ => exact ⟨d1, key d1 0 (fun j u hj => by have := hlt3 _ _ _ hj; match j, hj with | 0, hj => exact hj | 1, hj => exact hj | 2, hj => exact hj), h1.below b⟩
  | 1, _ => exact ⟨d2, key d2 1 (fun j u hj => by have := hlt3 _ _ _ hj; match j, hj with | 0, hj => exact hj | 1, hj => exact hj | 2, hj => exact hj), h2.below b⟩
  | 2, _ => exact ⟨d3, key d3 2 (fun j u hj => by have := hlt3 _ _ _ hj; match j, hj with | 0, hj => exact hj | 1, hj => exact hj | 2, hj => exact hj), h3.below b⟩
theorem head_mem {L : List Int} (h : L ≠ []) : L.head?.getD 0 ∈ L := by
  cases L with
  | nil => exact absurd rfl h
  | cons a l => simp
theorem last_mem {L : List Int} (h : L ≠ []) : L.getLast?.getD 0 ∈ L := by
  rw [List.getLast?_eq_some_getLast h]
  exact List.getLast_mem h
theorem head_lim {L : List Int} (h : ∀ v ∈ L, -2000000 ≤ v ∧ v ≤ 2000000) : -2000000 ≤ L.head?.getD 0 ∧ L.head?.getD 0 ≤ 2000000 := by
  by_cases e : L = []
  · subst e; simp
  · exact h _ (head_mem e)
theorem last_lim {L : List Int} (h : ∀ v ∈ L, -2000000 ≤ v ∧ v ≤ 2000000) : -2000000 ≤ L.getLast?.getD 0 ∧ L.getLast?.getD 0 ≤ 2000000 := by
  by_cases e : L = []
  · subst e; simp
  · exact h _ (last_mem e)
/-- A block of three cells, written whole. -/
theorem put3_block {W : World} {g : Nat} {a0 a1 a2 x y z : Value} {t : TypeId} (h : W.heap[g]? = some (.cells #[a0, a1, a2] t (0, 0))) : (((W.setCell ⟨g, 0, none⟩ x).setCell ⟨g, 1, none⟩ y).setCell ⟨g, 2, none⟩ z).heap[g]? = some (.cells #[x, y, z] t (0, 0)) :=
  heap_setCell_same _ g 2 _ t z (heap_setCell_same _ g 1 _ t y (heap_setCell_same W g 0 _ t x h))
theorem put3_far {W : World} {g k : Nat} {x y z : Value} (h : k ≠ g) : (((W.setCell ⟨g, 0, none⟩ x).setCell ⟨g, 1, none⟩ y).setCell ⟨g, 2, none⟩ z).heap[k]? = W.heap[k]? :=
  (heap_setCell_other _ _ k z h).trans ((heap_setCell_other _ _ k y h).trans (heap_setCell_other _ _ k x h))
theorem IsDom.len_lim {W : World} {d : Value} {L : List Int} (h : IsDom W d L) : L.length ≤ 2000064 := by
  obtain ⟨s, A, ws, c, -, -, hF, rfl⟩ := h
  have h1 := len_le_listOf ws s
  have h2 := hF.len
  omega
def vOf (x : Sl) : ConV := ⟨x, ⟨none, 0, 0⟩, ⟨none, 0, 0⟩, ⟨none, 0, 0⟩, ⟨none, 0, 0⟩, ⟨none, 0, 0⟩⟩
def cOf (k : Int) (A : List Int) : ConL := ⟨k, A, [], [], [], [], 0, []⟩
theorem con_of {w : World} {x : Sl} {A : List Int} (k : Int) (h : IsInts w x A) : ConIn w (vOf x) (cOf k A) := ⟨h, IsInts.nil _, IsInts.nil _, IsInts.nil _, IsInts.nil _, IsRows.nil _⟩
theorem ints_made (w : World) (A : List Int) (n : Nat) (hn : n = A.length) (h : n ≤ 1000000) : IsInts (w.alloc (.cells (I A).toArray 3)) ⟨some ⟨w.heap.size, 0, none⟩, n, n⟩ A := by
  subst hn
  have := World.ownsRow_lit (base := w.heap.size) (e := 3) (size := 1) w (I A).toArray A.length (Nat.le_refl _) (by unfold maxLen; omega) (by simp [I])
  exact ints_own this (by omega)
theorem doms_build2 {W : World} {d1 d2 : Dv} {L1 L2 : List Int} (h1 : IsDom W d1.val L1) (h2 : IsDom W d2.val L2) :
    DomsIn (W.alloc (.cells (d1.cells ++ d2.cells).toArray 53)) ⟨some ⟨W.heap.size, 0, none⟩, 2, 2⟩ [L1, L2] := by
  have b := below1 W (.cells (d1.cells ++ d2.cells).toArray 53)
  have hn := heap_alloc_new W (.cells (d1.cells ++ d2.cells).toArray 53)
  refine ⟨rfl, by simp, Nat.le_refl _, fun _ => ⟨W.heap.size, 0, rfl, (Array.getElem?_eq_some_iff.1 hn).1, fun i hi => ?_⟩⟩
  have key : ∀ (d : Dv) (k : Nat), (∀ (j : Nat) (u : Value), d.cells[j]? = some u → (d1.cells ++ d2.cells)[k * 3 + j]? = some u) → ∀ (j : Nat) (u : Value), d.cells[j]? = some u → (W.alloc (.cells (d1.cells ++ d2.cells).toArray 53)).cell? ⟨W.heap.size, 0 + k * 3 + j, none⟩ = some u := by
    intro d k hk j u hj
    refine blk_cell hn ?_
    rw [Nat.zero_add, List.getElem?_toArray]
    exact hk j u hj
  have hlt3 : ∀ (d : Dv) (j : Nat) (u : Value), d.cells[j]? = some u → j < 3 := fun d j u hj => by
    have := (List.getElem?_eq_some_iff.1 hj).1
    simpa [Dv.cells] using this
  match i, hi with
  | 0, _ => exact ⟨d1, key d1 0 (fun j u hj => by have := hlt3 _ _ _ hj; match j, hj with | 0, hj => exact hj | 1, hj => exact hj | 2, hj => exact hj), h1.below b⟩
  | 1, _ => exact ⟨d2, key d2 1 (fun j u hj => by have := hlt3 _ _ _ hj; match j, hj with | 0, hj => exact hj | 1, hj => exact hj | 2, hj => exact hj), h2.below b⟩
/-- Where a domain lies in a variable. -/
def VarD (W : World) (g : Nat) (d : Dv) (L : List Int) : Prop := W.heap[g]? = some (.cells #[.int .i64 d.s, .slice d.A d.n d.c, .int .i64 d.z] 53 (0, 0)) ∧ IsDom W d.val L
theorem VarD.below {W W' : World} {g : Nat} {d : Dv} {L : List Int} (h : VarD W g d L) (b : Below W.heap.size W W') : VarD W' g d L := ⟨(b.block _ (Array.getElem?_eq_some_iff.1 h.1).1).trans h.1, h.2.below b⟩
theorem VarD.new {W : World} {d : Dv} {L : List Int} (h : IsDom W d.val L) : VarD (W.alloc (.cells #[.int .i64 d.s, .slice d.A d.n d.c, .int .i64 d.z] 53)) W.heap.size d L := ⟨heap_new W _, h.below (below1 W _)⟩
theorem VarD.c0 {W : World} {g : Nat} {d : Dv} {L : List Int} (h : VarD W g d L) : W.cell? ⟨g, 0, none⟩ = some (.int .i64 d.s) := blk_cell h.1 rfl
theorem VarD.c1 {W : World} {g : Nat} {d : Dv} {L : List Int} (h : VarD W g d L) : W.cell? ⟨g, 1, none⟩ = some (.slice d.A d.n d.c) := blk_cell h.1 rfl
theorem VarD.c2 {W : World} {g : Nat} {d : Dv} {L : List Int} (h : VarD W g d L) : W.cell? ⟨g, 2, none⟩ = some (.int .i64 d.z) := blk_cell h.1 rfl
theorem range_at (lo hi : Int) (L : List Int) (w : World) (h : (if rangeErr lo hi = 0 then rangeL lo hi else []) = L) : Calls Tryz.prog 63 #[.int .i64 lo, .int .i64 hi] w fun e w' => (∃ d : Dv, e = .returned (.tuple #[d.val, .int .i64 (rangeErr lo hi)]) ∧ IsDom w' d.val L) ∧ Below w.heap.size w w' := by
  have := range_dom lo hi w
  rw [h] at this
  refine this.mono ?_
  rintro e w1 ⟨d, rfl, hd, b⟩
  obtain ⟨dv, rfl, -⟩ := Dv.of hd
  exact ⟨⟨dv, rfl, hd⟩, b⟩
theorem same_base {W W' : World} {x : Sl} {L : List (List Int)} {g o : Nat} (b : Below W.heap.size W W') (h : DomsIn W x L) (e : x.A = some ⟨g, o, none⟩) (k : Nat) (hk : k < x.n) :
    ∃ d : Dv, W'.cell? ⟨g, o + k * 3, none⟩ = some (.int .i64 d.s) ∧ W'.cell? ⟨g, o + k * 3 + 1, none⟩ = some (.slice d.A d.n d.c) ∧ W'.cell? ⟨g, o + k * 3 + 2, none⟩ = some (.int .i64 d.z) ∧ IsDom W' d.val (L.getD k []) := by
  obtain ⟨g', o', d, e', p0, p1, p2, hD⟩ := (h.below b).at_ k hk
  rw [e] at e'
  injection e' with e'
  injection e' with e1 e2 _
  subst e1
  subst e2
  exact ⟨d, p0, p1, p2, hD⟩
theorem has_yes {d : Value} {L : List Int} {v : Int} {w : World} (h : IsDom w d L) (hm : v ∈ L) (hv : -1000000 ≤ v ∧ v ≤ 1000000) : Calls Tryz.prog 28 #[d, .int .i64 v] w fun e w' => e = .returned (.bool true) ∧ Below w.heap.size w w' := by
  have := D.has_dom d L v w h (by omega) (by omega)
  rwa [decide_eq_true hm] at this
theorem getD_memL (zs : List (List Int)) (j : Nat) (h : j < zs.length) : zs.getD j [] ∈ zs := by
  rw [List.getD_eq_getElem?_getD, List.getElem?_eq_getElem h]
  exact List.getElem_mem h
theorem DomsIn.at2 {W : World} {g o n c : Nat} {LL : List (List Int)} (h : DomsIn W ⟨some ⟨g, o, none⟩, n, c⟩ LL) (k : Nat) (hk : k < n) :
    ∃ d : Dv, W.cell? ⟨g, o + k * 3, none⟩ = some (.int .i64 d.s) ∧ W.cell? ⟨g, o + k * 3 + 1, none⟩ = some (.slice d.A d.n d.c) ∧ W.cell? ⟨g, o + k * 3 + 2, none⟩ = some (.int .i64 d.z) ∧ IsDom W d.val (LL.getD k []) := by
  obtain ⟨g', o', d, e, q0, q1, q2, hD⟩ := h.at_ k hk
  simp only [Option.some.injEq, Addr.mk.injEq] at e
  obtain ⟨rfl, rfl, -⟩ := e
  exact ⟨d, q0, q1, q2, hD⟩
end Go.Proofs.YtkhmocbfkpbpfaaGreatDoor

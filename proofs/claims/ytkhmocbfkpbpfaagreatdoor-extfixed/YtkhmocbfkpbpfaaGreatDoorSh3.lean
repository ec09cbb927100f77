/- Rows of numbers of one's own, no two in one block; an append to one of them, inside a region by its operations. No walk. -/
import Derived.Test.YtkhmocbfkpbpfaaGreatDoorMkmore
import Derived.Test.YtkhmocbfkpbpfaaGreatDoorRg2
import Derived.Test.YtkhmocbfkpbpfaaGreatDoorGfn5
import Derived.Maps.AppendAt
namespace Go.Proofs.YtkhmocbfkpbpfaaGreatDoor
open Go.RowKit

abbrev ownB (y : Sl) : Option Nat := (Value.slice y.A y.n y.c).ownBlock
abbrev slQ (y : Sl) : Value := .slice y.A y.n y.c

/-- So many rows, no two in one block. -/
structure Sep (B n : Nat) (w : World) (F : Nat → Sl × List Int) : Prop where
  row : ∀ i, i < n → Row3 w B (F i).1 (F i).2
  ne : ∀ i j, i < n → j < n → i ≠ j → ∀ g, ownB (F i).1 = some g → ownB (F j).1 ≠ some g
  lo : B ≤ w.heap.size

def putF (F : Nat → Sl × List Int) (i : Nat) (x : Sl × List Int) : Nat → Sl × List Int := fun j => if j = i then x else F j
theorem putF_same (F : Nat → Sl × List Int) (i : Nat) (x : Sl × List Int) : putF F i x i = x := by simp [putF]
theorem putF_ne (F : Nat → Sl × List Int) {i j : Nat} (x : Sl × List Int) (h : j ≠ i) : putF F i x j = F j := by simp [putF, h]

theorem row3_lt {w : World} {B : Nat} {y : Sl} {L : List Int} (h : Row3 w B y L) {g : Nat} (hg : ownB y = some g) : B ≤ g ∧ g < w.heap.size := own_lt' h hg

theorem Sep.below {B n : Nat} {w w' : World} {F : Nat → Sl × List Int} (h : Sep B n w F) (b : Below w.heap.size w w') : Sep B n w' F :=
  ⟨fun i hi => own_keep' (h.row i hi) fun g hg => b.block g (own_lt' (h.row i hi) hg).2, h.ne, Nat.le_trans h.lo b.size⟩

/-- One row becomes another one: its block is its own as before, or a new one. -/
theorem Sep.turn {B n : Nat} {w w' : World} {F : Nat → Sl × List Int} (h : Sep B n w F) {i : Nat} (y : Sl) (L : List Int) (hi : i < n) (hR : Row3 w' B y L) (hs : w.heap.size ≤ w'.heap.size)
    (hk : ∀ k, k < w.heap.size → some k ≠ ownB (F i).1 → w'.heap[k]? = w.heap[k]?) (ho : ownB y = ownB (F i).1 ∨ ownB y = some w.heap.size) : Sep B n w' (putF F i (y, L)) := by
  refine ⟨fun j hj => ?_, fun a b ha hb hab g hg => ?_, Nat.le_trans h.lo hs⟩
  · by_cases e : j = i
    · subst e; rw [putF_same]; exact hR
    · rw [putF_ne _ _ e]
      exact own_keep' (h.row j hj) fun g hg => hk g (own_lt' (h.row j hj) hg).2 fun e' => h.ne j i hj hi e g hg e'.symm
  · by_cases ea : a = i
    · subst ea
      rw [putF_same] at hg
      have eb : b ≠ a := fun e => hab e.symm
      rw [putF_ne _ _ eb]
      intro hg'
      rcases ho with ho | ho
      · rw [ho] at hg
        exact h.ne a b ha hb hab g hg hg'
      · rw [ho] at hg
        injection hg with hg
        have := (row3_lt (h.row b hb) hg').2
        omega
    · rw [putF_ne _ _ ea] at hg
      by_cases eb : b = i
      · subst eb
        rw [putF_same]
        intro hg'
        rcases ho with ho | ho
        · rw [ho] at hg'
          exact h.ne a b ha hb hab g hg hg'
        · rw [ho] at hg'
          injection hg' with hg'
          have := (row3_lt (h.row a ha) hg).2
          omega
      · rw [putF_ne _ _ eb]
        exact h.ne a b ha hb hab g hg

/-- A new row of one number. -/
theorem Sep.one {B n : Nat} {w : World} {F : Nat → Sl × List Int} (h : Sep B n w F) {i : Nat} (x : Int) (hi : i < n) : Sep B n (w.alloc (.cells #[.int .i64 x] 3)) (putF F i (⟨some ⟨w.heap.size, 0, none⟩, 1, 1⟩, [x])) := by
  refine h.turn _ _ hi ?_ (below1 w _).size (fun k hk _ => (below1 w _).block k hk) (.inr rfl)
  have := World.ownsRow_lit (base := B) (e := 3) (size := 1) w #[.int .i64 x] 1 h.lo (by decide) rfl
  exact this

/-- Rows that are new. -/
theorem Sep.nil (B n : Nat) (w : World) (h : B ≤ w.heap.size) : Sep B n w (fun _ => (⟨none, 0, 0⟩, [])) :=
  ⟨fun i _ => Row3.nil _ _, fun i j _ _ _ g hg => (by cases hg), h⟩
theorem Sep.base {B B' n : Nat} {w : World} {F : Nat → Sl × List Int} (h : Sep B n w F) (hb : B' ≤ B) : Sep B' n w F :=
  ⟨fun i hi => own_base (h.row i hi) hb, h.ne, Nat.le_trans hb h.lo⟩

section
variable {P : Program} {ops : Array Oper} {Q : Exit → Act → World → Prop}

theorem wpOp_plain {i : Nat} {o : Oper} {a : Act} {w : World} {K : Act → World → Prop} (ho : ops[i]? = some o) (hg : o.guard = none) (h : o.wp P a w K Q) : wpOp P ops Q i K a w := by
  unfold wpOp
  rw [ho]
  simp only
  rw [if_pos (by simp [Region.wanted, hg])]
  exact .inl h

theorem wpOp_value {i : Nat} {o : Oper} {a : Act} {w w' : World} {v : Value} {K : Act → World → Prop} (ho : ops[i]? = some o) (hg : o.guard = none) (hr : (execOp a.eval o).run P w = .ok (.value v) w') (h : K (a.put o.dst v) w') : wpOp P ops Q i K a w := by
  refine wpOp_plain ho hg ?_
  unfold Oper.wp
  rw [hr]
  exact h

/-- append of one number to one of the rows. -/
theorem wpOp_append {i : Nat} {o : Oper} {a : Act} {w : World} {K : Act → World → Prop} (ho : ops[i]? = some o) (hgd : o.guard = none) (s x : Operand) (t : TypeId)
    (hop : o.op = Op.call { callee := Callee.builtin Builtin.append, args := #[s, x], argTypes := #[t, t] }) (ht : P.underlying t = some (.slice 3)) (hI : (P.info? 3).map (fun i => (i.zero, i.size, i.bytes)) = some (some (.int .i64 0), 1, 8))
    {B n : Nat} {F : Nat → Sl × List Int} (hF : Sep B n w F) (k m : Nat) (v : Int) (hk : k < n) (hm : m < n) (hs : a.eval s = slQ (F k).1) (hx : a.eval x = slQ (F m).1) (hv : (F m).2 = [v]) (hn : (F k).2.length < 1000000)
    (hK : ∀ y w', Sep B n w' (putF F k (y, (F k).2 ++ [v])) → (∀ b, b ≤ B → Below b w w') → K (a.put o.dst (slQ y)) w') : wpOp P ops Q i K a w := by
  obtain ⟨i0, hi, hz0, hz1, hz2⟩ := info_parts hI
  have hR := hF.row k hk
  have hM := hF.row m hm
  rw [hv] at hM
  obtain ⟨ad, hA, hl, hb, hc⟩ := row_cell hM (k := 0) (by simp)
  have hxx : a.eval x = .slice (some ad) 1 (F m).1.c := by rw [hx]; unfold slQ; rw [hA, hl]; rfl
  obtain ⟨v', w', hr, h2, h3, h4, h5⟩ := run_append_own_at (P := P) w B t o.type 3 i0 (.int .i64 0) 1 8 ht hi hz0 hz1 hz2 rfl (by decide) (slQ (F k).1) _ _ hR ad 1 (F m).1.c [.int .i64 v] rfl (fun j u hj => by
    match j, hj with
    | 0, hj => simp at hj; subst hj; exact hc) (fun u hu => by simp at hu; subst hu; rfl) (by unfold maxLen; omega) (by omega) hF.lo
  obtain ⟨Y, cY, rfl⟩ := slice_row h2
  refine wpOp_value ho hgd (v := slQ ⟨Y, (F k).2.length + 1, cY⟩) (w' := w') ?_ ?_
  · simp [execOp, hop, resolve, invoke, builtin, hs, hxx, hr, Result.andThen]
  · have hRow : Row3 w' B ⟨Y, (F k).2.length + 1, cY⟩ ((F k).2 ++ [v]) := by
      unfold Row3
      rw [List.length_append, I_append]
      exact h2
    refine hK _ w' (hF.turn _ _ hk hRow h3.size (fun q hq hne => h3.block q hq hne) h5) (fun b hb => ?_)
    exact ⟨h3.os, h3.tape, h3.output, h3.size, fun q hq => h3.block q (by have := hF.lo; omega) (fun e => by have := (own_lt' hR e.symm).1; omega)⟩
end

/-! ### Rows told as a list -/
def fam (l : List (Sl × List Int)) : Nat → Sl × List Int := fun i => l.getD i (⟨none, 0, 0⟩, [])
def SepL (B : Nat) (w : World) (l : List (Sl × List Int)) : Prop := Sep B l.length w (fam l)
theorem Sep.congr {B n : Nat} {w : World} {F G : Nat → Sl × List Int} (h : Sep B n w F) (e : ∀ i, i < n → F i = G i) : Sep B n w G :=
  ⟨fun i hi => e i hi ▸ h.row i hi, fun i j hi hj hne g => by rw [← e i hi, ← e j hj]; exact h.ne i j hi hj hne g, h.lo⟩
theorem fam_at {l : List (Sl × List Int)} {k : Nat} {x : Sl × List Int} (h : l[k]? = some x) : fam l k = x := by unfold fam; rw [List.getD_eq_getElem?_getD, h]; rfl
theorem SepL.row {B : Nat} {w : World} {l : List (Sl × List Int)} (h : SepL B w l) {k : Nat} {y : Sl} {L : List Int} (hk : l[k]? = some (y, L)) : Row3 w B y L := by
  have := Sep.row h k (List.getElem?_eq_some_iff.1 hk).1
  rw [fam_at hk] at this
  exact this
theorem SepL.below {B : Nat} {w w' : World} {l : List (Sl × List Int)} (h : SepL B w l) (b : Below w.heap.size w w') : SepL B w' l := Sep.below h b
theorem SepL.lo {B : Nat} {w : World} {l : List (Sl × List Int)} (h : SepL B w l) : B ≤ w.heap.size := Sep.lo h
theorem fam_set {l : List (Sl × List Int)} {k : Nat} (x : Sl × List Int) (hk : k < l.length) (i : Nat) : putF (fam l) k x i = fam (l.set k x) i := by
  unfold putF fam
  rw [List.getD_eq_getElem?_getD, List.getD_eq_getElem?_getD, List.getElem?_set]
  by_cases h : i = k
  · subst h; simp [hk]
  · rw [if_neg h, if_neg (fun e => h e.symm)]
theorem SepL.turn {B : Nat} {w w' : World} {l : List (Sl × List Int)} (h : SepL B w l) {k : Nat} {y0 : Sl} {L0 : List Int} (hk : l[k]? = some (y0, L0)) (y : Sl) (L : List Int) (hR : Row3 w' B y L) (hs : w.heap.size ≤ w'.heap.size)
    (hb : ∀ q, q < w.heap.size → some q ≠ ownB y0 → w'.heap[q]? = w.heap[q]?) (ho : ownB y = ownB y0 ∨ ownB y = some w.heap.size) : SepL B w' (l.set k (y, L)) := by
  have hlt := (List.getElem?_eq_some_iff.1 hk).1
  unfold SepL
  rw [List.length_set]
  refine Sep.congr (Sep.turn h y L hlt hR hs ?_ ?_) (fun i _ => fam_set _ hlt i)
  · rw [fam_at hk]; exact hb
  · rw [fam_at hk]; exact ho
theorem SepL.nil (B : Nat) (w : World) (h : B ≤ w.heap.size) : SepL B w [] := ⟨fun i hi => absurd hi (by simp), fun i j hi => absurd hi (by simp), h⟩
/-- One more row: a new one, or an empty one. -/
theorem SepL.cons {B : Nat} {w w' : World} {l : List (Sl × List Int)} (h : SepL B w l) (b : Below w.heap.size w w') {y : Sl} {L : List Int} (hR : Row3 w' B y L) (hn : ∀ g, ownB y = some g → w.heap.size ≤ g) : SepL B w' ((y, L) :: l) := by
  have h2 := h.below b
  refine ⟨fun i hi => ?_, fun i j hi hj hne g hg => ?_, h2.lo⟩
  · match i, hi with
    | 0, _ => exact hR
    | i + 1, hi => exact Sep.row h2 i (by simpa using hi)
  · match i, j, hi, hj, hne, hg with
    | 0, 0, _, _, hne, _ => exact absurd rfl hne
    | 0, j + 1, _, hj, _, hg =>
      intro e
      have h1 := hn g hg
      have := (own_lt' (Sep.row h j (by simpa using hj)) e).2
      omega
    | i + 1, 0, hi, _, _, hg =>
      intro e
      have h1 := hn g e
      have := (own_lt' (Sep.row h i (by simpa using hi)) hg).2
      omega
    | i + 1, j + 1, hi, hj, hne, hg => exact Sep.ne h2 i j (by simpa using hi) (by simpa using hj) (fun e => hne (by rw [e])) g hg

/-- append of one number to one of the rows, at the walk's operation: the number's box was made just before. -/
theorem wpList_append_sep {P : Program} {ops : Array Oper} {rest : List Oper} {o : Oper} {a : Act} {Q : Exit → Act → World → Prop} (hgd : o.guard = none) (s x : Operand) (t : TypeId)
    (ho : o.op = .call { callee := .builtin .append, args := #[s, x], argTypes := #[t, t] }) (ht : P.underlying t = some (.slice 3)) (hI : (P.info? 3).map (fun i => (i.zero, i.size, i.bytes)) = some (some (.int .i64 0), 1, 8))
    {B : Nat} {w : World} {l : List (Sl × List Int)} (hF : SepL B w l) (k : Nat) (y : Sl) (L : List Int) (v : Int) (hk : l[k]? = some (y, L)) (hs : a.eval s = .slice y.A y.n y.c) (hx : a.eval x = .slice (some ⟨w.heap.size, 0, none⟩) 1 1) (hn : L.length < 1000000)
    (h : ∀ (y' : Sl) w', SepL B w' (l.set k (y', L ++ [v])) → Below B w w' → wpList P ops Q rest (a.put o.dst (.slice y'.A y'.n y'.c)) w') :
    wpList P ops Q (o :: rest) a (w.alloc (.cells #[.int .i64 v] 3)) := by
  obtain ⟨i0, hi, hz0, hz1, hz2⟩ := info_parts hI
  have b1 := below1 w (.cells #[.int .i64 v] 3)
  have hF1 := hF.below b1
  have hR := hF1.row hk
  refine wpList_plain hgd fun K hK => ?_
  obtain ⟨v', w', hr, h2, h3, h4, h5⟩ := run_append_own_at (P := P) (w.alloc (.cells #[.int .i64 v] 3)) B t o.type 3 i0 (.int .i64 0) 1 8 ht hi hz0 hz1 hz2 rfl (by decide) (.slice y.A y.n y.c) _ _ hR ⟨w.heap.size, 0, none⟩ 1 1 [.int .i64 v] rfl (new1_cells' w (.int .i64 v) 3) (fun u hu => by simp at hu; subst hu; rfl) (by unfold maxLen; omega) (by omega) hF1.lo
  obtain ⟨Y, cY, rfl⟩ := slice_row h2
  unfold Oper.wp execOp
  simp only [ho, resolve, invoke, builtin, Sem.run_bind, Sem.run_pure, Result.andThen_ok, List.map_toArray, List.map_cons, List.map_nil, hs, hx, hr]
  have hRow : Row3 w' B ⟨Y, L.length + 1, cY⟩ (L ++ [v]) := by
    unfold Row3
    rw [List.length_append, I_append]
    exact h2
  refine hK _ _ (h ⟨Y, L.length + 1, cY⟩ w' (hF1.turn hk _ _ hRow h3.size (fun q hq hne => h3.block q hq hne) h5) ?_)
  have b2 : Below B (w.alloc (.cells #[.int .i64 v] 3)) w' := ⟨h3.os, h3.tape, h3.output, h3.size, fun q hq => h3.block q (by have := hF1.lo; omega) (fun e => by have := (own_lt' hR e.symm).1; omega)⟩
  exact (b1.mono hF.lo).trans b2
end Go.Proofs.YtkhmocbfkpbpfaaGreatDoor

/- Contract of the document's Local (layer 10): shared by layers 10 to 22. -/
namespace Go.Proofs.YtkhmocbfkpbpfaaGreatDoor
open Go.RowKit Go.Sort

/-- A constraint whose places are variables by themselves. -/
def localE (c : ConL) : ConL := { c with A := mkL (fun i => (i : Int)) c.A.length, B := mkL (fun i => (c.A.length : Int) + (i : Int)) c.B.length }
theorem grow_box {G : Nat} {wl wr w7 : World} {u : Array Value} {t : TypeId} {y y' : Sl} {n : Nat} {xs : List Value} {x z : Value} {o : Obj} (k : Kp G wl wr) (hb : wr.heap[G]? = some (.cells u t (0, 0))) (hG : G < wl.heap.size)
    (hO : wr.ownsRow wl.heap.size 3 1 (.slice y.A y.n y.c) n xs) (hg : (wr.alloc o).grownBy w7 (Value.slice y.A y.n y.c).ownBlock) (h7 : w7.ownsRow wl.heap.size 3 1 (.slice y'.A y'.n y'.c) (n + 1) (xs ++ [x])) (j : Nat) :
    w7.heap[G]? = some (.cells u t (0, 0)) ∧ Kp G wl (w7.setCell ⟨G, j, none⟩ z) ∧ (w7.setCell ⟨G, j, none⟩ z).heap[G]? = some (.cells (u.setIfInBounds j z) t (0, 0)) ∧ (w7.setCell ⟨G, j, none⟩ z).ownsRow wl.heap.size 3 1 (.slice y'.A y'.n y'.c) (n + 1) (xs ++ [x]) := by
  have hb7 := box_grown' hb hg (fun k e => by have := (own_lt' hO e).1; omega)
  have k7 : Kp G wl w7 := (k.alloc o).grown hg (fun j e => (own_lt' hO e).1)
  exact ⟨hb7, k7.put j _, box_put hb7, own_keep' h7 (fun g hgx => Below.heap_setCell _ _ _ _ (by have := (own_lt' h7 hgx).1; simp only; omega))⟩

set_option maxHeartbeats 4000000 in
set_option maxRecDepth 100000 in
theorem local_any (v : ConV) (c : ConL) (w : World) (h : ConIn w v c) (ha : c.A.length ≤ 1000) (hb : c.B.length ≤ 1000) :
    Calls Tryz.prog 30 #[v.val c.kind c.K] w fun e w' => (∃ v' : ConV, e = .returned (v'.val c.kind c.K) ∧ ConIn w' v' (localE c)) ∧ Below w.heap.size w w' := by
  obtain ⟨i0, hi, hz0, hz1, hz2⟩ := info_parts Tryz.info3
  have HI := Lib.hid (And.intro hi (And.intro hz0 (And.intro hz1 hz2)))
  have HC := Lib.hid h
  have HAN := Lib.hid h.a.len
  have HBN := Lib.hid h.b.len
  have han : v.a.n ≤ 1000 := by rw [h.a.len]; exact ha
  have hbn : v.b.n ≤ 1000 := by rw [h.b.len]; exact hb
  clear hi hz0 hz1 hz2 h ha hb
  obtain ⟨G, hG⟩ : ∃ G, G = w.heap.size + 1 + 1 := ⟨_, rfl⟩
  obtain ⟨wL, hwL⟩ : ∃ wL, ((w.alloc (.cells (v.cells c.kind c.K) 32)).alloc (.cells zeroC 32)).alloc (.cells (({ v with a := ⟨none, 0, 0⟩, b := ⟨none, 0, 0⟩ } : ConV).cells c.kind c.K) 32) = wL := ⟨_, rfl⟩
  have e1 := heap_new w (.cells (v.cells c.kind c.K) 32)
  have e2 := heap_new (w.alloc (.cells (v.cells c.kind c.K) 32)) (.cells zeroC 32)
  have e3 := heap_new ((w.alloc (.cells (v.cells c.kind c.K) 32)).alloc (.cells zeroC 32)) (.cells (({ v with a := ⟨none, 0, 0⟩, b := ⟨none, 0, 0⟩ } : ConV).cells c.kind c.K) 32)
  have z1 : (w.alloc (.cells (v.cells c.kind c.K) 32)).heap.size = w.heap.size + 1 := by simp
  have z2 : ((w.alloc (.cells (v.cells c.kind c.K) 32)).alloc (.cells zeroC 32)).heap.size = w.heap.size + 1 + 1 := by simp
  rw [z1] at e2
  rw [z2, hwL, ← hG] at e3
  have HZ : Hid (wL.heap[w.heap.size]? = some (.cells (v.cells c.kind c.K) 32 (0, 0))) := Lib.hid (by
    rw [← hwL, Below.heap_alloc _ _ _ (by rw [z2]; omega), Below.heap_alloc _ _ _ (by rw [z1]; omega)]
    exact e1)
  have HO : Hid (wL.heap[w.heap.size + 1]? = some (.cells zeroC 32 (0, 0))) := Lib.hid (by
    rw [← hwL, Below.heap_alloc _ _ _ (by rw [z2]; omega)]
    exact e2)
  have HBX := Lib.hid e3
  have HLOW : Hid (Below w.heap.size w wL) := Lib.hid (hwL ▸ ((below1 w _).alloc (by simp) _).alloc (by simp; omega) _)
  have HSZ : Hid (wL.heap.size = w.heap.size + 1 + 1 + 1) := Lib.hid (by rw [← hwL]; simp)
  have HGS := Lib.hid hG
  have HWL := Lib.hid hwL
  clear e1 e2 e3 z1 z2 hwL
  go_enter Tryz.func30, Tryz.ntmps30
  go_upto_region 4 with fail
  change Code.wp _ _ _ _ (((w.alloc (.cells (v.cells c.kind c.K) 32)).alloc (.cells zeroC 32)).alloc (.cells (({ v with a := ⟨none, 0, 0⟩, b := ⟨none, 0, 0⟩ } : ConV).cells c.kind c.K) 32))
  rw [HWL.out, ← hG]
  clear HWL hG
  go_wp2_with fail
  go_loopw [4] (fun i wr => ∃ (k : Nat) (y : Sl), i = .int .i64 (k : Nat) ∧ k ≤ v.a.n ∧ Hid (Kp G wL wr) ∧ Hid (wr.heap[G]? = some (.cells (({ v with a := y, b := ⟨none, 0, 0⟩ } : ConV).cells c.kind c.K) 32 (0, 0))) ∧ Hid (wr.ownsRow wL.heap.size 3 1 (.slice y.A y.n y.c) k (I (mkL (fun i => (i : Int)) k)))) (fun i _ => v.a.n - (intOf i).toNat)
  case atStart => exact ⟨0, ⟨none, 0, 0⟩, rfl, by omega, Lib.hid (Kp.refl _ _), HBX, Lib.hid (World.ownsRow_nil _ _ _ _)⟩
  case round =>
    clear HBX
    obtain ⟨k, y, rfl, hk, HK, HB, HR⟩ := hrel
    have HZr : Hid (wr.heap[w.heap.size]? = some (.cells (v.cells c.kind c.K) 32 (0, 0))) := Lib.hid ((HK.out.block _ (by have := HSZ.out; omega) (by have := HGS.out; omega)).trans HZ.out)
    have q1 := box_cell HZr.out (j := 1) (x := .slice v.a.A v.a.n v.a.c) rfl
    by_cases hlt : k < v.a.n
    · have q2 := box_cell HB.out (j := 1) (x := .slice y.A y.n y.c) rfl
      have HT : Hid (I (mkL (fun i => (i : Int)) (k + 1)) = I (mkL (fun i => (i : Int)) k) ++ [.int .i64 (k : Nat)]) := Lib.hid (by rw [mkL_succ, I_append]; rfl)
      have Z5 := Lib.hid HK.out.size
      go_wp2_with (at_builtin; refine wpList_append_own _ rfl _ _ 30 rfl wL.heap.size 3 i0 (.int .i64 0) 1 8 Tryz.underlying30 HI.out.1 HI.out.2.1 HI.out.2.2.1 HI.out.2.2.2 rfl (by decide) _ _ _ rfl (HR.out.alloc _) ⟨_, 0, none⟩ 1 1 [.int .i64 (k : Nat)] rfl rfl ?c1 ?c2 ?c3 ?c4 ?c5 ?_)
      case c1 => intro j u hj; match j, hj with | 0, hj => simp at hj; subst hj; simp [Addr.add]
      case c2 => intro u hu; simp at hu; subst hu; rfl
      case c3 => unfold maxLen; omega
      case c4 => omega
      case c5 => have := Z5.out; simp; omega
      intro v' w7 hown' hgrow _
      obtain ⟨Y, kY, rfl⟩ := slice_row hown'
      obtain ⟨b7, k8, b8, r8⟩ := grow_box (y' := ⟨Y, k + 1, kY⟩) (z := .slice Y (k + 1) kY) HK.out HB.out (by have := HSZ.out; have := HGS.out; omega) HR.out hgrow hown' 1
      rw [← HT.out] at r8
      have K8 := Lib.hid k8
      have B8 : Hid ((w7.setCell ⟨G, 1, none⟩ (.slice Y (k + 1) kY)).heap[G]? = some (.cells (({ v with a := ⟨Y, k + 1, kY⟩, b := ⟨none, 0, 0⟩ } : ConV).cells c.kind c.K) 32 (0, 0))) := Lib.hid b8
      have R8 := Lib.hid r8
      have q7 := box_cell b7 (j := 1) (x := .slice y.A y.n y.c) rfl
      have f7 := box_free b7 1
      clear b7 k8 b8 r8 hown' hgrow HK HB HR HT q1 q2
      go_wp2_with fail
      go_roundw
      case rel => exact ⟨k + 1, ⟨Y, _, kY⟩, by go_num, by omega, K8, B8, R8⟩
      case measure => simp [intOf]; omega
    · obtain rfl : k = v.a.n := by omega
      have KA := HK
      have HXA := HB
      have RA := HR
      have q3 := box_cell HZr.out (j := 2) (x := .slice v.b.A v.b.n v.b.c) rfl
      clear HK HB HR hlt
      obtain ⟨wA, rfl⟩ : ∃ wA, wA = wr := ⟨_, rfl⟩
      have HSA : Hid (G < wA.heap.size ∧ w.heap.size + 1 + 1 + 1 ≤ wA.heap.size) := Lib.hid (by have := KA.out.size; have := HSZ.out; have := HGS.out; omega)
      go_wp2_with fail
      clear q1 q3
      go_loopw [5] (fun i wr => ∃ (k : Nat) (z : Sl), i = .int .i64 (k : Nat) ∧ k ≤ v.b.n ∧ Hid (Kp G wA wr) ∧ Hid (wr.heap[G]? = some (.cells (({ v with a := y, b := z } : ConV).cells c.kind c.K) 32 (0, 0))) ∧ Hid (wr.ownsRow wA.heap.size 3 1 (.slice z.A z.n z.c) k (I (mkL (fun i => ((v.a.n : Nat) : Int) + (i : Int)) k)))) (fun i _ => v.b.n - (intOf i).toNat)
      case atStart => exact ⟨0, ⟨none, 0, 0⟩, rfl, by omega, Lib.hid (Kp.refl _ _), HXA, Lib.hid (World.ownsRow_nil _ _ _ _)⟩
      case round =>
        clear HXA
        obtain ⟨j, z, rfl, hj, HK, HB, HR⟩ := hrel
        have HZs : Hid (wr.heap[w.heap.size]? = some (.cells (v.cells c.kind c.K) 32 (0, 0))) := Lib.hid ((HK.out.block _ (by have := HSA.out; omega) (by have := HGS.out; omega)).trans HZr.out)
        have q1 := box_cell HZs.out (j := 1) (x := .slice v.a.A v.a.n v.a.c) rfl
        have q3 := box_cell HZs.out (j := 2) (x := .slice v.b.A v.b.n v.b.c) rfl
        by_cases hlt : j < v.b.n
        · have q2 := box_cell HB.out (j := 2) (x := .slice z.A z.n z.c) rfl
          have HT : Hid (I (mkL (fun i => ((v.a.n : Nat) : Int) + (i : Int)) (j + 1)) = I (mkL (fun i => ((v.a.n : Nat) : Int) + (i : Int)) j) ++ [.int .i64 (((v.a.n : Nat) : Int) + (j : Nat))]) := Lib.hid (by rw [mkL_succ, I_append]; rfl)
          have Z5 := Lib.hid HK.out.size
          have ws : IntKind.i64.wrap (((v.a.n : Nat) : Int) + (j : Nat)) = ((v.a.n : Nat) : Int) + (j : Nat) := IntWalk.i64_in _ (by omega)
          go_wp2_with (at_builtin; refine wpList_append_own _ rfl _ _ 30 rfl wA.heap.size 3 i0 (.int .i64 0) 1 8 Tryz.underlying30 HI.out.1 HI.out.2.1 HI.out.2.2.1 HI.out.2.2.2 rfl (by decide) _ _ _ rfl (HR.out.alloc _) ⟨_, 0, none⟩ 1 1 [.int .i64 (((v.a.n : Nat) : Int) + (j : Nat))] rfl rfl ?c1 ?c2 ?c3 ?c4 ?c5 ?_)
          case c1 => intro j u hj; match j, hj with | 0, hj => simp at hj; subst hj; simp [Addr.add]
          case c2 => intro u hu; simp at hu; subst hu; rfl
          case c3 => unfold maxLen; omega
          case c4 => omega
          case c5 => have := Z5.out; simp; omega
          intro v' w7 hown' hgrow _
          obtain ⟨Y, kY, rfl⟩ := slice_row hown'
          obtain ⟨b7, k8, b8, r8⟩ := grow_box (y' := ⟨Y, j + 1, kY⟩) (z := .slice Y (j + 1) kY) HK.out HB.out HSA.out.1 HR.out hgrow hown' 2
          rw [← HT.out] at r8
          have K8 := Lib.hid k8
          have B8 : Hid ((w7.setCell ⟨G, 2, none⟩ (.slice Y (j + 1) kY)).heap[G]? = some (.cells (({ v with a := y, b := ⟨Y, j + 1, kY⟩ } : ConV).cells c.kind c.K) 32 (0, 0))) := Lib.hid b8
          have R8 := Lib.hid r8
          have q7 := box_cell b7 (j := 2) (x := .slice z.A z.n z.c) rfl
          have f7 := box_free b7 2
          clear b7 k8 b8 r8 hown' hgrow HK HB HR HT q1 q2 q3 ws
          go_wp2_with fail
          go_roundw
          case rel => exact ⟨j + 1, ⟨Y, _, kY⟩, by go_num, by omega, K8, B8, R8⟩
          case measure => simp [intOf]; omega
        · obtain rfl : j = v.b.n := by omega
          have HOr : Hid (wr.heap[w.heap.size + 1]? = some (.cells zeroC 32 (0, 0))) := Lib.hid ((HK.out.block _ (by have := HSA.out; omega) (by have := HGS.out; omega)).trans ((KA.out.block _ (by have := HSZ.out; omega) (by have := HGS.out; omega)).trans HO.out))
          have x0 := box_cell HB.out (j := 0) (x := .int .i64 c.kind) rfl
          have x1 := box_cell HB.out (j := 1) (x := .slice y.A y.n y.c) rfl
          have x2 := box_cell HB.out (j := 2) (x := .slice z.A z.n z.c) rfl
          have x3 := box_cell HB.out (j := 3) (x := .slice v.c.A v.c.n v.c.c) rfl
          have x4 := box_cell HB.out (j := 4) (x := .slice v.d.A v.d.n v.d.c) rfl
          have x5 := box_cell HB.out (j := 5) (x := .slice v.e.A v.e.n v.e.c) rfl
          have x6 := box_cell HB.out (j := 6) (x := .int .i64 c.K) rfl
          have x7 := box_cell HB.out (j := 7) (x := .slice v.r.A v.r.n v.r.c) rfl
          have y0 := box_cell HOr.out (j := 0) rfl
          have y1 := box_cell HOr.out (j := 1) rfl
          have y2 := box_cell HOr.out (j := 2) rfl
          have y3 := box_cell HOr.out (j := 3) rfl
          have y4 := box_cell HOr.out (j := 4) rfl
          have y5 := box_cell HOr.out (j := 5) rfl
          have y6 := box_cell HOr.out (j := 6) rfl
          have y7 := box_cell HOr.out (j := 7) rfl
          have f0 := box_free HOr.out 0
          have f1 := box_free HOr.out 1
          have f2 := box_free HOr.out 2
          have f3 := box_free HOr.out 3
          have f4 := box_free HOr.out 4
          have f5 := box_free HOr.out 5
          have f6 := box_free HOr.out 6
          have f7 := box_free HOr.out 7
          obtain ⟨hQ, kQ⟩ := out8 HOr.out (.int .i64 c.kind) (.slice y.A y.n y.c) (.slice z.A z.n z.c) (.slice v.c.A v.c.n v.c.c) (.slice v.d.A v.d.n v.d.c) (.slice v.e.A v.e.n v.e.c) (.int .i64 c.K) (.slice v.r.A v.r.n v.r.c)
          have hlowr : Below w.heap.size w wr := (HLOW.out.trans (KA.out.below (by have := HSZ.out; omega) (by have := HGS.out; omega))).trans (HK.out.below (by have := HSA.out; omega) (by have := HGS.out; omega))
          have hlowQ := hlowr.trans (kQ.below (by have := HK.out.size; have := HSA.out; omega) (by omega))
          have rA : Row3 wr wL.heap.size y (mkL (fun i => (i : Int)) v.a.n) := by
            unfold Row3
            rw [mkL_len]
            exact own_keep' RA.out fun g hg => by have := own_lt' RA.out hg; exact HK.out.block g this.2 (by have := HSZ.out; have := HGS.out; omega)
          have rB : Row3 wr wA.heap.size z (mkL (fun i => ((v.a.n : Nat) : Int) + (i : Int)) v.b.n) := by
            unfold Row3
            rw [mkL_len]
            exact HR.out
          have rA2 := rA.kp kQ (by have := HSZ.out; omega)
          have rB2 := rB.kp kQ (by have := HSA.out; omega)
          have hcc := HC.out.below hlowQ
          have hE : localE c = { c with A := mkL (fun i => (i : Int)) v.a.n, B := mkL (fun i => ((v.a.n : Nat) : Int) + (i : Int)) v.b.n } := by unfold localE; rw [HAN.out, HBN.out]
          have HCON : Hid (ConIn _ ({ v with a := y, b := z } : ConV) (localE c)) := Lib.hid (by
            rw [hE]
            exact ⟨ints_own rA2 (by rw [mkL_len]; omega), ints_own rB2 (by rw [mkL_len]; omega), hcc.c, hcc.d, hcc.e, hcc.r⟩)
          have HLQ := Lib.hid hlowQ
          have q0 := box_cell (j := 0) hQ rfl
          have q1 := box_cell (j := 1) hQ rfl
          have q2 := box_cell (j := 2) hQ rfl
          have q3 := box_cell (j := 3) hQ rfl
          have q4 := box_cell (j := 4) hQ rfl
          have q5 := box_cell (j := 5) hQ rfl
          have q6 := box_cell (j := 6) hQ rfl
          have q7 := box_cell (j := 7) hQ rfl
          have HQ := Lib.hid (And.intro q0 (And.intro q1 (And.intro q2 (And.intro q3 (And.intro q4 (And.intro q5 (And.intro q6 q7)))))))
          have q3 := box_cell HZs.out (j := 2) (x := .slice v.b.A v.b.n v.b.c) rfl
          clear q0 q1 q2 q4 q5 q6 q7 hQ kQ hlowr hlowQ rA rB rA2 rB2 hcc hE hlt HK HB HR KA RA
          go_wp2_with fail
          obtain ⟨q0, q1, q2, q3, q4, q5, q6, q7⟩ := HQ.out
          exact bodyPost_ret (v := ({ v with a := y, b := z } : ConV).val c.kind c.K) (by simp [results, Tryz.results30, go_sem, q0, q1, q2, q3, q4, q5, q6, q7]) rfl ⟨⟨_, rfl, HCON.out⟩, HLQ.out⟩
end Go.Proofs.YtkhmocbfkpbpfaaGreatDoor

/- Rows of numbers of one's own, no two in one block; an append to one of them, inside a region by its operations. No walk. -/
import Derived.Test.YtkhmocbfkpbpfaaGreatDoorMkr
import Derived.Test.YtkhmocbfkpbpfaaGreatDoorMnum
import Derived.Maps.AppendAt
namespace Go.Proofs.YtkhmocbfkpbpfaaGreatDoor
open Go.RowKit

abbrev ownB (y : Sl) : Option Nat := (Value.slice y.A y.n y.c).ownBlock
abbrev slQ (y : Sl) : Value := .slice y.A y.n y.c

/-- So many rows, no two in one block. -/
structure Sep (B n : Nat) (w : World) (F : Nat → Sl × List Int) : Prop where
  row : ∀ i, i < n → Row3 w B (F i).1 (F i).2
  ne : ∀ i j, i < n → j < n → i ≠ j → ∀ g, ownB (F i).1 = some g → ownB (F j).1 ≠ some g
  lo : B ≤ w.heap.size

def putF (F : Nat → Sl × List Int) (i : Nat) (x : Sl × List Int) : Nat → Sl × List Int := fun j => if j = i then x else F j
theorem putF_same (F : Nat → Sl × List Int) (i : Nat) (x : Sl × List Int) : putF F i x i = x := by simp [putF]
theorem putF_ne (F : Nat → Sl × List Int) {i j : Nat} (x : Sl × List Int) (h : j ≠ i) : putF F i x j = F j := by simp [putF, h]

theorem row3_lt {w : World} {B : Nat} {y : Sl} {L : List Int} (h : Row3 w B y L) {g : Nat} (hg : ownB y = some g) : B ≤ g ∧ g < w.heap.size := own_lt' h hg

theorem Sep.below {B n : Nat} {w w' : World} {F : Nat → Sl × List Int} (h : Sep B n w F) (b : Below w.heap.size w w') : Sep B n w' F :=
  ⟨fun i hi => own_keep' (h.row i hi) fun g hg => b.block g (own_lt' (h.row i hi) hg).2, h.ne, Nat.le_trans h.lo b.size⟩

/-- One row becomes another one: its block is its own as before, or a new one. -/
theorem Sep.turn {B n : Nat} {w w' : World} {F : Nat → Sl × List Int} (h : Sep B n w F) {i : Nat} (y : Sl) (L : List Int) (hi : i < n) (hR : Row3 w' B y L) (hs : w.heap.size ≤ w'.heap.size)
    (hk : ∀ k, k < w.heap.size → some k ≠ ownB (F i).1 → w'.heap[k]? = w.heap[k]?) (ho : ownB y = ownB (F i).1 ∨ ownB y = some w.heap.size) : Sep B n w' (putF F i (y, L)) := by
  refine ⟨fun j hj => ?_, fun a b ha hb hab g hg => ?_, Nat.le_trans h.lo hs⟩
  · by_cases e : j = i
    · subst e; rw [putF_same]; exact hR
    · rw [putF_ne _ _ e]
      exact own_keep' (h.row j hj) fun g hg => hk g (own_lt' (h.row j hj) hg).2 fun e' => h.ne j i hj hi e g hg e'.symm
  · by_cases ea : a = i
    · subst ea
      rw [putF_same] at hg
      have eb : b ≠ a := fun e => hab e.symm
      rw [putF_ne _ _ eb]
      intro hg'
      rcases ho with ho | ho
      · rw [ho] at hg
        exact h.ne a b ha hb hab g hg hg'
      · rw [ho] at hg
        injection hg with hg
        have := (row3_lt (h.row b hb) hg').2
        omega
    · rw [putF_ne _ _ ea] at hg
      by_cases eb : b = i
      · subst eb
        rw [putF_same]
        intro hg'
        rcases ho with ho | ho
        · rw [ho] at hg'
          exact h.ne a b ha hb hab g hg hg'
        · rw [ho] at hg'
          injection hg' with hg'
          have := (row3_lt (h.row a ha) hg).2
          omega
      · rw [putF_ne _ _ eb]
        exact h.ne a b ha hb hab g hg

/-- A new row of one number. -/
theorem Sep.one {B n : Nat} {w : World} {F : Nat → Sl × List Int} (h : Sep B n w F) {i : Nat} (x : Int) (hi : i < n) : Sep B n (w.alloc (.cells #[.int .i64 x] 3)) (putF F i (⟨some ⟨w.heap.size, 0, none⟩, 1, 1⟩, [x])) := by
  refine h.turn _ _ hi ?_ (below1 w _).size (fun k hk _ => (below1 w _).block k hk) (.inr rfl)
  have := World.ownsRow_lit (base := B) (e := 3) (size := 1) w #[.int .i64 x] 1 h.lo (by decide) rfl
  exact this

/-- Rows that are new. -/
theorem Sep.nil (B n : Nat) (w : World) (h : B ≤ w.heap.size) : Sep B n w (fun _ => (⟨none, 0, 0⟩, [])) :=
  ⟨fun i _ => Row3.nil _ _, fun i j _ _ _ g hg => (by cases hg), h⟩
theorem Sep.base {B B' n : Nat} {w : World} {F : Nat → Sl × List Int} (h : Sep B n w F) (hb : B' ≤ B) : Sep B' n w F :=
  ⟨fun i hi => own_base (h.row i hi) hb, h.ne, Nat.le_trans hb h.lo⟩

section
variable {P : Program} {ops : Array Oper} {Q : Exit → Act → World → Prop}

theorem wpOp_plain {i : Nat} {o : Oper} {a : Act} {w : World} {K : Act → World → Prop} (ho : ops[i]? = some o) (hg : o.guard = none) (h : o.wp P a w K Q) : wpOp P ops Q i K a w := by
  unfold wpOp
  rw [ho]
  simp only
  rw [if_pos (by simp [Region.wanted, hg])]
  exact .inl h

theorem wpOp_value {i : Nat} {o : Oper} {a : Act} {w w' : World} {v : Value} {K : Act → World → Prop} (ho : ops[i]? = some o) (hg : o.guard = none) (hr : (execOp a.eval o).run P w = .ok (.value v) w') (h : K (a.put o.dst v) w') : wpOp P ops Q i K a w := by
  refine wpOp_plain ho hg ?_
  unfold Oper.wp
  rw [hr]
  exact h

/-- append of one number to one of the rows. -/
theorem wpOp_append {i : Nat} {o : Oper} {a : Act} {w : World} {K : Act → World → Prop} (ho : ops[i]? = some o) (hgd : o.guard = none) (s x : Operand) (t : TypeId)
    (hop : o.op = Op.call { callee := Callee.builtin Builtin.append, args := #[s, x], argTypes := #[t, t] }) (ht : P.underlying t = some (.slice 3)) (hI : (P.info? 3).map (fun i => (i.zero, i.size, i.bytes)) = some (some (.int .i64 0), 1, 8))
    {B n : Nat} {F : Nat → Sl × List Int} (hF : Sep B n w F) (k m : Nat) (v : Int) (hk : k < n) (hm : m < n) (hs : a.eval s = slQ (F k).1) (hx : a.eval x = slQ (F m).1) (hv : (F m).2 = [v]) (hn : (F k).2.length < 1000000)
    (hK : ∀ y w', Sep B n w' (putF F k (y, (F k).2 ++ [v])) → (∀ b, b ≤ B → Below b w w') → K (a.put o.dst (slQ y)) w') : wpOp P ops Q i K a w := by
  obtain ⟨i0, hi, hz0, hz1, hz2⟩ := info_parts hI
  have hR := hF.row k hk
  have hM := hF.row m hm
  rw [hv] at hM
  obtain ⟨ad, hA, hl, hb, hc⟩ := row_cell hM (k := 0) (by simp)
  have hxx : a.eval x = .slice (some ad) 1 (F m).1.c := by rw [hx]; unfold slQ; rw [hA, hl]; rfl
  obtain ⟨v', w', hr, h2, h3, h4, h5⟩ := run_append_own_at (P := P) w B t o.type 3 i0 (.int .i64 0) 1 8 ht hi hz0 hz1 hz2 rfl (by decide) (slQ (F k).1) _ _ hR ad 1 (F m).1.c [.int .i64 v] rfl (fun j u hj => by
    match j, hj with
    | 0, hj => simp at hj; subst hj; exact hc) (fun u hu => by simp at hu; subst hu; rfl) (by unfold maxLen; omega) (by omega) hF.lo
  obtain ⟨Y, cY, rfl⟩ := slice_row h2
  refine wpOp_value ho hgd (v := slQ ⟨Y, (F k).2.length + 1, cY⟩) (w' := w') ?_ ?_
  · simp [execOp, hop, resolve, invoke, builtin, hs, hxx, hr, Result.andThen]
  · have hRow : Row3 w' B ⟨Y, (F k).2.length + 1, cY⟩ ((F k).2 ++ [v]) := by
      unfold Row3
      rw [List.length_append, I_append]
      exact h2
    refine hK _ w' (hF.turn _ _ hk hRow h3.size (fun q hq hne => h3.block q hq hne) h5) (fun b hb => ?_)
    exact ⟨h3.os, h3.tape, h3.output, h3.size, fun q hq => h3.block q (by have := hF.lo; omega) (fun e => by have := (own_lt' hR e.symm).1; omega)⟩
end

/-! ### Rows told as a list -/
def fam (l : List (Sl × List Int)) : Nat → Sl × List Int := fun i => l.getD i (⟨none, 0, 0⟩, [])
def SepL (B : Nat) (w : World) (l : List (Sl × List Int)) : Prop := Sep B l.length w (fam l)
theorem Sep.congr {B n : Nat} {w : World} {F G : Nat → Sl × List Int} (h : Sep B n w F) (e : ∀ i, i < n → F i = G i) : Sep B n w G :=
  ⟨fun i hi => e i hi ▸ h.row i hi, fun i j hi hj hne g => by rw [← e i hi, ← e j hj]; exact h.ne i j hi hj hne g, h.lo⟩
theorem fam_at {l : List (Sl × List Int)} {k : Nat} {x : Sl × List Int} (h : l[k]? = some x) : fam l k = x := by unfold fam; rw [List.getD_eq_getElem?_getD, h]; rfl
theorem SepL.row {B : Nat} {w : World} {l : List (Sl × List Int)} (h : SepL B w l) {k : Nat} {y : Sl} {L : List Int} (hk : l[k]? = some (y, L)) : Row3 w B y L := by
  have := Sep.row h k (List.getElem?_eq_some_iff.1 hk).1
  rw [fam_at hk] at this
  exact this
theorem SepL.below {B : Nat} {w w' : World} {l : List (Sl × List Int)} (h : SepL B w l) (b : Below w.heap.size w w') : SepL B w' l := Sep.below h b
theorem SepL.lo {B : Nat} {w : World} {l : List (Sl × List Int)} (h : SepL B w l) : B ≤ w.heap.size := Sep.lo h
theorem fam_set {l : List (Sl × List Int)} {k : Nat} (x : Sl × List Int) (hk : k < l.length) (i : Nat) : putF (fam l) k x i = fam (l.set k x) i := by
  unfold putF fam
  rw [List.getD_eq_getElem?_getD, List.getD_eq_getElem?_getD, List.getElem?_set]
  by_cases h : i = k
  · subst h; simp [hk]
  · rw [if_neg h, if_neg (fun e => h e.symm)]
theorem SepL.turn {B : Nat} {w w' : World} {l : List (Sl × List Int)} (h : SepL B w l) {k : Nat} {y0 : Sl} {L0 : List Int} (hk : l[k]? = some (y0, L0)) (y : Sl) (L : List Int) (hR : Row3 w' B y L) (hs : w.heap.size ≤ w'.heap.size)
    (hb : ∀ q, q < w.heap.size → some q ≠ ownB y0 → w'.heap[q]? = w.heap[q]?) (ho : ownB y = ownB y0 ∨ ownB y = some w.heap.size) : SepL B w' (l.set k (y, L)) := by
  have hlt := (List.getElem?_eq_some_iff.1 hk).1
  unfold SepL
  rw [List.length_set]
  refine Sep.congr (Sep.turn h y L hlt hR hs ?_ ?_) (fun i _ => fam_set _ hlt i)
  · rw [fam_at hk]; exact hb
  · rw [fam_at hk]; exact ho
theorem SepL.nil (B : Nat) (w : World) (h : B ≤ w.heap.size) : SepL B w [] := ⟨fun i hi => absurd hi (by simp), fun i j hi => absurd hi (by simp), h⟩
/-- One more row: a new one, or an empty one. -/
theorem SepL.cons {B : Nat} {w w' : World} {l : List (Sl × List Int)} (h : SepL B w l) (b : Below w.heap.size w w') {y : Sl} {L : List Int} (hR : Row3 w' B y L) (hn : ∀ g, ownB y = some g → w.heap.size ≤ g) : SepL B w' ((y, L) :: l) := by
  have h2 := h.below b
  refine ⟨fun i hi => ?_, fun i j hi hj hne g hg => ?_, h2.lo⟩
  · match i, hi with
    | 0, _ => exact hR
    | i + 1, hi => exact Sep.row h2 i (by simpa using hi)
  · match i, j, hi, hj, hne, hg with
    | 0, 0, _, _, hne, _ => exact absurd rfl hne
    | 0, j + 1, _, hj, _, hg =>
      intro e
      have h1 := hn g hg
      have := (own_lt' (Sep.row h j (by simpa using hj)) e).2
      omega
    | i + 1, 0, hi, _, _, hg =>
      intro e
      have h1 := hn g e
      have := (own_lt' (Sep.row h i (by simpa using hi)) hg).2
      omega
    | i + 1, j + 1, hi, hj, hne, hg => exact Sep.ne h2 i j (by simpa using hi) (by simpa using hj) (fun e => hne (by rw [e])) g hg

/-- append of one number to one of the rows, at the walk's operation: the number's box was made just before. -/
theorem wpList_append_sep {P : Program} {ops : Array Oper} {rest : List Oper} {o : Oper} {a : Act} {Q : Exit → Act → World → Prop} (hgd : o.guard = none) (s x : Operand) (t : TypeId)
    (ho : o.op = .call { callee := .builtin .append, args := #[s, x], argTypes := #[t, t] }) (ht : P.underlying t = some (.slice 3)) (hI : (P.info? 3).map (fun i => (i.zero, i.size, i.bytes)) = some (some (.int .i64 0), 1, 8))
    {B : Nat} {w : World} {l : List (Sl × List Int)} (hF : SepL B w l) (k : Nat) (y : Sl) (L : List Int) (v : Int) (hk : l[k]? = some (y, L)) (hs : a.eval s = .slice y.A y.n y.c) (hx : a.eval x = .slice (some ⟨w.heap.size, 0, none⟩) 1 1) (hn : L.length < 1000000)
    (h : ∀ (y' : Sl) w', SepL B w' (l.set k (y', L ++ [v])) → Below B w w' → wpList P ops Q rest (a.put o.dst (.slice y'.A y'.n y'.c)) w') :
    wpList P ops Q (o :: rest) a (w.alloc (.cells #[.int .i64 v] 3)) := by
  obtain ⟨i0, hi, hz0, hz1, hz2⟩ := info_parts hI
  have b1 := below1 w (.cells #[.int .i64 v] 3)
  have hF1 := hF.below b1
  have hR := hF1.row hk
  refine wpList_plain hgd fun K hK => ?_
  obtain ⟨v', w', hr, h2, h3, h4, h5⟩ := run_append_own_at (P := P) (w.alloc (.cells #[.int .i64 v] 3)) B t o.type 3 i0 (.int .i64 0) 1 8 ht hi hz0 hz1 hz2 rfl (by decide) (.slice y.A y.n y.c) _ _ hR ⟨w.heap.size, 0, none⟩ 1 1 [.int .i64 v] rfl (new1_cells' w (.int .i64 v) 3) (fun u hu => by simp at hu; subst hu; rfl) (by unfold maxLen; omega) (by omega) hF1.lo
  obtain ⟨Y, cY, rfl⟩ := slice_row h2
  unfold Oper.wp execOp
  simp only [ho, resolve, invoke, builtin, Sem.run_bind, Sem.run_pure, Result.andThen_ok, List.map_toArray, List.map_cons, List.map_nil, hs, hx, hr]
  have hRow : Row3 w' B ⟨Y, L.length + 1, cY⟩ (L ++ [v]) := by
    unfold Row3
    rw [List.length_append, I_append]
    exact h2
  refine hK _ _ (h ⟨Y, L.length + 1, cY⟩ w' (hF1.turn hk _ _ hRow h3.size (fun q hq hne => h3.block q hq hne) h5) ?_)
  have b2 : Below B (w.alloc (.cells #[.int .i64 v] 3)) w' := ⟨h3.os, h3.tape, h3.output, h3.size, fun q hq => h3.block q (by have := hF1.lo; omega) (fun e => by have := (own_lt' hR e.symm).1; omega)⟩
  exact (b1.mono hF.lo).trans b2
end Go.Proofs.YtkhmocbfkpbpfaaGreatDoor

/- What the document's Make makes has right numbers. No walk. Made by tools/genmkr2.py. -/
namespace Go.Proofs.YtkhmocbfkpbpfaaGreatDoor
open Go.RowKit

theorem mkL_none {f : Nat → Int} {n : Nat} {p : Int → Bool} (h : ∀ i, i < n → p (f i) = false) : (mkL f n).any p = false := by
  rw [List.any_eq_false]
  intro v hv
  simp only [mkL, List.mem_map, List.mem_range] at hv
  obtain ⟨i, hi, rfl⟩ := hv
  rw [h i hi]
  simp
theorem out_no {lo hi z : Int} (h : lo ≤ z ∧ z ≤ hi) : outB lo hi z = false := by unfold outB; simp; omega
theorem numE_in (l : List Int) (fr : Nat) (least wide : Int) (hw : 1 ≤ wide) (i : Nat) : -wide < numE l fr least wide i ∧ numE l fr least wide i < wide ∧ (0 ≤ least → 0 ≤ numE l fr least wide i) := by
  unfold numE
  have := tmod_in (if fr + i < l.length then l.getD (fr + i) 0 else 1) wide hw
  generalize (if fr + i < l.length then l.getD (fr + i) 0 else 1).tmod wide = t at *
  unfold absIf
  split <;> omega
theorem n5 (lc : List Int) (fr m : Nat) : (mkL (numE lc fr (-1) 5) m).any (outB (-1000000) 1000000) = false := mkL_none fun i _ => out_no (by have := numE_in lc fr (-1) 5 (by omega) i; omega)
theorem n4 (lc : List Int) (fr m : Nat) : (mkL (numE lc fr (-1) 4) m).any (outB (-1000000) 1000000) = false := mkL_none fun i _ => out_no (by have := numE_in lc fr (-1) 4 (by omega) i; omega)
theorem p4 (lc : List Int) (fr m : Nat) : (mkL (numE lc fr 0 4) m).any (outB 0 1000000) = false := mkL_none fun i _ => out_no (by have := numE_in lc fr 0 4 (by omega) i; omega)
theorem p2 (lc : List Int) (fr m : Nat) : (mkL (numE lc fr 0 2) m).any (outB 0 1000000) = false := mkL_none fun i _ => out_no (by have := numE_in lc fr 0 2 (by omega) i; omega)
theorem g3 (K : Int) (m : Nat) (hm : m ≤ 3) : (mkL (gcF K) m).any (outB (-1000000) 1000000) = false := mkL_none fun i hi => out_no (by unfold gcF; have := tmod_in K 3 (by omega); omega)
theorem ge_in (lc : List Int) (ch : Int) (hch : 0 ≤ ch) (i : Nat) : numE lc 0 0 2 i ≤ geF lc ch i ∧ geF lc ch i ≤ 3 := by
  unfold geF
  have h1 := numE_in lc 0 0 2 (by omega) i
  have h2 := tmod_in (ch / 2 ^ i) 3 (by omega)
  have h3 : 0 ≤ (ch / 2 ^ i).tmod 3 := Int.tmod_nonneg _ (Int.ediv_nonneg hch (Int.le_of_lt (Int.pow_pos (by decide))))
  omega
theorem g2 (lc : List Int) (ch : Int) (hch : 0 ≤ ch) (m : Nat) : (mkL (geF lc ch) m).any (outB 0 1000000) = false := mkL_none fun i _ => out_no (by have := ge_in lc ch hch i; have := numE_in lc 0 0 2 (by omega) i; omega)
theorem k12 (K : Int) : outB (-9999999999) 9999999999 (K.tmod 12) = false := out_no (by have := tmod_in K 12 (by omega); omega)
theorem k0 : outB (-9999999999) 9999999999 0 = false := by decide
theorem kn12 (K : Int) : outB 0 9999999999 (negI (K.tmod 12)) = false := out_no (by unfold negI; have := tmod_in K 12 (by omega); split <;> omega)
theorem r4 (lc : List Int) (n m : Nat) : ((List.range m).map (rowF lc n)).any (fun r => r.any (outB (-1000000) 1000000)) = false := by
  rw [List.any_eq_false]
  intro v hv
  obtain ⟨i, _, rfl⟩ := List.mem_map.1 hv
  unfold rowF
  rw [n4]
  simp

set_option linter.unusedSimpArgs false in
set_option linter.unusedVariables false in
theorem mk_coefs1 (la lb lc : List Int) (K ch vars : Int) (n : Nat) : coefsB (s9 lc n (s8 lc K ch (s7 lc n (s6 K 1 (s5 lc (s4 lc 1 n (s3 lb vars 0 n (s2 lb vars 0 (s1 la vars n 1))))))))) = true := by
  unfold coefsB
  simp only [s1, s2, s3, s4, s5, s6, s7, s8, s9]
  simp [lowC, secD, lowK, n5, n4, p4, p2, k12, k0, kn12, -List.any_map, -List.any_eq_true, -List.any_eq_false, r4]

set_option linter.unusedSimpArgs false in
set_option linter.unusedVariables false in
theorem mk_coefs2 (la lb lc : List Int) (K ch vars : Int) (n : Nat) : coefsB (s9 lc n (s8 lc K ch (s7 lc n (s6 K 1 (s5 lc (s4 lc 1 n (s3 lb vars 0 n (s2 lb vars 0 (s1 la vars n 2))))))))) = true := by
  unfold coefsB
  simp only [s1, s2, s3, s4, s5, s6, s7, s8, s9]
  simp [lowC, secD, lowK, n5, n4, p4, p2, k12, k0, kn12, -List.any_map, -List.any_eq_true, -List.any_eq_false, r4]

set_option linter.unusedSimpArgs false in
set_option linter.unusedVariables false in
theorem mk_coefs3 (la lb lc : List Int) (K ch vars : Int) (n : Nat) : coefsB (s9 lc n (s8 lc K ch (s7 lc n (s6 K 1 (s5 lc (s4 lc 1 n (s3 lb vars 0 n (s2 lb vars 0 (s1 la vars n 3))))))))) = true := by
  unfold coefsB
  simp only [s1, s2, s3, s4, s5, s6, s7, s8, s9]
  simp [lowC, secD, lowK, n5, n4, p4, p2, k12, k0, kn12, -List.any_map, -List.any_eq_true, -List.any_eq_false, r4]

set_option linter.unusedSimpArgs false in
set_option linter.unusedVariables false in
theorem mk_coefs4 (la lb lc : List Int) (K ch vars : Int) (n : Nat) : coefsB (s9 lc n (s8 lc K ch (s7 lc n (s6 K 1 (s5 lc (s4 lc 1 n (s3 lb vars 0 n (s2 lb vars 1 (s1 la vars n 4))))))))) = true := by
  unfold coefsB
  simp only [s1, s2, s3, s4, s5, s6, s7, s8, s9]
  simp [lowC, secD, lowK, n5, n4, p4, p2, k12, k0, kn12, -List.any_map, -List.any_eq_true, -List.any_eq_false, r4]

set_option linter.unusedSimpArgs false in
set_option linter.unusedVariables false in
theorem mk_coefs5 (la lb lc : List Int) (K ch vars : Int) : coefsB (s9 lc 3 (s8 lc K ch (s7 lc 3 (s6 K 0 (s5 lc (s4 lc 0 3 (s3 lb vars 0 3 (s2 lb vars 0 (s1 la vars 3 5))))))))) = true := by
  unfold coefsB
  simp only [s1, s2, s3, s4, s5, s6, s7, s8, s9]
  simp [lowC, secD, lowK, n5, n4, p4, p2, k12, k0, kn12, -List.any_map, -List.any_eq_true, -List.any_eq_false, r4]

set_option linter.unusedSimpArgs false in
set_option linter.unusedVariables false in
theorem mk_coefs6 (la lb lc : List Int) (K ch vars : Int) : coefsB (s9 lc 3 (s8 lc K ch (s7 lc 3 (s6 K 0 (s5 lc (s4 lc 0 3 (s3 lb vars 0 3 (s2 lb vars 0 (s1 la vars 3 6))))))))) = true := by
  unfold coefsB
  simp only [s1, s2, s3, s4, s5, s6, s7, s8, s9]
  simp [lowC, secD, lowK, n5, n4, p4, p2, k12, k0, kn12, -List.any_map, -List.any_eq_true, -List.any_eq_false, r4]

set_option linter.unusedSimpArgs false in
set_option linter.unusedVariables false in
theorem mk_coefs7 (la lb lc : List Int) (K ch vars : Int) : coefsB (s9 lc 3 (s8 lc K ch (s7 lc 3 (s6 K 0 (s5 lc (s4 lc 0 3 (s3 lb vars 0 3 (s2 lb vars 0 (s1 la vars 3 7))))))))) = true := by
  unfold coefsB
  simp only [s1, s2, s3, s4, s5, s6, s7, s8, s9]
  simp [lowC, secD, lowK, n5, n4, p4, p2, k12, k0, kn12, -List.any_map, -List.any_eq_true, -List.any_eq_false, r4]

set_option linter.unusedSimpArgs false in
set_option linter.unusedVariables false in
theorem mk_coefs8 (la lb lc : List Int) (K ch vars : Int) : coefsB (s9 lc 2 (s8 lc K ch (s7 lc 2 (s6 K 0 (s5 lc (s4 lc 0 2 (s3 lb vars 0 2 (s2 lb vars 0 (s1 la vars 2 8))))))))) = true := by
  unfold coefsB
  simp only [s1, s2, s3, s4, s5, s6, s7, s8, s9]
  simp [lowC, secD, lowK, n5, n4, p4, p2, k12, k0, kn12, -List.any_map, -List.any_eq_true, -List.any_eq_false, r4]

set_option linter.unusedSimpArgs false in
set_option linter.unusedVariables false in
theorem mk_coefs9 (la lb lc : List Int) (K ch vars : Int) : coefsB (s9 lc 3 (s8 lc K ch (s7 lc 3 (s6 K 0 (s5 lc (s4 lc 0 3 (s3 lb vars 0 3 (s2 lb vars 0 (s1 la vars 3 9))))))))) = true := by
  unfold coefsB
  simp only [s1, s2, s3, s4, s5, s6, s7, s8, s9]
  simp [lowC, secD, lowK, n5, n4, p4, p2, k12, k0, kn12, -List.any_map, -List.any_eq_true, -List.any_eq_false, r4]

set_option linter.unusedSimpArgs false in
set_option linter.unusedVariables false in
theorem mk_coefs10 (la lb lc : List Int) (K ch vars : Int) : coefsB (s9 lc 3 (s8 lc K ch (s7 lc 3 (s6 K 0 (s5 lc (s4 lc 0 3 (s3 lb vars 0 3 (s2 lb vars 0 (s1 la vars 3 10))))))))) = true := by
  unfold coefsB
  simp only [s1, s2, s3, s4, s5, s6, s7, s8, s9]
  simp [lowC, secD, lowK, n5, n4, p4, p2, k12, k0, kn12, -List.any_map, -List.any_eq_true, -List.any_eq_false, r4]

set_option linter.unusedSimpArgs false in
set_option linter.unusedVariables false in
theorem mk_coefs11 (la lb lc : List Int) (K ch vars : Int) : coefsB (s9 lc 2 (s8 lc K ch (s7 lc 2 (s6 K 0 (s5 lc (s4 lc 1 2 (s3 lb vars 0 2 (s2 lb vars 0 (s1 la vars 2 11))))))))) = true := by
  unfold coefsB
  simp only [s1, s2, s3, s4, s5, s6, s7, s8, s9]
  simp [lowC, secD, lowK, n5, n4, p4, p2, k12, k0, kn12, -List.any_map, -List.any_eq_true, -List.any_eq_false, r4]

set_option linter.unusedSimpArgs false in
set_option linter.unusedVariables false in
theorem mk_coefs12 (la lb lc : List Int) (K ch vars : Int) (n : Nat) : coefsB (s9 lc n (s8 lc K ch (s7 lc n (s6 K 0 (s5 lc (s4 lc 0 n (s3 lb vars 1 n (s2 lb vars 0 (s1 la vars n 12))))))))) = true := by
  unfold coefsB
  simp only [s1, s2, s3, s4, s5, s6, s7, s8, s9]
  simp [lowC, secD, lowK, n5, n4, p4, p2, k12, k0, kn12, -List.any_map, -List.any_eq_true, -List.any_eq_false, r4]

set_option linter.unusedSimpArgs false in
set_option linter.unusedVariables false in
theorem mk_coefs13 (la lb lc : List Int) (K ch vars : Int) : coefsB (s9 lc 1 (s8 lc K ch (s7 lc 1 (s6 K 1 (s5 lc (s4 lc 0 1 (s3 lb vars 0 1 (s2 lb vars 1 (s1 la vars 1 13))))))))) = true := by
  unfold coefsB
  simp only [s1, s2, s3, s4, s5, s6, s7, s8, s9]
  simp [lowC, secD, lowK, n5, n4, p4, p2, k12, k0, kn12, -List.any_map, -List.any_eq_true, -List.any_eq_false, r4]

set_option linter.unusedSimpArgs false in
set_option linter.unusedVariables false in
theorem mk_coefs14 (la lb lc : List Int) (K ch vars : Int) : coefsB (s9 lc 1 (s8 lc K ch (s7 lc 1 (s6 K 1 (s5 lc (s4 lc 0 1 (s3 lb vars 0 1 (s2 lb vars 1 (s1 la vars 1 14))))))))) = true := by
  unfold coefsB
  simp only [s1, s2, s3, s4, s5, s6, s7, s8, s9]
  simp [lowC, secD, lowK, n5, n4, p4, p2, k12, k0, kn12, -List.any_map, -List.any_eq_true, -List.any_eq_false, r4]

set_option linter.unusedSimpArgs false in
set_option linter.unusedVariables false in
theorem mk_coefs15 (la lb lc : List Int) (K ch vars : Int) : coefsB (s9 lc 1 (s8 lc K ch (s7 lc 1 (s6 K 1 (s5 lc (s4 lc 0 1 (s3 lb vars 0 1 (s2 lb vars 1 (s1 la vars 1 15))))))))) = true := by
  unfold coefsB
  simp only [s1, s2, s3, s4, s5, s6, s7, s8, s9]
  simp [lowC, secD, lowK, n5, n4, p4, p2, k12, k0, kn12, -List.any_map, -List.any_eq_true, -List.any_eq_false, r4]

set_option linter.unusedSimpArgs false in
set_option linter.unusedVariables false in
theorem mk_coefs16 (la lb lc : List Int) (K ch vars : Int) : coefsB (s9 lc 1 (s8 lc K ch (s7 lc 1 (s6 K 1 (s5 lc (s4 lc 0 1 (s3 lb vars 0 1 (s2 lb vars 1 (s1 la vars 1 16))))))))) = true := by
  unfold coefsB
  simp only [s1, s2, s3, s4, s5, s6, s7, s8, s9]
  simp [lowC, secD, lowK, n5, n4, p4, p2, k12, k0, kn12, -List.any_map, -List.any_eq_true, -List.any_eq_false, r4]

set_option linter.unusedSimpArgs false in
set_option linter.unusedVariables false in
theorem mk_coefs17 (la lb lc : List Int) (K ch vars : Int) (n : Nat) : coefsB (s9 lc n (s8 lc K ch (s7 lc n (s6 K 0 (s5 lc (s4 lc 0 n (s3 lb vars 0 n (s2 lb vars 0 (s1 la vars n 17))))))))) = true := by
  unfold coefsB
  simp only [s1, s2, s3, s4, s5, s6, s7, s8, s9]
  simp [lowC, secD, lowK, n5, n4, p4, p2, k12, k0, kn12, -List.any_map, -List.any_eq_true, -List.any_eq_false, r4]

set_option linter.unusedSimpArgs false in
set_option linter.unusedVariables false in
theorem mk_coefs18 (la lb lc : List Int) (K ch vars : Int) (n : Nat) : coefsB (s9 lc n (s8 lc K ch (s7 lc n (s6 K 0 (s5 lc (s4 lc 0 n (s3 lb vars 0 n (s2 lb vars 0 (s1 la vars n 18))))))))) = true := by
  unfold coefsB
  simp only [s1, s2, s3, s4, s5, s6, s7, s8, s9]
  simp [lowC, secD, lowK, n5, n4, p4, p2, k12, k0, kn12, -List.any_map, -List.any_eq_true, -List.any_eq_false, r4]

set_option linter.unusedSimpArgs false in
set_option linter.unusedVariables false in
theorem mk_coefs19 (la lb lc : List Int) (K ch vars : Int) (n : Nat) : coefsB (s9 lc n (s8 lc K ch (s7 lc n (s6 K 1 (s5 lc (s4 lc 1 n (s3 lb vars 0 n (s2 lb vars 0 (s1 la vars n 19))))))))) = true := by
  unfold coefsB
  simp only [s1, s2, s3, s4, s5, s6, s7, s8, s9]
  simp [lowC, secD, lowK, n5, n4, p4, p2, k12, k0, kn12, -List.any_map, -List.any_eq_true, -List.any_eq_false, r4]

set_option linter.unusedSimpArgs false in
set_option linter.unusedVariables false in
theorem mk_coefs20 (la lb lc : List Int) (K ch vars : Int) (n : Nat) : coefsB (s9 lc n (s8 lc K ch (s7 lc n (s6 K 0 (s5 lc (s4 lc 0 n (s3 lb vars 0 n (s2 lb vars 0 (s1 la vars n 20))))))))) = true := by
  unfold coefsB
  simp only [s1, s2, s3, s4, s5, s6, s7, s8, s9]
  simp [lowC, secD, lowK, n5, n4, p4, p2, k12, k0, kn12, -List.any_map, -List.any_eq_true, -List.any_eq_false, r4]

set_option linter.unusedSimpArgs false in
set_option linter.unusedVariables false in
theorem mk_coefs22 (la lb lc : List Int) (K ch vars : Int) (n : Nat) : coefsB (s9 lc n (s8 lc K ch (s7 lc n (s6 K 0 (s5 lc (s4 lc 0 n (s3 lb vars 1 n (s2 lb vars 0 (s1 la vars n 22))))))))) = true := by
  unfold coefsB
  simp only [s1, s2, s3, s4, s5, s6, s7, s8, s9]
  simp [lowC, secD, lowK, n5, n4, p4, p2, k12, k0, kn12, -List.any_map, -List.any_eq_true, -List.any_eq_false, r4]

set_option linter.unusedSimpArgs false in
set_option linter.unusedVariables false in
theorem mk_coefs23 (la lb lc : List Int) (K ch vars : Int) (n : Nat) : coefsB (s9 lc n (s8 lc K ch (s7 lc n (s6 K 0 (s5 lc (s4 lc 0 n (s3 lb vars 1 n (s2 lb vars 0 (s1 la vars n 23))))))))) = true := by
  unfold coefsB
  simp only [s1, s2, s3, s4, s5, s6, s7, s8, s9]
  simp [lowC, secD, lowK, n5, n4, p4, p2, k12, k0, kn12, -List.any_map, -List.any_eq_true, -List.any_eq_false, r4]

theorem cnt_ok (lc : List Int) (K ch : Int) (hch : 0 ≤ ch) (m : Nat) (c : ConL) (hC : c.C = mkL (gcF K) m) (hD : c.D = mkL (numE lc 0 0 2) m) (hE : c.E = mkL (geF lc ch) m) : countsB c = true := by
  refine counts_yes fun j hj => ?_
  rw [hC, mkL_len] at hj
  unfold cntOK
  rw [hC, hD, hE, mkL_getD _ hj, mkL_getD _ hj, mkL_getD _ hj]
  rw [Bool.and_eq_true]
  refine ⟨by simpa using (ge_in lc ch hch j).1, ?_⟩
  rw [Bool.not_eq_true', List.any_eq_false]
  intro v hv
  obtain ⟨i, hi, rfl⟩ := List.getElem_of_mem hv
  have hij : i < j := by rw [List.length_take] at hi; omega
  have e : ((mkL (gcF K) m).take j)[i] = gcF K i := by
    rw [List.getElem_take]
    simp [mkL]
  rw [e]
  unfold gcF
  simp
  omega
theorem mk_coefs21 (la lb lc : List Int) (K ch vars : Int) (n : Nat) (hch : 0 ≤ ch) : coefsB (s9 lc n (s8 lc K ch (s7 lc n (s6 K 0 (s5 lc (s4 lc 1 n (s3 lb vars 0 n (s2 lb vars 0 (s1 la vars n 21))))))))) = true := by
  have h3 := Nat.mod_lt lc.length (show 0 < 3 by decide)
  have hc := cnt_ok lc K ch hch (1 + lc.length % 3) (s9 lc n (s8 lc K ch (s7 lc n (s6 K 0 (s5 lc (s4 lc 1 n (s3 lb vars 0 n (s2 lb vars 0 (s1 la vars n 21))))))))) (by simp [s1, s2, s3, s4, s5, s6, s7, s8, s9]) (by simp [s1, s2, s3, s4, s5, s6, s7, s8, s9]) (by simp [s1, s2, s3, s4, s5, s6, s7, s8, s9])
  unfold coefsB
  rw [hc]
  have e1 := g3 K (1 + lc.length % 3) (by omega)
  have e2 := g2 lc ch hch (1 + lc.length % 3)
  simp only [s1, s2, s3, s4, s5, s6, s7, s8, s9]
  simp [lowC, secD, lowK, e1, e2, p2, k0, -List.any_map, -List.any_eq_true, -List.any_eq_false]

end Go.Proofs.YtkhmocbfkpbpfaaGreatDoor

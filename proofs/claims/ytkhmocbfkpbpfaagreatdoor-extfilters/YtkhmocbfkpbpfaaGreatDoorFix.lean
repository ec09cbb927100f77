/- Domains in memory: written whole, made into a slice, in a variable; constraints made of a list (layers 11 to 22). No walk. -/
import Derived.Test.YtkhmocbfkpbpfaaGreatDoorCtd
import Derived.Test.YtkhmocbfkpbpfaaGreatDoorDCut
import Derived.Test.YtkhmocbfkpbpfaaGreatDoorMkr2
import Derived.Test.YtkhmocbfkpbpfaaGreatDoorRg2
import Derived.Test.YtkhmocbfkpbpfaaGreatDoorMulp
import Derived.Test.YtkhmocbfkpbpfaaGreatDoorLn2
import Derived.Test.YtkhmocbfkpbpfaaGreatDoorMkr
import Derived.Lib.MinMax
import Derived.Lib.QuietBelow
namespace Go.Proofs.YtkhmocbfkpbpfaaGreatDoor
open Go.RowKit Go.Sort

/-- A domain stays one, when a block without words is written. -/
theorem IsDom.put {W : World} {d : Value} {L : List Int} (h : IsDom W d L) {g : Nat} {cs : Array Value} {t : TypeId} (hB : W.heap[g]? = some (.cells cs t (0, 0))) (hp : ∀ u ∈ cs, plainV u) (i : Nat) (v : Value) : IsDom (W.setCell ⟨g, i, none⟩ v) d L := by
  obtain ⟨s, A, ws, c, e, h1, h2, h3⟩ := h
  refine ⟨s, A, ws, c, e, fun hn => ?_, h2, h3⟩
  obtain ⟨ad, q, hl, hc⟩ := h1 hn
  have hne : ad.block ≠ g := by
    intro e
    have h0 := hc 0 hn
    unfold World.cell? at h0
    rw [add_block, e, hB] at h0
    simp only at h0
    split at h0
    · exact absurd h0 (by simp)
    · exact hp _ (Array.mem_of_getElem? h0) _ rfl
  refine ⟨ad, q, by simpa [World.setCell] using hl, fun j hj => ?_⟩
  rw [World.cell?_setCell_other _ _ _ _ (fun q => hne (by have := congrArg Addr.block q; rw [add_block] at this; exact this.symm))]
  exact hc j hj
/-- Three cells written, whole. -/
theorem IsDom.put3 {W : World} {d : Value} {L : List Int} (h : IsDom W d L) {g : Nat} {a0 a1 a2 : Value} {t : TypeId} (hB : W.heap[g]? = some (.cells #[a0, a1, a2] t (0, 0))) (h0 : plainV a0) (h1 : plainV a1) (h2 : plainV a2) (x y z : Value) (hx : plainV x) (hy : plainV y) :
    IsDom (((W.setCell ⟨g, 0, none⟩ x).setCell ⟨g, 1, none⟩ y).setCell ⟨g, 2, none⟩ z) d L := by
  have p0 : ∀ u ∈ (#[a0, a1, a2] : Array Value), plainV u := by intro u hu; simp at hu; rcases hu with rfl | rfl | rfl <;> assumption
  have p1 : ∀ u ∈ (#[x, a1, a2] : Array Value), plainV u := by intro u hu; simp at hu; rcases hu with rfl | rfl | rfl <;> assumption
  have p2 : ∀ u ∈ (#[x, y, a2] : Array Value), plainV u := by intro u hu; simp at hu; rcases hu with rfl | rfl | rfl <;> assumption
  have b1 := heap_setCell_same W g 0 #[a0, a1, a2] t x hB
  have b2 := heap_setCell_same _ g 1 _ t y b1
  exact ((h.put hB p0 0 x).put b1 p1 1 y).put b2 p2 2 z
theorem plain_int (k : IntKind) (v : Int) (h : k ≠ .u64) : plainV (.int k v) := by intro x e; injection e with e _; exact h e
theorem plain_sl (A : Option Addr) (n c : Nat) : plainV (.slice A n c) := by intro x e; cases e
theorem IsDom.lim {W : World} {d : Value} {L : List Int} (h : IsDom W d L) : ∀ v ∈ L, -2000000 ≤ v ∧ v ≤ 2000000 := by
  obtain ⟨s, A, ws, c, -, -, hF, rfl⟩ := h
  intro v hv
  have := D.in_places hF v hv
  omega
/-- Three domains made into a slice. -/
theorem doms_build3 {W : World} {d1 d2 d3 : Dv} {L1 L2 L3 : List Int} (h1 : IsDom W d1.val L1) (h2 : IsDom W d2.val L2) (h3 : IsDom W d3.val L3) :
    DomsIn (W.alloc (.cells (d1.cells ++ d2.cells ++ d3.cells).toArray 53)) ⟨some ⟨W.heap.size, 0, none⟩, 3, 3⟩ [L1, L2, L3] := by
  have b := below1 W (.cells (d1.cells ++ d2.cells ++ d3.cells).toArray 53)
  have hn := heap_alloc_new W (.cells (d1.cells ++ d2.cells ++ d3.cells).toArray 53)
  refine ⟨rfl, by simp, Nat.le_refl _, fun _ => ⟨W.heap.size, 0, rfl, (Array.getElem?_eq_some_iff.1 hn).1, fun i hi => ?_⟩⟩
  have key : ∀ (d : Dv) (k : Nat), (∀ (j : Nat) (u : Value), d.cells[j]? = some u → (d1.cells ++ d2.cells ++ d3.cells)[k * 3 + j]? = some u) → ∀ (j : Nat) (u : Value), d.cells[j]? = some u → (W.alloc (.cells (d1.cells ++ d2.cells ++ d3.cells).toArray 53)).cell? ⟨W.heap.size, 0 + k * 3 + j, none⟩ = some u := by
    intro d k hk j u hj
    refine blk_cell hn ?_
    rw [Nat.zero_add, List.getElem?_toArray]
    exact hk j u hj
  have hlt3 : ∀ (d : Dv) (j : Nat) (u : Value), d.cells[j]? = some u → j < 3 := fun d j u hj => by
    have := (List.getElem?_eq_some_iff.1 hj).1
    simpa [Dv.cells] using this
  match i, hi with
  | 0, _ => exact ⟨d1, key d1 0 (fun j u hj => by have := hlt3 _ _ _ hj; match j, hj with | 0, hj => exact hj | 1, hj => exact hj | 2, hj => exact hj), h1.below b⟩
  | 1, _ => exact ⟨d2, key d2 1 (fun j u hj => by have := hlt3 _ _ _ hj; match j, hj with | 0, hj => exact hj | 1, hj => exact hj | 2, hj => exact hj), h2.below b⟩
  | 2, _ => exact ⟨d3, key d3 2 (fun j u hj => by have := hlt3 _ _ _ hj; match j, hj with | 0, hj => exact hj | 1, hj => exact hj | 2, hj => exact hj), h3.below b⟩
theorem head_mem {L : List Int} (h : L ≠ []) : L.head?.getD 0 ∈ L := by
  cases L with
  | nil => exact absurd rfl h
  | cons a l => simp
theorem last_mem {L : List Int} (h : L ≠ []) : L.getLast?.getD 0 ∈ L := by
  rw [List.getLast?_eq_some_getLast h]
  exact List.getLast_mem h
theorem head_lim {L : List Int} (h : ∀ v ∈ L, -2000000 ≤ v ∧ v ≤ 2000000) : -2000000 ≤ L.head?.getD 0 ∧ L.head?.getD 0 ≤ 2000000 := by
  by_cases e : L = []
  · subst e; simp
  · exact h _ (head_mem e)
theorem last_lim {L : List Int} (h : ∀ v ∈ L, -2000000 ≤ v ∧ v ≤ 2000000) : -2000000 ≤ L.getLast?.getD 0 ∧ L.getLast?.getD 0 ≤ 2000000 := by
  by_cases e : L = []
  · subst e; simp
  · exact h _ (last_mem e)
/-- A block of three cells, written whole. -/
theorem put3_block {W : World} {g : Nat} {a0 a1 a2 x y z : Value} {t : TypeId} (h : W.heap[g]? = some (.cells #[a0, a1, a2] t (0, 0))) : (((W.setCell ⟨g, 0, none⟩ x).setCell ⟨g, 1, none⟩ y).setCell ⟨g, 2, none⟩ z).heap[g]? = some (.cells #[x, y, z] t (0, 0)) :=
  heap_setCell_same _ g 2 _ t z (heap_setCell_same _ g 1 _ t y (heap_setCell_same W g 0 _ t x h))
theorem put3_far {W : World} {g k : Nat} {x y z : Value} (h : k ≠ g) : (((W.setCell ⟨g, 0, none⟩ x).setCell ⟨g, 1, none⟩ y).setCell ⟨g, 2, none⟩ z).heap[k]? = W.heap[k]? :=
  (heap_setCell_other _ _ k z h).trans ((heap_setCell_other _ _ k y h).trans (heap_setCell_other _ _ k x h))
theorem IsDom.len_lim {W : World} {d : Value} {L : List Int} (h : IsDom W d L) : L.length ≤ 2000064 := by
  obtain ⟨s, A, ws, c, -, -, hF, rfl⟩ := h
  have h1 := len_le_listOf ws s
  have h2 := hF.len
  omega
def vOf (x : Sl) : ConV := ⟨x, ⟨none, 0, 0⟩, ⟨none, 0, 0⟩, ⟨none, 0, 0⟩, ⟨none, 0, 0⟩, ⟨none, 0, 0⟩⟩
def cOf (k : Int) (A : List Int) : ConL := ⟨k, A, [], [], [], [], 0, []⟩
theorem con_of {w : World} {x : Sl} {A : List Int} (k : Int) (h : IsInts w x A) : ConIn w (vOf x) (cOf k A) := ⟨h, IsInts.nil _, IsInts.nil _, IsInts.nil _, IsInts.nil _, IsRows.nil _⟩
theorem ints_made (w : World) (A : List Int) (n : Nat) (hn : n = A.length) (h : n ≤ 1000000) : IsInts (w.alloc (.cells (I A).toArray 3)) ⟨some ⟨w.heap.size, 0, none⟩, n, n⟩ A := by
  subst hn
  have := World.ownsRow_lit (base := w.heap.size) (e := 3) (size := 1) w (I A).toArray A.length (Nat.le_refl _) (by unfold maxLen; omega) (by simp [I])
  exact ints_own this (by omega)
theorem doms_build2 {W : World} {d1 d2 : Dv} {L1 L2 : List Int} (h1 : IsDom W d1.val L1) (h2 : IsDom W d2.val L2) :
    DomsIn (W.alloc (.cells (d1.cells ++ d2.cells).toArray 53)) ⟨some ⟨W.heap.size, 0, none⟩, 2, 2⟩ [L1, L2] := by
  have b := below1 W (.cells (d1.cells ++ d2.cells).toArray 53)
  have hn := heap_alloc_new W (.cells (d1.cells ++ d2.cells).toArray 53)
  refine ⟨rfl, by simp, Nat.le_refl _, fun _ => ⟨W.heap.size, 0, rfl, (Array.getElem?_eq_some_iff.1 hn).1, fun i hi => ?_⟩⟩
  have key : ∀ (d : Dv) (k : Nat), (∀ (j : Nat) (u : Value), d.cells[j]? = some u → (d1.cells ++ d2.cells)[k * 3 + j]? = some u) → ∀ (j : Nat) (u : Value), d.cells[j]? = some u → (W.alloc (.cells (d1.cells ++ d2.cells).toArray 53)).cell? ⟨W.heap.size, 0 + k * 3 + j, none⟩ = some u := by
    intro d k hk j u hj
    refine blk_cell hn ?_
    rw [Nat.zero_add, List.getElem?_toArray]
    exact hk j u hj
  have hlt3 : ∀ (d : Dv) (j : Nat) (u : Value), d.cells[j]? = some u → j < 3 := fun d j u hj => by
    have := (List.getElem?_eq_some_iff.1 hj).1
    simpa [Dv.cells] using this
  match i, hi with
  | 0, _ => exact ⟨d1, key d1 0 (fun j u hj => by have := hlt3 _ _ _ hj; match j, hj with | 0, hj => exact hj | 1, hj => exact hj | 2, hj => exact hj), h1.below b⟩
  | 1, _ => exact ⟨d2, key d2 1 (fun j u hj => by have := hlt3 _ _ _ hj; match j, hj with | 0, hj => exact hj | 1, hj => exact hj | 2, hj => exact hj), h2.below b⟩
/-- Where a domain lies in a variable. -/
def VarD (W : World) (g : Nat) (d : Dv) (L : List Int) : Prop := W.heap[g]? = some (.cells #[.int .i64 d.s, .slice d.A d.n d.c, .int .i64 d.z] 53 (0, 0)) ∧ IsDom W d.val L
theorem VarD.below {W W' : World} {g : Nat} {d : Dv} {L : List Int} (h : VarD W g d L) (b : Below W.heap.size W W') : VarD W' g d L := ⟨(b.block _ (Array.getElem?_eq_some_iff.1 h.1).1).trans h.1, h.2.below b⟩
theorem VarD.new {W : World} {d : Dv} {L : List Int} (h : IsDom W d.val L) : VarD (W.alloc (.cells #[.int .i64 d.s, .slice d.A d.n d.c, .int .i64 d.z] 53)) W.heap.size d L := ⟨heap_new W _, h.below (below1 W _)⟩
theorem VarD.c0 {W : World} {g : Nat} {d : Dv} {L : List Int} (h : VarD W g d L) : W.cell? ⟨g, 0, none⟩ = some (.int .i64 d.s) := blk_cell h.1 rfl
theorem VarD.c1 {W : World} {g : Nat} {d : Dv} {L : List Int} (h : VarD W g d L) : W.cell? ⟨g, 1, none⟩ = some (.slice d.A d.n d.c) := blk_cell h.1 rfl
theorem VarD.c2 {W : World} {g : Nat} {d : Dv} {L : List Int} (h : VarD W g d L) : W.cell? ⟨g, 2, none⟩ = some (.int .i64 d.z) := blk_cell h.1 rfl
theorem range_at (lo hi : Int) (L : List Int) (w : World) (h : (if rangeErr lo hi = 0 then rangeL lo hi else []) = L) : Calls Tryz.prog 63 #[.int .i64 lo, .int .i64 hi] w fun e w' => (∃ d : Dv, e = .returned (.tuple #[d.val, .int .i64 (rangeErr lo hi)]) ∧ IsDom w' d.val L) ∧ Below w.heap.size w w' := by
  have := range_dom lo hi w
  rw [h] at this
  refine this.mono ?_
  rintro e w1 ⟨d, rfl, hd, b⟩
  obtain ⟨dv, rfl, -⟩ := Dv.of hd
  exact ⟨⟨dv, rfl, hd⟩, b⟩
theorem same_base {W W' : World} {x : Sl} {L : List (List Int)} {g o : Nat} (b : Below W.heap.size W W') (h : DomsIn W x L) (e : x.A = some ⟨g, o, none⟩) (k : Nat) (hk : k < x.n) :
    ∃ d : Dv, W'.cell? ⟨g, o + k * 3, none⟩ = some (.int .i64 d.s) ∧ W'.cell? ⟨g, o + k * 3 + 1, none⟩ = some (.slice d.A d.n d.c) ∧ W'.cell? ⟨g, o + k * 3 + 2, none⟩ = some (.int .i64 d.z) ∧ IsDom W' d.val (L.getD k []) := by
  obtain ⟨g', o', d, e', p0, p1, p2, hD⟩ := (h.below b).at_ k hk
  rw [e] at e'
  injection e' with e'
  injection e' with e1 e2 _
  subst e1
  subst e2
  exact ⟨d, p0, p1, p2, hD⟩
theorem has_yes {d : Value} {L : List Int} {v : Int} {w : World} (h : IsDom w d L) (hm : v ∈ L) (hv : -1000000 ≤ v ∧ v ≤ 1000000) : Calls Tryz.prog 28 #[d, .int .i64 v] w fun e w' => e = .returned (.bool true) ∧ Below w.heap.size w w' := by
  have := D.has_dom d L v w h (by omega) (by omega)
  rwa [decide_eq_true hm] at this
theorem getD_memL (zs : List (List Int)) (j : Nat) (h : j < zs.length) : zs.getD j [] ∈ zs := by
  rw [List.getD_eq_getElem?_getD, List.getElem?_eq_getElem h]
  exact List.getElem_mem h
theorem DomsIn.at2 {W : World} {g o n c : Nat} {LL : List (List Int)} (h : DomsIn W ⟨some ⟨g, o, none⟩, n, c⟩ LL) (k : Nat) (hk : k < n) :
    ∃ d : Dv, W.cell? ⟨g, o + k * 3, none⟩ = some (.int .i64 d.s) ∧ W.cell? ⟨g, o + k * 3 + 1, none⟩ = some (.slice d.A d.n d.c) ∧ W.cell? ⟨g, o + k * 3 + 2, none⟩ = some (.int .i64 d.z) ∧ IsDom W d.val (LL.getD k []) := by
  obtain ⟨g', o', d, e, q0, q1, q2, hD⟩ := h.at_ k hk
  simp only [Option.some.injEq, Addr.mk.injEq] at e
  obtain ⟨rfl, rfl, -⟩ := e
  exact ⟨d, q0, q1, q2, hD⟩
end Go.Proofs.YtkhmocbfkpbpfaaGreatDoor

/- Contracts of the document's value, Those, Between, ends (layers 11 and 12). -/
namespace Go.Proofs.YtkhmocbfkpbpfaaGreatDoor
open Go.RowKit Go.Sort

theorem value_any (kind a b : Int) (w : World) (hk : kind = 5 ∨ kind = 6 ∨ kind = 7 ∨ kind = 9 ∨ kind = 10) (ha : -1000000 ≤ a ∧ a ≤ 1000000) (hb : -1000000 ≤ b ∧ b ≤ 1000000) :
    Calls Tryz.prog 125 #[.int .i64 kind, .int .i64 a, .int .i64 b] w fun e w' => e = .returned (optI (kindV kind a b)) ∧ w = w' := by
  rcases hk with rfl | rfl | rfl | rfl | rfl
  · have HV : Hid (kindV 5 a b = some (a * b)) := Lib.hid (by simp [kindV])
    have hp := prod_lim (a := a) (b := b) (by omega) (by omega)
    have b1 : IntKind.i64.wrap (a * b) = a * b := IntWalk.i64_in _ (by omega)
    clear ha hb hp
    go_enter Tryz.func125, Tryz.ntmps125
    go_wp2_with fail
    go_ret2
    rw [HV.out]
    exact ⟨rfl, rfl⟩
  · by_cases h0 : b = 0
    · have HV : Hid (kindV 6 a b = none) := Lib.hid (by simp [kindV, h0])
      have CQ := Lib.hid (rquo_no a b w h0)
      clear ha hb h0
      go_enter Tryz.func125, Tryz.ntmps125
      go_wp2_with (go_at_call 134; with_reducible refine CQ.out.mono ?_; rintro e w' ⟨rfl, rfl⟩)
      go_ret2
      rw [HV.out]
      exact ⟨rfl, rfl⟩
    · have HV : Hid (kindV 6 a b = some (a.tdiv b)) := Lib.hid (by simp [kindV, h0])
      have CQ := Lib.hid (rquo_yes a b w ha hb h0)
      clear ha hb h0
      go_enter Tryz.func125, Tryz.ntmps125
      go_wp2_with (go_at_call 134; with_reducible refine CQ.out.mono ?_; rintro e w' ⟨rfl, rfl⟩)
      go_ret2
      rw [HV.out]
      exact ⟨rfl, rfl⟩
  · by_cases h0 : b = 0
    · have HV : Hid (kindV 7 a b = none) := Lib.hid (by simp [kindV, h0])
      have CQ := Lib.hid (rquo_no a b w h0)
      have CR : Hid (Calls Tryz.prog 178 #[.int .i64 a, .int .i64 b] w fun e w' => e = .returned (.tuple #[.int .i64 0, .bool false]) ∧ w = w') := Lib.hid (by
        clear HV ha hb h0
        go_enter Tryz.func178, Tryz.ntmps178
        go_wp2_with (go_at_call 134; with_reducible refine CQ.out.mono ?_; rintro e w' ⟨rfl, rfl⟩)
        go_ret2
        exact ⟨rfl, rfl⟩)
      clear ha hb h0 CQ
      go_enter Tryz.func125, Tryz.ntmps125
      go_wp2_with (go_at_call 178; with_reducible refine CR.out.mono ?_; rintro e w' ⟨rfl, rfl⟩)
      go_ret2
      rw [HV.out]
      exact ⟨rfl, rfl⟩
    · have HV : Hid (kindV 7 a b = some (a.tmod b)) := Lib.hid (by simp [kindV, h0])
      have CQ := Lib.hid (rquo_yes a b w ha hb h0)
      have hq := tdiv_lim (a := a) (b := b) (by omega)
      have hcs := cut_sum a b
      have hm := tmod_lim (a := a) (b := b) (by omega)
      have w1 : IntKind.i64.wrap (b * a.tdiv b) = b * a.tdiv b := IntWalk.i64_in _ (by omega)
      have w2 : IntKind.i64.wrap (a - b * a.tdiv b) = a.tmod b := by
        rw [show a - b * a.tdiv b = a.tmod b by omega]
        exact IntWalk.i64_in _ (by omega)
      have CR : Hid (Calls Tryz.prog 178 #[.int .i64 a, .int .i64 b] w fun e w' => e = .returned (.tuple #[.int .i64 (a.tmod b), .bool true]) ∧ w = w') := Lib.hid (by
        clear HV ha hb h0 hq hcs hm
        go_enter Tryz.func178, Tryz.ntmps178
        go_wp2_with (go_at_call 134; with_reducible refine CQ.out.mono ?_; rintro e w' ⟨rfl, rfl⟩)
        go_ret2
        exact ⟨rfl, rfl⟩)
      clear ha hb h0 CQ hq hcs hm w1 w2
      go_enter Tryz.func125, Tryz.ntmps125
      go_wp2_with (go_at_call 178; with_reducible refine CR.out.mono ?_; rintro e w' ⟨rfl, rfl⟩)
      go_ret2
      rw [HV.out]
      exact ⟨rfl, rfl⟩
  · by_cases g : a < b
    · have HV : Hid (kindV 9 a b = some a) := Lib.hid (by rw [kindV_9, Int.min_eq_left (by omega)])
      have t1 : decide (a < b) = true := by simpa using g
      clear ha hb g
      go_enter Tryz.func125, Tryz.ntmps125
      go_wp2_with fail
      go_ret2
      rw [HV.out]
      exact ⟨rfl, rfl⟩
    · have HV : Hid (kindV 9 a b = some b) := Lib.hid (by rw [kindV_9, Int.min_eq_right (by omega)])
      have t1 : decide (a < b) = false := by simpa using g
      clear ha hb g
      go_enter Tryz.func125, Tryz.ntmps125
      go_wp2_with fail
      go_ret2
      rw [HV.out]
      exact ⟨rfl, rfl⟩
  · by_cases g : b < a
    · have HV : Hid (kindV 10 a b = some a) := Lib.hid (by rw [kindV_10, Int.max_eq_left (by omega)])
      have t1 : decide (b < a) = true := by simpa using g
      clear ha hb g
      go_enter Tryz.func125, Tryz.ntmps125
      go_wp2_with fail
      go_ret2
      rw [HV.out]
      exact ⟨rfl, rfl⟩
    · have HV : Hid (kindV 10 a b = some b) := Lib.hid (by rw [kindV_10, Int.max_eq_right (by omega)])
      have t1 : decide (b < a) = false := by simpa using g
      clear ha hb g
      go_enter Tryz.func125, Tryz.ntmps125
      go_wp2_with fail
      go_ret2
      rw [HV.out]
      exact ⟨rfl, rfl⟩

/-- Bits that lie in a block of their own. -/
def MarkB (W : World) (g : Nat) (M : List Bool) : Prop := W.heap[g]? = some (.cells (M.map Value.bool).toArray 4 (0, 0))
theorem MarkB.lt {W : World} {g : Nat} {M : List Bool} (h : MarkB W g M) : g < W.heap.size := (Array.getElem?_eq_some_iff.1 h).1
theorem MarkB.below {W W' : World} {g : Nat} {M : List Bool} (h : MarkB W g M) (b : Below W.heap.size W W') : MarkB W' g M := (b.block g h.lt).trans h
theorem MarkB.cell {W : World} {g : Nat} {M : List Bool} (h : MarkB W g M) {i : Nat} (hi : i < M.length) : W.cell? ⟨g, i, none⟩ = some (.bool (M.getD i false)) := by
  refine blk_cell h ?_
  rw [List.getElem?_toArray, List.getElem?_map, List.getElem?_eq_getElem hi, List.getD_eq_getElem?_getD, List.getElem?_eq_getElem hi]
  rfl
theorem MarkB.free {W : World} {g : Nat} {M : List Bool} (h : MarkB W g M) (i : Nat) : W.frozen? ⟨g, i, none⟩ = false := box_free h i
theorem MarkB.put {W : World} {g : Nat} {M : List Bool} (h : MarkB W g M) (i : Nat) : MarkB (W.setCell ⟨g, i, none⟩ (.bool true)) g (M.set i true) := by
  have := heap_setCell_same W g i _ 4 (.bool true) h
  unfold MarkB
  rw [this]
  congr 2
  apply Array.ext'
  rw [Array.toList_setIfInBounds]
  simp [List.map_set]
theorem MarkB.far {W : World} {g g' : Nat} {M : List Bool} (h : MarkB W g M) (hne : g ≠ g') (i : Nat) (v : Value) : MarkB (W.setCell ⟨g', i, none⟩ v) g M := (heap_setCell_other W _ g v hne).trans h

/-- Those of a list whose bit is set. -/
def thoseE (L : List Int) (M : List Bool) (k : Nat) : List Int := ((List.range k).filter fun i => M.getD i false).map fun i => L.getD i 0
theorem thoseE_step (L : List Int) (M : List Bool) (k : Nat) : thoseE L M (k + 1) = thoseE L M k ++ if M.getD k false = true then [L.getD k 0] else [] := by
  unfold thoseE
  rw [List.range_succ, List.filter_append, List.map_append]
  congr 1
  rw [List.filter_cons]
  split
  · rfl
  · rfl
theorem thoseE_len (L : List Int) (M : List Bool) (k : Nat) : (thoseE L M k).length ≤ k := by
  unfold thoseE
  rw [List.length_map]
  exact Nat.le_trans (List.length_filter_le _ _) (by simp)

set_option maxHeartbeats 2000000 in
set_option maxRecDepth 100000 in
theorem those_any (x : Sl) (L : List Int) (g cM : Nat) (M : List Bool) (w : World) (h : IsInts w x L) (hm : MarkB w g M) (hl : M.length = L.length) (hb : L.length ≤ 200000) :
    Calls Tryz.prog 124 #[.slice x.A x.n x.c, .slice (some ⟨g, 0, none⟩) L.length cM] w fun e w' => (∃ y : Sl, e = .returned (.slice y.A y.n y.c) ∧ Row3 w' w.heap.size y (thoseE L M L.length)) ∧ Below w.heap.size w w' := by
  obtain ⟨i0, hi, hz0, hz1, hz2⟩ := info_parts Tryz.info3
  obtain ⟨A, n, c⟩ := x
  have Hn := Lib.hid h.len
  have HI := Lib.hid h
  have HM := Lib.hid hm
  have hn : n = L.length := h.len
  subst hn
  clear h hm
  go_enter Tryz.func124, Tryz.ntmps124
  go_wp2_with fail
  go_loopw [5, 6] (fun s i wr => ∃ (k : Nat) (y : Sl), s = .slice y.A y.n y.c ∧ i = .int .i64 (k : Nat) ∧ k ≤ L.length ∧ Hid (SepL w.heap.size wr [(y, thoseE L M k)]) ∧ Hid (Below w.heap.size w wr)) (fun _ i _ => L.length - (intOf i).toNat)
  case atStart => exact ⟨0, ⟨none, 0, 0⟩, rfl, rfl, by omega, Lib.hid ((SepL.nil _ w (Nat.le_refl _)).cons (Below.refl _ _) (Row3.nil _ _) (by intro g hg; cases hg)), Lib.hid (Below.refl _ _)⟩
  case round =>
    obtain ⟨k, y, rfl, rfl, hk, HS, HB⟩ := hrel
    by_cases hlt : k < L.length
    · have hc := (HM.out.below HB.out).cell (i := k) (by rw [hl]; exact hlt)
      have HST := Lib.hid (thoseE_step L M k)
      have NL : Hid ((thoseE L M k).length < 1000000) := Lib.hid (by have := thoseE_len L M k; omega)
      cases hb' : M.getD k false
      · rw [hb'] at hc HST
        have HE : Hid (thoseE L M (k + 1) = thoseE L M k) := Lib.hid (by rw [HST.out]; simp)
        clear hb' HST
        go_wp2_with fail
        go_roundw
        case rel => exact ⟨k + 1, y, rfl, by go_num, by omega, Lib.hid (by rw [HE.out]; exact HS.out), HB⟩
        case measure => simp [intOf]; omega
      · rw [hb'] at hc HST
        obtain ⟨ad, eA, hbk, hcl⟩ := (HI.out.below HB.out).lies (show 0 < L.length by omega)
        simp only at eA
        subst eA
        have hv : wr.cell? (ad.add k) = some (.int .i64 (L.getD k 0)) := hcl k hlt
        obtain ⟨vv, hvv⟩ : ∃ vv, vv = L.getD k 0 := ⟨_, rfl⟩
        rw [← hvv] at hv HST
        have HE : Hid (thoseE L M (k + 1) = thoseE L M k ++ [vv]) := Lib.hid (by rw [HST.out]; simp)
        clear hb' HST hvv hcl hbk
        go_wp2_with (at_builtin; refine wpList_append_sep rfl _ _ 30 rfl Tryz.underlying30 Tryz.info3 HS.out 0 y _ vv rfl rfl rfl NL.out ?_; intro y1 w4 S4 b4; have HS4 := Lib.hid S4; have HB4 := Lib.hid (HB.out.trans b4); clear S4 b4)
        go_roundw
        case rel => exact ⟨k + 1, y1, rfl, by go_num, by omega, Lib.hid (by rw [HE.out]; exact HS4.out), HB4⟩
        case measure => simp [intOf]; omega
    · have HR := Lib.hid (HS.out.row (k := 0) rfl)
      have e3 : k = L.length := by omega
      subst e3
      clear hlt
      go_wp2_with fail
      go_ret
      exact ⟨⟨y, rfl, HR.out⟩, HB.out⟩
end Go.Proofs.YtkhmocbfkpbpfaaGreatDoor

/- The marks of the document's Pairs: which numbers of three lists are in a solution among the places gone through. No walk. -/
namespace Go.Proofs.YtkhmocbfkpbpfaaGreatDoor
open Go.RowKit

/-- Is a place gone through? -/
def goneB (i k j i' k' j' : Nat) : Prop := i' < i ∨ (i' = i ∧ (k' < k ∨ (k' = k ∧ j' < j)))
/-- The marks, so far. -/
structure Marks (hit : Nat → Nat → Nat → Prop) (na nb nc i k j : Nat) (MA MB MC : List Bool) (an : Bool) : Prop where
  la : MA.length = na
  lb : MB.length = nb
  lc : MC.length = nc
  a : ∀ i', i' < na → (MA.getD i' false = true ↔ ∃ k' j', k' < nb ∧ j' < nc ∧ goneB i k j i' k' j' ∧ hit i' k' j')
  b : ∀ k', k' < nb → (MB.getD k' false = true ↔ ∃ i' j', i' < na ∧ j' < nc ∧ goneB i k j i' k' j' ∧ hit i' k' j')
  c : ∀ j', j' < nc → (MC.getD j' false = true ↔ ∃ i' k', i' < na ∧ k' < nb ∧ goneB i k j i' k' j' ∧ hit i' k' j')
  an : an = true ↔ ∃ i' k' j', i' < na ∧ k' < nb ∧ j' < nc ∧ goneB i k j i' k' j' ∧ hit i' k' j'
theorem getD_rep_false (n i : Nat) : (List.replicate n false).getD i false = false := by
  rw [List.getD_eq_getElem?_getD, List.getElem?_replicate]
  split <;> rfl
theorem Marks.start (hit : Nat → Nat → Nat → Prop) (na nb nc : Nat) : Marks hit na nb nc 0 0 0 (List.replicate na false) (List.replicate nb false) (List.replicate nc false) false := by
  have hg : ∀ i' k' j', ¬ goneB 0 0 0 i' k' j' := by intro i' k' j' h; unfold goneB at h; omega
  refine ⟨by simp, by simp, by simp, fun i' _ => ?_, fun k' _ => ?_, fun j' _ => ?_, ?_⟩
  · rw [getD_rep_false]; exact ⟨fun h => (by cases h), fun ⟨_, _, _, _, h, _⟩ => absurd h (hg _ _ _)⟩
  · rw [getD_rep_false]; exact ⟨fun h => (by cases h), fun ⟨_, _, _, _, h, _⟩ => absurd h (hg _ _ _)⟩
  · rw [getD_rep_false]; exact ⟨fun h => (by cases h), fun ⟨_, _, _, _, h, _⟩ => absurd h (hg _ _ _)⟩
  · exact ⟨fun h => (by cases h), fun ⟨_, _, _, _, _, _, h, _⟩ => absurd h (hg _ _ _)⟩
theorem getD_put_true (M : List Bool) (i i' : Nat) (hi : i < M.length) : (M.set i true).getD i' false = if i' = i then true else M.getD i' false := by
  rw [List.getD_eq_getElem?_getD, List.getElem?_set, List.getD_eq_getElem?_getD]
  by_cases h : i = i'
  · subst h; simp [hi]
  · simp [h, Ne.symm h]

section
variable {hit : Nat → Nat → Nat → Prop} {na nb nc i k j : Nat} {MA MB MC : List Bool} {an : Bool}
/-- The same marks for another way to say what is gone through. -/
theorem Marks.same (h : Marks hit na nb nc i k j MA MB MC an) {i2 k2 j2 : Nat} (e : ∀ i' k' j', i' < na → k' < nb → j' < nc → hit i' k' j' → (goneB i2 k2 j2 i' k' j' ↔ goneB i k j i' k' j')) : Marks hit na nb nc i2 k2 j2 MA MB MC an := by
  refine ⟨h.la, h.lb, h.lc, fun i' hi => ?_, fun k' hk => ?_, fun j' hj => ?_, ?_⟩
  · rw [h.a i' hi]
    exact ⟨fun ⟨k', j', h1, h2, h3, h4⟩ => ⟨k', j', h1, h2, (e _ _ _ hi h1 h2 h4).2 h3, h4⟩, fun ⟨k', j', h1, h2, h3, h4⟩ => ⟨k', j', h1, h2, (e _ _ _ hi h1 h2 h4).1 h3, h4⟩⟩
  · rw [h.b k' hk]
    exact ⟨fun ⟨i', j', h1, h2, h3, h4⟩ => ⟨i', j', h1, h2, (e _ _ _ h1 hk h2 h4).2 h3, h4⟩, fun ⟨i', j', h1, h2, h3, h4⟩ => ⟨i', j', h1, h2, (e _ _ _ h1 hk h2 h4).1 h3, h4⟩⟩
  · rw [h.c j' hj]
    exact ⟨fun ⟨i', k', h1, h2, h3, h4⟩ => ⟨i', k', h1, h2, (e _ _ _ h1 h2 hj h4).2 h3, h4⟩, fun ⟨i', k', h1, h2, h3, h4⟩ => ⟨i', k', h1, h2, (e _ _ _ h1 h2 hj h4).1 h3, h4⟩⟩
  · rw [h.an]
    exact ⟨fun ⟨i', k', j', h1, h2, h3, h4, h5⟩ => ⟨i', k', j', h1, h2, h3, (e _ _ _ h1 h2 h3 h5).2 h4, h5⟩, fun ⟨i', k', j', h1, h2, h3, h4, h5⟩ => ⟨i', k', j', h1, h2, h3, (e _ _ _ h1 h2 h3 h5).1 h4, h5⟩⟩
theorem Marks.no (h : Marks hit na nb nc i k j MA MB MC an) (hn : ¬ hit i k j) : Marks hit na nb nc i k (j + 1) MA MB MC an :=
  h.same fun i' k' j' _ _ _ hh => by
    have : ¬ (i' = i ∧ k' = k ∧ j' = j) := by rintro ⟨rfl, rfl, rfl⟩; exact hn hh
    unfold goneB
    omega
theorem Marks.next (h : Marks hit na nb nc i k nc MA MB MC an) : Marks hit na nb nc i (k + 1) 0 MA MB MC an :=
  h.same fun i' k' j' _ _ hj _ => by unfold goneB; omega
theorem Marks.skip (h : Marks hit na nb nc i k 0 MA MB MC an) (hn : ∀ j', ¬ hit i k j') : Marks hit na nb nc i (k + 1) 0 MA MB MC an :=
  h.same fun i' k' j' _ _ _ hh => by
    have : ¬ (i' = i ∧ k' = k) := by rintro ⟨rfl, rfl⟩; exact hn _ hh
    unfold goneB
    omega
theorem Marks.down (h : Marks hit na nb nc i nb 0 MA MB MC an) : Marks hit na nb nc (i + 1) 0 0 MA MB MC an :=
  h.same fun i' k' j' _ hk _ _ => by unfold goneB; omega
theorem Marks.yes (h : Marks hit na nb nc i k j MA MB MC an) (hh : hit i k j) (hi : i < na) (hk : k < nb) (hj : j < nc) : Marks hit na nb nc i k (j + 1) (MA.set i true) (MB.set k true) (MC.set j true) true := by
  have hstep : ∀ i' k' j', goneB i k (j + 1) i' k' j' ↔ goneB i k j i' k' j' ∨ (i' = i ∧ k' = k ∧ j' = j) := by intro i' k' j'; unfold goneB; omega
  refine ⟨by rw [List.length_set]; exact h.la, by rw [List.length_set]; exact h.lb, by rw [List.length_set]; exact h.lc, fun i' hi' => ?_, fun k' hk' => ?_, fun j' hj' => ?_, ?_⟩
  · rw [getD_put_true _ _ _ (by rw [h.la]; exact hi)]
    by_cases e : i' = i
    · subst e
      rw [if_pos rfl]
      exact ⟨fun _ => ⟨k, j, hk, hj, (hstep _ _ _).2 (.inr ⟨rfl, rfl, rfl⟩), hh⟩, fun _ => rfl⟩
    · rw [if_neg e, h.a i' hi']
      exact ⟨fun ⟨k', j', h1, h2, h3, h4⟩ => ⟨k', j', h1, h2, (hstep _ _ _).2 (.inl h3), h4⟩, fun ⟨k', j', h1, h2, h3, h4⟩ => ⟨k', j', h1, h2, ((hstep _ _ _).1 h3).resolve_right fun q => e q.1, h4⟩⟩
  · rw [getD_put_true _ _ _ (by rw [h.lb]; exact hk)]
    by_cases e : k' = k
    · subst e
      rw [if_pos rfl]
      exact ⟨fun _ => ⟨i, j, hi, hj, (hstep _ _ _).2 (.inr ⟨rfl, rfl, rfl⟩), hh⟩, fun _ => rfl⟩
    · rw [if_neg e, h.b k' hk']
      exact ⟨fun ⟨i', j', h1, h2, h3, h4⟩ => ⟨i', j', h1, h2, (hstep _ _ _).2 (.inl h3), h4⟩, fun ⟨i', j', h1, h2, h3, h4⟩ => ⟨i', j', h1, h2, ((hstep _ _ _).1 h3).resolve_right fun q => e q.2.1, h4⟩⟩
  · rw [getD_put_true _ _ _ (by rw [h.lc]; exact hj)]
    by_cases e : j' = j
    · subst e
      rw [if_pos rfl]
      exact ⟨fun _ => ⟨i, k, hi, hk, (hstep _ _ _).2 (.inr ⟨rfl, rfl, rfl⟩), hh⟩, fun _ => rfl⟩
    · rw [if_neg e, h.c j' hj']
      exact ⟨fun ⟨i', k', h1, h2, h3, h4⟩ => ⟨i', k', h1, h2, (hstep _ _ _).2 (.inl h3), h4⟩, fun ⟨i', k', h1, h2, h3, h4⟩ => ⟨i', k', h1, h2, ((hstep _ _ _).1 h3).resolve_right fun q => e q.2.2, h4⟩⟩
  · exact ⟨fun _ => ⟨i, k, j, hi, hk, hj, (hstep _ _ _).2 (.inr ⟨rfl, rfl, rfl⟩), hh⟩, fun _ => rfl⟩
/-- All gone through. -/
theorem Marks.full (h : Marks hit na nb nc na 0 0 MA MB MC an) : (∀ i', i' < na → (MA.getD i' false = true ↔ ∃ k' j', k' < nb ∧ j' < nc ∧ hit i' k' j')) ∧ (∀ k', k' < nb → (MB.getD k' false = true ↔ ∃ i' j', i' < na ∧ j' < nc ∧ hit i' k' j')) ∧ (∀ j', j' < nc → (MC.getD j' false = true ↔ ∃ i' k', i' < na ∧ k' < nb ∧ hit i' k' j')) ∧ (an = true ↔ ∃ i' k' j', i' < na ∧ k' < nb ∧ j' < nc ∧ hit i' k' j') := by
  have hg : ∀ i' k' j', i' < na → goneB na 0 0 i' k' j' := by intro i' k' j' h; exact .inl h
  refine ⟨fun i' hi => ?_, fun k' hk => ?_, fun j' hj => ?_, ?_⟩
  · rw [h.a i' hi]
    exact ⟨fun ⟨k', j', h1, h2, h3, h4⟩ => ⟨k', j', h1, h2, h4⟩, fun ⟨k', j', h1, h2, h4⟩ => ⟨k', j', h1, h2, hg _ _ _ hi, h4⟩⟩
  · rw [h.b k' hk]
    exact ⟨fun ⟨i', j', h1, h2, h3, h4⟩ => ⟨i', j', h1, h2, h4⟩, fun ⟨i', j', h1, h2, h4⟩ => ⟨i', j', h1, h2, hg _ _ _ h1, h4⟩⟩
  · rw [h.c j' hj]
    exact ⟨fun ⟨i', k', h1, h2, h3, h4⟩ => ⟨i', k', h1, h2, h4⟩, fun ⟨i', k', h1, h2, h4⟩ => ⟨i', k', h1, h2, hg _ _ _ h1, h4⟩⟩
  · rw [h.an]
    exact ⟨fun ⟨i', k', j', h1, h2, h3, h4, h5⟩ => ⟨i', k', j', h1, h2, h3, h5⟩, fun ⟨i', k', j', h1, h2, h3, h5⟩ => ⟨i', k', j', h1, h2, h3, hg _ _ _ h1, h5⟩⟩
end
end Go.Proofs.YtkhmocbfkpbpfaaGreatDoor

/- Rows of one number each, and the numbers, grown side by side: what the laws of layers 10 to 22 on fixed values make. No walk. -/
namespace Go.Proofs.YtkhmocbfkpbpfaaGreatDoor
open Go.RowKit

/-- Rows, and numbers of one's own beside them, in no row's block. -/
structure RowsV (B : Nat) (W : World) (y : Sl) (xs : List Sl) (R : List (List Int)) (z : Sl) (L : List Int) : Prop where
  rows : RowsO B W y xs R
  ints : Row3 W B z L
  ne : ∀ x ∈ xs, ∀ g, ownB z = some g → ownB x ≠ some g
  lo : B ≤ W.heap.size
theorem row3_below {W W' : World} {B : Nat} {z : Sl} {L : List Int} (h : Row3 W B z L) (b : Below W.heap.size W W') : Row3 W' B z L := own_keep' h fun g hg => b.block g (own_lt' h hg).2
theorem RowsV.below {B : Nat} {W W' : World} {y : Sl} {xs : List Sl} {R : List (List Int)} {z : Sl} {L : List Int} (h : RowsV B W y xs R z L) (b : Below W.heap.size W W') : RowsV B W' y xs R z L :=
  ⟨h.rows.below b, row3_below h.ints b, h.ne, Nat.le_trans h.lo b.size⟩
theorem RowsV.nil (B : Nat) (W : World) (h : B ≤ W.heap.size) : RowsV B W ⟨none, 0, 0⟩ [] [] ⟨none, 0, 0⟩ [] := ⟨RowsO.nil _ _, Row3.nil _ _, fun x hx => (by cases hx), h⟩

/-- append of a new row of one number, at the walk's operation. -/
theorem wpList_append_fix1 {ops : Array Oper} {rest : List Oper} {o : Oper} {a : Act} {Q : Exit → Act → World → Prop} (hgd : o.guard = none) (s x : Operand)
    (ho : o.op = .call { callee := .builtin .append, args := #[s, x], argTypes := #[27, 27] })
    {B : Nat} {w : World} {y : Sl} {xs : List Sl} {R : List (List Int)} {z : Sl} {L : List Int} (hF : RowsV B w y xs R z L) (v : Int) (hs : a.eval s = .slice y.A y.n y.c) (hx : a.eval x = .slice (some ⟨w.heap.size + 1, 0, none⟩) 1 1) (hn : xs.length < 1000000)
    (h : ∀ (y' : Sl) w', RowsV B w' y' (xs ++ [⟨some ⟨w.heap.size, 0, none⟩, 1, 1⟩]) (R ++ [[v]]) z L → Below B w w' → wpList Tryz.prog ops Q rest (a.put o.dst (.slice y'.A y'.n y'.c)) w') :
    wpList Tryz.prog ops Q (o :: rest) a ((w.alloc (.cells #[.int .i64 v] 3)).alloc (.cells #[.slice (some ⟨w.heap.size, 0, none⟩) 1 1] 30)) := by
  obtain ⟨i0, hi, hz0, hz1, hz2⟩ := info_parts infoSl'
  have b1 := below1 w (.cells #[.int .i64 v] 3)
  have s1 : (w.alloc (.cells #[.int .i64 v] 3)).heap.size = w.heap.size + 1 := by simp
  have b2 := below1 (w.alloc (.cells #[.int .i64 v] 3)) (.cells #[.slice (some ⟨w.heap.size, 0, none⟩) 1 1] 30)
  have hN : Row3 (w.alloc (.cells #[.int .i64 v] 3)) B ⟨some ⟨w.heap.size, 0, none⟩, 1, 1⟩ [v] := World.ownsRow_lit (base := B) (e := 3) (size := 1) w #[.int .i64 v] 1 hF.lo (by decide) rfl
  have hN2 := row3_below hN b2
  have hF2 := (hF.below b1).below b2
  refine wpList_plain hgd fun K hK => ?_
  obtain ⟨v', w', hr, h2, h3, h4, h5⟩ := run_append_own_at (P := Tryz.prog) ((w.alloc (.cells #[.int .i64 v] 3)).alloc (.cells #[.slice (some ⟨w.heap.size, 0, none⟩) 1 1] 30)) B 27 o.type 30 i0 (.slice none 0 0) 1 24 Tryz.underlying27 hi hz0 hz1 hz2 rfl (by decide) (.slice y.A y.n y.c) _ _ hF2.rows.row ⟨w.heap.size + 1, 0, none⟩ 1 1 [.slice (some ⟨w.heap.size, 0, none⟩) 1 1] rfl
    (by have := new1_cells' (w.alloc (.cells #[.int .i64 v] 3)) (.slice (some ⟨w.heap.size, 0, none⟩) 1 1) 30; rw [s1] at this; exact this) (fun u hu => by simp at hu; subst hu; rfl) (by unfold maxLen; omega) (by omega) hF2.lo
  obtain ⟨Y, cY, rfl⟩ := slice_row h2
  unfold Oper.wp execOp
  simp only [ho, resolve, invoke, builtin, Sem.run_bind, Sem.run_pure, Result.andThen_ok, List.map_toArray, List.map_cons, List.map_nil, hs, hx, hr]
  have hO := hF2.rows.step (y' := ⟨Y, xs.length + 1, cY⟩) hN2 h2 h3
  have hI : Row3 w' B z L := own_keep' hF2.ints fun g hg => by
    refine h3.block g (own_lt' hF2.ints hg).2 (fun e => ?_)
    obtain ⟨c1, k1⟩ := own_type hF2.ints hg
    obtain ⟨c2, k2⟩ := own_type hF2.rows.row e.symm
    rw [k1] at k2
    simp at k2
  have hlt : ∀ g, ownB z = some g → g < w.heap.size := fun g hg => (own_lt' hF.ints hg).2
  refine hK _ _ (h ⟨Y, xs.length + 1, cY⟩ w' ⟨hO, hI, fun q hq g hg => ?_, Nat.le_trans hF2.lo h3.size⟩ ?_)
  · rcases List.mem_append.1 hq with hq | hq
    · exact hF.ne q hq g hg
    · simp only [List.mem_singleton] at hq
      subst hq
      intro e
      simp only [ownB, Value.ownBlock, Option.some.injEq] at e
      have := hlt g hg
      omega
  · have b3 : Below B ((w.alloc (.cells #[.int .i64 v] 3)).alloc (.cells #[.slice (some ⟨w.heap.size, 0, none⟩) 1 1] 30)) w' := ⟨h3.os, h3.tape, h3.output, h3.size, fun q hq => h3.block q (by have := hF2.lo; omega) (fun e => by have := (own_lt' hF2.rows.row e.symm).1; omega)⟩
    exact ((b1.mono hF.lo).trans (b2.mono (hF.below b1).lo)).trans b3

/-- append of the number, at the walk's operation. -/
theorem wpList_append_fix2 {ops : Array Oper} {rest : List Oper} {o : Oper} {a : Act} {Q : Exit → Act → World → Prop} (hgd : o.guard = none) (s x : Operand)
    (ho : o.op = .call { callee := .builtin .append, args := #[s, x], argTypes := #[30, 30] })
    {B : Nat} {w : World} {y : Sl} {xs : List Sl} {R : List (List Int)} {z : Sl} {L : List Int} (hF : RowsV B w y xs R z L) (v : Int) (hs : a.eval s = .slice z.A z.n z.c) (hx : a.eval x = .slice (some ⟨w.heap.size, 0, none⟩) 1 1) (hn : L.length < 1000000)
    (h : ∀ (z' : Sl) w', RowsV B w' y xs R z' (L ++ [v]) → Below B w w' → wpList Tryz.prog ops Q rest (a.put o.dst (.slice z'.A z'.n z'.c)) w') :
    wpList Tryz.prog ops Q (o :: rest) a (w.alloc (.cells #[.int .i64 v] 3)) := by
  obtain ⟨i0, hi, hz0, hz1, hz2⟩ := info_parts Tryz.info3
  have b1 := below1 w (.cells #[.int .i64 v] 3)
  have hF1 := hF.below b1
  refine wpList_plain hgd fun K hK => ?_
  obtain ⟨v', w', hr, h2, h3, h4, h5⟩ := run_append_own_at (P := Tryz.prog) (w.alloc (.cells #[.int .i64 v] 3)) B 30 o.type 3 i0 (.int .i64 0) 1 8 Tryz.underlying30 hi hz0 hz1 hz2 rfl (by decide) (.slice z.A z.n z.c) _ _ hF1.ints ⟨w.heap.size, 0, none⟩ 1 1 [.int .i64 v] rfl
    (new1_cells' w (.int .i64 v) 3) (fun u hu => by simp at hu; subst hu; rfl) (by unfold maxLen; omega) (by omega) hF1.lo
  obtain ⟨Y, cY, rfl⟩ := slice_row h2
  unfold Oper.wp execOp
  simp only [ho, resolve, invoke, builtin, Sem.run_bind, Sem.run_pure, Result.andThen_ok, List.map_toArray, List.map_cons, List.map_nil, hs, hx, hr]
  have hRow : Row3 w' B ⟨Y, L.length + 1, cY⟩ (L ++ [v]) := by
    unfold Row3
    rw [List.length_append, I_append]
    exact h2
  have hO : RowsO B w' y xs R := by
    refine ⟨own_keep' hF1.rows.row fun g hg => ?_, hF1.rows.len, fun k q r k1 k2 => own_keep' (hF1.rows.each k q r k1 k2) fun g hg => ?_⟩
    · refine h3.block g (own_lt' hF1.rows.row hg).2 (fun e => ?_)
      obtain ⟨c1, k1⟩ := own_type hF1.rows.row hg
      obtain ⟨c2, k2⟩ := own_type hF1.ints e.symm
      rw [k1] at k2
      simp at k2
    · exact h3.block g (own_lt' (hF1.rows.each k q r k1 k2) hg).2 (fun e => hF1.ne q (List.mem_of_getElem? k1) g e.symm hg)
  refine hK _ _ (h ⟨Y, L.length + 1, cY⟩ w' ⟨hO, hRow, fun q hq g hg => ?_, Nat.le_trans hF1.lo h3.size⟩ ?_)
  · rcases h5 with h5 | h5
    · exact hF1.ne q hq g (h5.symm.trans hg)
    · intro e
      have hg' : g = (w.alloc (.cells #[.int .i64 v] 3)).heap.size := by
        exact (Option.some.inj (h5.symm.trans hg)).symm
      obtain ⟨k, hk, hkq⟩ := List.getElem_of_mem hq
      have hkR : k < R.length := by rw [← hF1.rows.len]; exact hk
      have := (own_lt' (hF1.rows.each k q R[k] (by rw [List.getElem?_eq_getElem hk, hkq]) (List.getElem?_eq_getElem hkR)) e).2
      omega
  · have b3 : Below B (w.alloc (.cells #[.int .i64 v] 3)) w' := ⟨h3.os, h3.tape, h3.output, h3.size, fun q hq => h3.block q (by have := hF1.lo; omega) (fun e => by have := (own_lt' hF1.ints e.symm).1; omega)⟩
    exact (b1.mono hF.lo).trans b3
end Go.Proofs.YtkhmocbfkpbpfaaGreatDoor

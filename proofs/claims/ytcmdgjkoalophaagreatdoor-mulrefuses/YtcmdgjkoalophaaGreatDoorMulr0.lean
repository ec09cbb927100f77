/- What the laws on refused constraints need (layers 10 to 22): a shorter slice, a row taken away, a block of eight cells written. No walk but the closure's. -/
import Derived.Test.YtcmdgjkoalophaaGreatDoorMulf0
import Derived.Test.YtcmdgjkoalophaaGreatDoorMulq
import Derived.Test.YtcmdgjkoalophaaGreatDoorMulw
import Derived.Lib.MinMax
namespace Go.Proofs.YtcmdgjkoalophaaGreatDoor
open Go.RowKit Go.Sort

theorem getD_take' {α : Type} (R : List α) (d : α) {k i : Nat} (h : i < k) : (R.take k).getD i d = R.getD i d := by
  rw [List.getD_eq_getElem?_getD, List.getD_eq_getElem?_getD, List.getElem?_take_of_lt h]
theorem IsRows.cut {w : World} {y : Sl} {R : List (List Int)} (h : IsRows w y R) {k : Nat} (hk : k ≤ y.n) : IsRows w ⟨y.A, k, y.c⟩ (R.take k) := by
  refine ⟨by have := h.len; simp only [List.length_take]; omega, by have := h.big; simp only; omega, fun hp => ?_⟩
  simp only at hp
  obtain ⟨ad, e, hb, hc⟩ := h.lies (by omega)
  refine ⟨ad, e, hb, fun i hi => ?_⟩
  simp only at hi
  obtain ⟨u, h1, h2⟩ := hc i (by omega)
  rw [getD_take' _ _ hi]
  exact ⟨u, h1, h2⟩
theorem IsNs.cut {w : World} {x : Sl} {L : List Int} (h : IsNs .i64 w x L) {k : Nat} (hk : k ≤ x.n) (h5 : k ≤ 1000) : IsInts w ⟨x.A, k, x.c⟩ (L.take k) := by
  refine ⟨by have := h.len; simp only [List.length_take]; omega, fun hp => ?_, by simp only; omega, by have := h.cap; simp only; omega⟩
  simp only at hp
  obtain ⟨ad, e, hb, hc⟩ := h.lies (by omega)
  refine ⟨ad, e, hb, fun i hi => ?_⟩
  simp only at hi
  rw [hc i (by omega)]
  show some (Value.int .i64 (L.getD i 0)) = some (Value.int .i64 ((L.take k).getD i 0))
  rw [getD_take' _ _ hi]
/-- The first row is taken away. -/
theorem RowsO.nil0 {B : Nat} {W : World} {y : Sl} {xs : List Sl} {R : List (List Int)} (h : RowsO B W y xs R) {g : Nat} (hA : y.A = some ⟨g, 0, none⟩) : RowsO B (W.setCell ⟨g, 0, none⟩ (.slice none 0 0)) y (xs.set 0 ⟨none, 0, 0⟩) (R.set 0 []) := by
  have hrow := h.row
  obtain ⟨A', c', e⟩ := slice_row h.row
  simp only [Value.slice.injEq] at e
  obtain ⟨-, hyn, -⟩ := e
  rw [hA, hyn] at hrow
  obtain ⟨h1, hG⟩ := World.ownsRow.stored hrow 0 (.slice none 0 0)
  refine ⟨?_, by rw [List.length_set, List.length_set]; exact h.len, fun k x r e1 e2 => ?_⟩
  · rw [List.length_set, List.map_set, hA, hyn]
    exact h1
  · by_cases hk : k = 0
    · subst hk
      rw [List.getElem?_set] at e1 e2
      simp only [if_true] at e1 e2
      split at e1
      · injection e1 with e1
        split at e2
        · injection e2 with e2
          subst e1
          subst e2
          exact Row3.nil _ _
        · cases e2
      · cases e1
    · rw [List.getElem?_set_ne (Ne.symm hk)] at e1 e2
      have hx := h.each k x r e1 e2
      refine own_keep' hx fun q hq => hG.block q (own_lt' hx hq).2 fun e => ?_
      obtain ⟨c1, k1⟩ := own_type hx hq
      have hoy : (Value.slice y.A y.n y.c).ownBlock = some g := by rw [hA]; rfl
      obtain ⟨c2, k2⟩ := own_type h.row hoy
      injection e with e
      rw [← e, k1] at k2
      simp at k2
/-- A block of eight cells, written whole. -/
theorem put8 {W : World} {g : Nat} {ty : TypeId} {b0 b1 b2 b3 b4 b5 b6 b7 : Value} (hb : W.heap[g]? = some (.cells #[b0, b1, b2, b3, b4, b5, b6, b7] ty (0, 0))) (a0 a1 a2 a3 a4 a5 a6 a7 : Value) :
    ((((((((W.setCell ⟨g, 0, none⟩ a0).setCell ⟨g, 1, none⟩ a1).setCell ⟨g, 2, none⟩ a2).setCell ⟨g, 3, none⟩ a3).setCell ⟨g, 4, none⟩ a4).setCell ⟨g, 5, none⟩ a5).setCell ⟨g, 6, none⟩ a6).setCell ⟨g, 7, none⟩ a7).heap[g]? = some (.cells #[a0, a1, a2, a3, a4, a5, a6, a7] ty (0, 0)) ∧
    Kp g W ((((((((W.setCell ⟨g, 0, none⟩ a0).setCell ⟨g, 1, none⟩ a1).setCell ⟨g, 2, none⟩ a2).setCell ⟨g, 3, none⟩ a3).setCell ⟨g, 4, none⟩ a4).setCell ⟨g, 5, none⟩ a5).setCell ⟨g, 6, none⟩ a6).setCell ⟨g, 7, none⟩ a7) := by
  have h0 : (W.setCell ⟨g, 0, none⟩ a0).heap[g]? = some (.cells #[a0, b1, b2, b3, b4, b5, b6, b7] ty (0, 0)) := by simpa using box_put (j := 0) (x := a0) hb
  have h1 : ((W.setCell ⟨g, 0, none⟩ a0).setCell ⟨g, 1, none⟩ a1).heap[g]? = some (.cells #[a0, a1, b2, b3, b4, b5, b6, b7] ty (0, 0)) := by simpa using box_put (j := 1) (x := a1) h0
  have h2 : (((W.setCell ⟨g, 0, none⟩ a0).setCell ⟨g, 1, none⟩ a1).setCell ⟨g, 2, none⟩ a2).heap[g]? = some (.cells #[a0, a1, a2, b3, b4, b5, b6, b7] ty (0, 0)) := by simpa using box_put (j := 2) (x := a2) h1
  have h3 : ((((W.setCell ⟨g, 0, none⟩ a0).setCell ⟨g, 1, none⟩ a1).setCell ⟨g, 2, none⟩ a2).setCell ⟨g, 3, none⟩ a3).heap[g]? = some (.cells #[a0, a1, a2, a3, b4, b5, b6, b7] ty (0, 0)) := by simpa using box_put (j := 3) (x := a3) h2
  have h4 : (((((W.setCell ⟨g, 0, none⟩ a0).setCell ⟨g, 1, none⟩ a1).setCell ⟨g, 2, none⟩ a2).setCell ⟨g, 3, none⟩ a3).setCell ⟨g, 4, none⟩ a4).heap[g]? = some (.cells #[a0, a1, a2, a3, a4, b5, b6, b7] ty (0, 0)) := by simpa using box_put (j := 4) (x := a4) h3
  have h5 : ((((((W.setCell ⟨g, 0, none⟩ a0).setCell ⟨g, 1, none⟩ a1).setCell ⟨g, 2, none⟩ a2).setCell ⟨g, 3, none⟩ a3).setCell ⟨g, 4, none⟩ a4).setCell ⟨g, 5, none⟩ a5).heap[g]? = some (.cells #[a0, a1, a2, a3, a4, a5, b6, b7] ty (0, 0)) := by simpa using box_put (j := 5) (x := a5) h4
  have h6 : (((((((W.setCell ⟨g, 0, none⟩ a0).setCell ⟨g, 1, none⟩ a1).setCell ⟨g, 2, none⟩ a2).setCell ⟨g, 3, none⟩ a3).setCell ⟨g, 4, none⟩ a4).setCell ⟨g, 5, none⟩ a5).setCell ⟨g, 6, none⟩ a6).heap[g]? = some (.cells #[a0, a1, a2, a3, a4, a5, a6, b7] ty (0, 0)) := by simpa using box_put (j := 6) (x := a6) h5
  have h7 : ((((((((W.setCell ⟨g, 0, none⟩ a0).setCell ⟨g, 1, none⟩ a1).setCell ⟨g, 2, none⟩ a2).setCell ⟨g, 3, none⟩ a3).setCell ⟨g, 4, none⟩ a4).setCell ⟨g, 5, none⟩ a5).setCell ⟨g, 6, none⟩ a6).setCell ⟨g, 7, none⟩ a7).heap[g]? = some (.cells #[a0, a1, a2, a3, a4, a5, a6, a7] ty (0, 0)) := by simpa using box_put (j := 7) (x := a7) h6
  exact ⟨h7, (((((((Kp.refl g W).put 0 a0).put 1 a1).put 2 a2).put 3 a3).put 4 a4).put 5 a5).put 6 a6 |>.put 7 a7⟩
theorem some_of {c : ConL} {n : Nat} (h : rightE c (n : Int) = 0) : 1 ≤ c.A.length + c.B.length ∧ c.A.length + c.B.length ≤ 128 := by
  have r := con_r h
  have h1 := r.a64
  have h2 := r.b64
  by_cases hk : c.kind = 12
  · obtain ⟨-, -, hs, -⟩ := right_parts h
    rw [size_12 c hk] at hs
    omega
  · have := r.a1 hk
    omega
/-- append of a new row of one number, at the walk's operation: blocks of another type stay. -/
theorem wpList_append_row1 {ops : Array Oper} {rest : List Oper} {o : Oper} {a : Act} {Q : Exit → Act → World → Prop} (hgd : o.guard = none) (s x : Operand)
    (ho : o.op = .call { callee := .builtin .append, args := #[s, x], argTypes := #[29, 29] })
    {B : Nat} {w : World} {y : Sl} {xs : List Sl} {R : List (List Int)} (hF : RowsO B w y xs R) (hlo : B ≤ w.heap.size) (v : Int) (hs : a.eval s = .slice y.A y.n y.c) (hx : a.eval x = .slice (some ⟨w.heap.size + 1, 0, none⟩) 1 1) (hn : xs.length < 1000000)
    (h : ∀ (y' : Sl) w', RowsO B w' y' (xs ++ [⟨some ⟨w.heap.size, 0, none⟩, 1, 1⟩]) (R ++ [[v]]) → Below B w w' → (∀ (k : Nat) (cs : Array Value) (t : TypeId), w.heap[k]? = some (.cells cs t (0, 0)) → t ≠ 26 → w'.heap[k]? = w.heap[k]?) → wpList Tryz.prog ops Q rest (a.put o.dst (.slice y'.A y'.n y'.c)) w') :
    wpList Tryz.prog ops Q (o :: rest) a ((w.alloc (.cells #[.int .i64 v] 3)).alloc (.cells #[.slice (some ⟨w.heap.size, 0, none⟩) 1 1] 26)) := by
  obtain ⟨i0, hi, hz0, hz1, hz2⟩ := info_parts infoSl'
  have b1 := below1 w (.cells #[.int .i64 v] 3)
  have s1 : (w.alloc (.cells #[.int .i64 v] 3)).heap.size = w.heap.size + 1 := by simp
  have b2 := below1 (w.alloc (.cells #[.int .i64 v] 3)) (.cells #[.slice (some ⟨w.heap.size, 0, none⟩) 1 1] 26)
  have hN : Row3 (w.alloc (.cells #[.int .i64 v] 3)) B ⟨some ⟨w.heap.size, 0, none⟩, 1, 1⟩ [v] := World.ownsRow_lit (base := B) (e := 3) (size := 1) w #[.int .i64 v] 1 hlo (by decide) rfl
  have hN2 := row3_below hN b2
  have hF2 := (hF.below b1).below b2
  have hlo2 : B ≤ ((w.alloc (.cells #[.int .i64 v] 3)).alloc (.cells #[.slice (some ⟨w.heap.size, 0, none⟩) 1 1] 26)).heap.size := by simp; omega
  refine wpList_plain hgd fun K hK => ?_
  obtain ⟨v', w', hr, h2, h3, h4, h5⟩ := run_append_own_at (P := Tryz.prog) ((w.alloc (.cells #[.int .i64 v] 3)).alloc (.cells #[.slice (some ⟨w.heap.size, 0, none⟩) 1 1] 26)) B 29 o.type 26 i0 (.slice none 0 0) 1 24 Tryz.underlying29 hi hz0 hz1 hz2 rfl (by decide) (.slice y.A y.n y.c) _ _ hF2.row ⟨w.heap.size + 1, 0, none⟩ 1 1 [.slice (some ⟨w.heap.size, 0, none⟩) 1 1] rfl
    (by have := new1_cells' (w.alloc (.cells #[.int .i64 v] 3)) (.slice (some ⟨w.heap.size, 0, none⟩) 1 1) 26; rw [s1] at this; exact this) (fun u hu => by simp at hu; subst hu; rfl) (by unfold maxLen; omega) (by omega) hlo2
  obtain ⟨Y, cY, rfl⟩ := slice_row h2
  unfold Oper.wp execOp
  simp only [ho, resolve, invoke, builtin, Sem.run_bind, Sem.run_pure, Result.andThen_ok, List.map_toArray, List.map_cons, List.map_nil, hs, hx, hr]
  have hO := hF2.step (y' := ⟨Y, xs.length + 1, cY⟩) hN2 h2 h3
  refine hK _ _ (h ⟨Y, xs.length + 1, cY⟩ w' hO ?_ (fun k cs t hk ht => ?_))
  · have b3 : Below B ((w.alloc (.cells #[.int .i64 v] 3)).alloc (.cells #[.slice (some ⟨w.heap.size, 0, none⟩) 1 1] 26)) w' := ⟨h3.os, h3.tape, h3.output, h3.size, fun q hq => h3.block q (by omega) (fun e => by have := (own_lt' hF2.row e.symm).1; omega)⟩
    exact ((b1.mono hlo).trans (b2.mono (by simp; omega))).trans b3
  · have hlt := (Array.getElem?_eq_some_iff.1 hk).1
    have k1 := (b1.block k hlt).trans hk
    have k2 := (b2.block k (Array.getElem?_eq_some_iff.1 k1).1).trans k1
    have h4 := h3.block k (Array.getElem?_eq_some_iff.1 k2).1 (fun e => by
      obtain ⟨c2, q2⟩ := own_type hF2.row e.symm
      rw [k2] at q2
      injection q2 with q2
      injection q2 with _ q2 _
      exact ht q2)
    rw [h4, k2, hk]

/-- Rows stay, when a block of another type is written. -/
theorem RowsO.far8 {B g : Nat} {W W' : World} {y : Sl} {xs : List Sl} {R : List (List Int)} {cs : Array Value} (h : RowsO B W y xs R) (hg : W.heap[g]? = some (.cells cs 37 (0, 0))) (k : Kp g W W') : RowsO B W' y xs R := by
  refine ⟨own_keep' h.row fun q hq => k.block q (own_lt' h.row hq).2 fun e => ?_, h.len, fun i x r h1 h2 => own_keep' (h.each i x r h1 h2) fun q hq => k.block q (own_lt' (h.each i x r h1 h2) hq).2 fun e => ?_⟩
  · obtain ⟨c1, k1⟩ := own_type h.row hq
    rw [e, hg] at k1
    simp at k1
  · obtain ⟨c1, k1⟩ := own_type (h.each i x r h1 h2) hq
    rw [e, hg] at k1
    simp at k1
def cut5 (n : Nat) : Nat := if n < 5 then n else 5
theorem cut5_le (n : Nat) : cut5 n ≤ n ∧ cut5 n ≤ 5 := by unfold cut5; split <;> omega
theorem cut5_min (n : Nat) : min ((n : Nat) : Int) 5 = (cut5 n : Nat) := by unfold cut5; split <;> omega
theorem cut5_run (A : Option Addr) (n c m : Nat) (h : m ≤ c) (W : World) : (Instr.slice 26 (.slice A n c) none (some (.int .i64 (m : Nat))) none).run Tryz.prog W = .ok (.slice A m c) W := by
  have hu := run_underlying Tryz.underlying26 W
  simp [Instr.slice, hu, Instr.sliceBounds, Instr.sliceBound, asIntOf, go_sem]
  intro h'
  omega
theorem cutR_run (A : Option Addr) (n c m : Nat) (h : m ≤ c) (W : World) : (Instr.slice 29 (.slice A n c) none (some (.int .i64 (m : Nat))) none).run Tryz.prog W = .ok (.slice A m c) W := by
  have hu := run_underlying Tryz.underlying29 W
  simp [Instr.slice, hu, Instr.sliceBounds, Instr.sliceBound, asIntOf, go_sem]
  intro h'
  omega

theorem short11_any (A : Option Addr) (n c : Nat) (h : n ≤ c) (hb : n ≤ 9223372036854775807) (w : World) :
    Calls Tryz.prog 48 #[.slice A n c] w fun e w' => e = .returned (.slice A (cut5 n) c) ∧ w = w' := by
  have hs := cut5_run A n c (cut5 n) (by have := cut5_le n; omega)
  have hm := cut5_min n
  have hm' : min (5 : Int) ((n : Nat) : Int) = (cut5 n : Nat) := by rw [← hm]; omega
  go_enter Tryz.func48, Tryz.ntmps48
  go_wp2_with fail
  go_ret
  exact ⟨by first | rfl | simp [hm, hm'], rfl⟩
end Go.Proofs.YtcmdgjkoalophaaGreatDoor

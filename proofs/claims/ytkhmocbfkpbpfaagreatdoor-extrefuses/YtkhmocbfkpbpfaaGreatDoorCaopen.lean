/- Arguments that come in: plain data of a constraint with domains (layers 10 to 22). -/
import Derived.Test.YtkhmocbfkpbpfaaGreatDoorSmopen
import Derived.Test.YtkhmocbfkpbpfaaGreatDoorFix
import Derived.ChangeArms
namespace Go.Proofs.YtkhmocbfkpbpfaaGreatDoor
open Go.ChangeShapes Go.WideShapes Go.ChangeAt Go.RowKit Go.Deep

theorem cellsIntC : Tryz.prog.cellsOf 3 = 1 := by kernel_rfl
theorem cellsLIntC : Tryz.prog.cellsOf 30 = 1 := by kernel_rfl
theorem cellsLLIntC : Tryz.prog.cellsOf 27 = 1 := by kernel_rfl
theorem cellsCa : Tryz.prog.cellsOf 29 = 7 := by kernel_rfl

theorem rowsN_view {H : Type} {enc : TypeId × Value → H} {W : World} {v : Value} {y : DataW H × List MemPlace} {fuel : Nat}
    (hf : DataW.trod enc Tryz.prog W 0 (fun _ => true) true fuel 27 [v] = some y) : ∃ (x : Sl) (R : List (List Int)), v = .slice x.A x.n x.c ∧ IsRowsN W x R := by
  rcases DataW.trod_slice Tryz.underlying27 hf with ⟨h0, _⟩ | ⟨a, len, cap, elems, rest, n, _, hcs, _, hb, hl, hm, hlen, hel, hsp, hns⟩
  · simp only [List.cons.injEq, and_true] at h0
    subst h0
    exact ⟨⟨none, 0, 0⟩, [], rfl, rfl, by simp, fun h => absurd h (by simp)⟩
  · simp only [List.cons.injEq, and_true] at hcs
    subst hcs
    have each : ∀ i, i < len → ∃ (u : Sl) (L : List Int), W.cell? (a.add i) = some (.slice u.A u.n u.c) ∧ IsNs .i64 W u L := by
      intro i hi
      have h := hel i hi
      rw [cellsLIntC, Nat.mul_one, List.getElem?_eq_getElem (by omega), Option.bind_eq_some_iff] at h
      obtain ⟨cs, hc, ht⟩ := h
      have hlen1 : cs.length = 1 := (World.cells?_some hc).2.1
      match cs, hlen1 with
      | [q], _ =>
        obtain ⟨u, L, rfl, hu, -⟩ := ns_view Tryz.underlying30 Tryz.underlying3 cellsIntC ht
        exact ⟨u, L, cell_of_cells?_one hc, hu⟩
    let g : Nat → List Int := fun i => if h : i < len then (each i h).choose_spec.choose else []
    refine ⟨⟨some a, len, cap⟩, (List.range len).map g, rfl, by simp, by simp only; unfold maxLen at hm; omega, fun hp => ⟨a, rfl, ?_, fun i hi => ?_⟩⟩
    · obtain ⟨u, L, hc, _⟩ := each 0 hp
      have := World.block_lt_of_cell? W _ hc
      rwa [add_block] at this
    · have hi' : i < len := hi
      have hg : ((List.range len).map g).getD i [] = (each i hi').choose_spec.choose := by
        rw [List.getD_eq_getElem?_getD, List.getElem?_map, List.getElem?_range hi']
        simp [g, hi']
      rw [hg]
      exact ⟨(each i hi').choose, (each i hi').choose_spec.choose_spec⟩

set_option maxRecDepth 100000 in
theorem small_trod {H : Type} {enc : TypeId × Value → H} {W : World} {u0 u1 u2 u3 u4 u5 : Value} {y : DataW H × List MemPlace} {fuel : Nat}
    (hf : DataW.trod enc Tryz.prog W 0 (fun _ => true) true fuel 26 [u0, u1, u2, u3, u4, u5] = some y) : ∃ (zA zB zC : Sl) (k K ch : Int) (la lb lc : List Int), u0 = .int .u8 k ∧ u1 = .slice zA.A zA.n zA.c ∧ u2 = .slice zB.A zB.n zB.c ∧ u3 = .slice zC.A zC.n zC.c ∧ u4 = .int .i16 K ∧ u5 = .int .u8 ch ∧ SmIn W zA zB zC k K ch la lb lc := by
  obtain ⟨xs, n', _, _, _, hxl, hg⟩ := DataW.trod_struct Tryz.underlying26 hf
  match xs, hxl with
  | [x0, x1, x2, x3, x4, x5], _ =>
    have f0 : DataW.trod enc Tryz.prog W 0 (fun _ => true) true n' 5 [u0] = some x0 := by
      have := hg 0 _ rfl
      simpa [cellsU8, Value.cells] using this
    have f1 : DataW.trod enc Tryz.prog W 0 (fun _ => true) true n' 22 [u1] = some x1 := by
      have := hg 1 _ rfl
      simpa [cellsLU8, Value.cells] using this
    have f2 : DataW.trod enc Tryz.prog W 0 (fun _ => true) true n' 22 [u2] = some x2 := by
      have := hg 2 _ rfl
      simpa [cellsLU8, Value.cells] using this
    have f3 : DataW.trod enc Tryz.prog W 0 (fun _ => true) true n' 23 [u3] = some x3 := by
      have := hg 3 _ rfl
      simpa [cellsLI8, Value.cells] using this
    have f4 : DataW.trod enc Tryz.prog W 0 (fun _ => true) true n' 24 [u4] = some x4 := by
      have := hg 4 _ rfl
      simpa [cellsI16, Value.cells] using this
    have f5 : DataW.trod enc Tryz.prog W 0 (fun _ => true) true n' 5 [u5] = some x5 := by
      have := hg 5 _ rfl
      simpa [cellsU8, Value.cells] using this
    obtain ⟨k, e0, _, wf0⟩ := DataW.trod_int Tryz.underlying5 f0
    obtain ⟨K, e4, _, wf4⟩ := DataW.trod_int Tryz.underlying24 f4
    obtain ⟨ch, e5, _, wf5⟩ := DataW.trod_int Tryz.underlying5 f5
    obtain ⟨zA, la, e1, h1, w1⟩ := ns_view Tryz.underlying22 Tryz.underlying5 cellsU8 f1
    obtain ⟨zB, lb, e2, h2, w2⟩ := ns_view Tryz.underlying22 Tryz.underlying5 cellsU8 f2
    obtain ⟨zC, lc, e3, h3, w3⟩ := ns_view Tryz.underlying23 Tryz.underlying59 cellsI8 f3
    simp only [List.cons.injEq, and_true] at e0 e4 e5
    exact ⟨zA, zB, zC, k, K, ch, la, lb, lc, e0, e1, e2, e3, e4, e5, ⟨h1, h2, h3, fun v hv => u8_wf (w1 v hv), fun v hv => u8_wf (w2 v hv), fun v hv => i8_wf (w3 v hv), u8_wf wf0, i16_wf wf4, u8_wf wf5⟩⟩

set_option maxRecDepth 100000 in
theorem case_view {H : Type} {enc : TypeId × Value → H} {W : World} {b0 : Nat} {v : Value} {d : DataW H} {p : List MemPlace} (hv : Value.okWide Tryz.prog W .any b0 29 v)
    (h : DataW.Trod enc Tryz.prog W 0 (fun _ => true) true 29 v d p) : ∃ (zA zB zC zx : Sl) (k K ch : Int) (la lb lc : List Int) (DD : List (List Int)), v = caV zA zB zC k K ch zx ∧ SmIn W zA zB zC k K ch la lb lc ∧ IsRowsN W zx DD := by
  obtain ⟨cs, rfl, hsz⟩ := okWide_struct Tryz.underlying29 hv
  obtain ⟨fuel, hf⟩ := h
  obtain ⟨l⟩ := cs
  match l, hsz.trans cellsCa with
  | [u0, u1, u2, u3, u4, u5, u6], _ =>
    obtain ⟨xs, n', _, _, _, hxl, hg⟩ := DataW.trod_struct Tryz.underlying29 hf
    match xs, hxl with
    | [x0, x6], _ =>
      have f0 : DataW.trod enc Tryz.prog W 0 (fun _ => true) true n' 26 [u0, u1, u2, u3, u4, u5] = some x0 := by
        have := hg 0 _ rfl
        simpa [cellsSm, Value.cells] using this
      have f6 : DataW.trod enc Tryz.prog W 0 (fun _ => true) true n' 27 [u6] = some x6 := by
        have := hg 1 _ rfl
        simpa [cellsLLIntC, Value.cells] using this
      obtain ⟨zA, zB, zC, k, K, ch, la, lb, lc, e0, e1, e2, e3, e4, e5, hs⟩ := small_trod f0
      obtain ⟨zx, DD, e6, h6⟩ := rowsN_view f6
      subst e0 e1 e2 e3 e4 e5 e6
      exact ⟨zA, zB, zC, zx, k, K, ch, la, lb, lc, DD, rfl, hs, h6⟩
end Go.Proofs.YtkhmocbfkpbpfaaGreatDoor

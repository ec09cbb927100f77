/- Arguments that come in: a constraint of any form. -/
import Derived.Test.YtcmdgjkoalophaaGreatDoorSmopen
import Derived.ChangeArms
namespace Go.Proofs.YtcmdgjkoalophaaGreatDoor
open Go.ChangeShapes Go.WideShapes Go.ChangeAt Go.RowKit Go.Deep

theorem cellsCon : Tryz.prog.cellsOf 37 = 8 := by kernel_rfl
theorem cellsInt : Tryz.prog.cellsOf 3 = 1 := by kernel_rfl
theorem cellsLInt : Tryz.prog.cellsOf 26 = 1 := by kernel_rfl
theorem cellsLLInt : Tryz.prog.cellsOf 29 = 1 := by kernel_rfl
set_option maxRecDepth 100000 in
theorem raw_view {H : Type} {enc : TypeId × Value → H} {W : World} {b0 : Nat} {v : Value} {d : DataW H} {p : List MemPlace} (hv : Value.okWide Tryz.prog W .any b0 37 v)
    (h : DataW.Trod enc Tryz.prog W 0 (fun _ => true) true 37 v d p) : ∃ (kd kk : Int) (a b c d' e r : Sl) (A B C D E : List Int), v = .agg #[.int .i64 kd, .slice a.A a.n a.c, .slice b.A b.n b.c, .slice c.A c.n c.c, .slice d'.A d'.n d'.c, .slice e.A e.n e.c, .int .i64 kk, .slice r.A r.n r.c] ∧
      IsNs .i64 W a A ∧ IsNs .i64 W b B ∧ IsNs .i64 W c C ∧ IsNs .i64 W d' D ∧ IsNs .i64 W e E := by
  obtain ⟨cs, rfl, hsz⟩ := okWide_struct Tryz.underlying37 hv
  obtain ⟨fuel, hf⟩ := h
  obtain ⟨l⟩ := cs
  match l, hsz.trans cellsCon with
  | [u0, u1, u2, u3, u4, u5, u6, u7], _ =>
    obtain ⟨xs, n', _, _, _, hxl, hg⟩ := DataW.trod_struct Tryz.underlying37 hf
    match xs, hxl with
    | [x0, x1, x2, x3, x4, x5, x6, x7], _ =>
      have f0 : DataW.trod enc Tryz.prog W 0 (fun _ => true) true n' 3 [u0] = some x0 := by
        have := hg 0 _ rfl
        simpa [cellsInt, Value.cells] using this
      have f1 : DataW.trod enc Tryz.prog W 0 (fun _ => true) true n' 26 [u1] = some x1 := by
        have := hg 1 _ rfl
        simpa [cellsLInt, Value.cells] using this
      have f2 : DataW.trod enc Tryz.prog W 0 (fun _ => true) true n' 26 [u2] = some x2 := by
        have := hg 2 _ rfl
        simpa [cellsLInt, Value.cells] using this
      have f3 : DataW.trod enc Tryz.prog W 0 (fun _ => true) true n' 26 [u3] = some x3 := by
        have := hg 3 _ rfl
        simpa [cellsLInt, Value.cells] using this
      have f4 : DataW.trod enc Tryz.prog W 0 (fun _ => true) true n' 26 [u4] = some x4 := by
        have := hg 4 _ rfl
        simpa [cellsLInt, Value.cells] using this
      have f5 : DataW.trod enc Tryz.prog W 0 (fun _ => true) true n' 26 [u5] = some x5 := by
        have := hg 5 _ rfl
        simpa [cellsLInt, Value.cells] using this
      have f6 : DataW.trod enc Tryz.prog W 0 (fun _ => true) true n' 3 [u6] = some x6 := by
        have := hg 6 _ rfl
        simpa [cellsInt, Value.cells] using this
      have f7 : DataW.trod enc Tryz.prog W 0 (fun _ => true) true n' 29 [u7] = some x7 := by
        have := hg 7 _ rfl
        simpa [cellsLLInt, Value.cells] using this
      obtain ⟨kd, e0, _, _⟩ := DataW.trod_int Tryz.underlying3 f0
      obtain ⟨kk, e6, _, _⟩ := DataW.trod_int Tryz.underlying3 f6
      obtain ⟨a, A, e1, h1, _⟩ := ns_view Tryz.underlying26 Tryz.underlying3 cellsInt f1
      obtain ⟨b, B, e2, h2, _⟩ := ns_view Tryz.underlying26 Tryz.underlying3 cellsInt f2
      obtain ⟨c, C, e3, h3, _⟩ := ns_view Tryz.underlying26 Tryz.underlying3 cellsInt f3
      obtain ⟨d', D, e4, h4, _⟩ := ns_view Tryz.underlying26 Tryz.underlying3 cellsInt f4
      obtain ⟨e, E, e5, h5, _⟩ := ns_view Tryz.underlying26 Tryz.underlying3 cellsInt f5
      obtain ⟨r, e7⟩ : ∃ r : Sl, u7 = .slice r.A r.n r.c := by
        rcases DataW.trod_slice Tryz.underlying29 f7 with ⟨h0, _⟩ | ⟨a, len, cap, elems, rest, n, _, hcs, _⟩
        · simp only [List.cons.injEq, and_true] at h0
          exact ⟨⟨none, 0, 0⟩, h0⟩
        · simp only [List.cons.injEq, and_true] at hcs
          exact ⟨⟨some a, len, cap⟩, hcs⟩
      simp only [List.cons.injEq, and_true] at e0 e6
      subst e0 e1 e2 e3 e4 e5 e6 e7
      exact ⟨kd, kk, a, b, c, d', e, r, A, B, C, D, E, rfl, h1, h2, h3, h4, h5⟩
end Go.Proofs.YtcmdgjkoalophaaGreatDoor

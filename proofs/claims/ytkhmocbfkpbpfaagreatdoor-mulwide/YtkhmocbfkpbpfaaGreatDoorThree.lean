/- Arguments that come in: three small numbers (the laws on great domains). -/
import Derived.Test.YtkhmocbfkpbpfaaGreatDoorSmopen
import Derived.OpenShut
import Derived.WideKeyArr2
namespace Go.Proofs.YtkhmocbfkpbpfaaGreatDoor
open Go.ChangeShapes Go.WideShapes Go.ChangeAt Go.RowKit Go.Deep

theorem okWide_array {P : Program} {w : World} {r : Reach} {base : Nat} {t e : TypeId} {n : Nat} {v : Value} (ht : P.underlying t = some (.array n e)) (h : Value.okWide P w r base t v) : ∃ cs, v = .agg cs ∧ cs.size = P.cellsOf t := by
  simp only [Value.okWide, ht] at h
  obtain ⟨cs, h1, h2, _⟩ := h
  exact ⟨cs, h1, h2⟩
theorem cells3i : Tryz.prog.cellsOf 62 = 3 := by kernel_rfl
theorem cells1i : Tryz.prog.cellsOf 24 = 1 := by kernel_rfl
set_option maxRecDepth 100000 in
theorem three_view {H : Type} {enc : TypeId × Value → H} {W : World} {b0 : Nat} {v : Value} {d : DataW H} {p : List MemPlace} (hv : Value.okWide Tryz.prog W .any b0 62 v)
    (h : DataW.Trod enc Tryz.prog W 0 (fun _ => true) true 62 v d p) : ∃ a b c : Int, v = .agg #[.int .i16 a, .int .i16 b, .int .i16 c] ∧ ∀ z ∈ [a, b, c], -32768 ≤ z ∧ z ≤ 32767 := by
  obtain ⟨cs, rfl, hsz⟩ := okWide_array Tryz.underlying62 hv
  obtain ⟨fuel, hf⟩ := h
  obtain ⟨l⟩ := cs
  match l, hsz.trans cells3i with
  | [u0, u1, u2], _ =>
    obtain ⟨xs, n', _, _, _, hxl, hg⟩ := DataW.trod_array Tryz.underlying62 hf
    match xs, hxl with
    | [x0, x1, x2], _ =>
      have f0 : DataW.trod enc Tryz.prog W 0 (fun _ => true) true n' 24 [u0] = some x0 := by
        have := hg 0 (by omega)
        simpa [cells1i, Value.cells] using this
      have f1 : DataW.trod enc Tryz.prog W 0 (fun _ => true) true n' 24 [u1] = some x1 := by
        have := hg 1 (by omega)
        simpa [cells1i, Value.cells] using this
      have f2 : DataW.trod enc Tryz.prog W 0 (fun _ => true) true n' 24 [u2] = some x2 := by
        have := hg 2 (by omega)
        simpa [cells1i, Value.cells] using this
      obtain ⟨a, e0, -, w0⟩ := DataW.trod_int Tryz.underlying24 f0
      obtain ⟨b, e1, -, w1⟩ := DataW.trod_int Tryz.underlying24 f1
      obtain ⟨c, e2, -, w2⟩ := DataW.trod_int Tryz.underlying24 f2
      simp only [List.cons.injEq, and_true] at e0 e1 e2
      subst e0 e1 e2
      refine ⟨a, b, c, rfl, fun z hz => ?_⟩
      simp only [List.mem_cons, List.not_mem_nil, or_false] at hz
      rcases hz with rfl | rfl | rfl
      · exact i16_wf w0
      · exact i16_wf w1
      · exact i16_wf w2
end Go.Proofs.YtkhmocbfkpbpfaaGreatDoor

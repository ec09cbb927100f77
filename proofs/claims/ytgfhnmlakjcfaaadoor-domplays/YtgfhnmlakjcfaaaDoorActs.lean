/- An argument of type []Act, opened. -/
import Derived.Test.YtgfhnmlakjcfaaaDoorPlays
import Derived.Test.YtgfhnmlakjcfaaaDoorLaid
import Derived.Deep.Slices
namespace Go.Proofs.YtgfhnmlakjcfaaaDoor
open Go.ChangeShapes Go.WideShapes Go.ChangeAt Go.RowKit Go.Deep

theorem cells44 : Tryd.prog.cellsOf 44 = 3 := by kernel_rfl
theorem cells22 : Tryd.prog.cellsOf 22 = 1 := by kernel_rfl

/-- An argument of type []Act: where its acts lie. -/
theorem view_acts {H : Type} {enc : TypeId × Value → H} {W : World} {fuel : Nat} {b0 : Option Addr} {len cap : Nat} {d : DataW H} {p : List MemPlace}
    (hf : DataW.trod enc Tryd.prog W 0 (fun _ => true) true fuel 42 (Value.slice b0 len cap).cells.toList = some (d, p)) :
    len = 0 ∨ ∃ a, b0 = some a ∧ 0 < len ∧ len ≤ cap ∧ Acts W a len := by
  rcases open_slice Tryd.underlying42 hf with ⟨hcs, _⟩ | ⟨a, len', cap', m, n, D, Pl, hcs, _, hl, _, hmm, _, hi⟩
  · simp [Value.cells] at hcs
    exact .inl hcs.2.1
  · simp [Value.cells] at hcs
    obtain ⟨rfl, rfl, rfl⟩ := hcs
    by_cases h0 : len = 0
    · exact .inl h0
    · simp only [if_true] at hmm
      have key : ∀ i, i < len → ∃ kd v Z nz cz, W.cell? (a.add (i * 3)) = some (.int .u8 kd) ∧ W.cell? (a.add (i * 3 + 1)) = some (.int .i64 v) ∧ W.cell? (a.add (i * 3 + 2)) = some (.slice Z nz cz) ∧ Act1 W kd v Z nz cz := by
        intro i hil
        obtain ⟨cs', hc, ht⟩ := hi i (by omega)
        rw [cells44] at hc
        obtain ⟨_, hcl, hat⟩ := World.cells?_some hc
        obtain ⟨xs, n', _, _, _, hxl, hg⟩ := DataW.trod_struct Tryd.underlying44 ht
        match cs', hcl with
        | [u0, u1, u2], _ =>
          match xs, hxl with
          | [x0, x1, x2], _ =>
            have f0 : DataW.trod enc Tryd.prog W 0 (fun _ => true) true n' 5 [u0] = some x0 := by
              have := hg 0 { name := "Do", type := 5, offset := 0, embedded := false, tag := "", pkgPath := "", byteOffset := 0 } rfl
              simpa [cells5] using this
            have f1 : DataW.trod enc Tryd.prog W 0 (fun _ => true) true n' 3 [u1] = some x1 := by
              have := hg 1 { name := "V", type := 3, offset := 1, embedded := false, tag := "", pkgPath := "", byteOffset := 8 } rfl
              simpa [cells3] using this
            have f2 : DataW.trod enc Tryd.prog W 0 (fun _ => true) true n' 22 [u2] = some x2 := by
              have := hg 2 { name := "L", type := 22, offset := 2, embedded := false, tag := "", pkgPath := "", byteOffset := 16 } rfl
              simpa [cells22] using this
            obtain ⟨kd, e0, _, wf0⟩ := DataW.trod_int Tryd.underlying5 f0
            obtain ⟨v, e1, _, wf1⟩ := DataW.trod_int Tryd.underlying3 f1
            have c0 := hat 0 (by omega)
            have c1 := hat 1 (by omega)
            have c2 := hat 2 (by omega)
            rw [add_zero] at c0
            rw [add_add] at c1 c2
            simp only [List.cons.injEq, and_true] at e0 e1
            subst e0 e1
            have b1 : -9223372036854775808 ≤ v ∧ v ≤ 9223372036854775807 := by simpa [Lit.wf, IntKind.min, IntKind.max, IntKind.signed, IntKind.bits] using wf1
            have b0 : 0 ≤ kd ∧ kd ≤ 255 := by simpa [Lit.wf, IntKind.min, IntKind.max, IntKind.signed, IntKind.bits] using wf0
            have hsl : ∃ Z nz cz, u2 = .slice Z nz cz := by
              rcases open_slice Tryd.underlying22 f2 with ⟨hcs, _⟩ | ⟨a', l', c', _, _, _, _, hcs, _⟩
              · exact ⟨none, 0, 0, by simpa using hcs⟩
              · exact ⟨some a', l', c', by simpa using hcs⟩
            obtain ⟨Z, nz, cz, rfl⟩ := hsl
            obtain ⟨zs, z1, z2, z3, _⟩ := view (a0 := Z) (len := nz) (cap := cz) (d := x2.1) (p := x2.2) (by simpa [Value.cells] using f2)
            exact ⟨kd, v, Z, nz, cz, c0, c1, c2, ⟨b0.1, b1.1, b1.2, zs, z1.symm, z2, z3⟩⟩
      refine .inr ⟨a, rfl, by omega, hl, ?_, key⟩
      obtain ⟨_, _, _, _, _, c0, _⟩ := key 0 (by omega)
      have := World.block_lt_of_cell? W _ c0
      rwa [add_block] at this
end Go.Proofs.YtgfhnmlakjcfaaaDoor

/- An argument of type [][]int, opened. -/
import Derived.Test.YtegiaonlneamfaaDoorLists
import Derived.Test.YtegiaonlneamfaaDoorLaid
import Derived.Test.YtegiaonlneamfaaDoorBackw
import Derived.Deep.Slices
namespace Go.Proofs.YtegiaonlneamfaaDoor
open Go.ChangeShapes Go.WideShapes Go.ChangeAt Go.RowKit Go.Deep

theorem cells34 : Tryd.prog.cellsOf 34 = 1 := by kernel_rfl

/-- An argument of type [][]int: its lists, and where they lie. -/
theorem view_lists {H : Type} {enc : TypeId × Value → H} {W : World} {fuel : Nat} {b0 : Option Addr} {len cap : Nat} {d : DataW H} {p : List MemPlace}
    (hf : DataW.trod enc Tryd.prog W 0 (fun _ => true) true fuel 22 (Value.slice b0 len cap).cells.toList = some (d, p)) :
    ∃ zss : List (List Int), len = zss.length ∧ len ≤ cap ∧ ListsIn W b0 zss := by
  rcases open_slice Tryd.underlying22 hf with ⟨hcs, _⟩ | ⟨a, len', cap', m, n, D, Pl, hcs, _, hl, _, hmm, _, hi⟩
  · simp [Value.cells] at hcs
    obtain ⟨rfl, rfl, rfl⟩ := hcs
    exact ⟨[], rfl, Nat.le_refl _, fun h => absurd h (by simp)⟩
  · simp [Value.cells] at hcs
    obtain ⟨rfl, rfl, rfl⟩ := hcs
    simp only [if_true] at hmm
    have key : ∀ i, i < len → ∃ (zs : List Int) (R : Option Addr) (c : Nat), W.cell? (a.add i) = some (.slice R zs.length c) ∧ Lies W R zs.length (i64f zs) := by
      intro i hil
      obtain ⟨cs', hc, ht⟩ := hi i (by omega)
      rw [cells34] at hc
      obtain ⟨_, hcl, hat⟩ := World.cells?_some hc
      match cs', hcl with
      | [u0], _ =>
        have c0 := hat 0 (by omega)
        rw [add_zero] at c0
        have hsl : ∃ Z nz cz, u0 = .slice Z nz cz := by
          rcases open_slice Tryd.underlying34 ht with ⟨hcs, _⟩ | ⟨a', l', c', _, _, _, _, hcs, _⟩
          · exact ⟨none, 0, 0, by simpa using hcs⟩
          · exact ⟨some a', l', c', by simpa using hcs⟩
        obtain ⟨Z, nz, cz, rfl⟩ := hsl
        obtain ⟨zs, rfl, z2, z3, _⟩ := view (a0 := Z) (len := nz) (cap := cz) (d := (D i)) (p := (Pl i)) (by simpa [Value.cells] using ht)
        exact ⟨zs, Z, cz, by simpa using c0, z3⟩
    have hch : ∃ F : Nat → List Int, ∀ i, i < len → ∃ (R : Option Addr) (c : Nat), W.cell? (a.add i) = some (.slice R (F i).length c) ∧ Lies W R (F i).length (i64f (F i)) :=
      ⟨fun i => if h : i < len then (key i h).choose else [], fun i h => by
        have := (key i h).choose_spec
        simpa only [dif_pos h] using this⟩
    obtain ⟨F, hF⟩ := hch
    refine ⟨(List.range len).map F, by simp, hl, fun hp => ⟨a, rfl, ?_, fun k zs hk => ?_⟩⟩
    · obtain ⟨R, c, c0, _⟩ := hF 0 (by simpa using hp)
      have := World.block_lt_of_cell? W _ c0
      rwa [add_block] at this
    · have hkl : k < len := by have := (List.getElem?_eq_some_iff.1 hk).1; simpa using this
      rw [List.getElem?_map, List.getElem?_range hkl] at hk
      simp only [Option.map_some, Option.some.injEq] at hk
      subst hk
      exact hF k hkl
end Go.Proofs.YtegiaonlneamfaaDoor

/- An argument of type []Act (layer 3's), opened. -/
namespace Go.Proofs.YtegiaonlneamfaaDoor
open Go.ChangeShapes Go.WideShapes Go.ChangeAt Go.RowKit Go.Deep

theorem cells36 : Tryd.prog.cellsOf 36 = 4 := by kernel_rfl

set_option maxRecDepth 100000 in
/-- An argument of type []Act: where its steps lie. -/
theorem view_acts {H : Type} {enc : TypeId × Value → H} {W : World} {fuel : Nat} {b0 : Option Addr} {len cap : Nat} {d : DataW H} {p : List MemPlace}
    (hf : DataW.trod enc Tryd.prog W 0 (fun _ => true) true fuel 23 (Value.slice b0 len cap).cells.toList = some (d, p)) :
    len ≤ cap ∧ (len = 0 ∨ ∃ a, b0 = some a) ∧ ActsIn W b0 len := by
  rcases open_slice Tryd.underlying23 hf with ⟨hcs, _⟩ | ⟨a, len', cap', m, n, D, Pl, hcs, _, hl, _, hmm, _, hi⟩
  · simp [Value.cells] at hcs
    obtain ⟨rfl, rfl, rfl⟩ := hcs
    exact ⟨Nat.le_refl _, .inl rfl, fun h => absurd h (by omega)⟩
  · simp [Value.cells] at hcs
    obtain ⟨rfl, rfl, rfl⟩ := hcs
    simp only [if_true] at hmm
    have key : ∀ i, i < len → ∃ kd v N Z nz cz zs, W.cell? (a.add (i * 4)) = some (.int .u8 kd) ∧ W.cell? (a.add (i * 4 + 1)) = some (.int .i64 v) ∧ W.cell? (a.add (i * 4 + 2)) = some (.int .i64 N) ∧ W.cell? (a.add (i * 4 + 3)) = some (.slice Z nz cz) ∧ ActIn W kd v Z nz cz zs := by
      intro i hil
      obtain ⟨cs', hc, ht⟩ := hi i (by omega)
      rw [cells36] at hc
      obtain ⟨_, hcl, hat⟩ := World.cells?_some hc
      obtain ⟨xs, n', _, _, _, hxl, hg⟩ := DataW.trod_struct Tryd.underlying36 ht
      match cs', hcl with
      | [u0, u1, u2, u3], _ =>
        match xs, hxl with
        | [x0, x1, x2, x3], _ =>
          have f0 : DataW.trod enc Tryd.prog W 0 (fun _ => true) true n' 5 [u0] = some x0 := by
            have := hg 0 { name := "Do", type := 5, offset := 0, embedded := false, tag := "", pkgPath := "", byteOffset := 0 } rfl
            simpa [cells5] using this
          have f1 : DataW.trod enc Tryd.prog W 0 (fun _ => true) true n' 3 [u1] = some x1 := by
            have := hg 1 { name := "Var", type := 3, offset := 1, embedded := false, tag := "", pkgPath := "", byteOffset := 8 } rfl
            simpa [cells3] using this
          have f2 : DataW.trod enc Tryd.prog W 0 (fun _ => true) true n' 3 [u2] = some x2 := by
            have := hg 2 { name := "N", type := 3, offset := 2, embedded := false, tag := "", pkgPath := "", byteOffset := 16 } rfl
            simpa [cells3] using this
          have f3 : DataW.trod enc Tryd.prog W 0 (fun _ => true) true n' 34 [u3] = some x3 := by
            have := hg 3 { name := "L", type := 34, offset := 3, embedded := false, tag := "", pkgPath := "", byteOffset := 24 } rfl
            simpa [cells34] using this
          obtain ⟨kd, e0, _, wf0⟩ := DataW.trod_int Tryd.underlying5 f0
          obtain ⟨v, e1, _, wf1⟩ := DataW.trod_int Tryd.underlying3 f1
          obtain ⟨N, e2, _, wf2⟩ := DataW.trod_int Tryd.underlying3 f2
          have c0 := hat 0 (by omega)
          have c1 := hat 1 (by omega)
          have c2 := hat 2 (by omega)
          have c3 := hat 3 (by omega)
          rw [add_zero] at c0
          rw [add_add] at c1 c2 c3
          simp only [List.cons.injEq, and_true] at e0 e1 e2
          subst e0 e1 e2
          have b1 : -9223372036854775808 ≤ v ∧ v ≤ 9223372036854775807 := by simpa [Lit.wf, IntKind.min, IntKind.max, IntKind.signed, IntKind.bits] using wf1
          have b0 : 0 ≤ kd ∧ kd ≤ 255 := by simpa [Lit.wf, IntKind.min, IntKind.max, IntKind.signed, IntKind.bits] using wf0
          have b2 : -9223372036854775808 ≤ N ∧ N ≤ 9223372036854775807 := by simpa [Lit.wf, IntKind.min, IntKind.max, IntKind.signed, IntKind.bits] using wf2
          have hsl : ∃ Z nz cz, u3 = .slice Z nz cz := by
            rcases open_slice Tryd.underlying34 f3 with ⟨hcs, _⟩ | ⟨a', l', c', _, _, _, _, hcs, _⟩
            · exact ⟨none, 0, 0, by simpa using hcs⟩
            · exact ⟨some a', l', c', by simpa using hcs⟩
          obtain ⟨Z, nz, cz, rfl⟩ := hsl
          obtain ⟨zs, z1, z2, z3, _⟩ := view (a0 := Z) (len := nz) (cap := cz) (d := x3.1) (p := x3.2) (by simpa [Value.cells] using f3)
          exact ⟨kd, v, N, Z, nz, cz, zs, c0, c1, c2, c3, ⟨b0.1, b0.2, b1.1, b1.2, z1.symm, z3⟩⟩
    refine ⟨hl, .inr ⟨a, rfl⟩, fun hp => ⟨a, rfl, ?_, key⟩⟩
    obtain ⟨_, _, _, _, _, _, _, c0, _⟩ := key 0 hp
    have := World.block_lt_of_cell? W _ c0
    rwa [add_block] at this
end Go.Proofs.YtegiaonlneamfaaDoor

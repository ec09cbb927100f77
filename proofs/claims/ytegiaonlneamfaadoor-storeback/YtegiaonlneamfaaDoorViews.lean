/- An argument of type [][]int, opened. -/
import Derived.Test.YtegiaonlneamfaaDoorLists
import Derived.Test.YtegiaonlneamfaaDoorLaid
import Derived.Deep.Slices
namespace Go.Proofs.YtegiaonlneamfaaDoor
open Go.ChangeShapes Go.WideShapes Go.ChangeAt Go.RowKit Go.Deep

theorem cells34 : Tryd.prog.cellsOf 34 = 1 := by kernel_rfl

/-- An argument of type [][]int: its lists, and where they lie. -/
theorem view_lists {H : Type} {enc : TypeId × Value → H} {W : World} {fuel : Nat} {b0 : Option Addr} {len cap : Nat} {d : DataW H} {p : List MemPlace}
    (hf : DataW.trod enc Tryd.prog W 0 (fun _ => true) true fuel 22 (Value.slice b0 len cap).cells.toList = some (d, p)) :
    ∃ zss : List (List Int), len = zss.length ∧ len ≤ cap ∧ ListsIn W b0 zss := by
  rcases open_slice Tryd.underlying22 hf with ⟨hcs, _⟩ | ⟨a, len', cap', m, n, D, Pl, hcs, _, hl, _, hmm, _, hi⟩
  · simp [Value.cells] at hcs
    obtain ⟨rfl, rfl, rfl⟩ := hcs
    exact ⟨[], rfl, Nat.le_refl _, fun h => absurd h (by simp)⟩
  · simp [Value.cells] at hcs
    obtain ⟨rfl, rfl, rfl⟩ := hcs
    simp only [if_true] at hmm
    have key : ∀ i, i < len → ∃ (zs : List Int) (R : Option Addr) (c : Nat), W.cell? (a.add i) = some (.slice R zs.length c) ∧ Lies W R zs.length (i64f zs) := by
      intro i hil
      obtain ⟨cs', hc, ht⟩ := hi i (by omega)
      rw [cells34] at hc
      obtain ⟨_, hcl, hat⟩ := World.cells?_some hc
      match cs', hcl with
      | [u0], _ =>
        have c0 := hat 0 (by omega)
        rw [add_zero] at c0
        have hsl : ∃ Z nz cz, u0 = .slice Z nz cz := by
          rcases open_slice Tryd.underlying34 ht with ⟨hcs, _⟩ | ⟨a', l', c', _, _, _, _, hcs, _⟩
          · exact ⟨none, 0, 0, by simpa using hcs⟩
          · exact ⟨some a', l', c', by simpa using hcs⟩
        obtain ⟨Z, nz, cz, rfl⟩ := hsl
        obtain ⟨zs, rfl, z2, z3, _⟩ := view (a0 := Z) (len := nz) (cap := cz) (d := (D i)) (p := (Pl i)) (by simpa [Value.cells] using ht)
        exact ⟨zs, Z, cz, by simpa using c0, z3⟩
    have hch : ∃ F : Nat → List Int, ∀ i, i < len → ∃ (R : Option Addr) (c : Nat), W.cell? (a.add i) = some (.slice R (F i).length c) ∧ Lies W R (F i).length (i64f (F i)) :=
      ⟨fun i => if h : i < len then (key i h).choose else [], fun i h => by
        have := (key i h).choose_spec
        simpa only [dif_pos h] using this⟩
    obtain ⟨F, hF⟩ := hch
    refine ⟨(List.range len).map F, by simp, hl, fun hp => ⟨a, rfl, ?_, fun k zs hk => ?_⟩⟩
    · obtain ⟨R, c, c0, _⟩ := hF 0 (by simpa using hp)
      have := World.block_lt_of_cell? W _ c0
      rwa [add_block] at this
    · have hkl : k < len := by have := (List.getElem?_eq_some_iff.1 hk).1; simpa using this
      rw [List.getElem?_map, List.getElem?_range hkl] at hk
      simp only [Option.map_some, Option.some.injEq] at hk
      subst hk
      exact hF k hkl
end Go.Proofs.YtegiaonlneamfaaDoor

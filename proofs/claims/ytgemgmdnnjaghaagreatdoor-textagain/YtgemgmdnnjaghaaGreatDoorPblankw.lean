/- The walk of ParseBlanks. -/
import Derived.Test.YtgemgmdnnjaghaaGreatDoorPflt
import Derived.Test.YtgemgmdnnjaghaaGreatDoorPblankr
import Derived.Test.YtgemgmdnnjaghaaGreatDoorPreplace
import Derived.Test.YtgemgmdnnjaghaaGreatDoorMequal3
import Derived.Test.YtgemgmdnnjaghaaGreatDoorMstr
import Derived.Lib.MinMax
import Derived.Lib.IndexLaws
namespace Go.Proofs.YtgemgmdnnjaghaaGreatDoor
open Go.RowKit Go.Sort Go.Maps

theorem bl_append (a b : ByteArray) : bl (a ++ b) = bl a ++ bl b := by
  simp [bl]
/-- The library's MaxLen holds some number. -/
def MaxC (w : World) : Prop := ∃ m, w.cell? ⟨1, 0, none⟩ = some (.int .i64 m)
theorem MaxC.below {w w' : World} (h : MaxC w) (hb : Below w.heap.size w w') : MaxC w' := by
  obtain ⟨m, hm⟩ := h
  exact ⟨m, (hb.cell (World.block_lt_of_cell? w _ hm)).trans hm⟩
theorem signs_at (k : Nat) (h : k < 9) : (#[.string ⟨#[40]⟩, .string ⟨#[41]⟩, .string ⟨#[91]⟩, .string ⟨#[93]⟩, .string ⟨#[123]⟩, .string ⟨#[125]⟩, .string ⟨#[44]⟩, .string ⟨#[59]⟩, .string ⟨#[58]⟩] : Array Value)[k]? = some (.string ⟨#[signsL.getD k 0]⟩) := by
  have h9 : k = 0 ∨ k = 1 ∨ k = 2 ∨ k = 3 ∨ k = 4 ∨ k = 5 ∨ k = 6 ∨ k = 7 ∨ k = 8 := by omega
  rcases h9 with rfl | rfl | rfl | rfl | rfl | rfl | rfl | rfl | rfl <;> rfl
theorem has_no {s : ByteArray} {c : UInt8} (h : hasC s c = false) : ∀ x ∈ bl s, x ≠ c := by
  intro x hx e
  subst e
  unfold hasC at h
  simp only [decide_eq_false_iff_not] at h
  apply h
  apply Classical.byContradiction
  intro hlt
  have hge := Lib.indexByte_ge (bl s) x
  obtain ⟨k, hk⟩ := List.getElem?_of_mem hx
  exact Lib.indexByte_none (by omega : Lib.indexByte (bl s) x = -1) k hk
theorem sgx_nil : ∀ l : Bs, l.flatMap (sgx []) = l
  | [] => rfl
  | c :: l => by
    rw [List.flatMap_cons, sgx_nil l]
    rfl
abbrev signO : Obj := Obj.cells #[.string ⟨#[40]⟩, .string ⟨#[41]⟩, .string ⟨#[91]⟩, .string ⟨#[93]⟩, .string ⟨#[123]⟩, .string ⟨#[125]⟩, .string ⟨#[44]⟩, .string ⟨#[59]⟩, .string ⟨#[58]⟩] 9
theorem rep_len (x : UInt8) {new : Bs} (k : Nat) (hn : new.length ≤ k) (hk : 1 ≤ k) : ∀ s : Bs, (s.flatMap (rep x new)).length ≤ k * s.length
  | [] => by simp
  | c :: s => by
    have := rep_len x k hn hk s
    rw [List.flatMap_cons, List.length_append, List.length_cons, Nat.mul_add, Nat.mul_one]
    have h1 : (rep x new c).length ≤ k := by
      unfold rep
      split
      · exact hn
      · simpa using hk
    omega
theorem eq_self (m : ModL) : eqMod m m = true := (eqMod_iff m m).2 rfl
/-- Parse of a text whose model is known. -/
theorem parse_known {m : ModL} {bs : Bs} (hp : parseA bs = (m, 0, 0)) (S : ByteArray) (hS : bl S = bs) (hl : S.size ≤ 1000000) (W : World) (hE : EntIn W) (hT : TabZ W) : Calls Tryz.prog 15 #[.string S] W fun e w' => ∃ v : ModV, e = .returned (.tuple #[v.val m.goal m.obj, .int .i64 0, .int .i64 0]) ∧ ModIn w' v m ∧ Below W.heap.size W w' := by
  refine (parse_any S W (by omega) hE hT).mono ?_
  rw [hS, hp]
  rintro e w' ⟨v, h1, h2, h3⟩
  exact ⟨v, h1, h2, h3⟩
abbrev modO (v : ModV) (m : ModL) : Obj := Obj.cells #[Value.slice v.n.A v.n.n v.n.c, Value.slice v.d.A v.d.n v.d.c, Value.slice v.c.A v.c.n v.c.c, Value.int .i64 m.goal, Value.int .i64 m.obj] 30
/-- A model that lies in a box, and stays there. -/
structure Boxed (W : World) (b : Nat) (v : ModV) (m : ModL) : Prop where
  mod : ModIn W v m
  lt : b < W.heap.size
  c0 : W.cell? ⟨b, 0, none⟩ = some (.slice v.n.A v.n.n v.n.c)
  c1 : W.cell? ⟨b, 1, none⟩ = some (.slice v.d.A v.d.n v.d.c)
  c2 : W.cell? ⟨b, 2, none⟩ = some (.slice v.c.A v.c.n v.c.c)
  c3 : W.cell? ⟨b, 3, none⟩ = some (.int .i64 m.goal)
  c4 : W.cell? ⟨b, 4, none⟩ = some (.int .i64 m.obj)
theorem Boxed.below {W W' : World} {b : Nat} {v : ModV} {m : ModL} (h : Boxed W b v m) (hb : Below W.heap.size W W') : Boxed W' b v m :=
  ⟨h.mod.below hb, Nat.lt_of_lt_of_le h.lt hb.size, (hb.cell h.lt).trans h.c0, (hb.cell h.lt).trans h.c1, (hb.cell h.lt).trans h.c2, (hb.cell h.lt).trans h.c3, (hb.cell h.lt).trans h.c4⟩
theorem Boxed.new {W : World} {v : ModV} {m : ModL} (h : ModIn W v m) : Boxed (W.alloc (modO v m)) W.heap.size v m :=
  ⟨h.below (below1 _ _), by simp, by simp [modO], by simp [modO], by simp [modO], by simp [modO], by simp [modO]⟩

end Go.Proofs.YtgemgmdnnjaghaaGreatDoor

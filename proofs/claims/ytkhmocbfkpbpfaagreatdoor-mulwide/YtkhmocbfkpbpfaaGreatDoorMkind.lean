/- The table of kinds: what it holds; lookFor. -/
import Derived.Test.YtkhmocbfkpbpfaaGreatDoorRows
import Derived.Test.YtkhmocbfkpbpfaaGreatDoorMstr
import Derived.Test.YtkhmocbfkpbpfaaGreatDoorDWakes
import Derived.Shelf.Abstract
import Derived.Below
import Derived.Lib.LaidTab
import Derived.Laws.Cells
import Derived.Deep.MidRow
namespace Go.Proofs.YtkhmocbfkpbpfaaGreatDoor
open Go.RowKit

/-- A kind, its word, its shape. -/
structure Ent where
  k : Nat
  word : Bs
  shape : Bs

def ents : List Ent := [
  ⟨1, [108, 105, 110, 95, 101, 113], [99, 86, 107]⟩,
  ⟨2, [108, 105, 110, 95, 108, 101], [99, 86, 107]⟩,
  ⟨3, [108, 105, 110, 95, 110, 101], [99, 86, 107]⟩,
  ⟨4, [108, 105, 110, 95, 114, 101, 105, 102], [99, 86, 107, 119]⟩,
  ⟨5, [116, 105, 109, 101, 115], [118, 118, 118]⟩,
  ⟨6, [100, 105, 118], [118, 118, 118]⟩,
  ⟨7, [109, 111, 100], [118, 118, 118]⟩,
  ⟨8, [97, 98, 115], [118, 118]⟩,
  ⟨9, [109, 105, 110], [118, 118, 118]⟩,
  ⟨10, [109, 97, 120], [118, 118, 118]⟩,
  ⟨11, [101, 108, 101, 109, 101, 110, 116], [118, 99, 118]⟩,
  ⟨12, [99, 108, 97, 117, 115, 101], [86, 87]⟩,
  ⟨13, [101, 113, 95, 114, 101, 105, 102], [118, 107, 119]⟩,
  ⟨14, [108, 101, 95, 114, 101, 105, 102], [118, 107, 119]⟩,
  ⟨15, [101, 113, 95, 105, 109, 112], [118, 107, 119]⟩,
  ⟨16, [108, 101, 95, 105, 109, 112], [118, 107, 119]⟩,
  ⟨17, [97, 108, 108, 95, 100, 105, 102, 102, 101, 114, 101, 110, 116], [86]⟩,
  ⟨18, [116, 97, 98, 108, 101], [86, 114]⟩,
  ⟨19, [99, 117, 109, 117, 108, 97, 116, 105, 118, 101], [86, 99, 100, 107]⟩,
  ⟨20, [99, 105, 114, 99, 117, 105, 116], [86]⟩,
  ⟨21, [103, 99, 99], [86, 99, 100, 101]⟩,
  ⟨22, [108, 101, 120, 95, 108, 101], [86, 87]⟩,
  ⟨23, [105, 110, 118, 101, 114, 115, 101], [86, 87]⟩]
def Ent.vals (e : Ent) : List Value := [.int .i64 ((e.k : Nat) : Int), .string ⟨e.word.toArray⟩, .string ⟨e.shape.toArray⟩]
def entCells : List Value := ents.flatMap Ent.vals
def Ent.val (e : Ent) : Value := .agg #[.int .i64 ((e.k : Nat) : Int), .string ⟨e.word.toArray⟩, .string ⟨e.shape.toArray⟩]
def noEnt : Ent := ⟨0, [], []⟩

/-- The table lies where it is laid. -/
def EntIn (w : World) : Prop := 1 < w.heap.size ∧ ∀ j v, entCells[j]? = some v → w.cell? ⟨1, j, none⟩ = some v
theorem EntIn.below {w w' : World} (h : EntIn w) (hb : Below w.heap.size w w') : EntIn w' :=
  ⟨Nat.lt_of_lt_of_le h.1 hb.size, fun j v e => (hb.cell h.1).trans (h.2 j v e)⟩

theorem len_ents : ents.length = 23 := rfl
theorem index_all : ((List.range 23).map fun (k : Nat) (w : World) => (Instr.index 211 (.agg entCells.toArray) (.int .i64 ((k : Nat) : Int))).run Tryz.prog w) = (List.range 23).map fun (k : Nat) (w : World) => Result.ok ((ents.getD k noEnt).val) w := by kernel_rfl
theorem index_ents (k : Nat) (hk : k < 23) (w : World) : (Instr.index 211 (.agg entCells.toArray) (.int .i64 ((k : Nat) : Int))).run Tryz.prog w = .ok (.agg #[.int .i64 (((ents.getD k noEnt).k : Nat) : Int), .string ⟨(ents.getD k noEnt).word.toArray⟩, .string ⟨(ents.getD k noEnt).shape.toArray⟩]) w :=
  congrFun (List.map_inj_left.1 index_all k (List.mem_range.2 hk)) w

/-- The first one of the table that is the one; else none. -/
def lookF (p : Ent → Bool) : Value := match ents.find? p with
  | some e => .tuple #[e.val, .bool true]
  | none => .tuple #[noEnt.val, .bool false]

theorem getD_ents {k : Nat} (hk : k < 23) : ents.getD k noEnt = ents[k]'hk := by
  rw [List.getD_eq_getElem?_getD, List.getElem?_eq_getElem (show k < ents.length from hk)]
  rfl
theorem find_at {p : Ent → Bool} {k : Nat} (hk : k < 23) (h0 : ∀ j, j < k → p (ents.getD j noEnt) = false) (h1 : p (ents.getD k noEnt) = true) : ents.find? p = some (ents.getD k noEnt) := by
  rw [getD_ents hk] at h1 ⊢
  refine List.find?_eq_some_iff_getElem.2 ⟨h1, k, hk, rfl, fun j hj => ?_⟩
  have := h0 j hj
  rw [getD_ents (by omega)] at this
  exact (congrArg (!·) this).trans rfl
theorem find_no {p : Ent → Bool} (h0 : ∀ j, j < 23 → p (ents.getD j noEnt) = false) : ents.find? p = none := by
  rw [List.find?_eq_none]
  intro e he
  obtain ⟨j, hj, rfl⟩ := List.getElem_of_mem he
  have := h0 j hj
  rw [getD_ents hj] at this
  rw [this]
  decide

theorem look_yes {p : Ent → Bool} {k : Nat} (hk : k < 23) (h0 : ∀ j, j < k → p (ents.getD j noEnt) = false) (h1 : p (ents.getD k noEnt) = true) : lookF p = .tuple #[(ents.getD k noEnt).val, .bool true] := by
  unfold lookF
  rw [find_at hk h0 h1]
theorem look_no {p : Ent → Bool} (h0 : ∀ j, j < 23 → p (ents.getD j noEnt) = false) : lookF p = .tuple #[noEnt.val, .bool false] := by
  unfold lookF
  rw [find_no h0]

set_option maxHeartbeats 1000000 in
set_option maxRecDepth 100000 in
theorem lookFor_any (g : Nat) (cap : Value) (eg : ∀ args w, (callFunc g args).run Tryz.prog w = .ok (.enter g args) w) (p : Ent → Bool) (w : World) (h : EntIn w)
    (hp : ∀ (k : Nat) (W : World), k < 23 → Below w.heap.size w W → Calls Tryz.prog g #[(ents.getD k noEnt).val, cap] W fun e w' => e = .returned (.bool (p (ents.getD k noEnt))) ∧ Below W.heap.size W w') :
    Calls Tryz.prog 218 #[.func (.func g) #[] #[cap]] w fun e w' => e = .returned (lookF p) ∧ Below w.heap.size w w' := by
  have HL : Hid (∀ o, (w.alloc o).rangeAt 1 0 entCells) := Lib.hid (fun o j v e => by rw [Nat.zero_add]; exact (h.below (below1 w o)).2 j v e)
  have HI := Lib.hid index_ents
  have HP := Lib.hid hp
  clear hp
  go_enter Tryz.func218, Tryz.ntmps218
  go_wp2_with (refine wpList_load_mid rfl _ _ rfl 1 0 rfl entCells _ (HL.out _) Tryz.underlying211 rfl (by kernel_rfl) ?_)
  clear HL
  go_loopw [7] (fun i wr => ∃ k : Nat, i = .int .i64 (k : Nat) ∧ k ≤ 23 ∧ Hid (∀ j, j < k → p (ents.getD j noEnt) = false) ∧ Hid (Below (w.heap.size + 1) (w.alloc (.cells #[.int .i64 0, .string ⟨#[]⟩, .string ⟨#[]⟩] 168)) wr)) (fun i _ => 23 - (intOf i).toNat)
  case atStart => exact ⟨0, rfl, by omega, Lib.hid (fun j hj => absurd hj (by omega)), Lib.hid (by rw [show w.heap.size + 1 = (w.alloc (.cells #[.int .i64 0, .string ⟨#[]⟩, .string ⟨#[]⟩] 168)).heap.size by simp]; exact Below.refl _ _)⟩
  case round =>
    obtain ⟨k, rfl, hk, H0, HB⟩ := hrel
    have hbw : Hid (Below w.heap.size w wr) := Lib.hid (of_boxed HB.out)
    have r0 : wr.cell? ⟨w.heap.size, 0, none⟩ = some (.int .i64 0) := (boxed HB.out).1
    have r1 : wr.cell? ⟨w.heap.size, 1, none⟩ = some (.string ⟨#[]⟩) := (boxed HB.out).2.1
    have r2 : wr.cell? ⟨w.heap.size, 2, none⟩ = some (.string ⟨#[]⟩) := (boxed HB.out).2.2
    by_cases hlt : k < 23
    · have hix := fun W => HI.out k hlt W
      have cS := Lib.hid (fun W hW => HP.out k W hlt hW)
      have HY := Lib.hid (look_yes hlt H0.out)
      have HN : Hid (p (ents.getD k noEnt) = false → ∀ j, j < k + 1 → p (ents.getD j noEnt) = false) := Lib.hid (fun e j hj => by
        by_cases h : j < k
        · exact H0.out j h
        · obtain rfl : j = k := by omega
          exact e)
      generalize ents.getD k noEnt = en at hix cS HY HN
      unfold Ent.val at cS HY
      cases hpe : p en
      · have HN2 := Lib.hid (HN.out hpe)
        clear HN HY
        rw [hpe] at cS
        clear hpe H0
        go_wp2_with fail
        refine (cS.out _ (hbw.out.alloc hbw.out.size _)).mono ?_
        rintro e w1 ⟨rfl, b1⟩
        have B1 := Lib.hid b1
        clear b1
        go_wp2_with fail
        go_roundw
        case rel => exact ⟨k + 1, by go_num, by omega, HN2, Lib.hid (HB.out.trans ((below1 wr _).trans (B1.out.mono (by simp)) |>.mono (by have := HB.out.size; simp at this; omega)))⟩
        case measure => simp [intOf]; omega
      · have HY2 := Lib.hid (HY.out hpe)
        clear HN HY
        rw [hpe] at cS
        clear hpe H0
        go_wp2_with fail
        refine (cS.out _ (hbw.out.alloc hbw.out.size _)).mono ?_
        rintro e w1 ⟨rfl, b1⟩
        have b1' : Below (wr.heap.size + 1) (wr.alloc (.cells #[.int .i64 ((en.k : Nat) : Int), .string ⟨en.word.toArray⟩, .string ⟨en.shape.toArray⟩] 168)) w1 := b1.mono (by simp)
        have s0 : w1.cell? ⟨wr.heap.size, 0, none⟩ = some (.int .i64 ((en.k : Nat) : Int)) := (boxed b1').1
        have s1 : w1.cell? ⟨wr.heap.size, 1, none⟩ = some (.string ⟨en.word.toArray⟩) := (boxed b1').2.1
        have s2 : w1.cell? ⟨wr.heap.size, 2, none⟩ = some (.string ⟨en.shape.toArray⟩) := (boxed b1').2.2
        have hb2 : Below (w.heap.size + 1) (w.alloc (.cells #[.int .i64 0, .string ⟨#[]⟩, .string ⟨#[]⟩] 168)) w1 := HB.out.trans ((of_boxed b1').mono (by have := HB.out.size; simpa using this))
        have q0 : w1.cell? ⟨w.heap.size, 0, none⟩ = some (.int .i64 0) := (boxed hb2).1
        have q1 : w1.cell? ⟨w.heap.size, 1, none⟩ = some (.string ⟨#[]⟩) := (boxed hb2).2.1
        have q2 : w1.cell? ⟨w.heap.size, 2, none⟩ = some (.string ⟨#[]⟩) := (boxed hb2).2.2
        have f0 : w1.frozen? ⟨w.heap.size, 0, none⟩ = false := by rw [hb2.frozen (by simp)]; simp
        have f1 : w1.frozen? ⟨w.heap.size, 1, none⟩ = false := by rw [hb2.frozen (by simp)]; simp
        have f2 : w1.frozen? ⟨w.heap.size, 2, none⟩ = false := by rw [hb2.frozen (by simp)]; simp
        have B1 := Lib.hid hb2
        clear b1 b1' hb2 r0 r1 r2
        go_wp2_with fail
        have hbo := out_below (of_boxed B1.out) w.heap.size (Nat.le_refl _) (.int .i64 ((en.k : Nat) : Int)) (.string ⟨en.word.toArray⟩) (.string ⟨en.shape.toArray⟩)
        obtain ⟨p0, p1, p2⟩ := out_cells w1 w.heap.size _ _ _ (.int .i64 ((en.k : Nat) : Int)) (.string ⟨en.word.toArray⟩) (.string ⟨en.shape.toArray⟩) q0 q1 q2
        exact bodyPost_ret (v := .tuple #[.agg #[.int .i64 ((en.k : Nat) : Int), .string ⟨en.word.toArray⟩, .string ⟨en.shape.toArray⟩], .bool true]) (by simp [results, Tryz.results218, go_sem, p0, p1, p2]) rfl ⟨by rw [HY2.out], hbo⟩
    · obtain rfl : k = 23 := by omega
      have HN := Lib.hid (look_no H0.out)
      have f0 : wr.frozen? ⟨w.heap.size, 0, none⟩ = false := by rw [HB.out.frozen (by simp)]; simp
      have f1 : wr.frozen? ⟨w.heap.size, 1, none⟩ = false := by rw [HB.out.frozen (by simp)]; simp
      have f2 : wr.frozen? ⟨w.heap.size, 2, none⟩ = false := by rw [HB.out.frozen (by simp)]; simp
      clear H0
      go_wp2_with fail
      have hbo := out_below hbw.out w.heap.size (Nat.le_refl _) (.int .i64 0) (.string ⟨#[]⟩) (.string ⟨#[]⟩)
      obtain ⟨p0, p1, p2⟩ := out_cells wr w.heap.size _ _ _ (.int .i64 0) (.string ⟨#[]⟩) (.string ⟨#[]⟩) r0 r1 r2
      exact bodyPost_ret (v := .tuple #[.agg #[.int .i64 0, .string ⟨#[]⟩, .string ⟨#[]⟩], .bool false]) (by simp [results, Tryz.results218, go_sem, p0, p1, p2]) rfl ⟨by rw [HN.out]; rfl, hbo⟩
end Go.Proofs.YtkhmocbfkpbpfaaGreatDoor

/- Contracts: entryOf, Word, Kind, Shape. -/
namespace Go.Proofs.YtkhmocbfkpbpfaaGreatDoor
open Go.RowKit

def kindP (k : Int) (e : Ent) : Bool := ((e.k : Nat) : Int) == k
def wordP (s : ByteArray) (e : Ent) : Bool := e.word == s.toList

theorem eEntryOf1 : ∀ args w, (callFunc 219 args).run Tryz.prog w = .ok (.enter 219 args) w := enters_of Tryz.func219 (by kernel_rfl) rfl
theorem entryOf1_any (en : Ent) (a : Addr) (kind : Int) (w : World) (hc : ∀ o, (w.alloc o).cell? a = some (.int .i64 kind)) : Calls Tryz.prog 219 #[en.val, .pointer (some a)] w fun e w' => e = .returned (.bool (kindP kind en)) ∧ Below w.heap.size w w' := by
  unfold Ent.val
  go_enter Tryz.func219, Tryz.ntmps219
  go_wp2_with fail
  go_ret
  exact ⟨rfl, below1 _ _⟩

/-- What is found, and whether. -/
def foundF (p : Ent → Bool) : Ent × Bool := match ents.find? p with
  | some e => (e, true)
  | none => (noEnt, false)
theorem lookF_eq (p : Ent → Bool) : lookF p = .tuple #[(foundF p).1.val, .bool (foundF p).2] := by
  unfold lookF foundF
  cases ents.find? p <;> rfl

theorem entryOf_any (kind : Int) (w : World) (h : EntIn w) : Calls Tryz.prog 167 #[.int .i64 kind] w fun e w' => e = .returned (.tuple #[(foundF (kindP kind)).1.val, .bool (foundF (kindP kind)).2]) ∧ Below w.heap.size w w' := by
  have C : Hid (∀ o, Calls Tryz.prog 218 #[.func (.func 219) #[] #[.pointer (some ⟨w.heap.size, 0, none⟩)]] ((w.alloc (.cells #[.int .i64 kind] 3)).alloc o) fun e w' => e = .returned (lookF (kindP kind)) ∧ Below ((w.alloc (.cells #[.int .i64 kind] 3)).alloc o).heap.size ((w.alloc (.cells #[.int .i64 kind] 3)).alloc o) w') := Lib.hid (fun o =>
    lookFor_any _ _ eEntryOf1 (kindP kind) _ (h.below ((below1 w _).trans ((below1 _ o).mono (by simp)))) (fun k W hk hW => by
      refine entryOf1_any _ _ _ _ (fun o' => ?_)
      rw [((below1 W o').cell (by have := hW.size; simp at this ⊢; omega)), hW.cell (by simp; omega)]
      simp))
  rw [lookF_eq] at C
  generalize foundF (kindP kind) = fd at C ⊢
  obtain ⟨en, b⟩ := fd
  unfold Ent.val at C ⊢
  simp only at C ⊢
  go_enter Tryz.func167, Tryz.ntmps167
  go_wp2_with fail
  refine (C.out _).mono ?_
  rintro e w1 ⟨rfl, b1⟩
  have b2 : Below ((w.alloc (.cells #[.int .i64 kind] 3)).heap.size + 1) _ w1 := b1.mono (by simp)
  have q0 : w1.cell? ⟨w.heap.size + 1, 0, none⟩ = some (.int .i64 0) := by simpa using (boxed b2).1
  have q1 : w1.cell? ⟨w.heap.size + 1, 1, none⟩ = some (.string ⟨#[]⟩) := by simpa using (boxed b2).2.1
  have q2 : w1.cell? ⟨w.heap.size + 1, 2, none⟩ = some (.string ⟨#[]⟩) := by simpa using (boxed b2).2.2
  have f0 : w1.frozen? ⟨w.heap.size + 1, 0, none⟩ = false := by rw [b2.frozen (by simp)]; simp
  have f1 : w1.frozen? ⟨w.heap.size + 1, 1, none⟩ = false := by rw [b2.frozen (by simp)]; simp
  have f2 : w1.frozen? ⟨w.heap.size + 1, 2, none⟩ = false := by rw [b2.frozen (by simp)]; simp
  have B1 : Hid (Below w.heap.size w w1) := Lib.hid ((below1 w _).trans ((of_boxed b2).mono (by simp)))
  clear b1 b2 C
  go_wp2_with fail
  have hbo := out_below B1.out (w.heap.size + 1) (by omega) (.int .i64 ((en.k : Nat) : Int)) (.string ⟨en.word.toArray⟩) (.string ⟨en.shape.toArray⟩)
  obtain ⟨p0, p1, p2⟩ := out_cells w1 (w.heap.size + 1) _ _ _ (.int .i64 ((en.k : Nat) : Int)) (.string ⟨en.word.toArray⟩) (.string ⟨en.shape.toArray⟩) q0 q1 q2
  exact bodyPost_ret (v := .tuple #[.agg #[.int .i64 ((en.k : Nat) : Int), .string ⟨en.word.toArray⟩, .string ⟨en.shape.toArray⟩], .bool b]) (by simp [results, Tryz.results167, go_sem, p0, p1, p2]) rfl ⟨rfl, hbo⟩

end Go.Proofs.YtkhmocbfkpbpfaaGreatDoor

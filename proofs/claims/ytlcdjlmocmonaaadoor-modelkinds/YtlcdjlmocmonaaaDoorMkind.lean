/- Contracts: entryOf, Word, Kind, Shape. -/
import Derived.Test.YtlcdjlmocmonaaaDoorMent
namespace Go.Proofs.YtlcdjlmocmonaaaDoor
open Go.RowKit

def kindP (k : Int) (e : Ent) : Bool := ((e.k : Nat) : Int) == k
def wordP (s : ByteArray) (e : Ent) : Bool := e.word == s.toList

theorem eEntryOf1 : ∀ args w, (callFunc 25 args).run Tryd.prog w = .ok (.enter 25 args) w := enters_of Tryd.func25 (by kernel_rfl) rfl
theorem eKind1 : ∀ args w, (callFunc 16 args).run Tryd.prog w = .ok (.enter 16 args) w := enters_of Tryd.func16 (by kernel_rfl) rfl

theorem entryOf1_any (en : Ent) (a : Addr) (kind : Int) (w : World) (hc : ∀ o, (w.alloc o).cell? a = some (.int .i64 kind)) : Calls Tryd.prog 25 #[en.val, .pointer (some a)] w fun e w' => e = .returned (.bool (kindP kind en)) ∧ Below w.heap.size w w' := by
  unfold Ent.val
  go_enter Tryd.func25, Tryd.ntmps25
  go_wp2_with fail
  go_ret
  exact ⟨rfl, below1 _ _⟩

theorem kind1_any (en : Ent) (a : Addr) (s : ByteArray) (w : World) (hc : ∀ o, (w.alloc o).cell? a = some (.string s)) : Calls Tryd.prog 16 #[en.val, .pointer (some a)] w fun e w' => e = .returned (.bool (wordP s en)) ∧ Below w.heap.size w w' := by
  unfold Ent.val
  go_enter Tryd.func16, Tryd.ntmps16
  go_wp2_with fail
  go_ret
  exact ⟨rfl, below1 _ _⟩

/-- What is found, and whether. -/
def foundF (p : Ent → Bool) : Ent × Bool := match ents.find? p with
  | some e => (e, true)
  | none => (noEnt, false)
theorem lookF_eq (p : Ent → Bool) : lookF p = .tuple #[(foundF p).1.val, .bool (foundF p).2] := by
  unfold lookF foundF
  cases ents.find? p <;> rfl

theorem entryOf_any (kind : Int) (w : World) (h : EntIn w) : Calls Tryd.prog 14 #[.int .i64 kind] w fun e w' => e = .returned (.tuple #[(foundF (kindP kind)).1.val, .bool (foundF (kindP kind)).2]) ∧ Below w.heap.size w w' := by
  have C : Hid (∀ o, Calls Tryd.prog 15 #[.func (.func 25) #[] #[.pointer (some ⟨w.heap.size, 0, none⟩)]] ((w.alloc (.cells #[.int .i64 kind] 3)).alloc o) fun e w' => e = .returned (lookF (kindP kind)) ∧ Below ((w.alloc (.cells #[.int .i64 kind] 3)).alloc o).heap.size ((w.alloc (.cells #[.int .i64 kind] 3)).alloc o) w') := Lib.hid (fun o =>
    lookFor_any _ _ eEntryOf1 (kindP kind) _ (h.below ((below1 w _).trans ((below1 _ o).mono (by simp)))) (fun k W hk hW => by
      refine entryOf1_any _ _ _ _ (fun o' => ?_)
      rw [((below1 W o').cell (by have := hW.size; simp at this ⊢; omega)), hW.cell (by simp; omega)]
      simp))
  rw [lookF_eq] at C
  generalize foundF (kindP kind) = fd at C ⊢
  obtain ⟨en, b⟩ := fd
  unfold Ent.val at C ⊢
  simp only at C ⊢
  go_enter Tryd.func14, Tryd.ntmps14
  go_wp2_with fail
  refine (C.out _).mono ?_
  rintro e w1 ⟨rfl, b1⟩
  have b2 : Below ((w.alloc (.cells #[.int .i64 kind] 3)).heap.size + 1) _ w1 := b1.mono (by simp)
  have q0 : w1.cell? ⟨w.heap.size + 1, 0, none⟩ = some (.int .i64 0) := by simpa using (boxed b2).1
  have q1 : w1.cell? ⟨w.heap.size + 1, 1, none⟩ = some (.string ⟨#[]⟩) := by simpa using (boxed b2).2.1
  have q2 : w1.cell? ⟨w.heap.size + 1, 2, none⟩ = some (.string ⟨#[]⟩) := by simpa using (boxed b2).2.2
  have f0 : w1.frozen? ⟨w.heap.size + 1, 0, none⟩ = false := by rw [b2.frozen (by simp)]; simp
  have f1 : w1.frozen? ⟨w.heap.size + 1, 1, none⟩ = false := by rw [b2.frozen (by simp)]; simp
  have f2 : w1.frozen? ⟨w.heap.size + 1, 2, none⟩ = false := by rw [b2.frozen (by simp)]; simp
  have B1 : Hid (Below w.heap.size w w1) := Lib.hid ((below1 w _).trans ((of_boxed b2).mono (by simp)))
  clear b1 b2 C
  go_wp2_with fail
  have hbo := out_below B1.out (w.heap.size + 1) (by omega) (.int .i64 ((en.k : Nat) : Int)) (.string ⟨en.word.toArray⟩) (.string ⟨en.shape.toArray⟩)
  obtain ⟨p0, p1, p2⟩ := out_cells w1 (w.heap.size + 1) _ _ _ (.int .i64 ((en.k : Nat) : Int)) (.string ⟨en.word.toArray⟩) (.string ⟨en.shape.toArray⟩) q0 q1 q2
  exact bodyPost_ret (v := .tuple #[.agg #[.int .i64 ((en.k : Nat) : Int), .string ⟨en.word.toArray⟩, .string ⟨en.shape.toArray⟩], .bool b]) (by simp [results, Tryd.results14, go_sem, p0, p1, p2]) rfl ⟨rfl, hbo⟩

theorem word_kind (kind : Int) (w : World) (h : EntIn w) : Calls Tryd.prog 6 #[.int .i64 kind] w fun e w' => e = .returned (.tuple #[.string ⟨(foundF (kindP kind)).1.word.toArray⟩, .bool (foundF (kindP kind)).2]) ∧ Below w.heap.size w w' := by
  have C := Lib.hid (entryOf_any kind w h)
  generalize foundF (kindP kind) = fd at C ⊢
  obtain ⟨en, b⟩ := fd
  unfold Ent.val at C
  go_enter Tryd.func6, Tryd.ntmps6
  go_wp2_with fail
  refine C.out.mono ?_
  rintro e w1 ⟨rfl, b1⟩
  have B1 := Lib.hid b1
  clear b1 C
  go_wp2_with fail
  exact bodyPost_ret (v := .tuple #[.string ⟨en.word.toArray⟩, .bool b]) (by simp [results, Tryd.results6, go_sem]) rfl ⟨rfl, B1.out.alloc B1.out.size _⟩

theorem shape_kind (kind : Int) (w : World) (h : EntIn w) : Calls Tryd.prog 8 #[.int .i64 kind] w fun e w' => e = .returned (.string ⟨(foundF (kindP kind)).1.shape.toArray⟩) ∧ Below w.heap.size w w' := by
  have C := Lib.hid (entryOf_any kind w h)
  generalize foundF (kindP kind) = fd at C ⊢
  obtain ⟨en, b⟩ := fd
  unfold Ent.val at C
  go_enter Tryd.func8, Tryd.ntmps8
  go_wp2_with fail
  refine C.out.mono ?_
  rintro e w1 ⟨rfl, b1⟩
  have B1 := Lib.hid b1
  clear b1 C
  go_wp2_with fail
  go_ret
  exact ⟨rfl, B1.out.alloc B1.out.size _⟩

theorem kind_word (s : ByteArray) (w : World) (h : EntIn w) : Calls Tryd.prog 7 #[.string s] w fun e w' => e = .returned (.tuple #[.int .i64 (((foundF (wordP s)).1.k : Nat) : Int), .bool (foundF (wordP s)).2]) ∧ Below w.heap.size w w' := by
  have C : Hid (∀ T, Calls Tryd.prog 15 #[.func (.func 16) #[] #[.pointer (some ⟨w.heap.size, 0, none⟩)]] (w.alloc (.cells #[.string s] T)) fun e w' => e = .returned (lookF (wordP s)) ∧ Below (w.alloc (.cells #[.string s] T)).heap.size (w.alloc (.cells #[.string s] T)) w') := Lib.hid (fun T =>
    lookFor_any _ _ eKind1 (wordP s) _ (h.below (below1 w _)) (fun k W hk hW => by
      refine kind1_any _ _ _ _ (fun o' => ?_)
      rw [((below1 W o').cell (by have := hW.size; simp at this ⊢; omega)), hW.cell (by simp)]
      simp))
  rw [lookF_eq] at C
  generalize foundF (wordP s) = fd at C ⊢
  obtain ⟨en, b⟩ := fd
  unfold Ent.val at C
  simp only at C ⊢
  go_enter Tryd.func7, Tryd.ntmps7
  go_wp2_with fail
  refine (C.out _).mono ?_
  rintro e w1 ⟨rfl, b1⟩
  have B1 := Lib.hid ((below1 w _).trans (b1.mono (by simp)))
  clear b1 C
  go_wp2_with fail
  exact bodyPost_ret (v := .tuple #[.int .i64 ((en.k : Nat) : Int), .bool b]) (by simp [results, Tryd.results7, go_sem]) rfl ⟨rfl, B1.out.alloc B1.out.size _⟩
end Go.Proofs.YtlcdjlmocmonaaaDoor

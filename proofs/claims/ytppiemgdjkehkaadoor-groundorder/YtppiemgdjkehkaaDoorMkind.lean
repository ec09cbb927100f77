/- Contracts: entryOf, Word, Kind, Shape. -/
import Derived.Test.YtppiemgdjkehkaaDoorMent
namespace Go.Proofs.YtppiemgdjkehkaaDoor
open Go.RowKit

def kindP (k : Int) (e : Ent) : Bool := ((e.k : Nat) : Int) == k
def wordP (s : ByteArray) (e : Ent) : Bool := e.word == s.toList

theorem eEntryOf1 : ∀ args w, (callFunc 68 args).run Tryd.prog w = .ok (.enter 68 args) w := enters_of Tryd.func68 (by kernel_rfl) rfl
theorem entryOf1_any (en : Ent) (a : Addr) (kind : Int) (w : World) (hc : ∀ o, (w.alloc o).cell? a = some (.int .i64 kind)) : Calls Tryd.prog 68 #[en.val, .pointer (some a)] w fun e w' => e = .returned (.bool (kindP kind en)) ∧ Below w.heap.size w w' := by
  unfold Ent.val
  go_enter Tryd.func68, Tryd.ntmps68
  go_wp2_with fail
  go_ret
  exact ⟨rfl, below1 _ _⟩

/-- What is found, and whether. -/
def foundF (p : Ent → Bool) : Ent × Bool := match ents.find? p with
  | some e => (e, true)
  | none => (noEnt, false)
theorem lookF_eq (p : Ent → Bool) : lookF p = .tuple #[(foundF p).1.val, .bool (foundF p).2] := by
  unfold lookF foundF
  cases ents.find? p <;> rfl

theorem entryOf_any (kind : Int) (w : World) (h : EntIn w) : Calls Tryd.prog 41 #[.int .i64 kind] w fun e w' => e = .returned (.tuple #[(foundF (kindP kind)).1.val, .bool (foundF (kindP kind)).2]) ∧ Below w.heap.size w w' := by
  have C : Hid (∀ o, Calls Tryd.prog 67 #[.func (.func 68) #[] #[.pointer (some ⟨w.heap.size, 0, none⟩)]] ((w.alloc (.cells #[.int .i64 kind] 3)).alloc o) fun e w' => e = .returned (lookF (kindP kind)) ∧ Below ((w.alloc (.cells #[.int .i64 kind] 3)).alloc o).heap.size ((w.alloc (.cells #[.int .i64 kind] 3)).alloc o) w') := Lib.hid (fun o =>
    lookFor_any _ _ eEntryOf1 (kindP kind) _ (h.below ((below1 w _).trans ((below1 _ o).mono (by simp)))) (fun k W hk hW => by
      refine entryOf1_any _ _ _ _ (fun o' => ?_)
      rw [((below1 W o').cell (by have := hW.size; simp at this ⊢; omega)), hW.cell (by simp; omega)]
      simp))
  rw [lookF_eq] at C
  generalize foundF (kindP kind) = fd at C ⊢
  obtain ⟨en, b⟩ := fd
  unfold Ent.val at C ⊢
  simp only at C ⊢
  go_enter Tryd.func41, Tryd.ntmps41
  go_wp2_with fail
  refine (C.out _).mono ?_
  rintro e w1 ⟨rfl, b1⟩
  have b2 : Below ((w.alloc (.cells #[.int .i64 kind] 3)).heap.size + 1) _ w1 := b1.mono (by simp)
  have q0 : w1.cell? ⟨w.heap.size + 1, 0, none⟩ = some (.int .i64 0) := by simpa using (boxed b2).1
  have q1 : w1.cell? ⟨w.heap.size + 1, 1, none⟩ = some (.string ⟨#[]⟩) := by simpa using (boxed b2).2.1
  have q2 : w1.cell? ⟨w.heap.size + 1, 2, none⟩ = some (.string ⟨#[]⟩) := by simpa using (boxed b2).2.2
  have f0 : w1.frozen? ⟨w.heap.size + 1, 0, none⟩ = false := by rw [b2.frozen (by simp)]; simp
  have f1 : w1.frozen? ⟨w.heap.size + 1, 1, none⟩ = false := by rw [b2.frozen (by simp)]; simp
  have f2 : w1.frozen? ⟨w.heap.size + 1, 2, none⟩ = false := by rw [b2.frozen (by simp)]; simp
  have B1 : Hid (Below w.heap.size w w1) := Lib.hid ((below1 w _).trans ((of_boxed b2).mono (by simp)))
  clear b1 b2 C
  go_wp2_with fail
  have hbo := out_below B1.out (w.heap.size + 1) (by omega) (.int .i64 ((en.k : Nat) : Int)) (.string ⟨en.word.toArray⟩) (.string ⟨en.shape.toArray⟩)
  obtain ⟨p0, p1, p2⟩ := out_cells w1 (w.heap.size + 1) _ _ _ (.int .i64 ((en.k : Nat) : Int)) (.string ⟨en.word.toArray⟩) (.string ⟨en.shape.toArray⟩) q0 q1 q2
  exact bodyPost_ret (v := .tuple #[.agg #[.int .i64 ((en.k : Nat) : Int), .string ⟨en.word.toArray⟩, .string ⟨en.shape.toArray⟩], .bool b]) (by simp [results, Tryd.results41, go_sem, p0, p1, p2]) rfl ⟨rfl, hbo⟩

end Go.Proofs.YtppiemgdjkehkaaDoor

/- Facts on what less reckons: the words that are left, their first and last one; contract of became over domains. -/
import Derived.Test.YtppiemgdjkehkaaDoorDBecame
import Derived.Shelf.Abstract
import Derived.Laws.MakeOwn
import Derived.Laws.OwnMore
namespace Go.Proofs.YtppiemgdjkehkaaDoor
open Go.RowKit

/-- A closure (function k, with one captured pointer) that tells what is left of a word at a place. -/
def Cuts (k : FuncId) (ptr : Value) (w : World) (f : Int → Nat → Nat) : Prop :=
  ∀ W p x, Below w.heap.size w W → x < 18446744073709551616 → -100000 ≤ p → p ≤ 100000 →
    Calls Tryd.prog k #[.int .i64 p, .int .u64 (x : Nat), ptr] W fun e w' => e = .returned (.int .u64 (f p x : Nat)) ∧ Below W.heap.size W w'

theorem Cuts.on {k : FuncId} {ptr : Value} {w : World} {f : Int → Nat → Nat} (h : Cuts k ptr w f) (W : World) (p : Int) (x : Nat) (hb : Below w.heap.size w W) (hx : x < 18446744073709551616) (h1 : -100000 ≤ p) (h2 : p ≤ 100000) :
    Calls Tryd.prog k #[.int .i64 p, .int .u64 (x : Nat), ptr] W fun e w' => e = .returned (.int .u64 (f p x : Nat)) ∧ Below W.heap.size W w' := h W p x hb hx h1 h2

/-- The first loop's state. -/
structure Scan (s : Int) (ys : List Nat) (k sz fi la : Nat) : Prop where
  sum : sz = (listOf s (ys.take k)).length
  zero : sz = 0 → (∀ i, i < k → ys.getD i 0 = 0) ∧ fi = 0 ∧ la = 0
  rest : sz ≠ 0 → fi ≤ la ∧ la < k ∧ ys.getD fi 0 ≠ 0 ∧ ys.getD la 0 ≠ 0 ∧ (∀ i, i < fi → ys.getD i 0 = 0) ∧ (∀ i, la < i → i < k → ys.getD i 0 = 0)

theorem len_take_succ (s : Int) (ys : List Nat) (k : Nat) (hk : k < ys.length) : (listOf s (ys.take (k + 1))).length = (listOf s (ys.take k)).length + ones (ys.getD k 0) := by
  rw [take_listOf s ys k hk, List.length_append, List.length_map, len_bitsUp]

theorem Scan.start (s : Int) (ys : List Nat) : Scan s ys 0 0 0 0 := ⟨by simp [listOf], fun _ => ⟨fun i hi => absurd hi (by omega), rfl, rfl⟩, fun h => absurd rfl h⟩

theorem Scan.one {s : Int} {ys : List Nat} {k sz fi la : Nat} (h : Scan s ys k sz fi la) (hs : sz = 0) (hk : k < ys.length) (h0 : ys.getD k 0 ≠ 0) (hlt : ys.getD k 0 < 18446744073709551616) : Scan s ys (k + 1) (sz + ones (ys.getD k 0)) k k := by
  have hp := ones_pos _ h0 hlt
  obtain ⟨a, b, c⟩ := h.zero hs
  refine ⟨?_, fun e => by omega, fun _ => ⟨Nat.le_refl _, by omega, h0, h0, a, fun i h1 h2 => by omega⟩⟩
  rw [len_take_succ s ys k hk, ← h.sum]

section
variable {w W W' : World} {s z : Int} {A : Option Addr} {n c : Nat}
end

/-- A domain is returned, and what became of it; nothing old has turned. -/
def GivesDom (w : World) (R : List Int) (ch : Int) (e : Ending) (w' : World) : Prop :=
  ∃ d, e = .returned (.tuple #[d, .int .i64 ch]) ∧ IsDom w' d R ∧ Below w.heap.size w w'

/-- Words as cells. -/
def U (ys : List Nat) : List Value := ys.map fun y : Nat => Value.int .u64 (y : Int)

/-- A result of three cells, stored whole. -/
theorem out_cells (w : World) (g : Nat) (u0 u1 u2 v0 v1 v2 : Value) (h0 : w.cell? ⟨g, 0, none⟩ = some u0) (h1 : w.cell? ⟨g, 1, none⟩ = some u1) (h2 : w.cell? ⟨g, 2, none⟩ = some u2) :
    (((w.setCell ⟨g, 0, none⟩ v0).setCell ⟨g, 1, none⟩ v1).setCell ⟨g, 2, none⟩ v2).cell? ⟨g, 0, none⟩ = some v0 ∧
    (((w.setCell ⟨g, 0, none⟩ v0).setCell ⟨g, 1, none⟩ v1).setCell ⟨g, 2, none⟩ v2).cell? ⟨g, 1, none⟩ = some v1 ∧
    (((w.setCell ⟨g, 0, none⟩ v0).setCell ⟨g, 1, none⟩ v1).setCell ⟨g, 2, none⟩ v2).cell? ⟨g, 2, none⟩ = some v2 := by
  refine ⟨?_, ?_, ?_⟩
  · rw [World.cell?_setCell_other _ _ _ _ (by simp), World.cell?_setCell_other _ _ _ _ (by simp)]
    exact World.cell?_setCell_same _ _ _ h0
  · rw [World.cell?_setCell_other _ _ _ _ (by simp)]
    refine World.cell?_setCell_same (u := u1) _ _ _ ?_
    rw [World.cell?_setCell_other _ _ _ _ (by simp)]
    exact h1
  · refine World.cell?_setCell_same (u := u2) _ _ _ ?_
    rw [World.cell?_setCell_other _ _ _ _ (by simp), World.cell?_setCell_other _ _ _ _ (by simp)]
    exact h2

theorem out_below {B : Nat} {a w : World} (h : Below B a w) (g : Nat) (hg : B ≤ g) (v0 v1 v2 : Value) :
    Below B a (((w.setCell ⟨g, 0, none⟩ v0).setCell ⟨g, 1, none⟩ v1).setCell ⟨g, 2, none⟩ v2) :=
  ((h.setCell (p := ⟨g, 0, none⟩) hg v0).setCell (p := ⟨g, 1, none⟩) hg v1).setCell (p := ⟨g, 2, none⟩) hg v2

/-- The domain of no numbers. -/
theorem none_dom (w : World) : IsDom w (.agg #[.int .i64 0, .slice none 0 0, .int .i64 0]) [] :=
  ⟨0, none, [], 0, rfl, Lies.none _ _ _, ⟨fun j => by simp, fun h => absurd h (by simp), fun h => absurd h (by simp), fun _ => rfl, by omega, by simp⟩, rfl⟩

/-- A domain whose words the call owns. -/
theorem own_dom {w : World} {base g m : Nat} {s : Int} {zs : List Nat} {L : List Int} (h : w.ownsRow base 91 1 (.slice (some ⟨g, 0, none⟩) m m) m (U zs)) (hz : zs.length = m) (hF : Form s zs) (hL : listOf s zs = L) :
    IsDom w (.agg #[.int .i64 s, .slice (some ⟨g, 0, none⟩) m m, .int .i64 (L.length : Nat)]) L := by
  refine ⟨s, some ⟨g, 0, none⟩, zs, m, by rw [hz], fun hp => ⟨⟨g, 0, none⟩, rfl, ?_, fun j hj => ?_⟩, hF, hL⟩
  · exact (h.lt g rfl).2
  · refine h.cells (g := g) rfl j _ ?_
    simp only [U, List.getElem?_map]
    rw [List.getElem?_eq_getElem hj]
    simp [u64f, List.getD_eq_getElem?_getD, List.getElem?_eq_getElem hj]
end Go.Proofs.YtppiemgdjkehkaaDoor

/- Contracts of Without, Only, AtLeast, AtMost, And, Minus over a domain's rising list. -/
namespace Go.Proofs.YtppiemgdjkehkaaDoor
open Go.RowKit

section
variable {w W : World} {o p : Obj}
end

/-- A domain stays one, when a block is written that holds none of its words. -/
theorem IsDom.stored {W : World} {R : List Int} {s' z : Int} {A : Option Addr} {ws : List Nat} {c g : Nat} (hl : Lies W A ws.length (u64f ws)) (hz : z = (R.length : Nat)) (hF : Form s' ws) (hL : listOf s' ws = R) (hg : ∀ ad, A = some ad → 0 < ws.length → ad.block ≠ g) (v0 v1 v2 : Value) :
    IsDom (((W.setCell ⟨g, 0, none⟩ v0).setCell ⟨g, 1, none⟩ v1).setCell ⟨g, 2, none⟩ v2) (.agg #[.int .i64 s', .slice A ws.length c, .int .i64 z]) R := by
  refine ⟨s', A, ws, c, by rw [hz], fun hp => ?_, hF, hL⟩
  obtain ⟨ad, e, hb, hc⟩ := hl hp
  refine ⟨ad, e, by simpa [World.setCell] using hb, fun j hj => ?_⟩
  have hne := hg ad e hp
  rw [World.cell?_setCell_other _ _ _ _ (fun q => hne (by have := congrArg Addr.block q; rw [add_block] at this; exact this.symm)), World.cell?_setCell_other _ _ _ _ (fun q => hne (by have := congrArg Addr.block q; rw [add_block] at this; exact this.symm)), World.cell?_setCell_other _ _ _ _ (fun q => hne (by have := congrArg Addr.block q; rw [add_block] at this; exact this.symm))]
  exact hc j hj

end Go.Proofs.YtppiemgdjkehkaaDoor

/- Contracts of slices.Equal, Min and Max, at words and numbers; of Equal of two domains. -/
namespace Go.Proofs.YtppiemgdjkehkaaDoor
open Go.RowKit

theorem Lies.drewN {w : World} {A : Option Addr} {n : Nat} {f : Nat → Value} (h : Lies w A n f) (k : Nat) : Lies (w.drewN k) A n f := h

end Go.Proofs.YtppiemgdjkehkaaDoor

/- Contracts of slices.Min and Max at numbers, and of Equal of two domains. -/
namespace Go.Proofs.YtppiemgdjkehkaaDoor
open Go.RowKit

/-- A least (a greatest) number among the first k. -/
structure MinTo (zs : List Int) (k : Nat) (m : Int) : Prop where
  is : ∃ j, j < k ∧ zs.getD j 0 = m
  le : ∀ j, j < k → m ≤ zs.getD j 0
structure MaxTo (zs : List Int) (k : Nat) (m : Int) : Prop where
  is : ∃ j, j < k ∧ zs.getD j 0 = m
  le : ∀ j, j < k → zs.getD j 0 ≤ m

theorem MinTo.start {zs : List Int} {z : Int} (h : zs.getD 0 0 = z) : MinTo zs 1 z :=
  ⟨⟨0, by omega, h⟩, fun j hj => by rw [show j = 0 by omega, h]; exact Int.le_refl _⟩
theorem MaxTo.start {zs : List Int} {z : Int} (h : zs.getD 0 0 = z) : MaxTo zs 1 z :=
  ⟨⟨0, by omega, h⟩, fun j hj => by rw [show j = 0 by omega, h]; exact Int.le_refl _⟩
theorem MinTo.step {zs : List Int} {k : Nat} {m : Int} (h : MinTo zs k m) : MinTo zs (k + 1) (min m (zs.getD k 0)) := by
  obtain ⟨j, hj, e⟩ := h.is
  refine ⟨?_, fun i hi => ?_⟩
  · by_cases hm : m ≤ zs.getD k 0
    · exact ⟨j, by omega, by omega⟩
    · exact ⟨k, by omega, by omega⟩
  · by_cases hik : i = k
    · rw [hik]; omega
    · have := h.le i (by omega); omega
theorem MaxTo.step {zs : List Int} {k : Nat} {m : Int} (h : MaxTo zs k m) : MaxTo zs (k + 1) (max m (zs.getD k 0)) := by
  obtain ⟨j, hj, e⟩ := h.is
  refine ⟨?_, fun i hi => ?_⟩
  · by_cases hm : zs.getD k 0 ≤ m
    · exact ⟨j, by omega, by omega⟩
    · exact ⟨k, by omega, by omega⟩
  · by_cases hik : i = k
    · rw [hik]; omega
    · have := h.le i (by omega); omega

def GivesMinTo (w : World) (zs : List Int) (e : Ending) (w' : World) : Prop := ∃ m, e = .returned (.int .i64 m) ∧ MinTo zs zs.length m ∧ w = w'

def GivesMaxTo (w : World) (zs : List Int) (e : Ending) (w' : World) : Prop := ∃ m, e = .returned (.int .i64 m) ∧ MaxTo zs zs.length m ∧ w = w'

end Go.Proofs.YtppiemgdjkehkaaDoor

/- Contracts of mayBe and noBits. -/
namespace Go.Proofs.YtppiemgdjkehkaaDoor
open Go.RowKit

def mayB (v : Int) : Bool := decide (-1000000 ≤ v) && decide (v ≤ 1000000)

/-- m new words, all 0, and the first one's place. -/
def GivesWords (w : World) (s : Int) (m : Nat) (e : Ending) (w' : World) : Prop :=
  e = .returned (.tuple #[.int .i64 s, .slice (some ⟨w.heap.size, 0, none⟩) m m]) ∧ w'.ownsRow w.heap.size 91 1 (.slice (some ⟨w.heap.size, 0, none⟩) m m) m (U (List.replicate m 0)) ∧ Below w.heap.size w w' ∧ w.heap.size < w'.heap.size

end Go.Proofs.YtppiemgdjkehkaaDoor

/- Facts on what less reckons: the words that are left, their first and last one; contract of became over domains. -/
import Derived.Test.YtkhmocbfkpbpfaaGreatDoorDBecame
import Derived.Shelf.Abstract
import Derived.Laws.MakeOwn
import Derived.Laws.OwnMore
namespace Go.Proofs.YtkhmocbfkpbpfaaGreatDoor
open Go.RowKit

/-- A closure (function k, with one captured pointer) that tells what is left of a word at a place. -/
def Cuts (k : FuncId) (ptr : Value) (w : World) (f : Int → Nat → Nat) : Prop :=
  ∀ W p x, Below w.heap.size w W → x < 18446744073709551616 → -100000 ≤ p → p ≤ 100000 →
    Calls Tryz.prog k #[.int .i64 p, .int .u64 (x : Nat), ptr] W fun e w' => e = .returned (.int .u64 (f p x : Nat)) ∧ Below W.heap.size W w'

theorem Cuts.on {k : FuncId} {ptr : Value} {w : World} {f : Int → Nat → Nat} (h : Cuts k ptr w f) (W : World) (p : Int) (x : Nat) (hb : Below w.heap.size w W) (hx : x < 18446744073709551616) (h1 : -100000 ≤ p) (h2 : p ≤ 100000) :
    Calls Tryz.prog k #[.int .i64 p, .int .u64 (x : Nat), ptr] W fun e w' => e = .returned (.int .u64 (f p x : Nat)) ∧ Below W.heap.size W w' := h W p x hb hx h1 h2

/-- The first loop's state. -/
structure Scan (s : Int) (ys : List Nat) (k sz fi la : Nat) : Prop where
  sum : sz = (listOf s (ys.take k)).length
  zero : sz = 0 → (∀ i, i < k → ys.getD i 0 = 0) ∧ fi = 0 ∧ la = 0
  rest : sz ≠ 0 → fi ≤ la ∧ la < k ∧ ys.getD fi 0 ≠ 0 ∧ ys.getD la 0 ≠ 0 ∧ (∀ i, i < fi → ys.getD i 0 = 0) ∧ (∀ i, la < i → i < k → ys.getD i 0 = 0)

theorem len_take_succ (s : Int) (ys : List Nat) (k : Nat) (hk : k < ys.length) : (listOf s (ys.take (k + 1))).length = (listOf s (ys.take k)).length + ones (ys.getD k 0) := by
  rw [take_listOf s ys k hk, List.length_append, List.length_map, len_bitsUp]

theorem Scan.start (s : Int) (ys : List Nat) : Scan s ys 0 0 0 0 := ⟨by simp [listOf], fun _ => ⟨fun i hi => absurd hi (by omega), rfl, rfl⟩, fun h => absurd rfl h⟩

theorem Scan.one {s : Int} {ys : List Nat} {k sz fi la : Nat} (h : Scan s ys k sz fi la) (hs : sz = 0) (hk : k < ys.length) (h0 : ys.getD k 0 ≠ 0) (hlt : ys.getD k 0 < 18446744073709551616) : Scan s ys (k + 1) (sz + ones (ys.getD k 0)) k k := by
  have hp := ones_pos _ h0 hlt
  obtain ⟨a, b, c⟩ := h.zero hs
  refine ⟨?_, fun e => by omega, fun _ => ⟨Nat.le_refl _, by omega, h0, h0, a, fun i h1 h2 => by omega⟩⟩
  rw [len_take_succ s ys k hk, ← h.sum]

section
variable {w W W' : World} {s z : Int} {A : Option Addr} {n c : Nat}
end

/-- A domain is returned, and what became of it; nothing old has turned. -/
def GivesDom (w : World) (R : List Int) (ch : Int) (e : Ending) (w' : World) : Prop :=
  ∃ d, e = .returned (.tuple #[d, .int .i64 ch]) ∧ IsDom w' d R ∧ Below w.heap.size w w'

/-- Words as cells. -/
def U (ys : List Nat) : List Value := ys.map fun y : Nat => Value.int .u64 (y : Int)

/-- A result of three cells, stored whole. -/
theorem out_cells (w : World) (g : Nat) (u0 u1 u2 v0 v1 v2 : Value) (h0 : w.cell? ⟨g, 0, none⟩ = some u0) (h1 : w.cell? ⟨g, 1, none⟩ = some u1) (h2 : w.cell? ⟨g, 2, none⟩ = some u2) :
    (((w.setCell ⟨g, 0, none⟩ v0).setCell ⟨g, 1, none⟩ v1).setCell ⟨g, 2, none⟩ v2).cell? ⟨g, 0, none⟩ = some v0 ∧
    (((w.setCell ⟨g, 0, none⟩ v0).setCell ⟨g, 1, none⟩ v1).setCell ⟨g, 2, none⟩ v2).cell? ⟨g, 1, none⟩ = some v1 ∧
    (((w.setCell ⟨g, 0, none⟩ v0).setCell ⟨g, 1, none⟩ v1).setCell ⟨g, 2, none⟩ v2).cell? ⟨g, 2, none⟩ = some v2 := by
  refine ⟨?_, ?_, ?_⟩
  · rw [World.cell?_setCell_other _ _ _ _ (by simp), World.cell?_setCell_other _ _ _ _ (by simp)]
    exact World.cell?_setCell_same _ _ _ h0
  · rw [World.cell?_setCell_other _ _ _ _ (by simp)]
    refine World.cell?_setCell_same (u := u1) _ _ _ ?_
    rw [World.cell?_setCell_other _ _ _ _ (by simp)]
    exact h1
  · refine World.cell?_setCell_same (u := u2) _ _ _ ?_
    rw [World.cell?_setCell_other _ _ _ _ (by simp), World.cell?_setCell_other _ _ _ _ (by simp)]
    exact h2

theorem out_below {B : Nat} {a w : World} (h : Below B a w) (g : Nat) (hg : B ≤ g) (v0 v1 v2 : Value) :
    Below B a (((w.setCell ⟨g, 0, none⟩ v0).setCell ⟨g, 1, none⟩ v1).setCell ⟨g, 2, none⟩ v2) :=
  ((h.setCell (p := ⟨g, 0, none⟩) hg v0).setCell (p := ⟨g, 1, none⟩) hg v1).setCell (p := ⟨g, 2, none⟩) hg v2

/-- The domain of no numbers. -/
theorem none_dom (w : World) : IsDom w (.agg #[.int .i64 0, .slice none 0 0, .int .i64 0]) [] :=
  ⟨0, none, [], 0, rfl, Lies.none _ _ _, ⟨fun j => by simp, fun h => absurd h (by simp), fun h => absurd h (by simp), fun _ => rfl, by omega, by simp⟩, rfl⟩

/-- A domain whose words the call owns. -/
theorem own_dom {w : World} {base g m : Nat} {s : Int} {zs : List Nat} {L : List Int} (h : w.ownsRow base 97 1 (.slice (some ⟨g, 0, none⟩) m m) m (U zs)) (hz : zs.length = m) (hF : Form s zs) (hL : listOf s zs = L) :
    IsDom w (.agg #[.int .i64 s, .slice (some ⟨g, 0, none⟩) m m, .int .i64 (L.length : Nat)]) L := by
  refine ⟨s, some ⟨g, 0, none⟩, zs, m, by rw [hz], fun hp => ⟨⟨g, 0, none⟩, rfl, ?_, fun j hj => ?_⟩, hF, hL⟩
  · exact (h.lt g rfl).2
  · refine h.cells (g := g) rfl j _ ?_
    simp only [U, List.getElem?_map]
    rw [List.getElem?_eq_getElem hj]
    simp [u64f, List.getD_eq_getElem?_getD, List.getElem?_eq_getElem hj]
end Go.Proofs.YtkhmocbfkpbpfaaGreatDoor

/- Contracts of Without, Only, AtLeast, AtMost, And, Minus over a domain's rising list. -/
namespace Go.Proofs.YtkhmocbfkpbpfaaGreatDoor
open Go.RowKit

section
variable {w W : World} {o p : Obj}
end

/-- A domain stays one, when a block is written that holds none of its words. -/
theorem IsDom.stored {W : World} {R : List Int} {s' z : Int} {A : Option Addr} {ws : List Nat} {c g : Nat} (hl : Lies W A ws.length (u64f ws)) (hz : z = (R.length : Nat)) (hF : Form s' ws) (hL : listOf s' ws = R) (hg : ∀ ad, A = some ad → 0 < ws.length → ad.block ≠ g) (v0 v1 v2 : Value) :
    IsDom (((W.setCell ⟨g, 0, none⟩ v0).setCell ⟨g, 1, none⟩ v1).setCell ⟨g, 2, none⟩ v2) (.agg #[.int .i64 s', .slice A ws.length c, .int .i64 z]) R := by
  refine ⟨s', A, ws, c, by rw [hz], fun hp => ?_, hF, hL⟩
  obtain ⟨ad, e, hb, hc⟩ := hl hp
  refine ⟨ad, e, by simpa [World.setCell] using hb, fun j hj => ?_⟩
  have hne := hg ad e hp
  rw [World.cell?_setCell_other _ _ _ _ (fun q => hne (by have := congrArg Addr.block q; rw [add_block] at this; exact this.symm)), World.cell?_setCell_other _ _ _ _ (fun q => hne (by have := congrArg Addr.block q; rw [add_block] at this; exact this.symm)), World.cell?_setCell_other _ _ _ _ (fun q => hne (by have := congrArg Addr.block q; rw [add_block] at this; exact this.symm))]
  exact hc j hj

end Go.Proofs.YtkhmocbfkpbpfaaGreatDoor

/- Contracts of slices.Equal, Min and Max, at words and numbers; of Equal of two domains. -/
namespace Go.Proofs.YtkhmocbfkpbpfaaGreatDoor
open Go.RowKit

theorem Lies.drewN {w : World} {A : Option Addr} {n : Nat} {f : Nat → Value} (h : Lies w A n f) (k : Nat) : Lies (w.drewN k) A n f := h

end Go.Proofs.YtkhmocbfkpbpfaaGreatDoor

/- Contracts of slices.Min and Max at numbers, and of Equal of two domains. -/
namespace Go.Proofs.YtkhmocbfkpbpfaaGreatDoor
open Go.RowKit

/-- A least (a greatest) number among the first k. -/
structure MinTo (zs : List Int) (k : Nat) (m : Int) : Prop where
  is : ∃ j, j < k ∧ zs.getD j 0 = m
  le : ∀ j, j < k → m ≤ zs.getD j 0
structure MaxTo (zs : List Int) (k : Nat) (m : Int) : Prop where
  is : ∃ j, j < k ∧ zs.getD j 0 = m
  le : ∀ j, j < k → zs.getD j 0 ≤ m

theorem MinTo.start {zs : List Int} {z : Int} (h : zs.getD 0 0 = z) : MinTo zs 1 z :=
  ⟨⟨0, by omega, h⟩, fun j hj => by rw [show j = 0 by omega, h]; exact Int.le_refl _⟩
theorem MaxTo.start {zs : List Int} {z : Int} (h : zs.getD 0 0 = z) : MaxTo zs 1 z :=
  ⟨⟨0, by omega, h⟩, fun j hj => by rw [show j = 0 by omega, h]; exact Int.le_refl _⟩
theorem MinTo.step {zs : List Int} {k : Nat} {m : Int} (h : MinTo zs k m) : MinTo zs (k + 1) (min m (zs.getD k 0)) := by
  obtain ⟨j, hj, e⟩ := h.is
  refine ⟨?_, fun i hi => ?_⟩
  · by_cases hm : m ≤ zs.getD k 0
    · exact ⟨j, by omega, by omega⟩
    · exact ⟨k, by omega, by omega⟩
  · by_cases hik : i = k
    · rw [hik]; omega
    · have := h.le i (by omega); omega
theorem MaxTo.step {zs : List Int} {k : Nat} {m : Int} (h : MaxTo zs k m) : MaxTo zs (k + 1) (max m (zs.getD k 0)) := by
  obtain ⟨j, hj, e⟩ := h.is
  refine ⟨?_, fun i hi => ?_⟩
  · by_cases hm : zs.getD k 0 ≤ m
    · exact ⟨j, by omega, by omega⟩
    · exact ⟨k, by omega, by omega⟩
  · by_cases hik : i = k
    · rw [hik]; omega
    · have := h.le i (by omega); omega

def GivesMinTo (w : World) (zs : List Int) (e : Ending) (w' : World) : Prop := ∃ m, e = .returned (.int .i64 m) ∧ MinTo zs zs.length m ∧ w = w'

theorem min_ints (A : Option Addr) (zs : List Int) (c : Nat) (w : World) (h : Lies w A zs.length (i64f zs)) (hp : 0 < zs.length) (hbig : zs.length ≤ 9223372036854775806) :
    Calls Tryz.prog 119 #[.slice A zs.length c] w (GivesMinTo w zs) := by
  obtain ⟨a, rfl, ha, hca⟩ := h hp
  obtain ⟨n, hn⟩ : ∃ n, n = zs.length := ⟨_, rfl⟩
  rw [← hn] at hca hp hbig ⊢
  have h0 := hca 0 hp
  rw [add_zero] at h0
  have h0' : w.cell? a = some (.int .i64 (zs.getD 0 0)) := h0
  obtain ⟨z, hz⟩ : ∃ z, zs.getD 0 0 = z := ⟨_, rfl⟩
  rw [hz] at h0'
  have Hz := Lib.hid hz
  have Ha := Lib.hid hca
  have Hn := Lib.hid hn
  clear hca hn h h0 hz
  have hd : decide ((n : Int) < 1) = false := by simp; omega
  go_enter Tryz.func119, Tryz.ntmps119
  go_wp2
  go_loop [3, 4] (fun m i => ∃ (k : Nat) (v : Int), 1 ≤ k ∧ k ≤ n ∧ i = .int .i64 (k : Nat) ∧ m = .int .i64 v ∧ Hid (MinTo zs k v)) (fun _ i => n - (intOf i).toNat)
  case atStart => exact ⟨1, z, Nat.le_refl _, hp, rfl, rfl, MinTo.start Hz.out⟩
  case round =>
    obtain ⟨k, v, hk1, hk, rfl, rfl, HM⟩ := hrel
    by_cases hlt : k < n
    · have ck : w.cell? (a.add k) = some (.int .i64 (zs.getD k 0)) := Ha.out k hlt
      have HM2 := Lib.hid HM.out.step
      generalize zs.getD k 0 = y at *
      go_wp2
      go_round
      case rel => exact ⟨k + 1, min v y, by omega, by omega, by go_num, rfl, HM2⟩
      case measure => simp [intOf]; omega
    · go_wp2
      go_ret
      exact ⟨v, rfl, by have := HM.out; rwa [show k = zs.length by have := Hn.out; omega] at this, rfl⟩

def GivesMaxTo (w : World) (zs : List Int) (e : Ending) (w' : World) : Prop := ∃ m, e = .returned (.int .i64 m) ∧ MaxTo zs zs.length m ∧ w = w'

theorem max_ints (A : Option Addr) (zs : List Int) (c : Nat) (w : World) (h : Lies w A zs.length (i64f zs)) (hp : 0 < zs.length) (hbig : zs.length ≤ 9223372036854775806) :
    Calls Tryz.prog 120 #[.slice A zs.length c] w (GivesMaxTo w zs) := by
  obtain ⟨a, rfl, ha, hca⟩ := h hp
  obtain ⟨n, hn⟩ : ∃ n, n = zs.length := ⟨_, rfl⟩
  rw [← hn] at hca hp hbig ⊢
  have h0 := hca 0 hp
  rw [add_zero] at h0
  have h0' : w.cell? a = some (.int .i64 (zs.getD 0 0)) := h0
  obtain ⟨z, hz⟩ : ∃ z, zs.getD 0 0 = z := ⟨_, rfl⟩
  rw [hz] at h0'
  have Hz := Lib.hid hz
  have Ha := Lib.hid hca
  have Hn := Lib.hid hn
  clear hca hn h h0 hz
  have hd : decide ((n : Int) < 1) = false := by simp; omega
  go_enter Tryz.func120, Tryz.ntmps120
  go_wp2
  go_loop [3, 4] (fun m i => ∃ (k : Nat) (v : Int), 1 ≤ k ∧ k ≤ n ∧ i = .int .i64 (k : Nat) ∧ m = .int .i64 v ∧ Hid (MaxTo zs k v)) (fun _ i => n - (intOf i).toNat)
  case atStart => exact ⟨1, z, Nat.le_refl _, hp, rfl, rfl, MaxTo.start Hz.out⟩
  case round =>
    obtain ⟨k, v, hk1, hk, rfl, rfl, HM⟩ := hrel
    by_cases hlt : k < n
    · have ck : w.cell? (a.add k) = some (.int .i64 (zs.getD k 0)) := Ha.out k hlt
      have HM2 := Lib.hid HM.out.step
      generalize zs.getD k 0 = y at *
      go_wp2
      go_round
      case rel => exact ⟨k + 1, max v y, by omega, by omega, by go_num, rfl, HM2⟩
      case measure => simp [intOf]; omega
    · go_wp2
      go_ret
      exact ⟨v, rfl, by have := HM.out; rwa [show k = zs.length by have := Hn.out; omega] at this, rfl⟩

end Go.Proofs.YtkhmocbfkpbpfaaGreatDoor

/- Contracts of mayBe and noBits. -/
namespace Go.Proofs.YtkhmocbfkpbpfaaGreatDoor
open Go.RowKit

def mayB (v : Int) : Bool := decide (-1000000 ≤ v) && decide (v ≤ 1000000)

theorem maybe_any (v : Int) (w : World) : Calls Tryz.prog 121 #[.int .i64 v] w fun e w' => e = .returned (.bool (mayB v)) ∧ w = w' := by
  by_cases h1 : -1000000 ≤ v
  · have d1 : decide (-1000000 ≤ v) = true := by simpa using h1
    by_cases h2 : v ≤ 1000000
    · have d2 : decide (v ≤ 1000000) = true := by simpa using h2
      have Hfin : Hid (mayB v = true) := by unfold Hid mayB; rw [d1, d2]; rfl
      clear h1 h2
      go_enter Tryz.func121, Tryz.ntmps121
      go_wp2
      go_ret
      exact ⟨by rw [Hfin.out]; rfl, rfl⟩
    · have d2 : decide (v ≤ 1000000) = false := by simpa using h2
      have Hfin : Hid (mayB v = false) := by unfold Hid mayB; rw [d1, d2]; rfl
      clear h1 h2
      go_enter Tryz.func121, Tryz.ntmps121
      go_wp2
      go_ret
      exact ⟨by rw [Hfin.out]; rfl, rfl⟩
  · have d1 : decide (-1000000 ≤ v) = false := by simpa using h1
    have Hfin : Hid (mayB v = false) := by unfold Hid mayB; rw [d1]; rfl
    clear h1
    go_enter Tryz.func121, Tryz.ntmps121
    go_wp2
    go_ret
    exact ⟨by rw [Hfin.out]; rfl, rfl⟩

/-- m new words, all 0, and the first one's place. -/
def GivesWords (w : World) (s : Int) (m : Nat) (e : Ending) (w' : World) : Prop :=
  e = .returned (.tuple #[.int .i64 s, .slice (some ⟨w.heap.size, 0, none⟩) m m]) ∧ w'.ownsRow w.heap.size 97 1 (.slice (some ⟨w.heap.size, 0, none⟩) m m) m (U (List.replicate m 0)) ∧ Below w.heap.size w w' ∧ w.heap.size < w'.heap.size

theorem nobits_any (low high : Int) (m : Nat) (w : World) (hm : (m : Int) = high / 64 - low / 64 + 1) (hm2 : m ≤ 100000) :
    Calls Tryz.prog 122 #[.int .i64 low, .int .i64 high] w (GivesWords w (low / 64) m) := by
  obtain ⟨i0, hi, hz0, hz1, hz2⟩ := info_parts Tryz.info97
  have hmk : ∀ W : World, (Instr.makeSlice 51 (.int .i64 (high / 64 - low / 64 + 1)) (.int .i64 (high / 64 - low / 64 + 1))).run Tryz.prog W = .ok (.slice (some ⟨W.heap.size, 0, none⟩) m m) (W.alloc (.cells (madeCells #[.int .u64 0] m) 97)) := by
    intro W
    have := run_make (P := Tryz.prog) W 51 97 i0 (.int .u64 0) Tryz.underlying51 hi hz0 .i64 .i64 (high / 64 - low / 64 + 1) (high / 64 - low / 64 + 1) (by omega) (by omega) (by rw [hz2]; omega) (by omega)
    rw [this, ← hm, hz1]
    simp [Value.cells]
  have e2 : IntKind.i64.wrap (high / 64 - low / 64) = high / 64 - low / 64 := IntWalk.i64_in _ (by omega)
  have e3 : IntKind.i64.wrap (high / 64 - low / 64 + 1) = high / 64 - low / 64 + 1 := IntWalk.i64_in _ (by omega)
  have Hm := Lib.hid hm
  clear hm hi hz0 hz1 hz2
  go_enter Tryz.func122, Tryz.ntmps122
  go_wp2_with (go_at_call 70; with_reducible refine (place_any _ _).mono ?_; rintro e w' ⟨rfl, rfl⟩)
  go_region_with (first | (go_at_call 70; refine (place_any _ _).mono ?_; rintro e w' ⟨rfl, rfl⟩))
  all_goals
    go_wp2
    go_ret2
    refine ⟨rfl, ?_, (below1 _ _).drew, by simp⟩
    have := World.ownsRow_lit (base := w.heap.size) (e := 97) (size := 1) w (madeCells #[Value.int .u64 0] m) m (Nat.le_refl _) (by unfold maxLen; omega) (by simp [madeCells])
    rw [toList_madeCells_one] at this
    simpa [U] using this.drew
end Go.Proofs.YtkhmocbfkpbpfaaGreatDoor

/- Facts on the domain of some numbers: the words after k of them, the error. No walk. -/
namespace Go.Proofs.YtkhmocbfkpbpfaaGreatDoor
open Go.RowKit

/-- A number put into a rising list. -/
def ins (v : Int) : List Int → List Int
  | [] => [v]
  | a :: l => if v < a then v :: a :: l else if v = a then a :: l else a :: ins v l

theorem mem_ins (v u : Int) : ∀ l, u ∈ ins v l ↔ u = v ∨ u ∈ l
  | [] => by simp [ins]
  | a :: l => by
    unfold ins
    split
    · simp
    · split
      · rename_i h; subst h; simp
      · rw [List.mem_cons, mem_ins v u l, List.mem_cons]
        constructor
        · rintro (h | h | h)
          · exact .inr (.inl h)
          · exact .inl h
          · exact .inr (.inr h)
        · rintro (h | h | h)
          · exact .inr (.inl h)
          · exact .inl h
          · exact .inr (.inr h)

theorem rising_ins (v : Int) : ∀ l : List Int, l.Pairwise (· < ·) → (ins v l).Pairwise (· < ·)
  | [], _ => by simp [ins]
  | a :: l, h => by
    have h' := List.pairwise_cons.1 h
    unfold ins
    split
    · rename_i hv
      rw [List.pairwise_cons]
      refine ⟨fun u hu => ?_, h⟩
      rcases List.mem_cons.1 hu with e | e
      · omega
      · have := h'.1 u e; omega
    · split
      · exact h
      · rw [List.pairwise_cons]
        refine ⟨fun u hu => ?_, rising_ins v l h'.2⟩
        rcases (mem_ins v u l).1 hu with e | e
        · omega
        · exact h'.1 u e

/-- The numbers of a list, rising, each once. -/
def setOf (zs : List Int) : List Int := zs.foldl (fun l v => ins v l) []

theorem foldl_ins : ∀ (zs l : List Int), l.Pairwise (· < ·) → (zs.foldl (fun l v => ins v l) l).Pairwise (· < ·) ∧ ∀ u, u ∈ zs.foldl (fun l v => ins v l) l ↔ u ∈ l ∨ u ∈ zs
  | [], l, h => by simp [h]
  | z :: zs, l, h => by
    have := foldl_ins zs (ins z l) (rising_ins z l h)
    refine ⟨this.1, fun u => ?_⟩
    rw [List.foldl_cons, this.2 u, mem_ins, List.mem_cons]
    constructor
    · rintro ((h | h) | h)
      · exact .inr (.inl h)
      · exact .inl h
      · exact .inr (.inr h)
    · rintro (h | h | h)
      · exact .inl (.inr h)
      · exact .inl (.inl h)
      · exact .inr h

theorem rising_setOf (zs : List Int) : (setOf zs).Pairwise (· < ·) := (foldl_ins zs [] List.Pairwise.nil).1
theorem mem_setOf (zs : List Int) (u : Int) : u ∈ setOf zs ↔ u ∈ zs := by
  have := (foldl_ins zs [] List.Pairwise.nil).2 u
  unfold setOf
  rw [this]; simp

/-- The error of Of. -/
def ofErr (zs : List Int) : Int :=
  if zs.length = 0 then 4 else if zs.any fun z => !mayB z then 3 else if zs.any fun a => zs.any fun b => decide (65536 ≤ b - a) then 5 else 0
/-- The numbers of Of. -/
def ofL (zs : List Int) : List Int := if ofErr zs = 0 then setOf zs else []

theorem getD_mem (zs : List Int) (j : Nat) (h : j < zs.length) : zs.getD j 0 ∈ zs := by
  rw [List.getD_eq_getElem?_getD, List.getElem?_eq_getElem h]
  exact List.getElem_mem h

theorem mem_getD (zs : List Int) (z : Int) (h : z ∈ zs) : ∃ j, j < zs.length ∧ zs.getD j 0 = z := by
  obtain ⟨j, hj, e⟩ := List.mem_iff_getElem.1 h
  exact ⟨j, hj, by rw [List.getD_eq_getElem?_getD, List.getElem?_eq_getElem hj]; exact e⟩

theorem MinTo.mem {zs : List Int} {m : Int} (h : MinTo zs zs.length m) : m ∈ zs ∧ ∀ z ∈ zs, m ≤ z := by
  obtain ⟨j, hj, e⟩ := h.is
  refine ⟨e ▸ getD_mem zs j hj, fun z hz => ?_⟩
  obtain ⟨i, hi, e⟩ := mem_getD zs z hz
  rw [← e]; exact h.le i hi
theorem MaxTo.mem {zs : List Int} {m : Int} (h : MaxTo zs zs.length m) : m ∈ zs ∧ ∀ z ∈ zs, z ≤ m := by
  obtain ⟨j, hj, e⟩ := h.is
  refine ⟨e ▸ getD_mem zs j hj, fun z hz => ?_⟩
  obtain ⟨i, hi, e⟩ := mem_getD zs z hz
  rw [← e]; exact h.le i hi

theorem mayB_iff (v : Int) : mayB v = true ↔ -1000000 ≤ v ∧ v ≤ 1000000 := by unfold mayB; simp

/-- The error, by the least and the greatest number. -/
theorem ofErr_by (zs : List Int) (lo hi : Int) (h0 : zs.length ≠ 0) (hl : lo ∈ zs ∧ ∀ z ∈ zs, lo ≤ z) (hh : hi ∈ zs ∧ ∀ z ∈ zs, z ≤ hi) :
    ofErr zs = if mayB lo = true ∧ mayB hi = true then (if 65536 ≤ hi - lo then 5 else 0) else 3 := by
  unfold ofErr
  rw [if_neg h0]
  by_cases hm : mayB lo = true ∧ mayB hi = true
  · rw [if_pos hm]
    have h3 : ¬ (zs.any fun z => !mayB z) = true := by
      rw [List.any_eq_true]
      rintro ⟨z, hz, e⟩
      rw [Bool.not_eq_true'] at e
      have : mayB z = true := (mayB_iff z).2 ⟨by have := ((mayB_iff lo).1 hm.1).1; have := hl.2 z hz; omega, by have := ((mayB_iff hi).1 hm.2).2; have := hh.2 z hz; omega⟩
      rw [this] at e; cases e
    rw [if_neg h3]
    by_cases hw : 65536 ≤ hi - lo
    · rw [if_pos hw, if_pos]
      rw [List.any_eq_true]
      exact ⟨lo, hl.1, List.any_eq_true.2 ⟨hi, hh.1, by simpa using hw⟩⟩
    · rw [if_neg hw, if_neg]
      rw [List.any_eq_true]
      rintro ⟨a, ha, e⟩
      rw [List.any_eq_true] at e
      obtain ⟨b, hb, e⟩ := e
      have := hl.2 a ha
      have := hh.2 b hb
      simp at e
      omega
  · rw [if_neg hm, if_pos]
    rw [List.any_eq_true]
    by_cases h1 : mayB lo = true
    · refine ⟨hi, hh.1, ?_⟩
      have h2 : mayB hi ≠ true := fun e => hm ⟨h1, e⟩
      simpa using h2
    · exact ⟨lo, hl.1, by simpa using h1⟩

/-- The words after the first k numbers. -/
structure Marked (s : Int) (m : Nat) (ws : List Nat) (zs : List Int) (k : Nat) : Prop where
  len : ws.length = m
  lt : ∀ j, ws.getD j 0 < 18446744073709551616
  is : ∀ v, hasB s ws v = true ↔ v ∈ zs.take k

theorem Marked.start (s : Int) (m : Nat) (zs : List Int) : Marked s m (List.replicate m 0) zs 0 := by
  have h0 : ∀ j, (List.replicate m 0).getD j 0 = 0 := by
    intro j
    rw [List.getD_eq_getElem?_getD, List.getElem?_replicate]
    split <;> rfl
  refine ⟨by simp, fun j => by rw [h0]; decide, fun v => ?_⟩
  unfold hasB
  rw [h0]
  simp

theorem getD_set (ws : List Nat) (i j x : Nat) (hi : i < ws.length) : (ws.set i x).getD j 0 = if i = j then x else ws.getD j 0 := by
  rw [List.getD_eq_getElem?_getD, List.getElem?_set]
  by_cases h : i = j
  · subst h; simp [hi]
  · simp [h, List.getD_eq_getElem?_getD]

theorem Marked.step {s : Int} {m : Nat} {ws : List Nat} {zs : List Int} {k i : Nat} (h : Marked s m ws zs k) (hk : k < zs.length) (hi : zs.getD k 0 / 64 - s = (i : Int)) (him : i < m) :
    Marked s m (ws.set i (ws.getD i 0 ||| bitN (zs.getD k 0))) zs (k + 1) := by
  have hil : i < ws.length := by rw [h.len]; exact him
  refine ⟨by simp [h.len], fun j => ?_, fun v => ?_⟩
  · rw [getD_set _ _ _ _ hil]
    split
    · exact Nat.or_lt_two_pow (n := 64) (h.lt i) (bitN_lt _)
    · exact h.lt j
  · have ht : v ∈ zs.take (k + 1) ↔ v ∈ zs.take k ∨ v = zs.getD k 0 := by
      rw [List.take_succ_eq_append_getElem hk, List.mem_append, List.getD_eq_getElem?_getD, List.getElem?_eq_getElem hk]
      simp
    rw [ht, ← h.is v]
    unfold hasB
    rw [getD_set _ _ _ _ hil]
    by_cases hs : s ≤ v / 64
    · by_cases he : i = (v / 64 - s).toNat
      · rw [if_pos he, Nat.testBit_or, bitN_bit, ← he]
        simp only [hs, decide_true, Bool.true_and, Bool.or_eq_true, decide_eq_true_eq]
        constructor
        · rintro (q | q)
          · exact .inl q
          · exact .inr (by omega)
        · rintro (q | q)
          · exact .inl q
          · exact .inr (by rw [q])
      · rw [if_neg he]
        constructor
        · exact .inl
        · rintro (q | q)
          · exact q
          · exact absurd (by rw [q]; omega) he
    · simp only [hs, decide_false, Bool.false_and]
      constructor
      · intro q; cases q
      · rintro (q | q)
        · exact q
        · exact absurd (by rw [q]; omega) hs

/-- The words of all numbers are a domain's form. -/
theorem Marked.form {s lo hi : Int} {m : Nat} {ws : List Nat} {zs : List Int} (h : Marked s m ws zs zs.length) (hl : lo ∈ zs ∧ ∀ z ∈ zs, lo ≤ z) (hh : hi ∈ zs ∧ ∀ z ∈ zs, z ≤ hi)
    (h1 : -1000000 ≤ lo) (h2 : hi ≤ 1000000) (hs : s = lo / 64) (hm : (m : Int) = hi / 64 - lo / 64 + 1) : Form s ws ∧ listOf s ws = setOf zs := by
  have hle := hl.2 hi hh.1
  have b1 := (h.is lo).2 (by rw [List.take_length]; exact hl.1)
  have b2 := (h.is hi).2 (by rw [List.take_length]; exact hh.1)
  unfold hasB at b1 b2
  simp only [Bool.and_eq_true, decide_eq_true_eq] at b1 b2
  rw [show (lo / 64 - s).toNat = 0 by omega] at b1
  rw [show (hi / 64 - s).toNat = ws.length - 1 by have := h.len; omega] at b2
  refine ⟨⟨h.lt, fun _ e => ?_, fun _ e => ?_, fun e => ?_, by omega, ?_⟩, ?_⟩
  · rw [e] at b1; simp at b1
  · rw [e] at b2; simp at b2
  · have := h.len; omega
  · have := h.len; omega
  · apply eq_of_rising _ _ (rising_listOf _ _) (rising_setOf _)
    intro v
    rw [mem_listOf, h.is v, List.take_length, mem_setOf]
end Go.Proofs.YtkhmocbfkpbpfaaGreatDoor

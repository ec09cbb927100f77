/- Rows of rows of one's own: one more. Domains that lie one behind the other. No walk. -/
import Derived.Test.YtcmdgjkoalophaaGreatDoorSh2
import Derived.Test.YtcmdgjkoalophaaGreatDoorGcon
import Derived.Test.YtcmdgjkoalophaaGreatDoorGfn3
import Derived.Test.YtcmdgjkoalophaaGreatDoorMrefright
import Derived.Maps.AppendAt
import Derived.Test.YtcmdgjkoalophaaGreatDoorDRep
import Derived.Test.YtcmdgjkoalophaaGreatDoorMkst
namespace Go.Proofs.YtcmdgjkoalophaaGreatDoor
open Go.RowKit

/-- What a kind makes of two numbers. -/
def kindV (kind x y : Int) : Option Int :=
  if kind = 5 then some (x * y) else if y = 0 then none else if kind = 6 then some (x.tdiv y) else some (x.tmod y)
/-- A pair, if what it makes is among the third numbers. -/
def hitP (f : Int → Int → Option Int) (C : List Int) (a b : Int) : Option (Int × Int × Int) := (f a b).bind fun r => if r ∈ C then some (a, b, r) else none
def hitsR (f : Int → Int → Option Int) (C : List Int) (a : Int) (B : List Int) : List (Int × Int × Int) := B.filterMap (hitP f C a)
def hitsE (f : Int → Int → Option Int) (C A B : List Int) : List (Int × Int × Int) := A.flatMap fun a => hitsR f C a B
def h1 (l : List (Int × Int × Int)) : List Int := l.map fun t => t.1
def h2 (l : List (Int × Int × Int)) : List Int := l.map fun t => t.2.1
def h3 (l : List (Int × Int × Int)) : List Int := l.map fun t => t.2.2

theorem hitsR_step (f : Int → Int → Option Int) (C : List Int) (a : Int) (B : List Int) (k : Nat) (h : k < B.length) : hitsR f C a (B.take (k + 1)) = hitsR f C a (B.take k) ++ (hitP f C a (B.getD k 0)).toList := by
  unfold hitsR
  rw [List.take_succ_eq_append_getElem h, List.filterMap_append, List.getD_eq_getElem?_getD, List.getElem?_eq_getElem h]
  congr 1
theorem hitsE_step (f : Int → Int → Option Int) (C A B : List Int) (k : Nat) (h : k < A.length) : hitsE f C (A.take (k + 1)) B = hitsE f C (A.take k) B ++ hitsR f C (A.getD k 0) B := by
  unfold hitsE
  rw [List.take_succ_eq_append_getElem h, List.flatMap_append, List.getD_eq_getElem?_getD, List.getElem?_eq_getElem h]
  simp
theorem hitsR_len (f : Int → Int → Option Int) (C : List Int) (a : Int) (B : List Int) : (hitsR f C a B).length ≤ B.length := List.length_filterMap_le _ _
theorem hitsE_len (f : Int → Int → Option Int) (C A B : List Int) : (hitsE f C A B).length ≤ A.length * B.length := by
  induction A with
  | nil => simp [hitsE]
  | cons a A ih =>
    have := hitsR_len f C a B
    have e : hitsE f C (a :: A) B = hitsR f C a B ++ hitsE f C A B := by simp [hitsE]
    rw [e, List.length_append, List.length_cons, Nat.add_mul]
    omega
theorem mem_hitP {f : Int → Int → Option Int} {C : List Int} {a b : Int} {t : Int × Int × Int} : t ∈ (hitP f C a b).toList ↔ t.1 = a ∧ t.2.1 = b ∧ f a b = some t.2.2 ∧ t.2.2 ∈ C := by
  obtain ⟨x, y, z⟩ := t
  unfold hitP
  cases hf : f a b with
  | none => simp
  | some r =>
    by_cases hr : r ∈ C
    · simp only [Option.bind_some, if_pos hr, Option.toList_some, List.mem_singleton, Prod.mk.injEq, Option.some.injEq]
      constructor
      · rintro ⟨rfl, rfl, rfl⟩; exact ⟨rfl, rfl, rfl, hr⟩
      · rintro ⟨rfl, rfl, rfl, -⟩; exact ⟨rfl, rfl, rfl⟩
    · simp only [Option.bind_some, if_neg hr, Option.toList_none, List.not_mem_nil, false_iff, Option.some.injEq]
      rintro ⟨rfl, rfl, rfl, h⟩; exact hr h
theorem mem_hitsE {f : Int → Int → Option Int} {C A B : List Int} {t : Int × Int × Int} : t ∈ hitsE f C A B ↔ t.1 ∈ A ∧ t.2.1 ∈ B ∧ f t.1 t.2.1 = some t.2.2 ∧ t.2.2 ∈ C := by
  unfold hitsE hitsR
  simp only [List.mem_flatMap, List.mem_filterMap]
  constructor
  · rintro ⟨a, ha, b, hb, h⟩
    obtain ⟨rfl, rfl, h3, h4⟩ := mem_hitP.1 (show t ∈ (hitP f C a b).toList by rw [h]; simp)
    exact ⟨ha, hb, h3, h4⟩
  · rintro ⟨ha, hb, h3, h4⟩
    refine ⟨t.1, ha, t.2.1, hb, ?_⟩
    have := mem_hitP.2 (⟨rfl, rfl, h3, h4⟩ : t.1 = t.1 ∧ t.2.1 = t.2.1 ∧ f t.1 t.2.1 = some t.2.2 ∧ t.2.2 ∈ C)
    rw [Option.mem_toList] at this
    exact this
theorem h1_app (l m : List (Int × Int × Int)) : h1 (l ++ m) = h1 l ++ h1 m := by simp [h1]
theorem h2_app (l m : List (Int × Int × Int)) : h2 (l ++ m) = h2 l ++ h2 m := by simp [h2]
theorem h3_app (l m : List (Int × Int × Int)) : h3 (l ++ m) = h3 l ++ h3 m := by simp [h3]

/-- The least and the greatest of four. -/
def min4 (a b c d : Int) : Int := min (min (min a b) c) d
def max4 (a b c d : Int) : Int := max (max (max a b) c) d
def lowP (A B : List Int) : Int := min4 (A.head?.getD 0 * B.head?.getD 0) (A.head?.getD 0 * B.getLast?.getD 0) (A.getLast?.getD 0 * B.head?.getD 0) (A.getLast?.getD 0 * B.getLast?.getD 0)
def highP (A B : List Int) : Int := max4 (A.head?.getD 0 * B.head?.getD 0) (A.head?.getD 0 * B.getLast?.getD 0) (A.getLast?.getD 0 * B.head?.getD 0) (A.getLast?.getD 0 * B.getLast?.getD 0)

/-- What is left of three domains, none empty. -/
def mulL (kind : Int) (A B C : List Int) : List (List Int) :=
  if A.length * B.length ≤ 4096 then [ofL (h1 (hitsE (kindV kind) C A B)), ofL (h2 (hitsE (kindV kind) C A B)), ofL (h3 (hitsE (kindV kind) C A B))]
  else if kind = 5 then [A, B, (C.filter fun u => decide (lowP A B ≤ u)).filter fun u => decide (u ≤ highP A B)]
  else [A, B.filter fun u => decide (u ≠ 0), C]
/-- What is left; nothing, if a domain is empty, or the constraint isn't one of these. -/
def mulE (c : ConL) (D : List (List Int)) : Option (List (List Int)) :=
  if fitsE c D 5 7 = true then
    (if (mulL c.kind (D.getD 0 []) (D.getD 1 []) (D.getD 2 [])).any (fun l => l.length == 0) = true then none else some (mulL c.kind (D.getD 0 []) (D.getD 1 []) (D.getD 2 [])))
  else none
end Go.Proofs.YtcmdgjkoalophaaGreatDoor

namespace Go.Proofs.YtcmdgjkoalophaaGreatDoor
open Go.RowKit Go.Sort

theorem hasQ_any (a b : Int) (w : World) (ha : -1000000000000000 ≤ a) (hb : b ≠ 0) : Calls Tryz.prog 227 #[.int .i64 a, .int .i64 b] w fun e w' => e = .returned (.bool true) ∧ w = w' := by
  have e1 : (b != 0) = true := by simpa using hb
  have e2 : (a != -9223372036854775808) = true := by simp; omega
  clear ha hb
  go_enter Tryz.func227, Tryz.ntmps227
  go_wp2_with fail
  go_ret
  exact ⟨rfl, rfl⟩
theorem tdiv_lim {a b : Int} (ha : -1000000000000000 ≤ a ∧ a ≤ 1000000000000000) : -1000000000000000 ≤ a.tdiv b ∧ a.tdiv b ≤ 1000000000000000 := by
  have : (a.tdiv b).natAbs ≤ a.natAbs := by
    rw [Int.natAbs_tdiv]
    exact Nat.div_le_self _ _
  omega
theorem tmod_lim {a b : Int} (ha : -1000000000000000 ≤ a ∧ a ≤ 1000000000000000) : -1000000000000000 ≤ a.tmod b ∧ a.tmod b ≤ 1000000000000000 := by
  have : (a.tmod b).natAbs ≤ a.natAbs := by
    rw [Int.natAbs_tmod]
    exact Nat.mod_le _ _
  omega
/-- The sum that a cut quotient and its remainder make. -/
theorem cut_sum (a b : Int) : a = b * a.tdiv b + a.tmod b := (Int.mul_tdiv_add_tmod a b).symm
theorem rem_sign (a b : Int) : (0 ≤ a → 0 ≤ a.tmod b) ∧ (a ≤ 0 → a.tmod b ≤ 0) := by
  refine ⟨fun h => Int.tmod_nonneg b h, fun h => ?_⟩
  have h4 : (-a).tmod b = -(a.tmod b) := Int.neg_tmod a b
  have h5 := Int.tmod_nonneg b (show 0 ≤ -a by omega)
  omega
theorem mul_le_iff_pos {b q r v : Int} (hb : 0 < b) (hr : 0 ≤ r ∧ r < b) : b * v ≤ b * q + r ↔ v ≤ q := by
  constructor
  · intro h
    apply Decidable.byContradiction
    intro hn
    have h1 : b * (q + 1) ≤ b * v := Int.mul_le_mul_of_nonneg_left (by omega) (by omega)
    rw [Int.mul_add, Int.mul_one] at h1
    omega
  · intro h
    have h1 : b * v ≤ b * q := Int.mul_le_mul_of_nonneg_left h (by omega)
    omega

set_option maxHeartbeats 2000000 in
/-- Floor by a divisor above 0: the greatest number that, so often, is no more. -/
theorem floor_tells (a b : Int) (w : World) (ha : -1000000000000000 ≤ a ∧ a ≤ 1000000000000000) (hb : 0 < b ∧ b ≤ 1000000) :
    Calls Tryz.prog 220 #[.int .i64 a, .int .i64 b] w fun e w' => (∃ q : Int, e = .returned (.tuple #[.int .i64 q, .bool true]) ∧ (∀ v, b * v ≤ a ↔ v ≤ q) ∧ -1000000000000001 ≤ q ∧ q ≤ 1000000000000000) ∧ w = w' := by
  have CQ := Lib.hid (hasQ_any a b w ha.1 (by omega))
  have h1 := tdiv_lim (b := b) ha
  have h2 := rem_sign a b
  have h3 := tmod_in a b (by omega)
  have hs := cut_sum a b
  have b0 : (b == 0) = false := by simp; omega
  have b1 : ¬ b = 0 := by omega
  have b2 : decide (b < 0) = false := by simp; omega
  have HQ : Hid (∀ v, b * v ≤ a ↔ v ≤ if a < 0 ∧ a.tmod b ≠ 0 then a.tdiv b - 1 else a.tdiv b) := Lib.hid (fun v => by
    split
    · next g =>
      have e : a = b * (a.tdiv b - 1) + (a.tmod b + b) := by rw [Int.mul_sub, Int.mul_one]; omega
      have := mul_le_iff_pos (b := b) (q := a.tdiv b - 1) (r := a.tmod b + b) (v := v) hb.1 (by omega)
      rw [← e] at this
      exact this
    · next g =>
      have := mul_le_iff_pos (b := b) (q := a.tdiv b) (r := a.tmod b) (v := v) hb.1 (by omega)
      rw [← hs] at this
      exact this)
  have w1 : IntKind.i64.wrap (a.tdiv b) = a.tdiv b := IntWalk.i64_in _ (by omega)
  have w2 : IntKind.i64.wrap (a.tdiv b - 1) = a.tdiv b - 1 := IntWalk.i64_in _ (by omega)
  have w3 : IntKind.i64.wrap (a.tmod b) = a.tmod b := IntWalk.i64_in _ (by have := tmod_lim (b := b) ha; omega)
  have HB := Lib.hid h1
  by_cases g2 : a.tmod b = 0
  · have e2 : (a.tmod b != 0) = false := by simp [g2]
    have HF : Hid (∀ v, b * v ≤ a ↔ v ≤ a.tdiv b) := Lib.hid (by have := HQ.out; rwa [if_neg (fun q => q.2 g2)] at this)
    clear HQ h1 h2 h3 hs ha hb g2
    cases e1 : decide (a < 0)
    all_goals
      go_enter Tryz.func220, Tryz.ntmps220
      go_wp2_with fail
      refine CQ.out.mono ?_
      rintro e w9 ⟨rfl, rfl⟩
      go_wp2_with fail
      exact bodyPost_ret (v := .tuple #[.int .i64 (a.tdiv b), .bool true]) (by simp [results, Tryz.results220, go_sem]) rfl ⟨⟨_, rfl, HF.out, by have := HB.out; omega⟩, rfl⟩
  · have e2 : (a.tmod b != 0) = true := by simp [g2]
    by_cases g1 : a < 0
    · have e1 : decide (a < 0) = true := by simpa using g1
      have HF : Hid (∀ v, b * v ≤ a ↔ v ≤ a.tdiv b - 1) := Lib.hid (by have := HQ.out; rwa [if_pos ⟨g1, g2⟩] at this)
      clear HQ h1 h2 h3 hs ha hb g1 g2
      go_enter Tryz.func220, Tryz.ntmps220
      go_wp2_with fail
      refine CQ.out.mono ?_
      rintro e w9 ⟨rfl, rfl⟩
      go_wp2_with fail
      exact bodyPost_ret (v := .tuple #[.int .i64 (a.tdiv b - 1), .bool true]) (by simp [results, Tryz.results220, go_sem]) rfl ⟨⟨_, rfl, HF.out, by have := HB.out; omega⟩, rfl⟩
    · have e1 : decide (a < 0) = false := by simpa using g1
      have HF : Hid (∀ v, b * v ≤ a ↔ v ≤ a.tdiv b) := Lib.hid (by have := HQ.out; rwa [if_neg (fun q => g1 q.1)] at this)
      clear HQ h1 h2 h3 hs ha hb g1 g2
      go_enter Tryz.func220, Tryz.ntmps220
      go_wp2_with fail
      refine CQ.out.mono ?_
      rintro e w9 ⟨rfl, rfl⟩
      go_wp2_with fail
      exact bodyPost_ret (v := .tuple #[.int .i64 (a.tdiv b), .bool true]) (by simp [results, Tryz.results220, go_sem]) rfl ⟨⟨_, rfl, HF.out, by have := HB.out; omega⟩, rfl⟩
theorem mul_le_iff_neg {b q r v : Int} (hb : b < 0) (hr : 0 ≤ r ∧ r < -b) : b * v ≤ b * q + r ↔ q ≤ v := by
  have h := mul_le_iff_pos (b := -b) (q := -q) (r := r) (v := -v) (by omega) hr
  rw [Int.neg_mul_neg, Int.neg_mul_neg] at h
  rw [h]
  omega

set_option maxHeartbeats 2000000 in
/-- Ceil by a divisor below 0: the least number that, so often, is no more. -/
theorem ceil_tells (a b : Int) (w : World) (ha : -1000000000000000 ≤ a ∧ a ≤ 1000000000000000) (hb : b < 0 ∧ -1000000 ≤ b) :
    Calls Tryz.prog 222 #[.int .i64 a, .int .i64 b] w fun e w' => (∃ q : Int, e = .returned (.tuple #[.int .i64 q, .bool true]) ∧ (∀ v, b * v ≤ a ↔ q ≤ v) ∧ -1000000000000000 ≤ q ∧ q ≤ 1000000000000001) ∧ w = w' := by
  have CQ := Lib.hid (hasQ_any a b w ha.1 (by omega))
  have h1 := tdiv_lim (b := b) ha
  have h2 := rem_sign a b
  have h3 : b < a.tmod b ∧ a.tmod b < -b := by
    have h := Int.natAbs_tmod a b
    have h2 : a.natAbs % b.natAbs < b.natAbs := Nat.mod_lt _ (by omega)
    omega
  have hs := cut_sum a b
  have b0 : (b == 0) = false := by simp; omega
  have b1 : ¬ b = 0 := by omega
  have b2 : decide (b < 0) = true := by simp; omega
  have HQ : Hid (∀ v, b * v ≤ a ↔ (if a < 0 ∧ a.tmod b ≠ 0 then a.tdiv b + 1 else a.tdiv b) ≤ v) := Lib.hid (fun v => by
    split
    · next g =>
      have e : a = b * (a.tdiv b + 1) + (a.tmod b - b) := by rw [Int.mul_add, Int.mul_one]; omega
      have := mul_le_iff_neg (b := b) (q := a.tdiv b + 1) (r := a.tmod b - b) (v := v) hb.1 (by omega)
      rw [← e] at this
      exact this
    · next g =>
      have := mul_le_iff_neg (b := b) (q := a.tdiv b) (r := a.tmod b) (v := v) hb.1 (by omega)
      rw [← hs] at this
      exact this)
  have w1 : IntKind.i64.wrap (a.tdiv b) = a.tdiv b := IntWalk.i64_in _ (by omega)
  have w2 : IntKind.i64.wrap (a.tdiv b + 1) = a.tdiv b + 1 := IntWalk.i64_in _ (by omega)
  have w3 : IntKind.i64.wrap (a.tmod b) = a.tmod b := IntWalk.i64_in _ (by have := tmod_lim (b := b) ha; omega)
  have HB := Lib.hid h1
  by_cases g2 : a.tmod b = 0
  · have e2 : (a.tmod b != 0) = false := by simp [g2]
    have HF : Hid (∀ v, b * v ≤ a ↔ a.tdiv b ≤ v) := Lib.hid (by have := HQ.out; rwa [if_neg (fun q => q.2 g2)] at this)
    clear HQ h1 h2 h3 hs ha hb g2
    cases e1 : decide (a < 0)
    all_goals
      go_enter Tryz.func222, Tryz.ntmps222
      go_wp2_with fail
      refine CQ.out.mono ?_
      rintro e w9 ⟨rfl, rfl⟩
      go_wp2_with fail
      exact bodyPost_ret (v := .tuple #[.int .i64 (a.tdiv b), .bool true]) (by simp [results, Tryz.results222, go_sem]) rfl ⟨⟨_, rfl, HF.out, by have := HB.out; omega⟩, rfl⟩
  · have e2 : (a.tmod b != 0) = true := by simp [g2]
    by_cases g1 : a < 0
    · have e1 : decide (a < 0) = true := by simpa using g1
      have HF : Hid (∀ v, b * v ≤ a ↔ a.tdiv b + 1 ≤ v) := Lib.hid (by have := HQ.out; rwa [if_pos ⟨g1, g2⟩] at this)
      clear HQ h1 h2 h3 hs ha hb g1 g2
      go_enter Tryz.func222, Tryz.ntmps222
      go_wp2_with fail
      refine CQ.out.mono ?_
      rintro e w9 ⟨rfl, rfl⟩
      go_wp2_with fail
      exact bodyPost_ret (v := .tuple #[.int .i64 (a.tdiv b + 1), .bool true]) (by simp [results, Tryz.results222, go_sem]) rfl ⟨⟨_, rfl, HF.out, by have := HB.out; omega⟩, rfl⟩
    · have e1 : decide (a < 0) = false := by simpa using g1
      have HF : Hid (∀ v, b * v ≤ a ↔ a.tdiv b ≤ v) := Lib.hid (by have := HQ.out; rwa [if_neg (fun q => g1 q.1)] at this)
      clear HQ h1 h2 h3 hs ha hb g1 g2
      go_enter Tryz.func222, Tryz.ntmps222
      go_wp2_with fail
      refine CQ.out.mono ?_
      rintro e w9 ⟨rfl, rfl⟩
      go_wp2_with fail
      exact bodyPost_ret (v := .tuple #[.int .i64 (a.tdiv b), .bool true]) (by simp [results, Tryz.results222, go_sem]) rfl ⟨⟨_, rfl, HF.out, by have := HB.out; omega⟩, rfl⟩
end Go.Proofs.YtcmdgjkoalophaaGreatDoor

namespace Go.Proofs.YtcmdgjkoalophaaGreatDoor
open Go.RowKit

/-- A value that is no word of 64 bits. -/
def plainV (v : Value) : Prop := ∀ x, v ≠ .int .u64 x
theorem lt_of_heap {w : World} {b : Nat} {o : Obj} (h : w.heap[b]? = some o) : b < w.heap.size := (Array.getElem?_eq_some_iff.1 h).1

def Blk (w : World) (g : Nat) (cs : Array Value) (t : TypeId) : Prop := w.heap[g]? = some (.cells cs t (0, 0))
theorem Blk.lt {w : World} {g : Nat} {cs : Array Value} {t : TypeId} (h : Blk w g cs t) : g < w.heap.size := lt_of_heap h
theorem Blk.below {w w' : World} {g : Nat} {cs : Array Value} {t : TypeId} (h : Blk w g cs t) (hb : Below w.heap.size w w') : Blk w' g cs t := (hb.block g h.lt).trans h
theorem Blk.new (w : World) (cs : Array Value) (t : TypeId) : Blk (w.alloc (.cells cs t)) w.heap.size cs t := heap_alloc_new w _
theorem Blk.cell {w : World} {g : Nat} {cs : Array Value} {t : TypeId} (h : Blk w g cs t) (i : Nat) : w.cell? ⟨g, i, none⟩ = cs[i]? := by
  unfold Blk at h; simp [World.cell?, h]
theorem Blk.free {w : World} {g : Nat} {cs : Array Value} {t : TypeId} (h : Blk w g cs t) (i : Nat) : w.frozen? ⟨g, i, none⟩ = false := by
  unfold Blk at h; simp [World.frozen?, h]
theorem Blk.set {w : World} {g : Nat} {cs : Array Value} {t : TypeId} (h : Blk w g cs t) (i : Nat) (v : Value) : Blk (w.setCell ⟨g, i, none⟩ v) g (cs.setIfInBounds i v) t := heap_setCell_same w g i cs t v h
theorem Blk.other {w : World} {g : Nat} {cs : Array Value} {t : TypeId} (h : Blk w g cs t) {a : Addr} (hne : g ≠ a.block) (v : Value) : Blk (w.setCell a v) g cs t := (heap_setCell_other w a g v hne).trans h
theorem Blk.ne {w : World} {g g' : Nat} {cs cs' : Array Value} {t t' : TypeId} (h : Blk w g cs t) (h' : Blk w g' cs' t') (ht : t ≠ t') : g ≠ g' := by
  rintro rfl
  unfold Blk at h h'
  rw [h] at h'
  injection h' with h'; injection h' with _ h'
  exact ht h'

/-- A row of one's own, without words, also behind its end. -/
def Row (base : Nat) (w : World) (e : TypeId) (size : Nat) (v : Value) (n : Nat) (xs : List Value) : Prop :=
  w.ownsRow base e size v n xs ∧ ∀ g, v.ownBlock = some g → ∀ cur, Blk w g cur e → ∀ u ∈ cur, plainV u

theorem Row.nil (base : Nat) (w : World) (e : TypeId) (size : Nat) : Row base w e size (.slice none 0 0) 0 [] := ⟨World.ownsRow_nil w base e size, by rintro g h; cases h⟩

theorem Row.keep {base : Nat} {w w' : World} {e : TypeId} {size : Nat} {v : Value} {n : Nat} {xs : List Value} (h : Row base w e size v n xs) (hk : ∀ g cs, Blk w g cs e → w'.heap[g]? = w.heap[g]?) : Row base w' e size v n xs := by
  obtain ⟨⟨h1, h2⟩, h3⟩ := h
  rcases h2 with ⟨rfl, rfl⟩ | ⟨g, cap, cur, rfl, hb, hg, hr⟩
  · exact ⟨⟨h1, .inl ⟨rfl, rfl⟩⟩, by rintro g h; cases h⟩
  · refine ⟨⟨h1, .inr ⟨g, cap, cur, rfl, hb, (hk g cur hg).trans hg, hr⟩⟩, ?_⟩
    rintro g' e' cur' hB
    simp only [Value.ownBlock, Option.some.injEq] at e'
    subst e'
    exact h3 g rfl cur' ((hk g cur hg).symm.trans hB)

theorem Row.below {base : Nat} {w w' : World} {e : TypeId} {size : Nat} {v : Value} {n : Nat} {xs : List Value} (h : Row base w e size v n xs) (hb : Below w.heap.size w w') : Row base w' e size v n xs :=
  h.keep fun g _ hB => hb.block g (Blk.lt hB)

theorem Row.set {base : Nat} {w : World} {e t : TypeId} {size : Nat} {v : Value} {n : Nat} {xs : List Value} {g : Nat} {cs : Array Value} (h : Row base w e size v n xs) (hB : Blk w g cs t) (ht : e ≠ t) (i : Nat) (x : Value) : Row base (w.setCell ⟨g, i, none⟩ x) e size v n xs :=
  h.keep fun g' _ hB' => heap_setCell_other w _ g' x (hB'.ne hB ht)

theorem zeroCells_mem {z : Array Value} {k : Nat} {u : Value} (h : u ∈ Builtin.zeroCells z k) : u ∈ z := by
  unfold Builtin.zeroCells at h
  rw [Array.mem_map] at h
  obtain ⟨i, hi, rfl⟩ := h
  rw [Array.mem_range] at hi
  have hz : 0 < z.size := by
    rcases Nat.eq_zero_or_pos z.size with h0 | h0
    · rw [h0] at hi; omega
    · exact h0
  have hm := Nat.mod_lt i hz
  rw [getElem!_pos z _ hm]
  exact Array.getElem_mem hm

section
variable {P : Program} (w : World)

theorem run_append_rowp (base : Nat) (t ty e : TypeId) (i : TypeInfo) (z : Value) (size bytes : Nat) (ht : P.underlying t = some (.slice e)) (hi : P.info? e = some i) (hz : i.zero = some z)
    (hsize : i.size = size) (hby : i.bytes = bytes) (hzs : z.cells.size = size) (hsz : 0 < size)
    (v : Value) (n : Nat) (xs : List Value) (hR : Row base w e size v n xs) (hzp : ∀ u ∈ z.cells, plainV u)
    (a : Addr) (m c : Nat) (news : List Value) (hl : news.length = m * size) (hnews : ∀ j u, news[j]? = some u → w.cell? (a.add j) = some u) (h1 : ∀ u ∈ news, u.oneCell' = true) (hnp : ∀ u ∈ news, plainV u)
    (hm : 0 < m) (h63 : n + m ≤ maxLen) (hbytes : (n + m) * bytes ≤ 140737488355328) (hbase : base ≤ w.heap.size) :
    ∃ v' w', (Builtin.append_ #[t, t] ty #[v, .slice (some a) m c]).run P w = .ok v' w' ∧ Row base w' e size v' (n + m) (xs ++ news) ∧ w.grownBy w' v.ownBlock := by
  obtain ⟨v', w', hr, h2, h3, h4, h5⟩ := run_append_own_at (P := P) w base t ty e i z size bytes ht hi hz hsize hby hzs hsz v n xs hR.1 a m c news hl hnews h1 h63 hbytes hbase
  have hsmall : n + m ≤ 9223372036854775807 := by simp only [maxLen] at h63; omega
  refine ⟨v', w', hr, ⟨h2, ?_⟩, h3⟩
  subst hsize
  subst hby
  rcases hR.1.2 with ⟨rfl, rfl⟩ | ⟨g, cap, cur, rfl, hb, hB, hnc, hcm, hcs, htake⟩
  · have hx : xs = [] := List.eq_nil_of_length_eq_zero (by simpa using hR.1.1)
    subst hx
    have hr' := run_append_nil (P := P) w t ty e i z ht hi hz a m c news hl hnews hm (by omega) (by have hb := hbytes; simp only [Nat.zero_add] at hb; omega)
    rw [hr'] at hr
    injection hr with hr1 hr2
    subst hr1
    subst hr2
    intro g' hg' cur' hB' u hu
    simp only [Value.ownBlock, Option.some.injEq] at hg'
    subst hg'
    have hN := heap_alloc_new w.drew (.cells (news.toArray ++ Builtin.zeroCells z.cells (grownCap w m 0 e - m)) e)
    unfold Blk at hB'
    rw [show w.heap.size = w.drew.heap.size from rfl] at hB'
    rw [hN] at hB'
    injection hB' with hB'; injection hB' with hB' _
    subst hB'
    rcases Array.mem_append.1 hu with h | h
    · exact hnp u (by simpa using h)
    · exact hzp u (zeroCells_mem h)
  · by_cases hroom : n + m ≤ cap
    · have hfit : n * i.size + news.length ≤ cur.size := by rw [hl, hcs, ← Nat.add_mul]; exact Nat.mul_le_mul_right _ hroom
      have hr' := run_append_room (P := P) w t ty e i ht hi g n cap cur hB a m c news hl hnews h1 hroom hfit
      rw [hr'] at hr
      injection hr with hr1 hr2
      subst hr1
      subst hr2
      intro g' hg' cur' hB' u hu
      simp only [Value.ownBlock, Option.some.injEq] at hg'
      subst hg'
      have hN := setRow_heap w g cur (cur.toList.take (n * i.size) ++ news ++ cur.toList.drop (n * i.size + news.length)).toArray e _ hB
      unfold Blk at hB'
      rw [hN] at hB'
      injection hB' with hB'; injection hB' with hB' _
      subst hB'
      have hcur := hR.2 _ rfl cur hB
      simp only [List.mem_toArray, List.mem_append] at hu
      rcases hu with (h | h) | h
      · exact hcur u (by simpa using List.mem_of_mem_take h)
      · exact hnp u h
      · exact hcur u (by simpa using List.mem_of_mem_drop h)
    · have holds : ∀ j u, xs[j]? = some u → w.cell? ((⟨g, 0, none⟩ : Addr).add j) = some u := hR.1.cells (g := g) rfl
      have hr' := run_append_grow (P := P) w t ty e i z ht hi hz ⟨g, 0, none⟩ n cap xs hR.1.1 holds a m c news hl hnews (by omega) (by omega) (growslice_fits (by omega) hbytes)
      rw [hr'] at hr
      injection hr with hr1 hr2
      subst hr1
      subst hr2
      intro g' hg' cur' hB' u hu
      simp only [Value.ownBlock, Option.some.injEq] at hg'
      subst hg'
      have hN := heap_alloc_new w.drew (.cells (xs.toArray ++ news.toArray ++ Builtin.zeroCells z.cells (grownCap w (n + m) cap e - (n + m))) e)
      unfold Blk at hB'
      rw [show w.heap.size = w.drew.heap.size from rfl] at hB'
      rw [hN] at hB'
      injection hB' with hB'; injection hB' with hB' _
      subst hB'
      have hcur := hR.2 _ rfl cur hB
      rcases Array.mem_append.1 hu with h | h
      · rcases Array.mem_append.1 h with h | h
        · have h' : u ∈ xs := by simpa using h
          rw [← htake] at h'
          exact hcur u (by simpa using List.mem_of_mem_take h')
        · exact hnp u (by simpa using h)
      · exact hzp u (zeroCells_mem h)

/-- append at the walk's operation, onto a row without words. -/
theorem wpList_append_rowp {ops : Array Oper} {rest : List Oper} {o : Oper} {a : Act} {Q : Exit → Act → World → Prop} (hgd : o.guard = none) (s x : Operand) (t : TypeId)
    (ho : o.op = .call { callee := .builtin .append, args := #[s, x], argTypes := #[t, t] })
    (base : Nat) (e : TypeId) (i : TypeInfo) (z : Value) (size bytes : Nat) (ht : P.underlying t = some (.slice e)) (hi : P.info? e = some i) (hz : i.zero = some z)
    (hsize : i.size = size) (hby : i.bytes = bytes) (hzs : z.cells.size = size) (hsz : 0 < size) (hzp : ∀ u ∈ z.cells, plainV u)
    (v : Value) (n : Nat) (xs : List Value) (hs : a.eval s = v) (hR : Row base w e size v n xs)
    (ad : Addr) (c : Nat) (news : List Value) (hx : a.eval x = .slice (some ad) 1 c) (hl : news.length = 1 * size) (hnews : ∀ j u, news[j]? = some u → w.cell? (ad.add j) = some u) (h1 : ∀ u ∈ news, u.oneCell' = true) (hnp : ∀ u ∈ news, plainV u)
    (h63 : n + 1 ≤ maxLen) (hbytes : (n + 1) * bytes ≤ 140737488355328) (hbase : base ≤ w.heap.size)
    (h : ∀ v' w', Row base w' e size v' (n + 1) (xs ++ news) → w.grownBy w' v.ownBlock → wpList P ops Q rest (a.put o.dst v') w') :
    wpList P ops Q (o :: rest) a w := by
  refine wpList_plain hgd fun K hK => ?_
  obtain ⟨v', w', hr, h2, h3⟩ := run_append_rowp (P := P) w base t o.type e i z size bytes ht hi hz hsize hby hzs hsz v n xs hR hzp ad 1 c news hl hnews h1 hnp (by omega) h63 hbytes hbase
  unfold Oper.wp execOp
  simp only [ho, resolve, invoke, builtin, Sem.run_bind, Sem.run_pure, Result.andThen_ok, List.map_toArray, List.map_cons, List.map_nil, hs, hx, hr]
  exact hK _ _ (h v' w' h2 h3)

theorem words_grown {w w' : World} {base : Nat} {e : TypeId} {size n : Nat} {v : Value} {xs : List Value} (hR : Row base w e size v n xs) (hG : w.grownBy w' v.ownBlock) : ∀ (ad : Addr) (x : Int), w.cell? ad = some (.int .u64 x) → w'.cell? ad = some (.int .u64 x) := by
  intro ad x hx
  refine hG.cell hx fun e' => ?_
  rcases hR.1.2 with ⟨rfl, rfl⟩ | ⟨g, cap, cur, rfl, hb, hB, hr⟩
  · cases e'
  · simp only [Value.ownBlock, Option.some.injEq] at e'
    have hp := hR.2 g rfl cur hB
    unfold World.cell? at hx
    rw [e', hB] at hx
    simp only at hx
    split at hx
    · exact absurd hx (by simp)
    · exact hp _ (Array.mem_of_getElem? hx) x rfl

theorem IsDom.grown {w w' : World} {base : Nat} {e : TypeId} {size n : Nat} {v : Value} {xs : List Value} {d : Value} {L : List Int} (h : IsDom w d L) (hR : Row base w e size v n xs) (hG : w.grownBy w' v.ownBlock) : IsDom w' d L := by
  obtain ⟨s, A, ws, c, e', h1, h2, h3⟩ := h
  refine ⟨s, A, ws, c, e', fun hn => ?_, h2, h3⟩
  obtain ⟨ad, q, hl, hc⟩ := h1 hn
  exact ⟨ad, q, Nat.lt_of_lt_of_le hl hG.size, fun j hj => words_grown hR hG _ _ (hc j hj)⟩

theorem Row.base {w : World} {base base' : Nat} {e : TypeId} {size n : Nat} {v : Value} {xs : List Value} (h : Row base w e size v n xs) (hb : base' ≤ base) : Row base' w e size v n xs := ⟨own_base h.1 hb, h.2⟩
end


theorem Row.ne {w : World} {base : Nat} {e t : TypeId} {size n : Nat} {v : Value} {xs : List Value} (h : Row base w e size v n xs) {g : Nat} {cs : Array Value} (hB : Blk w g cs t) (ht : e ≠ t) : v.ownBlock ≠ some g := by
  rcases h.1.2 with ⟨rfl, rfl⟩ | ⟨g', cap, cur, rfl, hb, hg, hr⟩
  · intro e; cases e
  · intro e
    simp only [Value.ownBlock, Option.some.injEq] at e
    subst e
    exact Blk.ne (show Blk w g' cur _ from hg) hB ht rfl
theorem Row.low {w w' : World} {b base : Nat} {e : TypeId} {size n : Nat} {v : Value} {xs : List Value} (h : Row base w e size v n xs) (hG : w.grownBy w' v.ownBlock) (hb : b ≤ w.heap.size) (hbb : b ≤ base) : Below b w w' :=
  ⟨hG.os, hG.tape, hG.output, hG.size, fun k hk => hG.block k (by omega) (fun e' => by have := own_ge h.1 k e'.symm; omega)⟩
end Go.Proofs.YtcmdgjkoalophaaGreatDoor

namespace Go.Proofs.YtcmdgjkoalophaaGreatDoor
open Go.RowKit

theorem blk_cell {W : World} {g j : Nat} {cs : Array Value} {t : TypeId} {x : Value} (h : W.heap[g]? = some (.cells cs t (0, 0))) (hx : cs[j]? = some x) : W.cell? ⟨g, j, none⟩ = some x := by
  unfold World.cell?
  rw [h]
  exact hx
/-- A domain's three cells. -/
structure Dv where
  s : Int
  A : Option Addr
  n : Nat
  c : Nat
  z : Int
abbrev Dv.cells (d : Dv) : List Value := [.int .i64 d.s, .slice d.A d.n d.c, .int .i64 d.z]
abbrev Dv.val (d : Dv) : Value := .agg #[.int .i64 d.s, .slice d.A d.n d.c, .int .i64 d.z]
theorem Dv.of {W : World} {d : Value} {L : List Int} (h : IsDom W d L) : ∃ v : Dv, d = v.val ∧ v.z = (L.length : Nat) := by
  obtain ⟨s, A, ws, c, rfl, -⟩ := h
  exact ⟨⟨s, A, ws.length, c, (L.length : Nat)⟩, rfl, rfl⟩
theorem dv_plain (d : Dv) : ∀ u ∈ d.cells, plainV u := by
  intro u hu x
  simp only [Dv.cells, List.mem_cons, List.not_mem_nil, or_false] at hu
  rcases hu with rfl | rfl | rfl <;> simp
theorem infoDom : (Tryz.prog.info? 77).map (fun i => (i.zero, i.size, i.bytes)) = some (some (.agg #[.int .i64 0, .slice none 0 0, .int .i64 0]), 3, 40) := by kernel_rfl
/-- Domains of one's own, one behind the other. -/
structure DomsO (base : Nat) (W : World) (y : Sl) (ds : List Dv) (LL : List (List Int)) : Prop where
  row : Row base W 77 3 (.slice y.A y.n y.c) ds.length (ds.flatMap Dv.cells)
  len : ds.length = LL.length
  doms : ∀ (k : Nat) (d : Dv) (L : List Int), ds[k]? = some d → LL[k]? = some L → IsDom W d.val L
theorem DomsO.nil (base : Nat) (W : World) : DomsO base W ⟨none, 0, 0⟩ [] [] := ⟨Row.nil _ _ _ _, rfl, fun k d L h => by cases h⟩
theorem DomsO.below {base : Nat} {W W' : World} {y : Sl} {ds : List Dv} {LL : List (List Int)} (h : DomsO base W y ds LL) (b : Below W.heap.size W W') : DomsO base W' y ds LL :=
  ⟨h.row.below b, h.len, fun k d L h1 h2 => (h.doms k d L h1 h2).below b⟩
/-- One more. -/
theorem DomsO.step {base : Nat} {W W' : World} {y y' : Sl} {ds : List Dv} {LL : List (List Int)} {d : Dv} {L : List Int} (h : DomsO base W y ds LL) (hd : IsDom W d.val L)
    (hR : Row base W' 77 3 (.slice y'.A y'.n y'.c) (ds.length + 1) (ds.flatMap Dv.cells ++ d.cells)) (hG : W.grownBy W' (Value.slice y.A y.n y.c).ownBlock) : DomsO base W' y' (ds ++ [d]) (LL ++ [L]) := by
  refine ⟨by simpa using hR, by simp [h.len], fun k e M h1 h2 => ?_⟩
  by_cases hk : k < ds.length
  · rw [List.getElem?_append_left hk] at h1
    rw [List.getElem?_append_left (by rw [← h.len]; exact hk)] at h2
    exact (h.doms k e M h1 h2).grown h.row hG
  · have hk' : k = ds.length := by
      have := (List.getElem?_eq_some_iff.1 h1).1
      simp at this
      omega
    subst hk'
    rw [List.getElem?_append_right (Nat.le_refl _)] at h1
    rw [h.len, List.getElem?_append_right (Nat.le_refl _)] at h2
    simp at h1 h2
    subst h1 h2
    exact hd.grown h.row hG
end Go.Proofs.YtcmdgjkoalophaaGreatDoor

namespace Go.Proofs.YtcmdgjkoalophaaGreatDoor
open Go.RowKit

abbrev rowV (x : Sl) : Value := .slice x.A x.n x.c
/-- Rows of one's own, each with its numbers. -/
structure RowsO (base : Nat) (W : World) (y : Sl) (xs : List Sl) (R : List (List Int)) : Prop where
  row : W.ownsRow base 26 1 (.slice y.A y.n y.c) xs.length (xs.map rowV)
  len : xs.length = R.length
  each : ∀ (k : Nat) (x : Sl) (r : List Int), xs[k]? = some x → R[k]? = some r → Row3 W base x r
theorem RowsO.nil (base : Nat) (W : World) : RowsO base W ⟨none, 0, 0⟩ [] [] := ⟨World.ownsRow_nil _ _ _ _, rfl, fun k x r h => by cases h⟩
theorem RowsO.below {base : Nat} {W W' : World} {y : Sl} {xs : List Sl} {R : List (List Int)} (h : RowsO base W y xs R) (b : Below W.heap.size W W') : RowsO base W' y xs R :=
  ⟨own_keep' h.row fun g hg => b.block g (own_lt' h.row hg).2, h.len, fun k x r h1 h2 => own_keep' (h.each k x r h1 h2) fun g hg => b.block g (own_lt' (h.each k x r h1 h2) hg).2⟩
theorem RowsO.step {base : Nat} {W W' : World} {y y' : Sl} {xs : List Sl} {R : List (List Int)} {x : Sl} {r : List Int} (h : RowsO base W y xs R) (hx : Row3 W base x r)
    (hR : W'.ownsRow base 26 1 (.slice y'.A y'.n y'.c) (xs.length + 1) (xs.map rowV ++ [rowV x])) (hG : W.grownBy W' (Value.slice y.A y.n y.c).ownBlock) : RowsO base W' y' (xs ++ [x]) (R ++ [r]) := by
  have hkeep : ∀ {z : Sl} {q : List Int}, Row3 W base z q → Row3 W' base z q := fun {z q} hz => own_keep' hz fun g hg => by
    refine hG.block g (own_lt' hz hg).2 (fun e => ?_)
    obtain ⟨c1, h1⟩ := own_type hz hg
    obtain ⟨c2, h2⟩ := own_type h.row e.symm
    rw [h1] at h2
    simp at h2
  refine ⟨by simpa using hR, by simp [h.len], fun k z q h1 h2 => ?_⟩
  by_cases hk : k < xs.length
  · rw [List.getElem?_append_left hk] at h1
    rw [List.getElem?_append_left (by rw [← h.len]; exact hk)] at h2
    exact hkeep (h.each k z q h1 h2)
  · have hk' : k = xs.length := by
      have := (List.getElem?_eq_some_iff.1 h1).1
      simp at this
      omega
    subst hk'
    rw [List.getElem?_append_right (Nat.le_refl _)] at h1
    rw [h.len, List.getElem?_append_right (Nat.le_refl _)] at h2
    simp at h1 h2
    subst h1 h2
    exact hkeep hx
theorem RowsO.rows {base : Nat} {W : World} {y : Sl} {xs : List Sl} {R : List (List Int)} (h : RowsO base W y xs R) (hn : R.length ≤ 1000000) (hs : ∀ r ∈ R, r.length ≤ 1000000) : IsRows W y R := by
  have hO := h.row
  have hl := h.len
  obtain ⟨A, n, k⟩ := y
  obtain ⟨A', c', e⟩ := slice_row hO
  simp only [Value.slice.injEq] at e
  obtain ⟨rfl, rfl, rfl⟩ := e
  refine ⟨hl, by simp only; omega, fun h0 => ?_⟩
  simp only at h0 ⊢
  rcases hO.2 with ⟨e, h2⟩ | ⟨g, cap, cur, e, hb, hg, hn', hm, hs', ht⟩
  · omega
  · simp only [Value.slice.injEq] at e
    obtain ⟨rfl, -, rfl⟩ := e
    refine ⟨_, rfl, (Array.getElem?_eq_some_iff.1 hg).1, fun i hi => ?_⟩
    have hi : i < xs.length := hi
    have hiR : i < R.length := by omega
    refine ⟨xs[i], ?_, ?_⟩
    · have := hO.cellAt i (by show i < xs.length * 1; omega)
      rw [Addr.add_mid, Nat.zero_add, this, List.getElem?_map, List.getElem?_eq_getElem hi]
      rfl
    · have h1 := h.each i xs[i] R[i] (List.getElem?_eq_getElem hi) (List.getElem?_eq_getElem hiR)
      rw [List.getD_eq_getElem?_getD, List.getElem?_eq_getElem hiR]
      exact ints_own h1 (by have := hs _ (List.getElem_mem hiR); simp only [Option.getD_some]; omega)

/-- Domains, one behind the other, wherever they lie. -/
structure DomsIn (W : World) (x : Sl) (LL : List (List Int)) : Prop where
  len : x.n = LL.length
  big : x.n ≤ 1000000
  cap : x.n ≤ x.c
  lies : 0 < x.n → ∃ g o, x.A = some ⟨g, o, none⟩ ∧ g < W.heap.size ∧ ∀ i, i < x.n → ∃ d : Dv, (∀ (j : Nat) (u : Value), d.cells[j]? = some u → W.cell? ⟨g, o + i * 3 + j, none⟩ = some u) ∧ IsDom W d.val (LL.getD i [])
theorem DomsIn.below {W W' : World} {x : Sl} {LL : List (List Int)} (h : DomsIn W x LL) (b : Below W.heap.size W W') : DomsIn W' x LL := by
  refine ⟨h.len, h.big, h.cap, fun h0 => ?_⟩
  obtain ⟨g, o, e, hg, hc⟩ := h.lies h0
  refine ⟨g, o, e, Nat.lt_of_lt_of_le hg b.size, fun i hi => ?_⟩
  obtain ⟨d, h1, h2⟩ := hc i hi
  exact ⟨d, fun j u hj => (b.cell (p := ⟨g, o + i * 3 + j, none⟩) hg).trans (h1 j u hj), h2.below b⟩
theorem DomsIn.nil (W : World) : DomsIn W ⟨none, 0, 0⟩ [] := ⟨rfl, by simp, Nat.le_refl _, fun h => absurd h (by simp)⟩
theorem flat_get {ds : List Dv} {i j : Nat} {d : Dv} (hd : ds[i]? = some d) (hj : j < 3) : (ds.flatMap Dv.cells)[i * 3 + j]? = d.cells[j]? := by
  induction ds generalizing i with
  | nil => cases hd
  | cons a t ih =>
    rw [List.flatMap_cons]
    cases i with
    | zero =>
      simp only [List.getElem?_cons_zero, Option.some.injEq] at hd
      subst hd
      rw [Nat.zero_mul, Nat.zero_add, List.getElem?_append_left (by simpa [Dv.cells] using hj)]
    | succ i =>
      rw [List.getElem?_cons_succ] at hd
      rw [List.getElem?_append_right (by simp [Dv.cells]; omega)]
      have := ih hd
      rw [show (i + 1) * 3 + j - a.cells.length = i * 3 + j by simp [Dv.cells]; omega]
      exact this
theorem DomsO.within {base : Nat} {W : World} {y : Sl} {ds : List Dv} {LL : List (List Int)} (h : DomsO base W y ds LL) (hn : LL.length ≤ 1000000) : DomsIn W y LL := by
  have hO := h.row.1
  have hl := h.len
  obtain ⟨A, n, k⟩ := y
  obtain ⟨A', c', e⟩ := slice_row hO
  simp only [Value.slice.injEq] at e
  obtain ⟨rfl, rfl, rfl⟩ := e
  rcases hO.2 with ⟨e, h2⟩ | ⟨g, cap, cur, e, hb, hg, hn', hm, hs', ht⟩
  · simp only [Value.slice.injEq] at e
    obtain ⟨rfl, h0, rfl⟩ := e
    exact ⟨hl, by simp only; omega, by simp only; omega, fun hp => by simp only at hp; omega⟩
  · simp only [Value.slice.injEq] at e
    obtain ⟨rfl, -, rfl⟩ := e
    refine ⟨hl, by simp only; omega, hn', fun hp => ⟨g, 0, rfl, (Array.getElem?_eq_some_iff.1 hg).1, fun i hi => ?_⟩⟩
    have hi : i < ds.length := hi
    have hiL : i < LL.length := by omega
    refine ⟨ds[i], fun j u hj => ?_, ?_⟩
    · have hj3 : j < 3 := by
        have := (List.getElem?_eq_some_iff.1 hj).1
        simpa [Dv.cells] using this
      have := hO.cellAt (i * 3 + j) (by show i * 3 + j < ds.length * 3; omega)
      rw [Nat.zero_add, this, flat_get (List.getElem?_eq_getElem hi) hj3]
      exact hj
    · rw [List.getD_eq_getElem?_getD, List.getElem?_eq_getElem hiL]
      exact h.doms i ds[i] LL[i] (List.getElem?_eq_getElem hi) (List.getElem?_eq_getElem hiL)
end Go.Proofs.YtcmdgjkoalophaaGreatDoor

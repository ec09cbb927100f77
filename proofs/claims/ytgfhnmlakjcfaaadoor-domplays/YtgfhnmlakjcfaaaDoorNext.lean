/- Contracts of Next and Prev: the walks, over what the words are said to hold. -/
import Derived.Test.YtgfhnmlakjcfaaaDoorRead
namespace Go.Proofs.YtgfhnmlakjcfaaaDoor
open Go.RowKit

/-- What a method of a domain answers, in every world in which what lay still lies. -/
def Answers (k : FuncId) (args : Array Value) (w : World) (r : Value) : Prop :=
  ∀ W, Below w.heap.size w W → Calls Tryd.prog k args W fun e w' => e = .returned r ∧ Below W.heap.size W w'

theorem Answers.on {k : FuncId} {args : Array Value} {w : World} {r : Value} (h : Answers k args w r) (W : World) (hb : Below w.heap.size w W) :
    Calls Tryd.prog k args W fun e w' => e = .returned r ∧ Below W.heap.size W w' := h W hb

def WordIs (d : Value) (w : World) (g : Int → Nat) : Prop :=
  ∀ W p, -1152921504606846976 ≤ p → p ≤ 1152921504606846976 → Below w.heap.size w W → Calls Tryd.prog 44 #[d, .int .i64 p] W fun e w' => e = .returned (.int .u64 (g p : Nat)) ∧ Below W.heap.size W w'

theorem WordIs.on {d : Value} {w : World} {g : Int → Nat} (h : WordIs d w g) (W : World) (p : Int) (h1 : -1152921504606846976 ≤ p) (h2 : p ≤ 1152921504606846976) (hb : Below w.heap.size w W) :
    Calls Tryd.prog 44 #[d, .int .i64 p] W fun e w' => e = .returned (.int .u64 (g p : Nat)) ∧ Below W.heap.size W w' := h W p h1 h2 hb

theorem boxed {w W : World} {a b c : Value} {t : TypeId} (h : Below (w.heap.size + 1) (w.alloc (.cells #[a, b, c] t)) W) :
    W.cell? ⟨w.heap.size, 0, none⟩ = some a ∧ W.cell? ⟨w.heap.size, 1, none⟩ = some b ∧ W.cell? ⟨w.heap.size, 2, none⟩ = some c :=
  ⟨by rw [h.cell (by simp)]; simp, by rw [h.cell (by simp)]; simp, by rw [h.cell (by simp)]; simp⟩

theorem of_boxed {w W : World} {o : Obj} (h : Below (w.heap.size + 1) (w.alloc o) W) : Below w.heap.size w W := (below1 w o).trans (h.mono (by omega))
theorem box_more {w W W' : World} {o : Obj} (h : Below (w.heap.size + 1) (w.alloc o) W) (h' : Below W.heap.size W W') : Below (w.heap.size + 1) (w.alloc o) W' :=
  h.trans (h'.mono (by have := h.size; simp at this; omega))
theorem box_refl (w : World) (o : Obj) : Below (w.heap.size + 1) (w.alloc o) (w.alloc o) := Below.refl _ _

theorem next_no (s v z mx : Int) (A : Option Addr) (n c : Nat) (w : World) (h : (z == 0) = true ∨ ((z == 0) = false ∧ mx ≤ v))
    (HM : Answers 15 #[.agg #[.int .i64 s, .slice A n c, .int .i64 z]] w (.int .i64 mx)) :
    Calls Tryd.prog 23 #[.agg #[.int .i64 s, .slice A n c, .int .i64 z], .int .i64 v] w fun e w' => e = .returned (.tuple #[.int .i64 0, .bool false]) ∧ Below w.heap.size w w' := by
  rcases h with h | ⟨h, h2⟩
  · go_enter Tryd.func23, Tryd.ntmps23
    go_wp2
    go_ret2
    exact ⟨rfl, below1 _ _⟩
  · have d2 : decide (mx ≤ v) = true := by simpa using h2
    go_enter Tryd.func23, Tryd.ntmps23
    go_wp2_with (go_at_call 15; with_reducible refine (HM.on _ (below1 _ _)).mono ?_; rintro e w1 ⟨rfl, hb1⟩)
    go_ret2
    exact ⟨rfl, (below1 _ _).trans (hb1.mono (by simp))⟩

theorem next_yes (s v z mx mn r hiP : Int) (A : Option Addr) (n c : Nat) (g : Int → Nat) (Inv : Int → Nat → Prop) (w : World) (hz : (z == 0) = false) (hv : v < mx) (hv0 : -9223372036854775808 ≤ v) (hmx : mx ≤ 2000000) (hmn0 : -2000000 ≤ mn) (hmn1 : mn ≤ 2000000)
    (HM : Answers 15 #[.agg #[.int .i64 s, .slice A n c, .int .i64 z]] w (.int .i64 mx))
    (HN : Answers 14 #[.agg #[.int .i64 s, .slice A n c, .int .i64 z]] w (.int .i64 mn))
    (HW : WordIs (.agg #[.int .i64 s, .slice A n c, .int .i64 z]) w g) (hT : Tab w)
    (hg : ∀ p, g p < 18446744073709551616)
    (hstart : Inv (max (v + 1) mn / 64) (g (max (v + 1) mn / 64) &&& upN (max (v + 1) mn)))
    (hstep : ∀ p, Inv p 0 → Inv (p + 1) (g (p + 1)) ∧ p + 1 ≤ hiP)
    (hin : ∀ p x, Inv p x → -100000 ≤ p ∧ p ≤ 90000 ∧ x < 18446744073709551616)
    (hend : ∀ p x, Inv p x → x ≠ 0 → p * 64 + ((Lib.ctz 64 x : Nat) : Int) = r) :
    Calls Tryd.prog 23 #[.agg #[.int .i64 s, .slice A n c, .int .i64 z], .int .i64 v] w fun e w' => e = .returned (.tuple #[.int .i64 r, .bool true]) ∧ Below w.heap.size w w' := by
  have d2 : decide (mx ≤ v) = false := by simp; omega
  obtain ⟨fr, hfr⟩ : ∃ fr, max (v + 1) mn = fr := ⟨_, rfl⟩
  have hf1 : -2000000 ≤ fr := by omega
  have hf2 : fr ≤ 2000000 := by omega
  rw [hfr] at hstart
  have e1 : bits BinOp.and IntKind.u64 ((g (fr / 64) : Nat) : Int) ((upN fr : Nat) : Int) = ((g (fr / 64) &&& upN fr : Nat) : Int) := u64_and_nat _ _ (hg _) (upN_lt _)
  have Hg := Lib.hid hg
  have HS := Lib.hid hstep
  have HI := Lib.hid hin
  have HE := Lib.hid hend
  have HS0 := Lib.hid hstart
  clear hg hstep hin hend hstart
  have hd1 : -1152921504606846976 ≤ fr / 64 := by omega
  have hd2 : fr / 64 ≤ 1152921504606846976 := by omega
  go_enter Tryd.func23, Tryd.ntmps23
  go_wp2_with (first
    | (go_at_call 15; with_reducible refine (HM.on _ (below1 _ _)).mono ?_; rintro e w1 ⟨rfl, hb1⟩; have hb1' := box_more (box_refl _ _) hb1; obtain ⟨c0, c1, c2⟩ := boxed hb1')
    | (go_at_call 14; with_reducible refine (HN.on _ (of_boxed hb1')).mono ?_; rintro e w2 ⟨rfl, hb2⟩; have hb2' := box_more hb1' hb2; obtain ⟨c0, c1, c2⟩ := boxed hb2')
    | (go_at_call 34; with_reducible refine (place_any _ _).mono ?_; rintro e w' ⟨rfl, rfl⟩)
    | (go_at_call 40; with_reducible refine (up_any _ _).mono ?_; rintro e w' ⟨rfl, rfl⟩)
    | (go_at_call 44; with_reducible refine (HW.on _ _ hd1 hd2 (of_boxed hb2')).mono ?_; rintro e w3 ⟨rfl, hb3⟩; have hb3' := box_more hb2' hb3; obtain ⟨c0, c1, c2⟩ := boxed hb3'))
  go_loopw [7, 8] (fun pl wd wr => ∃ (p : Int) (x : Nat), pl = .int .i64 p ∧ wd = .int .u64 (x : Nat) ∧ Hid (Inv p x) ∧ Below (w.heap.size + 1) (w.alloc (.cells #[.int .i64 s, .slice A n c, .int .i64 z] 27)) wr) (fun pl _ _ => (hiP - intOf pl).toNat)
  case atStart => exact ⟨_, _, rfl, rfl, HS0, hb3'⟩
  case round =>
    clear hb1 hb1' hb2 hb2' hb3 hb3'
    obtain ⟨p, x, rfl, rfl, hI, hbr⟩ := hrel
    obtain ⟨q1, q2, q3⟩ := HI.out p x hI.out
    obtain ⟨c0, c1, c2⟩ := boxed hbr
    by_cases hx : x = 0
    · obtain ⟨t1, t2⟩ := HS.out p (by rw [← hx]; exact hI.out)
      have HT1 := Lib.hid t1
      have hx' : ((x : Int) == 0) = true := by simp [hx]
      clear q3 t1 hx
      go_wp2_with (first
        | (go_at_call 44; with_reducible refine (HW.on _ _ (by omega) (by omega) (of_boxed hbr)).mono ?_; rintro e w4 ⟨rfl, hb4⟩; have hb4' := box_more hbr hb4))
      go_roundw
      case rel => exact ⟨p + 1, g (p + 1), rfl, rfl, HT1, hb4'⟩
      case measure => simp [intOf]; omega
    · have hx' : ((x : Int) == 0) = false := by simpa using hx
      have L := fun W hW => lowest_any p x W q3 hx hW (by omega) (by omega)
      have HL := Lib.hid L
      have hr := HE.out p x hI.out hx
      clear L q3 hx
      go_wp2_with (go_at_call 42; with_reducible refine (HL.out _ (hT.below (of_boxed hbr))).mono ?_; rintro e w' ⟨rfl, rfl⟩)
      go_ret2
      exact ⟨rfl, of_boxed hbr⟩
theorem prev_no (s v z mx : Int) (A : Option Addr) (n c : Nat) (w : World) (h : (z == 0) = true ∨ ((z == 0) = false ∧ v ≤ mx))
    (HM : Answers 14 #[.agg #[.int .i64 s, .slice A n c, .int .i64 z]] w (.int .i64 mx)) :
    Calls Tryd.prog 24 #[.agg #[.int .i64 s, .slice A n c, .int .i64 z], .int .i64 v] w fun e w' => e = .returned (.tuple #[.int .i64 0, .bool false]) ∧ Below w.heap.size w w' := by
  rcases h with h | ⟨h, h2⟩
  · go_enter Tryd.func24, Tryd.ntmps24
    go_wp2
    go_ret2
    exact ⟨rfl, below1 _ _⟩
  · have d2 : decide (v ≤ mx) = true := by simpa using h2
    go_enter Tryd.func24, Tryd.ntmps24
    go_wp2_with (go_at_call 14; with_reducible refine (HM.on _ (below1 _ _)).mono ?_; rintro e w1 ⟨rfl, hb1⟩)
    go_ret2
    exact ⟨rfl, (below1 _ _).trans (hb1.mono (by simp))⟩

theorem prev_yes (s v z mx mn r hiP : Int) (A : Option Addr) (n c : Nat) (g : Int → Nat) (Inv : Int → Nat → Prop) (w : World) (hz : (z == 0) = false) (hv : mx < v) (hv0 : v ≤ 9223372036854775807) (hmx : -2000000 ≤ mx) (hmn0 : -2000000 ≤ mn) (hmn1 : mn ≤ 2000000)
    (HM : Answers 14 #[.agg #[.int .i64 s, .slice A n c, .int .i64 z]] w (.int .i64 mx))
    (HN : Answers 15 #[.agg #[.int .i64 s, .slice A n c, .int .i64 z]] w (.int .i64 mn))
    (HW : WordIs (.agg #[.int .i64 s, .slice A n c, .int .i64 z]) w g)
    (hg : ∀ p, g p < 18446744073709551616)
    (hstart : Inv (min (v - 1) mn / 64) (g (min (v - 1) mn / 64) &&& downN (min (v - 1) mn)))
    (hstep : ∀ p, Inv p 0 → Inv (p - 1) (g (p - 1)) ∧ hiP ≤ p - 1)
    (hin : ∀ p x, Inv p x → -90000 ≤ p ∧ p ≤ 100000 ∧ x < 18446744073709551616)
    (hend : ∀ p x, Inv p x → x ≠ 0 → p * 64 + ((Lib.bitLen x : Nat) : Int) - 1 = r) :
    Calls Tryd.prog 24 #[.agg #[.int .i64 s, .slice A n c, .int .i64 z], .int .i64 v] w fun e w' => e = .returned (.tuple #[.int .i64 r, .bool true]) ∧ Below w.heap.size w w' := by
  have d2 : decide (v ≤ mx) = false := by simp; omega
  obtain ⟨fr, hfr⟩ : ∃ fr, min (v - 1) mn = fr := ⟨_, rfl⟩
  have hf1 : -2000000 ≤ fr := by omega
  have hf2 : fr ≤ 2000000 := by omega
  rw [hfr] at hstart
  have e1 : bits BinOp.and IntKind.u64 ((g (fr / 64) : Nat) : Int) ((downN fr : Nat) : Int) = ((g (fr / 64) &&& downN fr : Nat) : Int) := u64_and_nat _ _ (hg _) (downN_lt _)
  have Hg := Lib.hid hg
  have HS := Lib.hid hstep
  have HI := Lib.hid hin
  have HE := Lib.hid hend
  have HS0 := Lib.hid hstart
  clear hg hstep hin hend hstart
  have hd1 : -1152921504606846976 ≤ fr / 64 := by omega
  have hd2 : fr / 64 ≤ 1152921504606846976 := by omega
  go_enter Tryd.func24, Tryd.ntmps24
  go_wp2_with (first
    | (go_at_call 14; with_reducible refine (HM.on _ (below1 _ _)).mono ?_; rintro e w1 ⟨rfl, hb1⟩; have hb1' := box_more (box_refl _ _) hb1; obtain ⟨c0, c1, c2⟩ := boxed hb1')
    | (go_at_call 15; with_reducible refine (HN.on _ (of_boxed hb1')).mono ?_; rintro e w2 ⟨rfl, hb2⟩; have hb2' := box_more hb1' hb2; obtain ⟨c0, c1, c2⟩ := boxed hb2')
    | (go_at_call 34; with_reducible refine (place_any _ _).mono ?_; rintro e w' ⟨rfl, rfl⟩)
    | (go_at_call 41; with_reducible refine (down_any _ _).mono ?_; rintro e w' ⟨rfl, rfl⟩)
    | (go_at_call 44; with_reducible refine (HW.on _ _ hd1 hd2 (of_boxed hb2')).mono ?_; rintro e w3 ⟨rfl, hb3⟩; have hb3' := box_more hb2' hb3; obtain ⟨c0, c1, c2⟩ := boxed hb3'))
  go_loopw [7, 8] (fun pl wd wr => ∃ (p : Int) (x : Nat), pl = .int .i64 p ∧ wd = .int .u64 (x : Nat) ∧ Hid (Inv p x) ∧ Below (w.heap.size + 1) (w.alloc (.cells #[.int .i64 s, .slice A n c, .int .i64 z] 27)) wr) (fun pl _ _ => (intOf pl - hiP).toNat)
  case atStart => exact ⟨_, _, rfl, rfl, HS0, hb3'⟩
  case round =>
    clear hb1 hb1' hb2 hb2' hb3 hb3'
    obtain ⟨p, x, rfl, rfl, hI, hbr⟩ := hrel
    obtain ⟨q1, q2, q3⟩ := HI.out p x hI.out
    obtain ⟨c0, c1, c2⟩ := boxed hbr
    by_cases hx : x = 0
    · obtain ⟨t1, t2⟩ := HS.out p (by rw [← hx]; exact hI.out)
      have HT1 := Lib.hid t1
      have hx' : ((x : Int) == 0) = true := by simp [hx]
      clear q3 t1 hx
      go_wp2_with (first
        | (go_at_call 44; with_reducible refine (HW.on _ _ (by omega) (by omega) (of_boxed hbr)).mono ?_; rintro e w4 ⟨rfl, hb4⟩; have hb4' := box_more hbr hb4))
      go_roundw
      case rel => exact ⟨p - 1, g (p - 1), rfl, rfl, HT1, hb4'⟩
      case measure => simp [intOf]; omega
    · have hx' : ((x : Int) == 0) = false := by simpa using hx
      have L := fun W => highest_any p x W q3 hx (by omega) (by omega)
      have HL := Lib.hid L
      have hr := HE.out p x hI.out hx
      clear L q3 hx
      go_wp2_with (go_at_call 43; with_reducible refine (HL.out _).mono ?_; rintro e w' ⟨rfl, rfl⟩)
      go_ret2
      exact ⟨rfl, of_boxed hbr⟩
end Go.Proofs.YtgfhnmlakjcfaaaDoor

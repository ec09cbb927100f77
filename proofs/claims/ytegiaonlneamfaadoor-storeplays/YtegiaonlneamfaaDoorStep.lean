/- Contracts of Next and Prev: the walks, over what the words are said to hold. -/
import Derived.Test.YtegiaonlneamfaaDoorRead
namespace Go.Proofs.YtegiaonlneamfaaDoor
open Go.RowKit

/-- What a method of a domain answers, in every world in which what lay still lies. -/
def Answers (k : FuncId) (args : Array Value) (w : World) (r : Value) : Prop :=
  ∀ W, Below w.heap.size w W → Calls Tryd.prog k args W fun e w' => e = .returned r ∧ Below W.heap.size W w'

theorem Answers.on {k : FuncId} {args : Array Value} {w : World} {r : Value} (h : Answers k args w r) (W : World) (hb : Below w.heap.size w W) :
    Calls Tryd.prog k args W fun e w' => e = .returned r ∧ Below W.heap.size W w' := h W hb

def WordIs (d : Value) (w : World) (g : Int → Nat) : Prop :=
  ∀ W p, -1152921504606846976 ≤ p → p ≤ 1152921504606846976 → Below w.heap.size w W → Calls Tryd.prog 48 #[d, .int .i64 p] W fun e w' => e = .returned (.int .u64 (g p : Nat)) ∧ Below W.heap.size W w'

theorem WordIs.on {d : Value} {w : World} {g : Int → Nat} (h : WordIs d w g) (W : World) (p : Int) (h1 : -1152921504606846976 ≤ p) (h2 : p ≤ 1152921504606846976) (hb : Below w.heap.size w W) :
    Calls Tryd.prog 48 #[d, .int .i64 p] W fun e w' => e = .returned (.int .u64 (g p : Nat)) ∧ Below W.heap.size W w' := h W p h1 h2 hb

theorem boxed {w W : World} {a b c : Value} {t : TypeId} (h : Below (w.heap.size + 1) (w.alloc (.cells #[a, b, c] t)) W) :
    W.cell? ⟨w.heap.size, 0, none⟩ = some a ∧ W.cell? ⟨w.heap.size, 1, none⟩ = some b ∧ W.cell? ⟨w.heap.size, 2, none⟩ = some c :=
  ⟨by rw [h.cell (by simp)]; simp, by rw [h.cell (by simp)]; simp, by rw [h.cell (by simp)]; simp⟩

theorem of_boxed {w W : World} {o : Obj} (h : Below (w.heap.size + 1) (w.alloc o) W) : Below w.heap.size w W := (below1 w o).trans (h.mono (by omega))
theorem box_more {w W W' : World} {o : Obj} (h : Below (w.heap.size + 1) (w.alloc o) W) (h' : Below W.heap.size W W') : Below (w.heap.size + 1) (w.alloc o) W' :=
  h.trans (h'.mono (by have := h.size; simp at this; omega))
theorem box_refl (w : World) (o : Obj) : Below (w.heap.size + 1) (w.alloc o) (w.alloc o) := Below.refl _ _

end Go.Proofs.YtegiaonlneamfaaDoor

/- Contracts of Next and Prev over a domain's rising list: the least number above, the greatest below. -/
namespace Go.Proofs.YtegiaonlneamfaaDoor
open Go.RowKit

/-- The least number above v. -/
def nextI (L : List Int) (v : Int) : Option Int := L.find? fun u => decide (v < u)
/-- The greatest number below v, of a rising list. -/
def prevI (L : List Int) (v : Int) : Option Int := L.reverse.find? fun u => decide (u < v)

theorem find_least : ∀ (L : List Int) (v r : Int), L.Pairwise (· < ·) → r ∈ L → v < r → (∀ u ∈ L, v < u → r ≤ u) → L.find? (fun u => decide (v < u)) = some r
  | [], _, _, _, h, _, _ => by simp at h
  | a :: l, v, r, hp, h, hv, hm => by
    have hp' := List.pairwise_cons.1 hp
    rw [List.find?_cons]
    by_cases ha : v < a
    · simp only [ha, decide_true]
      have h1 := hm a List.mem_cons_self ha
      rcases List.mem_cons.1 h with e | e
      · rw [e]
      · have := hp'.1 r e; omega
    · simp only [ha, decide_false]
      apply find_least l v r hp'.2 _ hv (fun u hu => hm u (List.mem_cons_of_mem _ hu))
      rcases List.mem_cons.1 h with e | e
      · omega
      · exact e

theorem find_greatest (L : List Int) (v r : Int) (hp : L.Pairwise (· < ·)) (h : r ∈ L) (hv : r < v) (hm : ∀ u ∈ L, u < v → u ≤ r) : prevI L v = some r := by
  unfold prevI
  have key : ∀ (l : List Int), l.Pairwise (· > ·) → r ∈ l → (∀ u ∈ l, u < v → u ≤ r) → l.find? (fun u => decide (u < v)) = some r := by
    intro l
    induction l with
    | nil => intro _ h _; simp at h
    | cons a l ih =>
      intro hp h hm
      have hp' := List.pairwise_cons.1 hp
      rw [List.find?_cons]
      by_cases ha : a < v
      · simp only [ha, decide_true]
        have h1 := hm a List.mem_cons_self ha
        rcases List.mem_cons.1 h with e | e
        · rw [e]
        · have := hp'.1 r e; omega
      · simp only [ha, decide_false]
        apply ih hp'.2 _ (fun u hu => hm u (List.mem_cons_of_mem _ hu))
        rcases List.mem_cons.1 h with e | e
        · omega
        · exact e
  apply key
  · rw [List.pairwise_reverse]; exact hp
  · simpa using h
  · intro u hu; exact hm u (by simpa using hu)

theorem nextI_none (L : List Int) (v : Int) (h : ∀ u ∈ L, u ≤ v) : nextI L v = none := by
  unfold nextI; rw [List.find?_eq_none]; intro u hu; have := h u hu; simp; omega

theorem prevI_none (L : List Int) (v : Int) (h : ∀ u ∈ L, v ≤ u) : prevI L v = none := by
  unfold prevI; rw [List.find?_eq_none]; intro u hu; have := h u (by simpa using hu); simp; omega

theorem le_last (L : List Int) (m : Int) (hp : L.Pairwise (· < ·)) (h : L.getLast? = some m) : m ∈ L ∧ ∀ u ∈ L, u ≤ m := by
  refine ⟨List.mem_of_getLast? h, ?_⟩
  obtain ⟨l, rfl⟩ := List.getLast?_eq_some_iff.1 h
  intro u hu
  rw [List.pairwise_append] at hp
  rcases List.mem_append.1 hu with h1 | h1
  · have := hp.2.2 u h1 m (by simp); omega
  · simp at h1; omega

theorem head_le (L : List Int) (m : Int) (hp : L.Pairwise (· < ·)) (h : L.head? = some m) : m ∈ L ∧ ∀ u ∈ L, m ≤ u := by
  cases L with
  | nil => simp at h
  | cons a l =>
    simp at h
    subst h
    refine ⟨by simp, fun u hu => ?_⟩
    have hp' := List.pairwise_cons.1 hp
    rcases List.mem_cons.1 hu with e | e
    · omega
    · have := hp'.1 u e; omega

theorem ctz_bits (x : Nat) (h : x ≠ 0) (hx : x < 18446744073709551616) : x.testBit (Lib.ctz 64 x) = true ∧ Lib.ctz 64 x < 64 ∧ ∀ j, j < 64 → x.testBit j = true → Lib.ctz 64 x ≤ j := by
  obtain ⟨y, _, _, e⟩ := and_pred x h hx
  have hs := sorted_bitsUp x
  have h1 := (mem_bitsUp x (Lib.ctz 64 x)).1 (by rw [e]; simp)
  refine ⟨h1.2, h1.1, fun j hj hb => ?_⟩
  have h2 := (mem_bitsUp x j).2 ⟨hj, hb⟩
  rw [e] at h2 hs
  rcases List.mem_cons.1 h2 with e2 | e2
  · omega
  · have := (List.pairwise_cons.1 hs).1 j e2; omega

theorem word_bit {s : Int} {ws : List Nat} (p : Int) (j : Nat) (hj : j < 64) : (wordAt s ws p).testBit j = true ↔ p * 64 + (j : Int) ∈ listOf s ws := by
  rw [mem_listOf, hasB_word, show (p * 64 + (j : Int)) / 64 = p by omega, show ((p * 64 + (j : Int)) % 64).toNat = j by omega]

theorem in_places {s : Int} {ws : List Nat} (hF : Form s ws) (u : Int) (h : u ∈ listOf s ws) : -15625 ≤ u / 64 ∧ u / 64 ≤ 15625 := by
  rw [mem_listOf] at h
  unfold hasB at h
  simp only [Bool.and_eq_true, decide_eq_true_eq] at h
  have hl : (u / 64 - s).toNat < ws.length := by
    apply Nat.lt_of_not_le
    intro hle
    rw [getD_over _ _ hle] at h
    simp at h
  have := hF.lo
  have := hF.hi
  omega

theorem IsDom.answers_max {w : World} {d : Value} {L : List Int} (h : IsDom w d L) : Answers 57 #[d] w (.int .i64 (L.getLast?.getD 0)) := fun W hW => max_dom d L W (h.below hW)
theorem IsDom.answers_min {w : World} {d : Value} {L : List Int} (h : IsDom w d L) (hT : Tab w) : Answers 50 #[d] w (.int .i64 (L.head?.getD 0)) := fun W hW => min_dom d L W (h.below hW) (hT.below hW)

def optV (o : Option Int) : Value := .tuple #[.int .i64 (o.getD 0), .bool o.isSome]

end Go.Proofs.YtegiaonlneamfaaDoor

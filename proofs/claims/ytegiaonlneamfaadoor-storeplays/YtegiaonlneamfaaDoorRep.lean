/- How a domain lies in memory, and which rising list of numbers it is. Definitions and plain facts; no walk. -/
import Derived.Test.YtegiaonlneamfaaDoorLow
namespace Go.Proofs.YtegiaonlneamfaaDoor
open Go.RowKit

/-- The n cells from A on hold f 0, f 1, ..; they lie below the heap's end. (Nothing is asked where n is 0.) -/
def Lies (w : World) (A : Option Addr) (n : Nat) (f : Nat → Value) : Prop :=
  0 < n → ∃ ad, A = some ad ∧ ad.block < w.heap.size ∧ ∀ j, j < n → w.cell? (ad.add j) = some (f j)

theorem add_block (a : Addr) (n : Nat) : (a.add n).block = a.block := by unfold Addr.add; split <;> rfl

theorem Lies.below {w w' : World} {A : Option Addr} {n : Nat} {f : Nat → Value} (h : Lies w A n f) (hb : Below w.heap.size w w') : Lies w' A n f := by
  intro hn
  obtain ⟨ad, e, hl, hc⟩ := h hn
  exact ⟨ad, e, Nat.lt_of_lt_of_le hl hb.size, fun j hj => (hb.cell (by rw [add_block]; exact hl)).trans (hc j hj)⟩

theorem Lies.none (w : World) (A : Option Addr) (f : Nat → Value) : Lies w A 0 f := fun h => absurd h (by omega)

def u64f (ws : List Nat) (j : Nat) : Value := .int .u64 ((ws.getD j 0 : Nat) : Int)
def i64f (zs : List Int) (j : Nat) : Value := .int .i64 (zs.getD j 0)

/-- The words of a domain: their width, their form, their places. -/
structure Form (s : Int) (ws : List Nat) : Prop where
  words : ∀ j, ws.getD j 0 < 18446744073709551616
  first : 0 < ws.length → ws.getD 0 0 ≠ 0
  last : 0 < ws.length → ws.getD (ws.length - 1) 0 ≠ 0
  zero : ws.length = 0 → s = 0
  lo : -15625 ≤ s
  hi : s + ws.length ≤ 15626

/-- A domain's value. -/
def domV (s : Int) (A : Option Addr) (n c : Nat) (z : Int) : Value := .agg #[.int .i64 s, .slice A n c, .int .i64 z]

/-- d is a domain whose numbers are L, rising. -/
def IsDom (w : World) (d : Value) (L : List Int) : Prop :=
  ∃ (s : Int) (A : Option Addr) (ws : List Nat) (c : Nat), d = .agg #[.int .i64 s, .slice A ws.length c, .int .i64 (L.length : Nat)] ∧
    Lies w A ws.length (u64f ws) ∧ Form s ws ∧ listOf s ws = L

theorem IsDom.below {w w' : World} {d : Value} {L : List Int} (h : IsDom w d L) (hb : Below w.heap.size w w') : IsDom w' d L := by
  obtain ⟨s, A, ws, c, e, h1, h2, h3⟩ := h
  exact ⟨s, A, ws, c, e, h1.below hb, h2, h3⟩

theorem IsDom.rising {w : World} {d : Value} {L : List Int} (h : IsDom w d L) : L.Pairwise (· < ·) := by
  obtain ⟨s, A, ws, c, e, h1, h2, h3⟩ := h
  rw [← h3]; exact rising_listOf ws s

theorem len_zero_iff {s : Int} {ws : List Nat} (h : Form s ws) : (listOf s ws).length = 0 ↔ ws.length = 0 := by
  constructor
  · intro e
    cases ws with
    | nil => rfl
    | cons x r =>
      rw [len_listOf_cons] at e
      have h1 := h.first (by simp)
      have h2 := h.words 0
      simp only [List.getD_cons_zero] at h1 h2
      have := ones_pos x h1 h2
      omega
  · intro e
    have : ws = [] := List.eq_nil_of_length_eq_zero e
    subst this
    rfl

theorem len_le_listOf : ∀ (ws : List Nat) (s : Int), (listOf s ws).length ≤ 64 * ws.length
  | [], _ => by simp [listOf]
  | x :: r, s => by
    rw [len_listOf_cons]
    have := len_le_listOf r (s + 1)
    have := ones_le x
    simp only [List.length_cons]
    omega

theorem Form.len {s : Int} {ws : List Nat} (h : Form s ws) : ws.length ≤ 31251 := by
  have := h.lo; have := h.hi; omega

theorem getD_over (ws : List Nat) (i : Nat) (h : ws.length ≤ i) : ws.getD i 0 = 0 := by
  rw [List.getD_eq_getElem?_getD, List.getElem?_eq_none h]; rfl

/-- The word at a place; 0 where there is none. -/
def wordAt (s : Int) (ws : List Nat) (p : Int) : Nat := if s ≤ p then ws.getD (p - s).toNat 0 else 0

theorem wordAt_lt {s : Int} {ws : List Nat} (h : Form s ws) (p : Int) : wordAt s ws p < 18446744073709551616 := by
  unfold wordAt
  split
  · exact h.words _
  · decide

theorem hasB_word (s : Int) (ws : List Nat) (v : Int) : hasB s ws v = (wordAt s ws (v / 64)).testBit (v % 64).toNat := by
  unfold hasB wordAt
  by_cases h : s ≤ v / 64 <;> simp [h]

/-- A bit is set just if the word and the bit have something in common. -/
theorem and_bit (x : Nat) (v : Int) : (x &&& bitN v = 0) ↔ x.testBit (v % 64).toNat = false := by
  constructor
  · intro h
    have := congrArg (fun y => Nat.testBit y (v % 64).toNat) h
    simpa [Nat.testBit_and, bitN_bit] using this
  · intro h
    apply Nat.eq_of_testBit_eq
    intro j
    rw [Nat.testBit_and, bitN_bit, Nat.zero_testBit]
    by_cases e : (v % 64).toNat = j
    · subst e; simp [h]
    · simp [e]

/-- The head of a rising list: its least number. -/
theorem min_listOf {s : Int} {ws : List Nat} (h : Form s ws) (hn : 0 < ws.length) : (listOf s ws).head? = some (s * 64 + (Lib.ctz 64 (ws.getD 0 0) : Nat)) := by
  cases ws with
  | nil => simp at hn
  | cons x r =>
    have h1 := h.first (by simp)
    have h2 := h.words 0
    simp only [List.getD_cons_zero] at h1 h2 ⊢
    obtain ⟨y, _, _, e⟩ := and_pred x h1 h2
    rw [listOf, e]
    simp

theorem last_of_rising : ∀ (l : List Int) (v : Int), l.Pairwise (· < ·) → v ∈ l → (∀ u ∈ l, u ≤ v) → l.getLast? = some v
  | [], _, _, h, _ => by simp at h
  | [a], v, _, h, _ => by simp at h; simp [h]
  | a :: b :: l, v, hp, h, hm => by
    rw [List.getLast?_cons_cons]
    have hp' := List.pairwise_cons.1 hp
    apply last_of_rising (b :: l) v hp'.2
    · rcases List.mem_cons.1 h with e | e
      · have := hp'.1 b (List.mem_cons_self)
        have := hm b (by simp)
        omega
      · exact e
    · intro u hu; exact hm u (List.mem_cons_of_mem _ hu)

theorem max_listOf {s : Int} {ws : List Nat} (h : Form s ws) (hn : 0 < ws.length) :
    (listOf s ws).getLast? = some ((s + (ws.length - 1 : Nat)) * 64 + (Lib.bitLen (ws.getD (ws.length - 1) 0) : Nat) - 1) := by
  have h1 := h.last hn
  have h2 := h.words (ws.length - 1)
  obtain ⟨b1, b2, b3, b4⟩ := bitLen_spec _ h1 h2
  apply last_of_rising _ _ (rising_listOf ws s)
  · rw [mem_listOf]
    unfold hasB
    have e1 : ((s + ((ws.length - 1 : Nat) : Int)) * 64 + ((Lib.bitLen (ws.getD (ws.length - 1) 0) : Nat) : Int) - 1) / 64 = s + ((ws.length - 1 : Nat) : Int) := by omega
    have e2 : (((s + ((ws.length - 1 : Nat) : Int)) * 64 + ((Lib.bitLen (ws.getD (ws.length - 1) 0) : Nat) : Int) - 1) % 64).toNat = Lib.bitLen (ws.getD (ws.length - 1) 0) - 1 := by omega
    rw [e1, e2, show (s + ((ws.length - 1 : Nat) : Int) - s).toNat = ws.length - 1 by omega, b3]
    simp
    omega
  · intro u hu
    rw [mem_listOf] at hu
    unfold hasB at hu
    simp only [Bool.and_eq_true, decide_eq_true_eq] at hu
    have hl : (u / 64 - s).toNat < ws.length := by
      apply Nat.lt_of_not_le
      intro hle
      rw [getD_over _ _ hle] at hu
      simp at hu
    by_cases e : (u / 64 - s).toNat = ws.length - 1
    · rw [e] at hu
      have : (u % 64).toNat < Lib.bitLen (ws.getD (ws.length - 1) 0) := by
        apply Nat.lt_of_not_le
        intro hle
        rw [b4 _ hle] at hu
        simp at hu
      omega
    · omega
end Go.Proofs.YtegiaonlneamfaaDoor

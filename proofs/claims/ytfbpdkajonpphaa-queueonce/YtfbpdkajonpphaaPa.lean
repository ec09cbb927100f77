/- Push, of a queue and of the reference, one contract each for whatever number. -/
import Derived.Test.YtfbpdkajonpphaaV
namespace Go.Proofs.Ytfbpdkajonpphaa
open Go.RowKit Go.Maps

/-- Is it taken? -/
def taken (sz : Int) (l : List (Int × Nat)) (x : Int) : Bool := decide (0 ≤ x ∧ x < sz ∧ x ∉ l.map Prod.fst)
/-- The list then. -/
def after (sz : Int) (l : List (Int × Nat)) (x b : Int) : List (Int × Nat) := if taken sz l x = true then l ++ [(x, bk b)] else l
theorem after_len (sz : Int) (l : List (Int × Nat)) (x b : Int) : (after sz l x b).length ≤ l.length + 1 := by
  unfold after
  split <;> simp

theorem refpush_any (A : Option Addr) (n c : Nat) (l : List (Int × Nat)) (m x b : Int) (w : World) (hn : n = l.length) (h : OneT 0 w (.slice A n c) l) (hb : n ≤ 1000) :
    Calls Try.prog 10 #[.slice A n c, .int .i64 m, .int .i64 x, .int .i64 b] w fun e w' => ∃ A' n' c', e = .returned (.tuple #[.slice A' n' c', .bool (taken m l x)]) ∧ OneT 0 w' (.slice A' n' c') (after m l x b) ∧ Below w.heap.size w w' := by
  unfold after
  by_cases ht : taken m l x = true
  · rw [ht, if_pos rfl]
    obtain ⟨h0, h1, h2⟩ := of_decide_eq_true ht
    refine (refpush_yes 0 A n c l m x b w hn h hb (by simpa using h0) (by simpa using h1) h2).mono ?_
    rintro e w' ⟨v, rfl, ho, hb'⟩
    obtain ⟨A', c', rfl⟩ := ho.shape
    exact ⟨A', _, c', rfl, own_base ho (Nat.zero_le _), hb'⟩
  · have hf : taken m l x = false := by simpa using ht
    rw [hf, if_neg (by simp)]
    have hno : x < 0 ∨ m ≤ x ∨ x ∈ l.map Prod.fst := by
      by_cases h0 : x < 0
      · exact .inl h0
      · by_cases h1 : m ≤ x
        · exact .inr (.inl h1)
        · by_cases h2 : x ∈ l.map Prod.fst
          · exact .inr (.inr h2)
          · exact absurd (decide_eq_true (show 0 ≤ x ∧ x < m ∧ x ∉ l.map Prod.fst from ⟨by omega, by omega, h2⟩)) ht
    refine (refpush_no 0 A n c l m x b w hn h hb hno).mono ?_
    rintro e w' ⟨rfl, rfl⟩
    exact ⟨A, n, c, rfl, h, Below.refl _ _⟩

theorem push_any {w : World} {q : Qs} {l : List (Int × Nat)} (h : IsQ w q l) (x b : Int) (hx : (Lit.int .i64 x).wf = true) (hl : l.length + 1 ≤ 1000000) :
    Calls Try.prog 11 #[ptr q.Q, .int .i64 x, .int .i64 b] w fun e w' => e = .returned (.bool (taken q.n l x)) ∧ ∃ q', IsQ w' q' (after q.n l x b) ∧ Fq q q' w w' := by
  unfold after
  by_cases ht : taken q.n l x = true
  · rw [ht, if_pos rfl]
    obtain ⟨h0, h1, h2⟩ := of_decide_eq_true ht
    refine (push_yes h x b hx (by simpa using h0) (by simpa using h1) h2 hl).mono ?_
    rintro e w' ⟨rfl, v, h3, h4⟩
    exact ⟨rfl, _, h3, h4⟩
  · have hf : taken q.n l x = false := by simpa using ht
    rw [hf, if_neg (by simp)]
    by_cases h0 : x < 0
    · refine (push_low x b (by simpa using h0) w q.Q).mono ?_
      rintro e w' ⟨rfl, rfl⟩
      exact ⟨rfl, q, h, Fq.refl _ _⟩
    · by_cases h1 : q.n ≤ x
      · refine (push_high h x b (by simpa using h0) (by simpa using h1)).mono ?_
        rintro e w' ⟨rfl, rfl⟩
        exact ⟨rfl, q, h, Fq.refl _ _⟩
      · have h2 : x ∈ l.map Prod.fst := by
          by_cases h2 : x ∈ l.map Prod.fst
          · exact h2
          · exact absurd (decide_eq_true (show 0 ≤ x ∧ x < q.n ∧ x ∉ l.map Prod.fst from ⟨by omega, by omega, h2⟩)) ht
        refine (push_there h x b hx (by simpa using h0) (by simpa using h1) h2).mono ?_
        rintro e w' ⟨rfl, hb⟩
        exact ⟨rfl, q, h.below hb, Fq.of_below _ hb⟩

theorem Fq.out {q q' : Qs} {w w' : World} {g : Nat} {cs : Array Value} {t : TypeId} (hf : Fq q q' w w') (hB : Blk w g cs t) (hn : ¬ q.own g) : ¬ q'.own g := by
  intro ho
  rcases hf.own g ho with h1 | h1
  · exact hn h1
  · have := hB.lt
    omega
end Go.Proofs.Ytfbpdkajonpphaa

/- Facts on the domain of some numbers: the words after k of them, the error. No walk. -/
import Derived.Test.YtppiemgdjkehkaaDoorDBits
namespace Go.Proofs.YtppiemgdjkehkaaDoor
open Go.RowKit

/-- A number put into a rising list. -/
def ins (v : Int) : List Int → List Int
  | [] => [v]
  | a :: l => if v < a then v :: a :: l else if v = a then a :: l else a :: ins v l

theorem mem_ins (v u : Int) : ∀ l, u ∈ ins v l ↔ u = v ∨ u ∈ l
  | [] => by simp [ins]
  | a :: l => by
    unfold ins
    split
    · simp
    · split
      · rename_i h; subst h; simp
      · rw [List.mem_cons, mem_ins v u l, List.mem_cons]
        constructor
        · rintro (h | h | h)
          · exact .inr (.inl h)
          · exact .inl h
          · exact .inr (.inr h)
        · rintro (h | h | h)
          · exact .inr (.inl h)
          · exact .inl h
          · exact .inr (.inr h)

theorem rising_ins (v : Int) : ∀ l : List Int, l.Pairwise (· < ·) → (ins v l).Pairwise (· < ·)
  | [], _ => by simp [ins]
  | a :: l, h => by
    have h' := List.pairwise_cons.1 h
    unfold ins
    split
    · rename_i hv
      rw [List.pairwise_cons]
      refine ⟨fun u hu => ?_, h⟩
      rcases List.mem_cons.1 hu with e | e
      · omega
      · have := h'.1 u e; omega
    · split
      · exact h
      · rw [List.pairwise_cons]
        refine ⟨fun u hu => ?_, rising_ins v l h'.2⟩
        rcases (mem_ins v u l).1 hu with e | e
        · omega
        · exact h'.1 u e

/-- The numbers of a list, rising, each once. -/
def setOf (zs : List Int) : List Int := zs.foldl (fun l v => ins v l) []

theorem foldl_ins : ∀ (zs l : List Int), l.Pairwise (· < ·) → (zs.foldl (fun l v => ins v l) l).Pairwise (· < ·) ∧ ∀ u, u ∈ zs.foldl (fun l v => ins v l) l ↔ u ∈ l ∨ u ∈ zs
  | [], l, h => by simp [h]
  | z :: zs, l, h => by
    have := foldl_ins zs (ins z l) (rising_ins z l h)
    refine ⟨this.1, fun u => ?_⟩
    rw [List.foldl_cons, this.2 u, mem_ins, List.mem_cons]
    constructor
    · rintro ((h | h) | h)
      · exact .inr (.inl h)
      · exact .inl h
      · exact .inr (.inr h)
    · rintro (h | h | h)
      · exact .inl (.inr h)
      · exact .inl (.inl h)
      · exact .inr h

theorem rising_setOf (zs : List Int) : (setOf zs).Pairwise (· < ·) := (foldl_ins zs [] List.Pairwise.nil).1
theorem mem_setOf (zs : List Int) (u : Int) : u ∈ setOf zs ↔ u ∈ zs := by
  have := (foldl_ins zs [] List.Pairwise.nil).2 u
  unfold setOf
  rw [this]; simp

/-- The error of Of. -/
def ofErr (zs : List Int) : Int :=
  if zs.length = 0 then 4 else if zs.any fun z => !mayB z then 3 else if zs.any fun a => zs.any fun b => decide (65536 ≤ b - a) then 5 else 0
/-- The numbers of Of. -/
def ofL (zs : List Int) : List Int := if ofErr zs = 0 then setOf zs else []

theorem getD_mem (zs : List Int) (j : Nat) (h : j < zs.length) : zs.getD j 0 ∈ zs := by
  rw [List.getD_eq_getElem?_getD, List.getElem?_eq_getElem h]
  exact List.getElem_mem h

theorem mem_getD (zs : List Int) (z : Int) (h : z ∈ zs) : ∃ j, j < zs.length ∧ zs.getD j 0 = z := by
  obtain ⟨j, hj, e⟩ := List.mem_iff_getElem.1 h
  exact ⟨j, hj, by rw [List.getD_eq_getElem?_getD, List.getElem?_eq_getElem hj]; exact e⟩

theorem MinTo.mem {zs : List Int} {m : Int} (h : MinTo zs zs.length m) : m ∈ zs ∧ ∀ z ∈ zs, m ≤ z := by
  obtain ⟨j, hj, e⟩ := h.is
  refine ⟨e ▸ getD_mem zs j hj, fun z hz => ?_⟩
  obtain ⟨i, hi, e⟩ := mem_getD zs z hz
  rw [← e]; exact h.le i hi
theorem MaxTo.mem {zs : List Int} {m : Int} (h : MaxTo zs zs.length m) : m ∈ zs ∧ ∀ z ∈ zs, z ≤ m := by
  obtain ⟨j, hj, e⟩ := h.is
  refine ⟨e ▸ getD_mem zs j hj, fun z hz => ?_⟩
  obtain ⟨i, hi, e⟩ := mem_getD zs z hz
  rw [← e]; exact h.le i hi

theorem mayB_iff (v : Int) : mayB v = true ↔ -1000000 ≤ v ∧ v ≤ 1000000 := by unfold mayB; simp

/-- The error, by the least and the greatest number. -/
theorem ofErr_by (zs : List Int) (lo hi : Int) (h0 : zs.length ≠ 0) (hl : lo ∈ zs ∧ ∀ z ∈ zs, lo ≤ z) (hh : hi ∈ zs ∧ ∀ z ∈ zs, z ≤ hi) :
    ofErr zs = if mayB lo = true ∧ mayB hi = true then (if 65536 ≤ hi - lo then 5 else 0) else 3 := by
  unfold ofErr
  rw [if_neg h0]
  by_cases hm : mayB lo = true ∧ mayB hi = true
  · rw [if_pos hm]
    have h3 : ¬ (zs.any fun z => !mayB z) = true := by
      rw [List.any_eq_true]
      rintro ⟨z, hz, e⟩
      rw [Bool.not_eq_true'] at e
      have : mayB z = true := (mayB_iff z).2 ⟨by have := ((mayB_iff lo).1 hm.1).1; have := hl.2 z hz; omega, by have := ((mayB_iff hi).1 hm.2).2; have := hh.2 z hz; omega⟩
      rw [this] at e; cases e
    rw [if_neg h3]
    by_cases hw : 65536 ≤ hi - lo
    · rw [if_pos hw, if_pos]
      rw [List.any_eq_true]
      exact ⟨lo, hl.1, List.any_eq_true.2 ⟨hi, hh.1, by simpa using hw⟩⟩
    · rw [if_neg hw, if_neg]
      rw [List.any_eq_true]
      rintro ⟨a, ha, e⟩
      rw [List.any_eq_true] at e
      obtain ⟨b, hb, e⟩ := e
      have := hl.2 a ha
      have := hh.2 b hb
      simp at e
      omega
  · rw [if_neg hm, if_pos]
    rw [List.any_eq_true]
    by_cases h1 : mayB lo = true
    · refine ⟨hi, hh.1, ?_⟩
      have h2 : mayB hi ≠ true := fun e => hm ⟨h1, e⟩
      simpa using h2
    · exact ⟨lo, hl.1, by simpa using h1⟩

/-- The words after the first k numbers. -/
structure Marked (s : Int) (m : Nat) (ws : List Nat) (zs : List Int) (k : Nat) : Prop where
  len : ws.length = m
  lt : ∀ j, ws.getD j 0 < 18446744073709551616
  is : ∀ v, hasB s ws v = true ↔ v ∈ zs.take k

theorem Marked.start (s : Int) (m : Nat) (zs : List Int) : Marked s m (List.replicate m 0) zs 0 := by
  have h0 : ∀ j, (List.replicate m 0).getD j 0 = 0 := by
    intro j
    rw [List.getD_eq_getElem?_getD, List.getElem?_replicate]
    split <;> rfl
  refine ⟨by simp, fun j => by rw [h0]; decide, fun v => ?_⟩
  unfold hasB
  rw [h0]
  simp

theorem getD_set (ws : List Nat) (i j x : Nat) (hi : i < ws.length) : (ws.set i x).getD j 0 = if i = j then x else ws.getD j 0 := by
  rw [List.getD_eq_getElem?_getD, List.getElem?_set]
  by_cases h : i = j
  · subst h; simp [hi]
  · simp [h, List.getD_eq_getElem?_getD]

theorem Marked.step {s : Int} {m : Nat} {ws : List Nat} {zs : List Int} {k i : Nat} (h : Marked s m ws zs k) (hk : k < zs.length) (hi : zs.getD k 0 / 64 - s = (i : Int)) (him : i < m) :
    Marked s m (ws.set i (ws.getD i 0 ||| bitN (zs.getD k 0))) zs (k + 1) := by
  have hil : i < ws.length := by rw [h.len]; exact him
  refine ⟨by simp [h.len], fun j => ?_, fun v => ?_⟩
  · rw [getD_set _ _ _ _ hil]
    split
    · exact Nat.or_lt_two_pow (n := 64) (h.lt i) (bitN_lt _)
    · exact h.lt j
  · have ht : v ∈ zs.take (k + 1) ↔ v ∈ zs.take k ∨ v = zs.getD k 0 := by
      rw [List.take_succ_eq_append_getElem hk, List.mem_append, List.getD_eq_getElem?_getD, List.getElem?_eq_getElem hk]
      simp
    rw [ht, ← h.is v]
    unfold hasB
    rw [getD_set _ _ _ _ hil]
    by_cases hs : s ≤ v / 64
    · by_cases he : i = (v / 64 - s).toNat
      · rw [if_pos he, Nat.testBit_or, bitN_bit, ← he]
        simp only [hs, decide_true, Bool.true_and, Bool.or_eq_true, decide_eq_true_eq]
        constructor
        · rintro (q | q)
          · exact .inl q
          · exact .inr (by omega)
        · rintro (q | q)
          · exact .inl q
          · exact .inr (by rw [q])
      · rw [if_neg he]
        constructor
        · exact .inl
        · rintro (q | q)
          · exact q
          · exact absurd (by rw [q]; omega) he
    · simp only [hs, decide_false, Bool.false_and]
      constructor
      · intro q; cases q
      · rintro (q | q)
        · exact q
        · exact absurd (by rw [q]; omega) hs

/-- The words of all numbers are a domain's form. -/
theorem Marked.form {s lo hi : Int} {m : Nat} {ws : List Nat} {zs : List Int} (h : Marked s m ws zs zs.length) (hl : lo ∈ zs ∧ ∀ z ∈ zs, lo ≤ z) (hh : hi ∈ zs ∧ ∀ z ∈ zs, z ≤ hi)
    (h1 : -1000000 ≤ lo) (h2 : hi ≤ 1000000) (hs : s = lo / 64) (hm : (m : Int) = hi / 64 - lo / 64 + 1) : Form s ws ∧ listOf s ws = setOf zs := by
  have hle := hl.2 hi hh.1
  have b1 := (h.is lo).2 (by rw [List.take_length]; exact hl.1)
  have b2 := (h.is hi).2 (by rw [List.take_length]; exact hh.1)
  unfold hasB at b1 b2
  simp only [Bool.and_eq_true, decide_eq_true_eq] at b1 b2
  rw [show (lo / 64 - s).toNat = 0 by omega] at b1
  rw [show (hi / 64 - s).toNat = ws.length - 1 by have := h.len; omega] at b2
  refine ⟨⟨h.lt, fun _ e => ?_, fun _ e => ?_, fun e => ?_, by omega, ?_⟩, ?_⟩
  · rw [e] at b1; simp at b1
  · rw [e] at b2; simp at b2
  · have := h.len; omega
  · have := h.len; omega
  · apply eq_of_rising _ _ (rising_listOf _ _) (rising_setOf _)
    intro v
    rw [mem_listOf, h.is v, List.take_length, mem_setOf]
end Go.Proofs.YtppiemgdjkehkaaDoor

/- Contract of Of: the domain of some numbers, or its error. -/
namespace Go.Proofs.YtppiemgdjkehkaaDoor
open Go.RowKit

theorem least_unique {zs : List Int} {a b : Int} (h : MinTo zs zs.length a) (h' : MinTo zs zs.length b) : a = b := by
  have h1 := h.mem; have h2 := h'.mem
  have := h1.2 b h2.1; have := h2.2 a h1.1; omega
theorem most_unique {zs : List Int} {a b : Int} (h : MaxTo zs zs.length a) (h' : MaxTo zs zs.length b) : a = b := by
  have h1 := h.mem; have h2 := h'.mem
  have := h1.2 b h2.1; have := h2.2 a h1.1; omega

theorem min_exists (zs : List Int) (h : 0 < zs.length) : ∃ m, MinTo zs zs.length m := by
  have : ∀ k, 0 < k → k ≤ zs.length → ∃ m, MinTo zs k m := by
    intro k
    induction k with
    | zero => intro h; omega
    | succ k ih =>
      intro _ hk
      by_cases h0 : k = 0
      · subst h0; exact ⟨_, MinTo.start rfl⟩
      · obtain ⟨m, hm⟩ := ih (by omega) (by omega)
        exact ⟨_, hm.step⟩
  exact this _ h (Nat.le_refl _)
theorem max_exists (zs : List Int) (h : 0 < zs.length) : ∃ m, MaxTo zs zs.length m := by
  have : ∀ k, 0 < k → k ≤ zs.length → ∃ m, MaxTo zs k m := by
    intro k
    induction k with
    | zero => intro h; omega
    | succ k ih =>
      intro _ hk
      by_cases h0 : k = 0
      · subst h0; exact ⟨_, MaxTo.start rfl⟩
      · obtain ⟨m, hm⟩ := ih (by omega) (by omega)
        exact ⟨_, hm.step⟩
  exact this _ h (Nat.le_refl _)

end Go.Proofs.YtppiemgdjkehkaaDoor

/- The law MulKeeps walked. -/
import Derived.Test.YtcmdgjkoalophaaGreatDoorSh6
import Derived.Test.YtcmdgjkoalophaaGreatDoorMkr
namespace Go.Proofs.YtcmdgjkoalophaaGreatDoor.Keep
open Go.RowKit

/-- A list that is a domain's. -/
def DomL (L : List Int) : Prop := L.Pairwise (· < ·) ∧ (L ≠ [] → ofErr L = 0)
theorem ofErr_sub {L S : List Int} (h : ofErr L = 0) (hs : S ≠ []) (hm : ∀ v ∈ S, v ∈ L) : ofErr S = 0 := by
  unfold ofErr at h ⊢
  split at h
  · cases h
  · split at h
    · cases h
    · next h1 h2 =>
      split at h
      · cases h
      · next h3 =>
        rw [if_neg (by simpa using hs), if_neg, if_neg]
        · intro e
          apply h3
          rw [List.any_eq_true] at e ⊢
          obtain ⟨a, ha, e⟩ := e
          rw [List.any_eq_true] at e
          obtain ⟨b, hb, e⟩ := e
          exact ⟨a, hm a ha, List.any_eq_true.2 ⟨b, hm b hb, e⟩⟩
        · intro e
          apply h2
          rw [List.any_eq_true] at e ⊢
          obtain ⟨a, ha, e⟩ := e
          exact ⟨a, hm a ha, e⟩
theorem domL_in {L : List Int} (h : DomL L) : ∀ v ∈ L, -1000000 ≤ v ∧ v ≤ 1000000 := by
  intro v hv
  have he := h.2 (List.ne_nil_of_mem hv)
  unfold ofErr at he
  split at he
  · cases he
  · split at he
    · cases he
    · next h2 =>
      have := List.any_eq_false.1 (Bool.eq_false_iff.2 h2) v hv
      simp [mayB] at this
      omega
section
variable {f : Int → Int → Option Int} {A B C : List Int}
theorem mem_h1 {v : Int} : v ∈ h1 (hitsE f C A B) ↔ v ∈ A ∧ ∃ b r, b ∈ B ∧ r ∈ C ∧ f v b = some r := by
  unfold h1
  rw [List.mem_map]
  constructor
  · rintro ⟨⟨a, b, r⟩, ht, rfl⟩
    obtain ⟨q1, q2, q3, q4⟩ := mem_hitsE.1 ht
    exact ⟨q1, b, r, q2, q4, q3⟩
  · rintro ⟨q1, b, r, q2, q4, q3⟩
    exact ⟨(v, b, r), mem_hitsE.2 ⟨q1, q2, q3, q4⟩, rfl⟩
theorem mem_h2 {v : Int} : v ∈ h2 (hitsE f C A B) ↔ v ∈ B ∧ ∃ a r, a ∈ A ∧ r ∈ C ∧ f a v = some r := by
  unfold h2
  rw [List.mem_map]
  constructor
  · rintro ⟨⟨a, b, r⟩, ht, rfl⟩
    obtain ⟨q1, q2, q3, q4⟩ := mem_hitsE.1 ht
    exact ⟨q2, a, r, q1, q4, q3⟩
  · rintro ⟨q2, a, r, q1, q4, q3⟩
    exact ⟨(a, v, r), mem_hitsE.2 ⟨q1, q2, q3, q4⟩, rfl⟩
theorem mem_h3 {v : Int} : v ∈ h3 (hitsE f C A B) ↔ v ∈ C ∧ ∃ a b, a ∈ A ∧ b ∈ B ∧ f a b = some v := by
  unfold h3
  rw [List.mem_map]
  constructor
  · rintro ⟨⟨a, b, r⟩, ht, rfl⟩
    obtain ⟨q1, q2, q3, q4⟩ := mem_hitsE.1 ht
    exact ⟨q4, a, b, q1, q2, q3⟩
  · rintro ⟨q4, a, b, q1, q2, q3⟩
    exact ⟨(a, b, v), mem_hitsE.2 ⟨q1, q2, q3, q4⟩, rfl⟩
theorem h_ne {l : List (Int × Int × Int)} (h : l ≠ []) : h1 l ≠ [] ∧ h2 l ≠ [] ∧ h3 l ≠ [] := by
  refine ⟨?_, ?_, ?_⟩ <;> (intro e; apply h; simpa [h1, h2, h3] using e)
end
theorem ofL_ne {S : List Int} (h : ofErr S = 0) (hs : S ≠ []) : ofL S ≠ [] := by
  rw [ofL_ok _ h]
  intro e
  obtain ⟨v, hv⟩ := List.exists_mem_of_ne_nil S hs
  have := (mem_setOf S v).2 hv
  rw [e] at this
  cases this
/-- Where few pairs are looked at: what is left. -/
theorem mulE_few {c : ConL} {A B C : List Int} (hf : fitsE c [A, B, C] 5 7 = true) (hA : DomL A) (hB : DomL B) (hC : DomL C) (hn : A.length * B.length ≤ 4096) :
    mulE c [A, B, C] = if hitsE (kindV c.kind) C A B = [] then none else some [ofL (h1 (hitsE (kindV c.kind) C A B)), ofL (h2 (hitsE (kindV c.kind) C A B)), ofL (h3 (hitsE (kindV c.kind) C A B))] := by
  have hm : mulL c.kind A B C = [ofL (h1 (hitsE (kindV c.kind) C A B)), ofL (h2 (hitsE (kindV c.kind) C A B)), ofL (h3 (hitsE (kindV c.kind) C A B))] := by unfold mulL; rw [if_pos hn]
  unfold mulE
  rw [if_pos hf]
  have e0 : ([A, B, C] : List (List Int)).getD 0 [] = A := rfl
  have e1 : ([A, B, C] : List (List Int)).getD 1 [] = B := rfl
  have e2 : ([A, B, C] : List (List Int)).getD 2 [] = C := rfl
  rw [e0, e1, e2, hm]
  by_cases h : hitsE (kindV c.kind) C A B = []
  · rw [if_pos h, h]
    rfl
  · rw [if_neg h]
    obtain ⟨n1, n2, n3⟩ := h_ne h
    obtain ⟨t, ht⟩ := List.exists_mem_of_ne_nil _ h
    obtain ⟨q1, q2, q3, q4⟩ := mem_hitsE.1 ht
    have k1 := ofL_ne (ofErr_sub (hA.2 (List.ne_nil_of_mem q1)) n1 (fun v hv => (mem_h1.1 hv).1)) n1
    have k2 := ofL_ne (ofErr_sub (hB.2 (List.ne_nil_of_mem q2)) n2 (fun v hv => (mem_h2.1 hv).1)) n2
    have k3 := ofL_ne (ofErr_sub (hC.2 (List.ne_nil_of_mem q4)) n3 (fun v hv => (mem_h3.1 hv).1)) n3
    rw [if_neg]
    simp [k1, k2, k3]
theorem setOf_len (zs : List Int) : (setOf zs).length ≤ zs.length := by
  have : ∀ (zs l : List Int), (zs.foldl (fun l v => ins v l) l).length ≤ l.length + zs.length := by
    intro zs
    induction zs with
    | nil => intro l; simp
    | cons z zs ih =>
      intro l
      rw [List.foldl_cons]
      have := ih (ins z l)
      have := ins_len z l
      simp only [List.length_cons]
      omega
  have := this zs []
  simpa [setOf] using this

theorem ofL_dom {L : List Int} (h : DomL L) : ofL L = L := by
  by_cases e : L = []
  · subst e; rfl
  · rw [ofL_ok _ (h.2 e)]
    exact eq_of_rising _ _ (rising_setOf _) h.1 (fun v => mem_setOf L v)
theorem domL_ofL (S : List Int) : DomL (ofL S) := by
  by_cases he : ofErr S = 0
  · rw [ofL_ok _ he]
    exact ⟨rising_setOf _, fun hn => ofErr_sub he hn fun v hv => (mem_setOf S v).1 hv⟩
  · rw [ofL_err _ _ rfl he]
    exact ⟨List.Pairwise.nil, fun h => absurd rfl h⟩
theorem ofL_short (S : List Int) : (ofL S).length ≤ S.length := by
  by_cases he : ofErr S = 0
  · rw [ofL_ok _ he]; exact setOf_len S
  · rw [ofL_err _ _ rfl he]; simp
/-- The domains that a case has. -/
def caseD (DD : List (List Int)) (wd : Int) (n : Nat) : List (List Int) := (List.range n).map (domsE DD wd)
theorem caseD_dom (DD : List (List Int)) (wd : Int) (n : Nat) : ∀ l ∈ caseD DD wd n, DomL l ∧ l.length ≤ 6 := by
  intro l hl
  unfold caseD at hl
  obtain ⟨i, -, rfl⟩ := List.mem_map.1 hl
  unfold domsE smallW
  exact ⟨domL_ofL _, Nat.le_trans (ofL_short _) (modW_len _ _ _)⟩
theorem caseD_ofL (DD : List (List Int)) (wd : Int) (n : Nat) : (caseD DD wd n).map ofL = caseD DD wd n := by
  have : ∀ l ∈ caseD DD wd n, ofL l = l := fun l hl => ofL_dom (caseD_dom DD wd n l hl).1
  exact (List.map_congr_left this).trans (List.map_id' _)
theorem caseD_len (DD : List (List Int)) (wd : Int) (n : Nat) : (caseD DD wd n).length = n := by simp [caseD]


theorem rows_in {D : List (List Int)} (hp : 0 < prodN D) (k i : Nat) (hi : i < D.length) : (rowP D k).getD i 0 ∈ D.getD i [] := by
  induction D generalizing i with
  | nil => simp at hi
  | cons d D ih =>
    rw [prodN] at hp
    have h1 : 0 < d.length := Nat.pos_of_mul_pos_right hp
    cases i with
    | zero => exact getD_mem d _ (Nat.mod_lt _ h1)
    | succ i => exact ih (Nat.pos_of_mul_pos_left hp) i (by simpa using hi)
theorem sol_three {c : ConL} {A B C : List Int} {m : Nat} {r : List Int} (hk : c.kind = 5 ∨ c.kind = 6 ∨ c.kind = 7) (hr : rightE c 256 = 0) (h : r ∈ solsE c [A, B, C] m) :
    ∃ x y z, r = [x, y, z] ∧ (x, y, z) ∈ hitsE (kindV c.kind) C A B := by
  unfold solsE at h
  obtain ⟨h1, h2⟩ := List.mem_filter.1 h
  have hl : r.length = 3 := prod_row h1
  match r, hl with
  | [x, y, z], _ =>
    refine ⟨x, y, z, rfl, ?_⟩
    unfold holdsR at h2
    rw [meets_local hk (three_mul hr hk).1, works_kind hk, decide_eq_true_eq] at h2
    unfold prodE at h1
    split at h1
    · cases h1
    · obtain ⟨k, hkk, e⟩ := List.mem_map.1 h1
      have hp : 0 < prodN [A, B, C] := by have := List.mem_range.1 hkk; omega
      have q0 := rows_in hp k 0 (by simp)
      have q1 := rows_in hp k 1 (by simp)
      have q2 := rows_in hp k 2 (by simp)
      rw [e] at q0 q1 q2
      exact mem_hitsE.2 ⟨q0, q1, h2, q2⟩
theorem mem_ofL {S L : List Int} {v : Int} (hL : DomL L) (hs : S ≠ []) (hm : ∀ v ∈ S, v ∈ L) : v ∈ ofL S ↔ v ∈ S := by
  obtain ⟨u, hu⟩ := List.exists_mem_of_ne_nil S hs
  rw [ofL_ok _ (ofErr_sub (hL.2 (List.ne_nil_of_mem (hm u hu))) hs hm)]
  exact mem_setOf S v
theorem ofL_same {S T L : List Int} (hL : DomL L) (hs : S ≠ []) (hm : ∀ v ∈ S, v ∈ L) (h : ∀ v, v ∈ T ↔ v ∈ S) : ofL T = ofL S := by
  obtain ⟨u, hu⟩ := List.exists_mem_of_ne_nil S hs
  have hT : T ≠ [] := List.ne_nil_of_mem ((h u).2 hu)
  have e := hL.2 (List.ne_nil_of_mem (hm u hu))
  rw [ofL_ok _ (ofErr_sub e hs hm), ofL_ok _ (ofErr_sub e hT fun v hv => hm v ((h v).1 hv))]
  exact eq_of_rising _ _ (rising_setOf _) (rising_setOf _) fun v => by rw [mem_setOf, mem_setOf, h]

theorem fits_mul {c : ConL} {A B C : List Int} (hk : c.kind = 5 ∨ c.kind = 6 ∨ c.kind = 7) (hr : rightE c 256 = 0) (ha : A ≠ []) (hb : B ≠ []) (hc : C ≠ []) : fitsE c [A, B, C] 5 7 = true := by
  obtain ⟨l1, l2⟩ := three_mul hr hk
  unfold fitsE
  rw [decide_eq_false (show ¬ c.kind < 5 by omega), decide_eq_false (show ¬ 7 < c.kind by omega), l1, l2, hr]
  have e1 : (A.length == 0) = false := by simp [ha]
  have e2 : (B.length == 0) = false := by simp [hb]
  have e3 : (C.length == 0) = false := by simp [hc]
  simp [e1, e2, e3]
/-- No solution is lost where nothing is left. -/
theorem keep_none {c : ConL} {A B C : List Int} {m : Nat} (hk : c.kind = 5 ∨ c.kind = 6 ∨ c.kind = 7) (hr : rightE c 256 = 0) (hA : DomL A) (hB : DomL B) (hC : DomL C) (hn : A.length * B.length ≤ 4096)
    (h : mulE c [A, B, C] = none) : solsE c [A, B, C] m = [] := by
  apply List.eq_nil_iff_forall_not_mem.2
  intro r hrr
  obtain ⟨x, y, z, rfl, ht⟩ := sol_three hk hr hrr
  obtain ⟨q1, q2, q3, q4⟩ := mem_hitsE.1 ht
  rw [mulE_few (fits_mul hk hr (List.ne_nil_of_mem q1) (List.ne_nil_of_mem q2) (List.ne_nil_of_mem q4)) hA hB hC hn, if_neg (List.ne_nil_of_mem ht)] at h
  cases h
theorem keep_some {c : ConL} {A B C : List Int} {m : Nat} {E : List (List Int)} (hk : c.kind = 5 ∨ c.kind = 6 ∨ c.kind = 7) (hr : rightE c 256 = 0) (hA : DomL A) (hB : DomL B) (hC : DomL C) (la : A.length ≤ 6) (lb : B.length ≤ 6)
    (h : mulE c [A, B, C] = some E) : E.length = 3 ∧ (∀ i, i < 3 → ∀ v ∈ E.getD i [], v ∈ [A, B, C].getD i []) ∧ (∀ r ∈ solsE c [A, B, C] m, r.length = 3 ∧ ∀ i, i < 3 → r.getD i 0 ∈ E.getD i []) ∧ mulE c E = some E ∧ ∀ l ∈ E, l.length ≤ 36 := by
  have hab : A.length * B.length ≤ 36 := Nat.mul_le_mul la lb
  have hf : fitsE c [A, B, C] 5 7 = true := by
    cases hf : fitsE c [A, B, C] 5 7 with
    | true => rfl
    | false => unfold mulE at h; rw [if_neg (by rw [hf]; decide)] at h; cases h
  have hle := hitsE_len (kindV c.kind) C A B
  rw [mulE_few hf hA hB hC (by omega)] at h
  split at h
  · cases h
  · rename_i hne
    injection h with h
    subst h
    obtain ⟨n1, n2, n3⟩ := h_ne hne
    have m1 : ∀ v ∈ h1 (hitsE (kindV c.kind) C A B), v ∈ A := fun v hv => (mem_h1.1 hv).1
    have m2 : ∀ v ∈ h2 (hitsE (kindV c.kind) C A B), v ∈ B := fun v hv => (mem_h2.1 hv).1
    have m3 : ∀ v ∈ h3 (hitsE (kindV c.kind) C A B), v ∈ C := fun v hv => (mem_h3.1 hv).1
    have o1 : ∀ v, v ∈ ofL (h1 (hitsE (kindV c.kind) C A B)) ↔ v ∈ h1 (hitsE (kindV c.kind) C A B) := fun v => mem_ofL hA n1 m1
    have o2 : ∀ v, v ∈ ofL (h2 (hitsE (kindV c.kind) C A B)) ↔ v ∈ h2 (hitsE (kindV c.kind) C A B) := fun v => mem_ofL hB n2 m2
    have o3 : ∀ v, v ∈ ofL (h3 (hitsE (kindV c.kind) C A B)) ↔ v ∈ h3 (hitsE (kindV c.kind) C A B) := fun v => mem_ofL hC n3 m3
    have l1 : (ofL (h1 (hitsE (kindV c.kind) C A B))).length ≤ 36 := Nat.le_trans (ofL_short _) (by simp only [h1, List.length_map]; omega)
    have l2 : (ofL (h2 (hitsE (kindV c.kind) C A B))).length ≤ 36 := Nat.le_trans (ofL_short _) (by simp only [h2, List.length_map]; omega)
    have l3 : (ofL (h3 (hitsE (kindV c.kind) C A B))).length ≤ 36 := Nat.le_trans (ofL_short _) (by simp only [h3, List.length_map]; omega)
    obtain ⟨t0, ht0⟩ := List.exists_mem_of_ne_nil _ hne
    obtain ⟨g1, g2, -, g3⟩ := mem_hitsE.1 ht0
    have ga := List.ne_nil_of_mem g1
    have gb := List.ne_nil_of_mem g2
    have gc := List.ne_nil_of_mem g3
    have k1 := ofL_ne (ofErr_sub (hA.2 ga) n1 m1) n1
    have k2 := ofL_ne (ofErr_sub (hB.2 gb) n2 m2) n2
    have k3 := ofL_ne (ofErr_sub (hC.2 gc) n3 m3) n3
    refine ⟨rfl, ?_, ?_, ?_, ?_⟩
    · intro i hi v hv
      match i, hi with
      | 0, _ => exact m1 v ((o1 v).1 hv)
      | 1, _ => exact m2 v ((o2 v).1 hv)
      | 2, _ => exact m3 v ((o3 v).1 hv)
    · intro r hrr
      obtain ⟨x, y, z, rfl, ht⟩ := sol_three hk hr hrr
      refine ⟨rfl, fun i hi => ?_⟩
      match i, hi with
      | 0, _ => exact (o1 x).2 (List.mem_map.2 ⟨_, ht, rfl⟩)
      | 1, _ => exact (o2 y).2 (List.mem_map.2 ⟨_, ht, rfl⟩)
      | 2, _ => exact (o3 z).2 (List.mem_map.2 ⟨_, ht, rfl⟩)
    · have hh : ∀ t, t ∈ hitsE (kindV c.kind) (ofL (h3 (hitsE (kindV c.kind) C A B))) (ofL (h1 (hitsE (kindV c.kind) C A B))) (ofL (h2 (hitsE (kindV c.kind) C A B))) ↔ t ∈ hitsE (kindV c.kind) C A B := by
        intro t
        constructor
        · intro ht
          obtain ⟨q1, q2, q3, q4⟩ := mem_hitsE.1 ht
          exact mem_hitsE.2 ⟨m1 _ ((o1 _).1 q1), m2 _ ((o2 _).1 q2), q3, m3 _ ((o3 _).1 q4)⟩
        · intro ht
          obtain ⟨q1, q2, q3, q4⟩ := mem_hitsE.1 ht
          exact mem_hitsE.2 ⟨(o1 _).2 (List.mem_map.2 ⟨_, ht, rfl⟩), (o2 _).2 (List.mem_map.2 ⟨_, ht, rfl⟩), q3, (o3 _).2 (List.mem_map.2 ⟨_, ht, rfl⟩)⟩
      have hh1 : ∀ v, v ∈ h1 (hitsE (kindV c.kind) (ofL (h3 (hitsE (kindV c.kind) C A B))) (ofL (h1 (hitsE (kindV c.kind) C A B))) (ofL (h2 (hitsE (kindV c.kind) C A B)))) ↔ v ∈ h1 (hitsE (kindV c.kind) C A B) := fun v => by
        unfold h1; simp only [List.mem_map]; exact ⟨fun ⟨t, q, e⟩ => ⟨t, (hh t).1 q, e⟩, fun ⟨t, q, e⟩ => ⟨t, (hh t).2 q, e⟩⟩
      have hh2 : ∀ v, v ∈ h2 (hitsE (kindV c.kind) (ofL (h3 (hitsE (kindV c.kind) C A B))) (ofL (h1 (hitsE (kindV c.kind) C A B))) (ofL (h2 (hitsE (kindV c.kind) C A B)))) ↔ v ∈ h2 (hitsE (kindV c.kind) C A B) := fun v => by
        unfold h2; simp only [List.mem_map]; exact ⟨fun ⟨t, q, e⟩ => ⟨t, (hh t).1 q, e⟩, fun ⟨t, q, e⟩ => ⟨t, (hh t).2 q, e⟩⟩
      have hh3 : ∀ v, v ∈ h3 (hitsE (kindV c.kind) (ofL (h3 (hitsE (kindV c.kind) C A B))) (ofL (h1 (hitsE (kindV c.kind) C A B))) (ofL (h2 (hitsE (kindV c.kind) C A B)))) ↔ v ∈ h3 (hitsE (kindV c.kind) C A B) := fun v => by
        unfold h3; simp only [List.mem_map]; exact ⟨fun ⟨t, q, e⟩ => ⟨t, (hh t).1 q, e⟩, fun ⟨t, q, e⟩ => ⟨t, (hh t).2 q, e⟩⟩
      rw [mulE_few (fits_mul hk hr k1 k2 k3) (domL_ofL _) (domL_ofL _) (domL_ofL _) (Nat.le_trans (Nat.mul_le_mul l1 l2) (by decide)), if_neg]
      · rw [ofL_same hA n1 m1 hh1, ofL_same hB n2 m2 hh2, ofL_same hC n3 m3 hh3]
      · intro e
        obtain ⟨t, ht⟩ := List.exists_mem_of_ne_nil _ hne
        have := (hh t).2 ht
        rw [e] at this
        cases this
    · intro l hl
      simp only [List.mem_cons, List.not_mem_nil, or_false] at hl
      rcases hl with rfl | rfl | rfl
      · exact l1
      · exact l2
      · exact l3
/-- Few rows there are. -/
theorem over_small {A B C : List Int} (la : A.length ≤ 6) (lb : B.length ≤ 6) (lc : C.length ≤ 6) : overP 4000 1 [A, B, C] = false := by
  have h1 : 1 * A.length ≤ 6 := by omega
  have h2 : 1 * A.length * B.length ≤ 36 := Nat.mul_le_mul h1 lb
  have h3 : 1 * A.length * B.length * C.length ≤ 216 := Nat.mul_le_mul h2 lc
  simp only [overP]
  rw [if_neg (by omega), if_neg (by omega), if_neg (by omega)]
end Go.Proofs.YtcmdgjkoalophaaGreatDoor.Keep

namespace Go.Proofs.YtcmdgjkoalophaaGreatDoor
open Go.RowKit Go.Sort

theorem has_yes {d : Value} {L : List Int} {v : Int} {w : World} (h : IsDom w d L) (hm : v ∈ L) (hv : -1000000 ≤ v ∧ v ≤ 1000000) : Calls Tryz.prog 39 #[d, .int .i64 v] w fun e w' => e = .returned (.bool true) ∧ Below w.heap.size w w' := by
  have := D.has_dom d L v w h (by omega) (by omega)
  rwa [decide_eq_true hm] at this
theorem getD_memL (zs : List (List Int)) (j : Nat) (h : j < zs.length) : zs.getD j [] ∈ zs := by
  rw [List.getD_eq_getElem?_getD, List.getElem?_eq_getElem h]
  exact List.getElem_mem h
theorem DomsIn.at2 {W : World} {g o n c : Nat} {LL : List (List Int)} (h : DomsIn W ⟨some ⟨g, o, none⟩, n, c⟩ LL) (k : Nat) (hk : k < n) :
    ∃ d : Dv, W.cell? ⟨g, o + k * 3, none⟩ = some (.int .i64 d.s) ∧ W.cell? ⟨g, o + k * 3 + 1, none⟩ = some (.slice d.A d.n d.c) ∧ W.cell? ⟨g, o + k * 3 + 2, none⟩ = some (.int .i64 d.z) ∧ IsDom W d.val (LL.getD k []) := by
  obtain ⟨g', o', d, e, q0, q1, q2, hD⟩ := h.at_ k hk
  simp only [Option.some.injEq, Addr.mk.injEq] at e
  obtain ⟨rfl, rfl, -⟩ := e
  exact ⟨d, q0, q1, q2, hD⟩
theorem zero_drew (W : World) : (W.alloc (.cells #[.int .i64 0, .slice none 0 0, .slice none 0 0, .slice none 0 0, .slice none 0 0, .slice none 0 0, .int .i64 0, .slice none 0 0] 37)).drew.heap[W.heap.size]? = some (.cells zeroC 37 (0, 0)) := by
  have h := heap_new W (.cells #[.int .i64 0, .slice none 0 0, .slice none 0 0, .slice none 0 0, .slice none 0 0, .slice none 0 0, .int .i64 0, .slice none 0 0] 37)
  exact h

set_option maxHeartbeats 4000000 in
set_option maxRecDepth 100000 in
theorem mulKeeps_walk (zA zB zC x : Sl) (la lb lc : List Int) (DD : List (List Int)) (k0 n K ch : Int) (w : World) (ha : IsNs .u8 w zA la) (hb : IsNs .u8 w zB lb) (hc : IsNs .i8 w zC lc) (ba : ∀ v ∈ la, 0 ≤ v ∧ v ≤ 255) (bb : ∀ v ∈ lb, 0 ≤ v ∧ v ≤ 255) (bc : ∀ v ∈ lc, -128 ≤ v ∧ v ≤ 127) (hn : 0 ≤ n ∧ n ≤ 255) (hK : -32768 ≤ K ∧ K ≤ 32767) (hch : 0 ≤ ch ∧ ch ≤ 255)
    (hx : IsRowsN w x DD) (hE : EntIn w) (hT : TabZ w) :
    Calls Tryz.prog 12 #[caV zA zB zC k0 K ch x, .int .u8 n] w fun e w' => e = .returned (.bool true) ∧ Below w.heap.size w w' := by
  have t1 := tmod_in n 3 (by omega)
  have t0 := Int.tmod_nonneg 3 hn.1
  obtain ⟨kd, hkd⟩ : ∃ kd, kd = 5 + n.tmod 3 := ⟨_, rfl⟩
  have CK := Lib.hid (fun W => mulKind_any n W hn)
  rw [← hkd] at CK
  have hk3 : kd = 5 ∨ kd = 6 ∨ kd = 7 := by omega
  obtain ⟨wa, hwa⟩ : ∃ wa, w.alloc (.cells (caC zA zB zC k0 K ch x) 56) = wa := ⟨_, rfl⟩
  have hna : wa.heap[w.heap.size]? = some (.cells (caC zA zB zC k0 K ch x) 56 (0, 0)) := hwa ▸ heap_new w _
  have ba' : Below w.heap.size w wa := hwa ▸ below1 w _
  have hr4 := make_right la lb lc (kd - 1) K ch 5 ba bb (by omega) hch.1 (by omega)
  obtain ⟨c, hcE⟩ : ∃ c, c = makeE la lb lc (kd - 1) K ch 5 := ⟨_, rfl⟩
  have hck : c.kind = kd := by
    have : (makeE la lb lc (kd - 1) K ch 5).kind = 1 + (kd - 1).tmod 23 := makeE_kind la lb lc (kd - 1) K ch 5 (by omega)
    rw [hcE, this, Int.tmod_eq_of_lt (by omega) (by omega)]
    omega
  have HSL := Lib.hid (makeE_slim la lb lc (kd - 1) K ch 5)
  rw [← hcE] at hr4 HSL
  have hr256 := right_more hr4 (show (5 : Int) ≤ 256 by omega)
  have h3 := three_mul hr256 (by rw [hck]; exact hk3)
  have CM : Hid (∀ W, Below wa.heap.size wa W → Calls Tryz.prog 28 #[.agg #[.int .u8 k0, .slice zA.A zA.n zA.c, .slice zB.A zB.n zB.c, .slice zC.A zC.n zC.c, .int .i16 K, .int .u8 ch, .slice x.A x.n x.c], .int .i64 kd, .int .i64 6] W fun e w' => (∃ (v : ConV) (y : Sl) (xs : List Sl), e = .returned (.tuple #[v.val c.kind c.K, .slice y.A y.n y.c]) ∧ ConIn w' v c ∧ MkR (W.heap.size + 1 + 1 + 1 + 1 + 1) w' v c ∧ RowsO W.heap.size w' y xs (Keep.caseD DD 6 3)) ∧ Below W.heap.size W w') := Lib.hid (fun W hW => by
    have b := ba'.trans (hW.mono ba'.size)
    have h := make10_full zA zB zC x la lb lc DD k0 K ch kd 6 W (ha.below b) (hb.below b) (hc.below b) ba bb bc (by omega) hK hch (hx.below b) (by omega)
    rw [← hcE, h3.1, h3.2] at h
    exact h)
  have HC3k := Lib.hid h3
  have HR5 : Hid (ConR 5 c) := Lib.hid (con_r (n := 5) hr4)
  have HRT := Lib.hid hr256
  have HKD : Hid (c.kind = 5 ∨ c.kind = 6 ∨ c.kind = 7) := Lib.hid (by rw [hck]; exact hk3)
  have HB0 := Lib.hid ba'
  have HE := Lib.hid hE
  have HT := Lib.hid hT
  have HNA := Lib.hid hna
  have HLT : Hid (w.heap.size < wa.heap.size) := Lib.hid (Array.getElem?_eq_some_iff.1 hna).1
  have HS : Hid (∀ W, Below wa.heap.size wa W → Below wa.heap.size wa W ∧ W.cell? ⟨w.heap.size, 0, none⟩ = some (.int .u8 k0) ∧ W.cell? ⟨w.heap.size, 1, none⟩ = some (.slice zA.A zA.n zA.c) ∧ W.cell? ⟨w.heap.size, 2, none⟩ = some (.slice zB.A zB.n zB.c) ∧ W.cell? ⟨w.heap.size, 3, none⟩ = some (.slice zC.A zC.n zC.c) ∧ W.cell? ⟨w.heap.size, 4, none⟩ = some (.int .i16 K) ∧ W.cell? ⟨w.heap.size, 5, none⟩ = some (.int .u8 ch) ∧ W.cell? ⟨w.heap.size, 6, none⟩ = some (.slice x.A x.n x.c)) := Lib.hid (fun W hW => by
    have h := (hW.block _ (Array.getElem?_eq_some_iff.1 HNA.out).1).trans HNA.out
    exact ⟨hW, box_cell h rfl, box_cell h rfl, box_cell h rfl, box_cell h rfl, box_cell h rfl, box_cell h rfl, box_cell h rfl⟩)
  clear t1 t0 hkd hk3 hna ba' ha hb hc ba bb bc hn hK hch hx hE hT hcE hck hr4 hr256 h3
  go_enter Tryz.func12, Tryz.ntmps12
  go_upto_region 1 with fail
  clear hwa
  go_cut [5, 6] (fun p l wx => ∃ (g : Nat) (v : ConV) (y : Sl), p = .pointer (some ⟨g, 0, none⟩) ∧ l = .slice y.A y.n y.c ∧ Hid (wx.heap[g]? = some (.cells (v.cells c.kind c.K) 37 (0, 0))) ∧ Hid (ConIn wx v c) ∧ Hid (IsRows wx y (Keep.caseD DD 6 3)) ∧ Hid (Below wa.heap.size wa wx))
  case first =>
    have hS := HS.out wa.drew (Below.refl _ _).drew
    go_region_held3 (fun W => Below wa.heap.size wa W ∧ W.cell? ⟨w.heap.size, 0, none⟩ = some (.int .u8 k0) ∧ W.cell? ⟨w.heap.size, 1, none⟩ = some (.slice zA.A zA.n zA.c) ∧ W.cell? ⟨w.heap.size, 2, none⟩ = some (.slice zB.A zB.n zB.c) ∧ W.cell? ⟨w.heap.size, 3, none⟩ = some (.slice zC.A zC.n zC.c) ∧ W.cell? ⟨w.heap.size, 4, none⟩ = some (.int .i16 K) ∧ W.cell? ⟨w.heap.size, 5, none⟩ = some (.int .u8 ch) ∧ W.cell? ⟨w.heap.size, 6, none⟩ = some (.slice x.A x.n x.c)) (first | with_reducible assumption | with_reducible exact hS9 | with_reducible exact HS.out _ (hS.1.alloc hS.1.size _) | with_reducible exact HS.out _ (((Below.refl wa.heap.size wa).alloc (Nat.le_refl _) _).drew))
      (first
        | (go_at_call 42; refine (CK.out _).mono ?_; rintro e w' ⟨rfl, rfl⟩)
        | (go_at_call 28; have hS := HS.out _ (((Below.refl wa.heap.size wa).alloc (Nat.le_refl _) (.cells #[.int .i64 0, .slice none 0 0, .slice none 0 0, .slice none 0 0, .slice none 0 0, .slice none 0 0, .int .i64 0, .slice none 0 0] 37)).drew); with_reducible refine (CM.out _ hS.1).mono ?_; rintro e w2 ⟨⟨v, y, xs, rfl, hv, hm, hy⟩, b2⟩; have HM := Lib.hid hm; have HY := Lib.hid hy; have B2 := Lib.hid (hS.1.trans (b2.mono hS.1.size)); have hz : w2.heap[wa.heap.size]? = some (.cells zeroC 37 (0, 0)) := (b2.block wa.heap.size (by simp)).trans (zero_drew wa); have e0 := box_cell hz (j := 0) rfl; have e1 := box_cell hz (j := 1) rfl; have e2 := box_cell hz (j := 2) rfl; have e3 := box_cell hz (j := 3) rfl; have e4 := box_cell hz (j := 4) rfl; have e5 := box_cell hz (j := 5) rfl; have e6 := box_cell hz (j := 6) rfl; have e7 := box_cell hz (j := 7) rfl; have f0 := box_free hz 0; have f1 := box_free hz 1; have f2 := box_free hz 2; have f3 := box_free hz 3; have f4 := box_free hz 4; have f5 := box_free hz 5; have f6 := box_free hz 6; have f7 := box_free hz 7; obtain ⟨hQ, kQ⟩ := out8 hz (.int .i64 c.kind) (.slice v.a.A v.a.n v.a.c) (.slice v.b.A v.b.n v.b.c) (.slice v.c.A v.c.n v.c.c) (.slice v.d.A v.d.n v.d.c) (.slice v.e.A v.e.n v.e.c) (.int .i64 c.K) (.slice v.r.A v.r.n v.r.c); have HQ := Lib.hid hQ; have HKQ := Lib.hid kQ; have hS := HS.out _ B2.out; have hS9 := HS.out _ (B2.out.trans (kQ.below B2.out.size (Nat.le_refl _))))
        | (go_at_call 28; with_reducible refine (CM.out _ hS.1).mono ?_; rintro e w2 ⟨⟨v, y, xs, rfl, hv, hm, hy⟩, b2⟩; have HM := Lib.hid hm; have HY := Lib.hid hy; have B2 := Lib.hid (hS.1.trans (b2.mono hS.1.size)); have hS := HS.out _ B2.out))
    focus
        (obtain ⟨w3, hw3⟩ : ∃ w3, w2.alloc (.cells #[.int .i64 c.kind, .slice v.a.A v.a.n v.a.c, .slice v.b.A v.b.n v.b.c, .slice v.c.A v.c.n v.c.c, .slice v.d.A v.d.n v.d.c, .slice v.e.A v.e.n v.e.c, .int .i64 c.K, .slice v.r.A v.r.n v.r.c] 37) = w3 := ⟨_, rfl⟩
         rw [hw3]
         have b23 : Below w2.heap.size w2 w3 := hw3 ▸ below1 w2 _
         have HC3 : Hid (w3.heap[w2.heap.size]? = some (.cells (v.cells c.kind c.K) 37 (0, 0))) := Lib.hid (hw3 ▸ heap_new w2 _)
         have HCN := Lib.hid ((HM.out.kp (Kp.of_below (G := w.heap.size) b23) (by have h := HLT.out; show w.heap.size < wa.heap.size + 1 + 1 + 1 + 1 + 1; omega)).con HSL.out.1 HSL.out.2.1 HSL.out.2.2.1 HSL.out.2.2.2.1 HSL.out.2.2.2.2.1 HSL.out.2.2.2.2.2.1 HSL.out.2.2.2.2.2.2)
         have HRW := Lib.hid ((HY.out.below b23).rows (by rw [Keep.caseD_len]; omega) (fun r hr => by have := (Keep.caseD_dom DD 6 3 r hr).2; omega))
         have B3 := Lib.hid (B2.out.trans (b23.mono B2.out.size))
         obtain ⟨g, hg⟩ : ∃ g, g = w2.heap.size := ⟨_, rfl⟩
         rw [← hg] at HC3
         rw [← hg]
         clear hg hw3 b23 HM HY B2 HSL hS)
    rotate_left
    all_goals first
      | (obtain ⟨w3, hw3⟩ : ∃ w3, ((((((((w2.setCell ⟨wa.heap.size, 0, none⟩ (.int .i64 c.kind)).setCell ⟨wa.heap.size, 1, none⟩ (.slice v.a.A v.a.n v.a.c)).setCell ⟨wa.heap.size, 2, none⟩ (.slice v.b.A v.b.n v.b.c)).setCell ⟨wa.heap.size, 3, none⟩ (.slice v.c.A v.c.n v.c.c)).setCell ⟨wa.heap.size, 4, none⟩ (.slice v.d.A v.d.n v.d.c)).setCell ⟨wa.heap.size, 5, none⟩ (.slice v.e.A v.e.n v.e.c)).setCell ⟨wa.heap.size, 6, none⟩ (.int .i64 c.K)).setCell ⟨wa.heap.size, 7, none⟩ (.slice v.r.A v.r.n v.r.c)) = w3 := ⟨_, rfl⟩
         rw [hw3]
         have hQ3 := HQ.out
         have kQ3 := HKQ.out
         rw [hw3] at hQ3 kQ3
         have HC3 : Hid (w3.heap[wa.heap.size]? = some (.cells (v.cells c.kind c.K) 37 (0, 0))) := Lib.hid hQ3
         have HCN := Lib.hid ((HM.out.kp kQ3 (by simp; omega)).con HSL.out.1 HSL.out.2.1 HSL.out.2.2.1 HSL.out.2.2.2.1 HSL.out.2.2.2.2.1 HSL.out.2.2.2.2.2.1 HSL.out.2.2.2.2.2.2)
         have HRW := Lib.hid ((RowsO.kp HY.out kQ3 (by simp)).rows (by rw [Keep.caseD_len]; omega) (fun r hr => by have := (Keep.caseD_dom DD 6 3 r hr).2; omega))
         have B3 := Lib.hid (B2.out.trans (kQ3.below B2.out.size (Nat.le_refl _)))
         obtain ⟨g, hg⟩ : ∃ g, g = wa.heap.size := ⟨_, rfl⟩
         rw [← hg] at HC3
         rw [← hg]
         clear hg hw3 hQ3 kQ3 HQ HKQ HM HY B2 HSL hS hS9 e0 e1 e2 e3 e4 e5 e6 e7 f0 f1 f2 f3 f4 f5 f6 f7)
      | skip
    all_goals
      first
        | go_wp2_with fail
        | skip
      go_meet
      case rel => exact ⟨g, v, y, rfl, rfl, HC3, HCN, HRW, B3⟩
  case rest =>
    obtain ⟨g, v, y, rfl, rfl, HC3, HCN, HRW, B3⟩ := hcut
    obtain ⟨w3, rfl⟩ : ∃ w3, w3 = wc := ⟨_, rfl⟩
    clear CM CK HS HNA HLT
    have HD := Lib.hid (Keep.caseD_dom DD 6 3)
    have HDL := Lib.hid (Keep.caseD_ofL DD 6 3)
    have HDN := Lib.hid (Keep.caseD_len DD 6 3)
    obtain ⟨D, hDD⟩ : ∃ D, D = Keep.caseD DD 6 3 := ⟨_, rfl⟩
    rw [← hDD] at HRW HD HDL HDN
    clear hDD
    have HKN : Hid (mulE c D = none → solsE c D 4000 = []) := Lib.hid (by
      have hl := HDN.out
      match D, hl with
      | [A, Bs, C], _ =>
        have qa := HD.out A (by simp)
        have qb := HD.out Bs (by simp)
        have qc := HD.out C (by simp)
        exact Keep.keep_none HKD.out HRT.out qa.1 qb.1 qc.1 (Nat.le_trans (Nat.mul_le_mul qa.2 qb.2) (by decide)))
    have HKS : Hid (∀ E, mulE c D = some E → E.length = 3 ∧ (∀ i, i < 3 → ∀ v ∈ E.getD i [], v ∈ D.getD i []) ∧ (∀ r ∈ solsE c D 4000, r.length = 3 ∧ ∀ i, i < 3 → r.getD i 0 ∈ E.getD i []) ∧ mulE c E = some E ∧ ∀ l ∈ E, l.length ≤ 36) := Lib.hid (by
      have hl := HDN.out
      match D, hl with
      | [A, Bs, C], _ =>
        have qa := HD.out A (by simp)
        have qb := HD.out Bs (by simp)
        have qc := HD.out C (by simp)
        exact fun E h => Keep.keep_some HKD.out HRT.out qa.1 qb.1 qc.1 qa.2 qb.2 h)
    have HOV : Hid (overP 4000 1 D = false) := Lib.hid (by
      have hl := HDN.out
      match D, hl with
      | [A, Bs, C], _ => exact Keep.over_small (HD.out A (by simp)).2 (HD.out Bs (by simp)).2 (HD.out C (by simp)).2)
    have HSO : Hid ((solsE c D 4000).length ≤ 1000000 ∧ ∀ r ∈ solsE c D 4000, r.length ≤ 1000) := Lib.hid ⟨Nat.le_trans (List.length_filter_le _ _) (prod_len (by omega)), fun r hr => by
      have := prod_row (List.mem_filter.1 hr).1
      rw [this, HDN.out]; omega⟩
    have BW := Lib.hid (HB0.out.trans (B3.out.mono HB0.out.size))
    have HS : Hid (∀ W, Below w3.heap.size w3 W → Below w3.heap.size w3 W ∧ W.cell? ⟨g, 0, none⟩ = some (.int .i64 c.kind) ∧ W.cell? ⟨g, 1, none⟩ = some (.slice v.a.A v.a.n v.a.c) ∧ W.cell? ⟨g, 2, none⟩ = some (.slice v.b.A v.b.n v.b.c) ∧ W.cell? ⟨g, 3, none⟩ = some (.slice v.c.A v.c.n v.c.c) ∧ W.cell? ⟨g, 4, none⟩ = some (.slice v.d.A v.d.n v.d.c) ∧ W.cell? ⟨g, 5, none⟩ = some (.slice v.e.A v.e.n v.e.c) ∧ W.cell? ⟨g, 6, none⟩ = some (.int .i64 c.K) ∧ W.cell? ⟨g, 7, none⟩ = some (.slice v.r.A v.r.n v.r.c)) := Lib.hid (fun W hW => by
      have h := (hW.block _ (Array.getElem?_eq_some_iff.1 HC3.out).1).trans HC3.out
      exact ⟨hW, box_cell h rfl, box_cell h rfl, box_cell h rfl, box_cell h rfl, box_cell h rfl, box_cell h rfl, box_cell h rfl, box_cell h rfl⟩)
    have CD : Hid (∀ W, Below w3.heap.size w3 W → Calls Tryz.prog 44 #[.slice y.A y.n y.c] W fun e w' => (∃ (y' : Sl), e = .returned (.slice y'.A y'.n y'.c) ∧ DomsIn w' y' D) ∧ Below W.heap.size W w') := Lib.hid (fun W hW => by
      refine (doms_any y D W (HRW.out.below hW) (by rw [HDN.out]; omega) (fun r hr => by have := (HD.out r hr).2; omega)).mono ?_
      rintro e w' ⟨⟨y', ds, rfl, h⟩, b⟩
      rw [HDL.out] at h
      exact ⟨⟨y', rfl, h.within (by rw [HDN.out]; omega)⟩, b⟩)
    have CF0 := Lib.hid (fun W y' (hW : Below w3.heap.size w3 W) (hd : DomsIn W y' D) => mul_any v c y' D W (HE.out.below (BW.out.trans (hW.mono BW.out.size))) (HT.out.below (BW.out.trans (hW.mono BW.out.size))) (HCN.out.below hW) hd)
    have CR0 := Lib.hid (sols_any v c y D 4000 5 w3 HCN.out HRW.out HR5.out (by omega) (by rw [HDN.out, HC3k.out.1, HC3k.out.2]) (fun l hl => by have := (HD.out l hl).2; omega) (fun l hl z hz => Keep.domL_in (HD.out l hl).1 z hz))
    have CW := Lib.hid (fun W (hW : Below w3.heap.size w3 W) => mulWakes_any W (HE.out.below (BW.out.trans (hW.mono BW.out.size))) (HT.out.below (BW.out.trans (hW.mono BW.out.size))))
    have CF9 := Lib.hid (fun W y' E (hW : Below w3.heap.size w3 W) (hd : DomsIn W y' E) => mul_any v c y' E W (HE.out.below (BW.out.trans (hW.mono BW.out.size))) (HT.out.below (BW.out.trans (hW.mono BW.out.size))) (HCN.out.below hW) hd)
    have HYN : Hid (y.n = 3) := Lib.hid (by rw [HRW.out.len, HDN.out])
    rw [HOV.out] at CR0
    obtain ⟨ME, hME⟩ : ∃ ME, ME = mulE c D := ⟨_, rfl⟩
    obtain ⟨SO, hSO⟩ : ∃ SO, SO = solsE c D 4000 := ⟨_, rfl⟩
    rw [← hSO] at CR0 HKN HKS HSO
    rw [← hME] at CF0 HKN HKS
    obtain ⟨bo, hbo⟩ : ∃ bo, bo = ME.isSome := ⟨_, rfl⟩
    obtain ⟨R, hR⟩ : ∃ R, R = ME.getD [] := ⟨_, rfl⟩
    rw [← hbo, ← hR] at CF0
    have HN : Hid (bo = false → SO = []) := Lib.hid (fun h => HKN.out (by
      rw [hbo] at h
      simpa using h))
    have HYS : Hid (bo = true → R.length = 3 ∧ (∀ i, i < 3 → ∀ v ∈ R.getD i [], v ∈ D.getD i []) ∧ (∀ r ∈ SO, r.length = 3 ∧ ∀ i, i < 3 → r.getD i 0 ∈ R.getD i []) ∧ mulE c R = some R ∧ ∀ l ∈ R, l.length ≤ 36) := Lib.hid (fun h => by
      rw [hbo] at h
      obtain ⟨E, hE9⟩ := Option.isSome_iff_exists.1 h
      have hr : R = E := by rw [hR, hE9]; rfl
      have hr9 := hr ▸ hE9
      exact HKS.out R hr9)
    clear hME hSO HC3 HOV HC3k hbo hR HKN HKS
    have hS0 := HS.out w3 (Below.refl _ _)
    obtain ⟨-, c0, c1, c2, c3, c4, c5, c6, c7⟩ := hS0
    go_wp2_with fail
    refine CR0.out.mono ?_
    rintro e w4 ⟨⟨ys, xs4, rfl, h4⟩, b4⟩
    have HSR := Lib.hid (h4.rows HSO.out.1 (fun r hr => by have := HSO.out.2 r hr; omega))
    have B4 : Hid (Below w3.heap.size w3 w4) := Lib.hid b4
    clear CR0 h4 b4 c0 c1 c2 c3 c4 c5 c6 c7
    have HS4 : Hid (∀ W, Below w4.heap.size w4 W → Below w4.heap.size w4 W ∧ W.cell? ⟨g, 0, none⟩ = some (.int .i64 c.kind) ∧ W.cell? ⟨g, 1, none⟩ = some (.slice v.a.A v.a.n v.a.c) ∧ W.cell? ⟨g, 2, none⟩ = some (.slice v.b.A v.b.n v.b.c) ∧ W.cell? ⟨g, 3, none⟩ = some (.slice v.c.A v.c.n v.c.c) ∧ W.cell? ⟨g, 4, none⟩ = some (.slice v.d.A v.d.n v.d.c) ∧ W.cell? ⟨g, 5, none⟩ = some (.slice v.e.A v.e.n v.e.c) ∧ W.cell? ⟨g, 6, none⟩ = some (.int .i64 c.K) ∧ W.cell? ⟨g, 7, none⟩ = some (.slice v.r.A v.r.n v.r.c)) := Lib.hid (fun W hW => ⟨hW, (HS.out W (B4.out.trans (hW.mono B4.out.size))).2⟩)
    have CD4 := Lib.hid (fun W (hW : Below w4.heap.size w4 W) => CD.out W (B4.out.trans (hW.mono B4.out.size)))
    have CF4 := Lib.hid (fun W y' (hW : Below w4.heap.size w4 W) (hd : DomsIn W y' D) => CF0.out W y' (B4.out.trans (hW.mono B4.out.size)) hd)
    clear CD CF0
    go_upto_region 3 with fail
    have hS := HS4.out w4.drew (Below.refl _ _).drew
    go_region_held3 (fun W => Below w4.heap.size w4 W ∧ W.cell? ⟨g, 0, none⟩ = some (.int .i64 c.kind) ∧ W.cell? ⟨g, 1, none⟩ = some (.slice v.a.A v.a.n v.a.c) ∧ W.cell? ⟨g, 2, none⟩ = some (.slice v.b.A v.b.n v.b.c) ∧ W.cell? ⟨g, 3, none⟩ = some (.slice v.c.A v.c.n v.c.c) ∧ W.cell? ⟨g, 4, none⟩ = some (.slice v.d.A v.d.n v.d.c) ∧ W.cell? ⟨g, 5, none⟩ = some (.slice v.e.A v.e.n v.e.c) ∧ W.cell? ⟨g, 6, none⟩ = some (.int .i64 c.K) ∧ W.cell? ⟨g, 7, none⟩ = some (.slice v.r.A v.r.n v.r.c)) (first | with_reducible assumption)
      (first
        | (go_at_call 44; with_reducible refine (CD4.out _ hS.1).mono ?_; rintro e w6 ⟨⟨y6, rfl, h6⟩, b6⟩; have HD6 := Lib.hid h6; have hS := HS4.out _ (hS.1.trans (b6.mono hS.1.size)))
        | (go_at_call 43; with_reducible refine (CF4.out _ y6 hS.1 HD6.out).mono ?_; rintro e w7 ⟨⟨y7, rfl, h7⟩, b7⟩; have HD7 := Lib.hid h7; have B47 := Lib.hid (hS.1.trans (b7.mono hS.1.size)); have hS := HS4.out _ B47.out))
    clear CD4 CF4 hS HS4
    have B7 := Lib.hid (B4.out.trans (B47.out.mono B4.out.size))
    have HSR7 := Lib.hid (HSR.out.below B47.out)
    have hysn : ys.n ≤ 1000000 := by rw [HSR.out.len]; exact HSO.out.1
    clear HSR B47
    cases hbo : bo with
    | false =>
      rw [hbo] at HN
      have hse : ys.n = 0 := by rw [HSR7.out.len, HN.out rfl]; rfl
      rw [hse]
      clear HYS CF9 HKD HRW HD HDN HDL HSR7
      go_wp2_with fail
      refine (CW.out w7 B7.out).mono ?_
      rintro e w9 ⟨rfl, b9⟩
      have BE := Lib.hid (BW.out.trans ((B7.out.trans (b9.mono B7.out.size)).mono BW.out.size))
      clear b9 CW
      go_wp2_with fail
      go_ret
      exact ⟨rfl, BE.out⟩
    | true =>
      rw [hbo] at HYS
      obtain ⟨r1, r2, r3, r4, r5⟩ := HYS.out rfl
      have HR1 := Lib.hid r1
      have HR2 := Lib.hid r2
      have HR3 := Lib.hid r3
      have HR4 := Lib.hid r4
      have HR5' := Lib.hid r5
      have hy7 : y7.n = 3 := by rw [HD7.out.len, r1]
      have hy3 := HYN.out
      obtain ⟨A7, n7, k7⟩ := y7
      have hy7 : n7 = 3 := hy7
      subst hy7
      obtain ⟨g7, o7, -, ex7, -⟩ := HD7.out.at_ 0 (by show 0 < 3; omega)
      have ex7 : A7 = some ⟨g7, o7, none⟩ := ex7
      subst ex7
      rw [hy3]
      clear HYS HN r1 r2 r3 r4 r5 HKD hbo
      go_wp2_with fail
      go_loopw [59] (fun i wr => ∃ k : Nat, i = .int .i64 (k : Nat) ∧ k ≤ 3 ∧ Hid (Below w7.heap.size w7 wr)) (fun i _ => 3 - (intOf i).toNat)
      case atStart => exact ⟨0, rfl, by omega, Lib.hid (Below.refl _ _)⟩
      case round =>
        obtain ⟨k, rfl, hk, HB⟩ := hrel
        by_cases hlt : k < 3
        · have B8 := Lib.hid (B7.out.trans (HB.out.mono B7.out.size))
          obtain ⟨ad, u, ex, qx, ux⟩ := rows_at (HRW.out.below B8.out) k (by rw [hy3]; exact hlt)
          obtain ⟨d, q0, q1, q2, hD⟩ := (HD7.out.below HB.out).at2 k hlt
          rw [ex]
          have BE := Lib.hid (BW.out.trans (B8.out.mono BW.out.size))
          have HIN : Hid (∀ v ∈ R.getD k [], v ∈ D.getD k []) := Lib.hid (HR2.out k hlt)
          generalize R.getD k [] = L at hD HIN
          generalize D.getD k [] = M at ux HIN
          have CL := Lib.hid (list_dom d.val L wr hD (HT.out.below BE.out))
          have HLL : Hid (L.length ≤ 2000064) := Lib.hid hD.len_lim
          have HUX := Lib.hid ux
          clear hD ux
          go_wp2_with fail
          refine CL.out.mono ?_
          rintro e w2 ⟨v2, rfl, h2, b2⟩
          obtain ⟨Y2, k2, rfl⟩ := slice_row h2
          have HY2 : Hid (IsInts w2 ⟨Y2, L.length, k2⟩ L) := Lib.hid (ints_own (y := ⟨Y2, L.length, k2⟩) h2 (by have := HLL.out; omega))
          have HU2 := Lib.hid (HUX.out.below b2)
          have HB2 := Lib.hid (HB.out.trans (b2.mono HB.out.size))
          have CC : Hid (∀ z ∈ L, Calls Tryz.prog 38 #[.slice u.A u.n u.c, .int .i64 z] w2 fun e w' => e = .returned (.bool true) ∧ w2 = w') := Lib.hid (fun z hz => by
            have h := contains_ints u M z w2 HU2.out
            rw [show M.any (· == z) = true from List.any_eq_true.2 ⟨z, HIN.out z hz, by simp⟩] at h
            exact h)
          clear h2 b2 CL HUX HIN q0 q1 q2 qx ex B8 BE HB
          obtain ⟨ln, hln⟩ : ∃ ln, ln = L.length := ⟨_, rfl⟩
          rw [← hln] at HY2 ⊢
          have HLN := Lib.hid hln
          have hl9 : ln ≤ 2000064 := by rw [hln]; exact HLL.out
          clear hln HU2
          go_wp2_with fail
          go_loopw [70] (fun j wr' => ∃ m : Nat, j = .int .i64 (m : Nat) ∧ m ≤ ln ∧ Hid (w2 = wr')) (fun j _ => ln - (intOf j).toNat)
          case atStart => exact ⟨0, rfl, by omega, Lib.hid rfl⟩
          case round =>
            obtain ⟨m, rfl, hm, HW⟩ := hrel
            obtain rfl := HW.out
            by_cases hlm : m < ln
            · obtain ⟨ad2, rfl, -, hc2⟩ := HY2.out.lies (by show 0 < ln; omega)
              have hcm : w2.cell? (ad2.add m) = some (.int .i64 (L.getD m 0)) := hc2 m hlm
              have CZ := Lib.hid (CC.out (L.getD m 0) (getD_mem L m (by rw [← HLN.out]; exact hlm)))
              generalize L.getD m 0 = z at hcm CZ
              clear hc2
              go_wp2_with fail
              refine CZ.out.mono ?_
              rintro e w8 ⟨rfl, rfl⟩
              clear CZ
              go_wp2_with fail
              go_roundw
              case rel => exact ⟨m + 1, by go_num, by omega, Lib.hid (by first | rfl | trivial)⟩
              case measure => simp [intOf]; omega
            · obtain rfl : m = ln := by omega
              clear CC HY2
              go_wp2_with fail
              go_roundw
              case rel => exact ⟨k + 1, by go_num, by omega, HB2⟩
              case measure => simp [intOf]; omega
        · obtain rfl : k = 3 := by omega
          clear HRW
          obtain ⟨As, ns, ks⟩ := ys
          have hysn : ns ≤ 1000000 := hysn
          go_wp2_with fail
          go_loopw [82] (fun i wq => ∃ k : Nat, i = .int .i64 (k : Nat) ∧ k ≤ ns ∧ Hid (Below w7.heap.size w7 wq)) (fun i _ => ns - (intOf i).toNat)
          case atStart => exact ⟨0, rfl, by omega, HB⟩
          case round =>
            clear HB
            obtain ⟨k, rfl, hk, HB⟩ := hrel
            obtain ⟨w8, rfl⟩ : ∃ w8, w8 = wr := ⟨_, rfl⟩
            by_cases hlt : k < ns
            · obtain ⟨ad, z, ex, qx, zx⟩ := rows_at (HSR7.out.below HB.out) k hlt
              have ex : As = some ad := ex
              subst ex
              have hks : k < SO.length := by rw [← HSR7.out.len]; exact hlt
              obtain ⟨hr1, hr2⟩ := HR3.out _ (getD_memL SO k hks)
              have HRB : Hid (∀ i, i < 3 → -1000000 ≤ (SO.getD k []).getD i 0 ∧ (SO.getD k []).getD i 0 ≤ 1000000) := Lib.hid (fun i hi => Keep.domL_in (HD.out _ (getD_memL D i (by rw [HDN.out]; exact hi))).1 _ (HR2.out i hi _ (hr2 i hi)))
              have HRI := Lib.hid hr2
              generalize SO.getD k [] = r at zx hr1 HRB HRI
              have hzn : z.n = 3 := by rw [zx.len, hr1]
              obtain ⟨Az, nz, kz⟩ := z
              have hzn : nz = 3 := hzn
              subst hzn
              have HZX := Lib.hid zx
              clear hr1 hr2 zx hks
              go_wp2_with fail
              clear qx
              go_loopw [88] (fun j wq => ∃ m : Nat, j = .int .i64 (m : Nat) ∧ m ≤ 3 ∧ Hid (Below w8.heap.size w8 wq)) (fun j _ => 3 - (intOf j).toNat)
              case atStart => exact ⟨0, rfl, by omega, Lib.hid (Below.refl _ _)⟩
              case round =>
                obtain ⟨m, rfl, hm, HC⟩ := hrel
                obtain ⟨w9, rfl⟩ : ∃ w9, w9 = wr := ⟨_, rfl⟩
                by_cases hlm : m < 3
                · obtain ⟨ad2, e2, -, hc2⟩ := (HZX.out.below HC.out).lies (by show 0 < 3; omega)
                  have e2 : Az = some ad2 := e2
                  subst e2
                  have hcm : w9.cell? (ad2.add m) = some (.int .i64 (r.getD m 0)) := hc2 m hlm
                  obtain ⟨d, q0, q1, q2, hD⟩ := (HD7.out.below (HB.out.trans (HC.out.mono HB.out.size))).at2 m hlm
                  have CH := Lib.hid (has_yes hD (HRI.out m hlm) (HRB.out m hlm))
                  generalize r.getD m 0 = z0 at hcm CH
                  clear hc2 hD
                  go_wp2_with fail
                  refine CH.out.mono ?_
                  rintro e wA ⟨rfl, bA⟩
                  have HA := Lib.hid (HC.out.trans (bA.mono HC.out.size))
                  clear CH bA q0 q1 q2 hcm
                  go_wp2_with fail
                  go_roundw
                  case rel => exact ⟨m + 1, by go_num, by omega, HA⟩
                  case measure => simp [intOf]; omega
                · obtain rfl : m = 3 := by omega
                  have HA := Lib.hid (HB.out.trans (HC.out.mono HB.out.size))
                  clear HZX HRB HRI HC HB
                  go_wp2_with fail
                  go_roundw
                  case rel => exact ⟨k + 1, by go_num, by omega, HA⟩
                  case measure => simp [intOf]; omega
            · obtain rfl : k = ns := by omega
              have B8 := Lib.hid (B7.out.trans (HB.out.mono B7.out.size))
              obtain ⟨-, c0, c1, c2, c3, c4, c5, c6, c7⟩ := HS.out w8 B8.out
              have CF := CF9.out w8 _ R B8.out (HD7.out.below HB.out)
              rw [HR4.out] at CF
              have CF := Lib.hid CF
              have HD8 := Lib.hid (HD7.out.below HB.out)
              have HRL : Hid (R.length ≤ 1000) := Lib.hid (by have := HR1.out; omega)
              clear HR1 HR2 HR3 HR4 HSO HD HDN HDL HS CF9 HB HSR7
              go_wp2_with fail
              refine CF.out.mono ?_
              rintro e wA ⟨⟨yA, rfl, hA⟩, bA⟩
              have HDA : Hid (DomsIn wA yA R) := Lib.hid hA
              have HDB := Lib.hid (HD8.out.below bA)
              have BA := Lib.hid (B8.out.trans (bA.mono B8.out.size))
              clear CF hA bA c0 c1 c2 c3 c4 c5 c6 c7 HD8
              go_wp2_with fail
              refine (CW.out wA BA.out).mono ?_
              rintro e wB ⟨rfl, bB⟩
              have HDA2 := Lib.hid (HDA.out.below bB)
              have HDB2 := Lib.hid (HDB.out.below bB)
              have BB := Lib.hid (BA.out.trans (bB.mono BA.out.size))
              have BE := Lib.hid (BW.out.trans (BB.out.mono BW.out.size))
              have CL1 := Lib.hid (lists_any yA R wB HDA2.out (HT.out.below BE.out) HRL.out)
              clear bB CW HDA HDB
              go_wp2_with fail
              refine CL1.out.mono ?_
              rintro e wC ⟨⟨yC, xsC, rfl, hC⟩, bC⟩
              have BC := Lib.hid (BE.out.trans (bC.mono BE.out.size))
              have HRC := Lib.hid (hC.rows (by have := HRL.out; omega) (fun r hr => by have := HR5'.out r hr; omega))
              have CL2 := lists_any _ R wC (HDB2.out.below bC) (HT.out.below BC.out) HRL.out
              have CL2 := Lib.hid CL2
              clear CL1 hC bC
              go_wp2_with fail
              refine CL2.out.mono ?_
              rintro e wD ⟨⟨yD, xsD, rfl, hD⟩, bD⟩
              have BD := Lib.hid (BC.out.trans (bD.mono BC.out.size))
              have HRD := Lib.hid (hD.rows (by have := HRL.out; omega) (fun r hr => by have := HR5'.out r hr; omega))
              have CQ := same2_any yC yD _ _ wD (HRC.out.below bD) HRD.out
              rw [beq_self_eq_true] at CQ
              have CQ := Lib.hid CQ
              clear CL2 hD bD
              go_wp2_with fail
              refine CQ.out.mono ?_
              rintro e wE ⟨rfl, bE⟩
              have BF := Lib.hid (BD.out.trans (bE.mono BD.out.size))
              clear bE CQ
              go_wp2_with fail
              go_ret
              exact ⟨rfl, BF.out⟩
end Go.Proofs.YtcmdgjkoalophaaGreatDoor

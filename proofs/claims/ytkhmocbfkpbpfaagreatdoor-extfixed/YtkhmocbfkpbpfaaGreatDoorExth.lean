/- What is left of an absolute value's, a minimum's, a maximum's domains: no solution is lost, nothing is added, filtered again all is left; of fixed values just if the constraint holds. No walk. -/
import Derived.Test.YtkhmocbfkpbpfaaGreatDoorMkst
import Derived.Test.YtkhmocbfkpbpfaaGreatDoorLay1
namespace Go.Proofs.YtkhmocbfkpbpfaaGreatDoor
open Go.RowKit

theorem holds_two {c : ConL} {a b : Int} (hk : c.kind = 8) (l1 : c.A.length = 2) : holdsR c [a, b] = decide (absV a = b) := by
  unfold holdsR
  have hA : valsE (localE c).A [a, b] = [a, b] := by
    unfold localE
    simp only [l1]
    rfl
  rw [hA]
  unfold meetsB
  have hkk : (localE c).kind = c.kind := rfl
  rw [hkk, if_neg (by omega), if_pos (by omega), hk]
  rfl
theorem holds_thr {c : ConL} {a b d : Int} (hk : c.kind = 9 ∨ c.kind = 10) (l1 : c.A.length = 3) : holdsR c [a, b, d] = decide (kindV c.kind a b = some d) := by
  unfold holdsR
  have hA : valsE (localE c).A [a, b, d] = [a, b, d] := by
    unfold localE
    simp only [l1]
    rfl
  rw [hA, kindV_sel hk]
  unfold meetsB
  have hkk : (localE c).kind = c.kind := rfl
  rw [hkk, if_neg (by omega), if_pos (by omega)]
  rcases hk with hk | hk
  · rw [hk, Bool.eq_iff_iff]
    simp [worksB, selV]
  · rw [hk, Bool.eq_iff_iff]
    simp [worksB, selV]

theorem mem_absA {A B : List Int} {v : Int} : v ∈ absA A B ↔ v ∈ A ∧ absV v ∈ B := by
  unfold absA
  rw [List.mem_filter, decide_eq_true_eq]
theorem mem_absB {A B : List Int} {v : Int} : v ∈ absB A B ↔ v ∈ B ∧ ∃ a, a ∈ A ∧ absV a = v := by
  unfold absB
  rw [List.mem_map]
  constructor
  · rintro ⟨a, ha, rfl⟩
    obtain ⟨q1, q2⟩ := mem_absA.1 ha
    exact ⟨q2, a, q1, rfl⟩
  · rintro ⟨q2, a, q1, rfl⟩
    exact ⟨a, mem_absA.2 ⟨q1, q2⟩, rfl⟩
theorem absB_ne {A B : List Int} (h : absA A B ≠ []) : absB A B ≠ [] := by
  intro e; apply h; simpa [absB] using e
/-- What is left of an absolute value's domains. -/
theorem extE_two {c : ConL} {A B : List Int} (hf : fitsE c [A, B] 8 10 = true) (hk : c.kind = 8) (hA : DomL A) (hB : DomL B) :
    extE c [A, B] = if absA A B = [] then none else some [ofL (absA A B), ofL (absB A B)] := by
  rw [extE_is hf, extR_two hk]
  by_cases h : absA A B = []
  · rw [if_pos h]
    have h2 : absB A B = [] := by unfold absB; rw [h]; rfl
    rw [h, h2]
    rfl
  · rw [if_neg h]
    obtain ⟨t, ht⟩ := List.exists_mem_of_ne_nil _ h
    obtain ⟨q1, q2⟩ := mem_absA.1 ht
    have k1 := ofL_ne (ofErr_sub (hA.2 (List.ne_nil_of_mem q1)) h (fun v hv => (mem_absA.1 hv).1)) h
    have k2 := ofL_ne (ofErr_sub (hB.2 (List.ne_nil_of_mem q2)) (absB_ne h) (fun v hv => (mem_absB.1 hv).1)) (absB_ne h)
    rw [if_neg]
    simp [k1, k2]
/-- Where few pairs are looked at: what is left. -/
theorem extE_few {c : ConL} {A B C : List Int} (hf : fitsE c [A, B, C] 8 10 = true) (hk : c.kind = 9 ∨ c.kind = 10) (hA : DomL A) (hB : DomL B) (hC : DomL C) (hn : A.length * B.length ≤ 4096) :
    extE c [A, B, C] = if hitsE (kindV c.kind) C A B = [] then none else some [ofL (h1 (hitsE (kindV c.kind) C A B)), ofL (h2 (hitsE (kindV c.kind) C A B)), ofL (h3 (hitsE (kindV c.kind) C A B))] := by
  have hm : extL c.kind A B C = [ofL (h1 (hitsE (kindV c.kind) C A B)), ofL (h2 (hitsE (kindV c.kind) C A B)), ofL (h3 (hitsE (kindV c.kind) C A B))] := by unfold extL; rw [if_pos hn]
  rw [extE_is hf, extR_thr hk, hm]
  by_cases h : hitsE (kindV c.kind) C A B = []
  · rw [if_pos h, h]
    rfl
  · rw [if_neg h]
    obtain ⟨n1, n2, n3⟩ := h_ne h
    obtain ⟨t, ht⟩ := List.exists_mem_of_ne_nil _ h
    obtain ⟨q1, q2, q3, q4⟩ := mem_hitsE.1 ht
    have k1 := ofL_ne (ofErr_sub (hA.2 (List.ne_nil_of_mem q1)) n1 (fun v hv => (mem_h1.1 hv).1)) n1
    have k2 := ofL_ne (ofErr_sub (hB.2 (List.ne_nil_of_mem q2)) n2 (fun v hv => (mem_h2.1 hv).1)) n2
    have k3 := ofL_ne (ofErr_sub (hC.2 (List.ne_nil_of_mem q4)) n3 (fun v hv => (mem_h3.1 hv).1)) n3
    rw [if_neg]
    simp [k1, k2, k3]

theorem list_two {D : List (List Int)} (h : D.length = 2) : ∃ A B, D = [A, B] := by
  match D, h with
  | [A, B], _ => exact ⟨A, B, rfl⟩
theorem list_thr {D : List (List Int)} (h : D.length = 3) : ∃ A B C, D = [A, B, C] := by
  match D, h with
  | [A, B, C], _ => exact ⟨A, B, C, rfl⟩
theorem nums_two {D : List Int} (h : D.length = 2) : ∃ a b, D = [a, b] := by
  match D, h with
  | [a, b], _ => exact ⟨a, b, rfl⟩
theorem nums_thr {D : List Int} (h : D.length = 3) : ∃ a b d, D = [a, b, d] := by
  match D, h with
  | [a, b, d], _ => exact ⟨a, b, d, rfl⟩
theorem sol_abs {c : ConL} {A B : List Int} {m : Nat} {r : List Int} (hk : c.kind = 8) (hr : rightE c 256 = 0) (h : r ∈ solsE c [A, B] m) : ∃ x, r = [x, absV x] ∧ x ∈ absA A B := by
  obtain ⟨h1, h2, h3⟩ := sol_in h
  obtain ⟨x, y, rfl⟩ := nums_two h1
  rw [holds_two hk (two_abs hr hk).1, decide_eq_true_eq] at h3
  subst h3
  exact ⟨x, rfl, mem_absA.2 ⟨h2 0 (by simp), h2 1 (by simp)⟩⟩
theorem sol_ext {c : ConL} {A B C : List Int} {m : Nat} {r : List Int} (hk : c.kind = 9 ∨ c.kind = 10) (hr : rightE c 256 = 0) (h : r ∈ solsE c [A, B, C] m) : ∃ x y z, r = [x, y, z] ∧ (x, y, z) ∈ hitsE (kindV c.kind) C A B := by
  obtain ⟨h1, h2, h3⟩ := sol_in h
  obtain ⟨x, y, z, rfl⟩ := nums_thr h1
  rw [holds_thr hk (three_ext hr hk).1, decide_eq_true_eq] at h3
  exact ⟨x, y, z, rfl, mem_hitsE.2 ⟨h2 0 (by simp), h2 1 (by simp), h3, h2 2 (by simp)⟩⟩

/-- No solution is lost where nothing is left. -/
theorem extKeep_none {c : ConL} {D : List (List Int)} {m : Nat} (hk : 8 ≤ c.kind ∧ c.kind ≤ 10) (hr : rightE c 256 = 0) (hl : D.length = c.A.length + c.B.length) (hd : ∀ l ∈ D, DomL l ∧ l.length ≤ 6) (_ho : overP 4000 1 D = false)
    (h : extE c D = none) : solsE c D m = [] := by
  apply List.eq_nil_iff_forall_not_mem.2
  intro r hrr
  by_cases h8 : c.kind = 8
  · obtain ⟨l1, l2⟩ := two_abs hr h8
    obtain ⟨A, B, rfl⟩ := list_two (show D.length = 2 by omega)
    obtain ⟨x, rfl, hx⟩ := sol_abs h8 hr hrr
    obtain ⟨q1, q2⟩ := mem_absA.1 hx
    rw [extE_two (fits_two h8 hr (List.ne_nil_of_mem q1) (List.ne_nil_of_mem q2)) h8 (hd A (by simp)).1 (hd B (by simp)).1, if_neg (List.ne_nil_of_mem hx)] at h
    cases h
  · have h9 : c.kind = 9 ∨ c.kind = 10 := by omega
    obtain ⟨l1, l2⟩ := three_ext hr h9
    obtain ⟨A, B, C, rfl⟩ := list_thr (show D.length = 3 by omega)
    obtain ⟨x, y, z, rfl, ht⟩ := sol_ext h9 hr hrr
    obtain ⟨q1, q2, q3, q4⟩ := mem_hitsE.1 ht
    have la := (hd A (by simp)).2
    have lb := (hd B (by simp)).2
    rw [extE_few (fits_thr h9 hr (List.ne_nil_of_mem q1) (List.ne_nil_of_mem q2) (List.ne_nil_of_mem q4)) h9 (hd A (by simp)).1 (hd B (by simp)).1 (hd C (by simp)).1 (Nat.le_trans (Nat.mul_le_mul la lb) (by decide)), if_neg (List.ne_nil_of_mem ht)] at h
    cases h

theorem keep_two {c : ConL} {A B : List Int} {m : Nat} {E : List (List Int)} (hk : c.kind = 8) (hr : rightE c 256 = 0) (hA : DomL A) (hB : DomL B) (la : A.length ≤ 6)
    (h : extE c [A, B] = some E) : E.length = 2 ∧ (∀ i, i < 2 → ∀ v ∈ E.getD i [], v ∈ [A, B].getD i []) ∧ (∀ r ∈ solsE c [A, B] m, r.length = 2 ∧ ∀ i, i < 2 → r.getD i 0 ∈ E.getD i []) ∧ extE c E = some E ∧ ∀ l ∈ E, l.length ≤ 36 := by
  have hf : fitsE c [A, B] 8 10 = true := by
    cases hf : fitsE c [A, B] 8 10 with
    | true => rfl
    | false => rw [extE_none hf] at h; cases h
  rw [extE_two hf hk hA hB] at h
  split at h
  · cases h
  · rename_i hne
    injection h with h
    subst h
    have nb := absB_ne hne
    have m1 : ∀ v ∈ absA A B, v ∈ A := fun v hv => (mem_absA.1 hv).1
    have m2 : ∀ v ∈ absB A B, v ∈ B := fun v hv => (mem_absB.1 hv).1
    have o1 : ∀ v, v ∈ ofL (absA A B) ↔ v ∈ absA A B := fun v => mem_ofL hA hne m1
    have o2 : ∀ v, v ∈ ofL (absB A B) ↔ v ∈ absB A B := fun v => mem_ofL hB nb m2
    have q1 : (absA A B).length ≤ 6 := Nat.le_trans (List.length_filter_le _ _) la
    have l1 : (ofL (absA A B)).length ≤ 36 := Nat.le_trans (ofL_short _) (by omega)
    have l2 : (ofL (absB A B)).length ≤ 36 := Nat.le_trans (ofL_short _) (by unfold absB; rw [List.length_map]; omega)
    obtain ⟨t0, ht0⟩ := List.exists_mem_of_ne_nil _ hne
    obtain ⟨g1, g2⟩ := mem_absA.1 ht0
    have k1 := ofL_ne (ofErr_sub (hA.2 (List.ne_nil_of_mem g1)) hne m1) hne
    have k2 := ofL_ne (ofErr_sub (hB.2 (List.ne_nil_of_mem g2)) nb m2) nb
    have hb : ∀ x, x ∈ absA A B → absV x ∈ absB A B := fun x hx => List.mem_map.2 ⟨x, hx, rfl⟩
    refine ⟨rfl, ?_, ?_, ?_, ?_⟩
    · intro i hi v hv
      match i, hi with
      | 0, _ => exact m1 v ((o1 v).1 hv)
      | 1, _ => exact m2 v ((o2 v).1 hv)
    · intro r hrr
      obtain ⟨x, rfl, ht⟩ := sol_abs hk hr hrr
      refine ⟨rfl, fun i hi => ?_⟩
      match i, hi with
      | 0, _ => exact (o1 x).2 ht
      | 1, _ => exact (o2 _).2 (hb x ht)
    · have hh1 : ∀ v, v ∈ absA (ofL (absA A B)) (ofL (absB A B)) ↔ v ∈ absA A B := fun v => by
        rw [mem_absA, o1, o2]
        exact ⟨fun q => q.1, fun q => ⟨q, hb v q⟩⟩
      have hh2 : ∀ v, v ∈ absB (ofL (absA A B)) (ofL (absB A B)) ↔ v ∈ absB A B := fun v => by
        rw [mem_absB, o2]
        constructor
        · exact fun q => q.1
        · intro q
          obtain ⟨-, a, ha, rfl⟩ := mem_absB.1 q
          exact ⟨q, a, (o1 a).2 (mem_absA.2 ⟨ha, (mem_absB.1 q).1⟩), rfl⟩
      have hn2 : absA (ofL (absA A B)) (ofL (absB A B)) ≠ [] := by
        intro e
        have := (hh1 t0).2 ht0
        rw [e] at this
        cases this
      rw [extE_two (fits_two hk hr k1 k2) hk (domL_ofL _) (domL_ofL _), if_neg hn2, ofL_same hA hne m1 hh1, ofL_same hB nb m2 hh2]
    · intro l hl
      simp only [List.mem_cons, List.not_mem_nil, or_false] at hl
      rcases hl with rfl | rfl
      · exact l1
      · exact l2
theorem keep_thr {c : ConL} {A B C : List Int} {m : Nat} {E : List (List Int)} (hk : c.kind = 9 ∨ c.kind = 10) (hr : rightE c 256 = 0) (hA : DomL A) (hB : DomL B) (hC : DomL C) (la : A.length ≤ 6) (lb : B.length ≤ 6)
    (h : extE c [A, B, C] = some E) : E.length = 3 ∧ (∀ i, i < 3 → ∀ v ∈ E.getD i [], v ∈ [A, B, C].getD i []) ∧ (∀ r ∈ solsE c [A, B, C] m, r.length = 3 ∧ ∀ i, i < 3 → r.getD i 0 ∈ E.getD i []) ∧ extE c E = some E ∧ ∀ l ∈ E, l.length ≤ 36 := by
  have hab : A.length * B.length ≤ 36 := Nat.mul_le_mul la lb
  have hf : fitsE c [A, B, C] 8 10 = true := by
    cases hf : fitsE c [A, B, C] 8 10 with
    | true => rfl
    | false => rw [extE_none hf] at h; cases h
  have hle := hitsE_len (kindV c.kind) C A B
  rw [extE_few hf hk hA hB hC (by omega)] at h
  split at h
  · cases h
  · rename_i hne
    injection h with h
    subst h
    obtain ⟨n1, n2, n3⟩ := h_ne hne
    have m1 : ∀ v ∈ h1 (hitsE (kindV c.kind) C A B), v ∈ A := fun v hv => (mem_h1.1 hv).1
    have m2 : ∀ v ∈ h2 (hitsE (kindV c.kind) C A B), v ∈ B := fun v hv => (mem_h2.1 hv).1
    have m3 : ∀ v ∈ h3 (hitsE (kindV c.kind) C A B), v ∈ C := fun v hv => (mem_h3.1 hv).1
    have o1 : ∀ v, v ∈ ofL (h1 (hitsE (kindV c.kind) C A B)) ↔ v ∈ h1 (hitsE (kindV c.kind) C A B) := fun v => mem_ofL hA n1 m1
    have o2 : ∀ v, v ∈ ofL (h2 (hitsE (kindV c.kind) C A B)) ↔ v ∈ h2 (hitsE (kindV c.kind) C A B) := fun v => mem_ofL hB n2 m2
    have o3 : ∀ v, v ∈ ofL (h3 (hitsE (kindV c.kind) C A B)) ↔ v ∈ h3 (hitsE (kindV c.kind) C A B) := fun v => mem_ofL hC n3 m3
    have l1 : (ofL (h1 (hitsE (kindV c.kind) C A B))).length ≤ 36 := Nat.le_trans (ofL_short _) (by simp only [h1, List.length_map]; omega)
    have l2 : (ofL (h2 (hitsE (kindV c.kind) C A B))).length ≤ 36 := Nat.le_trans (ofL_short _) (by simp only [h2, List.length_map]; omega)
    have l3 : (ofL (h3 (hitsE (kindV c.kind) C A B))).length ≤ 36 := Nat.le_trans (ofL_short _) (by simp only [h3, List.length_map]; omega)
    obtain ⟨t0, ht0⟩ := List.exists_mem_of_ne_nil _ hne
    obtain ⟨g1, g2, -, g3⟩ := mem_hitsE.1 ht0
    have ga := List.ne_nil_of_mem g1
    have gb := List.ne_nil_of_mem g2
    have gc := List.ne_nil_of_mem g3
    have k1 := ofL_ne (ofErr_sub (hA.2 ga) n1 m1) n1
    have k2 := ofL_ne (ofErr_sub (hB.2 gb) n2 m2) n2
    have k3 := ofL_ne (ofErr_sub (hC.2 gc) n3 m3) n3
    refine ⟨rfl, ?_, ?_, ?_, ?_⟩
    · intro i hi v hv
      match i, hi with
      | 0, _ => exact m1 v ((o1 v).1 hv)
      | 1, _ => exact m2 v ((o2 v).1 hv)
      | 2, _ => exact m3 v ((o3 v).1 hv)
    · intro r hrr
      obtain ⟨x, y, z, rfl, ht⟩ := sol_ext hk hr hrr
      refine ⟨rfl, fun i hi => ?_⟩
      match i, hi with
      | 0, _ => exact (o1 x).2 (List.mem_map.2 ⟨_, ht, rfl⟩)
      | 1, _ => exact (o2 y).2 (List.mem_map.2 ⟨_, ht, rfl⟩)
      | 2, _ => exact (o3 z).2 (List.mem_map.2 ⟨_, ht, rfl⟩)
    · have hh : ∀ t, t ∈ hitsE (kindV c.kind) (ofL (h3 (hitsE (kindV c.kind) C A B))) (ofL (h1 (hitsE (kindV c.kind) C A B))) (ofL (h2 (hitsE (kindV c.kind) C A B))) ↔ t ∈ hitsE (kindV c.kind) C A B := by
        intro t
        constructor
        · intro ht
          obtain ⟨q1, q2, q3, q4⟩ := mem_hitsE.1 ht
          exact mem_hitsE.2 ⟨m1 _ ((o1 _).1 q1), m2 _ ((o2 _).1 q2), q3, m3 _ ((o3 _).1 q4)⟩
        · intro ht
          obtain ⟨q1, q2, q3, q4⟩ := mem_hitsE.1 ht
          exact mem_hitsE.2 ⟨(o1 _).2 (List.mem_map.2 ⟨_, ht, rfl⟩), (o2 _).2 (List.mem_map.2 ⟨_, ht, rfl⟩), q3, (o3 _).2 (List.mem_map.2 ⟨_, ht, rfl⟩)⟩
      have hh1 : ∀ v, v ∈ h1 (hitsE (kindV c.kind) (ofL (h3 (hitsE (kindV c.kind) C A B))) (ofL (h1 (hitsE (kindV c.kind) C A B))) (ofL (h2 (hitsE (kindV c.kind) C A B)))) ↔ v ∈ h1 (hitsE (kindV c.kind) C A B) := fun v => by
        unfold h1; simp only [List.mem_map]; exact ⟨fun ⟨t, q, e⟩ => ⟨t, (hh t).1 q, e⟩, fun ⟨t, q, e⟩ => ⟨t, (hh t).2 q, e⟩⟩
      have hh2 : ∀ v, v ∈ h2 (hitsE (kindV c.kind) (ofL (h3 (hitsE (kindV c.kind) C A B))) (ofL (h1 (hitsE (kindV c.kind) C A B))) (ofL (h2 (hitsE (kindV c.kind) C A B)))) ↔ v ∈ h2 (hitsE (kindV c.kind) C A B) := fun v => by
        unfold h2; simp only [List.mem_map]; exact ⟨fun ⟨t, q, e⟩ => ⟨t, (hh t).1 q, e⟩, fun ⟨t, q, e⟩ => ⟨t, (hh t).2 q, e⟩⟩
      have hh3 : ∀ v, v ∈ h3 (hitsE (kindV c.kind) (ofL (h3 (hitsE (kindV c.kind) C A B))) (ofL (h1 (hitsE (kindV c.kind) C A B))) (ofL (h2 (hitsE (kindV c.kind) C A B)))) ↔ v ∈ h3 (hitsE (kindV c.kind) C A B) := fun v => by
        unfold h3; simp only [List.mem_map]; exact ⟨fun ⟨t, q, e⟩ => ⟨t, (hh t).1 q, e⟩, fun ⟨t, q, e⟩ => ⟨t, (hh t).2 q, e⟩⟩
      rw [extE_few (fits_thr hk hr k1 k2 k3) hk (domL_ofL _) (domL_ofL _) (domL_ofL _) (Nat.le_trans (Nat.mul_le_mul l1 l2) (by decide)), if_neg]
      · rw [ofL_same hA n1 m1 hh1, ofL_same hB n2 m2 hh2, ofL_same hC n3 m3 hh3]
      · intro e
        obtain ⟨t, ht⟩ := List.exists_mem_of_ne_nil _ hne
        have := (hh t).2 ht
        rw [e] at this
        cases this
    · intro l hl
      simp only [List.mem_cons, List.not_mem_nil, or_false] at hl
      rcases hl with rfl | rfl | rfl
      · exact l1
      · exact l2
      · exact l3
theorem extKeep_some {c : ConL} {D : List (List Int)} {m : Nat} {E : List (List Int)} (hk : 8 ≤ c.kind ∧ c.kind ≤ 10) (hr : rightE c 256 = 0) (hl : D.length = c.A.length + c.B.length) (hd : ∀ l ∈ D, DomL l ∧ l.length ≤ 6) (_ho : overP 4000 1 D = false)
    (h : extE c D = some E) : E.length = D.length ∧ (∀ i, i < D.length → ∀ v ∈ E.getD i [], v ∈ D.getD i []) ∧ (∀ r ∈ solsE c D m, r.length = D.length ∧ ∀ i, i < D.length → r.getD i 0 ∈ E.getD i []) ∧ extE c E = some E ∧ ∀ l ∈ E, l.length ≤ 36 := by
  by_cases h8 : c.kind = 8
  · obtain ⟨l1, l2⟩ := two_abs hr h8
    obtain ⟨A, B, rfl⟩ := list_two (show D.length = 2 by omega)
    exact keep_two h8 hr (hd A (by simp)).1 (hd B (by simp)).1 (hd A (by simp)).2 h
  · have h9 : c.kind = 9 ∨ c.kind = 10 := by omega
    obtain ⟨l1, l2⟩ := three_ext hr h9
    obtain ⟨A, B, C, rfl⟩ := list_thr (show D.length = 3 by omega)
    exact keep_thr h9 hr (hd A (by simp)).1 (hd B (by simp)).1 (hd C (by simp)).1 (hd A (by simp)).2 (hd B (by simp)).2 h
/-- Fixed values are left just if the constraint holds. -/
theorem extFix {c : ConL} {vs : List Int} (hk : 8 ≤ c.kind ∧ c.kind ≤ 10) (hr : rightE c 256 = 0) (hl : vs.length = c.A.length + c.B.length) (hv : ∀ q ∈ vs, -1000000 ≤ q ∧ q ≤ 1000000) :
    extE c (ones1 vs) = if holdsR c vs = true then some (ones1 vs) else none := by
  by_cases h8 : c.kind = 8
  · obtain ⟨l1, l2⟩ := two_abs hr h8
    obtain ⟨a, b, rfl⟩ := nums_two (show vs.length = 2 by omega)
    have e : ones1 [a, b] = [[a], [b]] := rfl
    rw [e, extE_is (fits_two h8 hr (by simp) (by simp)), extR_two h8, holds_two h8 l1]
    by_cases g : absV a = b
    · have q1 : absA [a] [b] = [a] := by simp [absA, g]
      have q2 : absB [a] [b] = [b] := by unfold absB; rw [q1]; simp [g]
      rw [q1, q2, ofL_one (hv a (by simp)), ofL_one (hv b (by simp))]
      simp [g]
    · have q1 : absA [a] [b] = [] := by simp [absA, g]
      have q3 : ofL ([] : List Int) = [] := by rfl
      rw [q1, q3]
      simp [g]
  · have h9 : c.kind = 9 ∨ c.kind = 10 := by omega
    obtain ⟨l1, l2⟩ := three_ext hr h9
    obtain ⟨a, b, d, rfl⟩ := nums_thr (show vs.length = 3 by omega)
    have e : ones1 [a, b, d] = [[a], [b], [d]] := rfl
    have hm : extL c.kind [a] [b] [d] = [ofL (h1 (hitsE (kindV c.kind) [d] [a] [b])), ofL (h2 (hitsE (kindV c.kind) [d] [a] [b])), ofL (h3 (hitsE (kindV c.kind) [d] [a] [b]))] := by
      unfold extL
      rw [if_pos (by simp)]
    rw [e, extE_is (fits_thr h9 hr (by simp) (by simp) (by simp)), extR_thr h9, holds_thr h9 l1, hm, hits_one]
    by_cases g : kindV c.kind a b = some d
    · rw [if_pos g]
      have q1 : ofL (h1 [(a, b, d)]) = [a] := ofL_one (hv a (by simp))
      have q2 : ofL (h2 [(a, b, d)]) = [b] := ofL_one (hv b (by simp))
      have q3 : ofL (h3 [(a, b, d)]) = [d] := ofL_one (hv d (by simp))
      rw [q1, q2, q3]
      simp [g]
    · rw [if_neg g]
      simp only [g, decide_false, Bool.false_eq_true, if_false]
      have q : ofL (h1 ([] : List (Int × Int × Int))) = [] := by rfl
      rw [q]
      rfl
theorem absA_len (A B : List Int) : (absA A B).length ≤ A.length := List.length_filter_le _ _
/-- How much is left. -/
theorem extE_sized {c : ConL} {D : List (List Int)} (hD : ∀ l ∈ D, l.length ≤ 200) : ((extE c D).getD []).length ≤ 3 ∧ ∀ r ∈ (extE c D).getD [], r.length ≤ 4096 := by
  cases hf : fitsE c D 8 10 with
  | false =>
    rw [extE_none hf]
    exact ⟨by simp, fun r hr => by cases hr⟩
  | true =>
    have key : (extR c.kind D).length ≤ 3 ∧ ∀ r ∈ extR c.kind D, r.length ≤ 4096 := by
      rcases fits_ext hf with ⟨hk, A, B, rfl, -, -⟩ | ⟨hk, A, B, C, rfl, -, -, -⟩
      · rw [extR_two hk]
        have la := hD A (by simp)
        have q := absA_len A B
        refine ⟨by simp, fun r hr => ?_⟩
        simp only [List.mem_cons, List.not_mem_nil, or_false] at hr
        rcases hr with rfl | rfl
        · exact Nat.le_trans (ofL_short _) (by omega)
        · exact Nat.le_trans (ofL_short _) (by unfold absB; rw [List.length_map]; omega)
      · rw [extR_thr hk]
        have la := hD A (by simp)
        have lb := hD B (by simp)
        have lc := hD C (by simp)
        refine ⟨by rw [extL_len]; omega, fun r hr => ?_⟩
        unfold extL at hr
        split at hr
        · rename_i hab
          have hl := hitsE_len (kindV c.kind) C A B
          simp only [List.mem_cons, List.not_mem_nil, or_false] at hr
          rcases hr with rfl | rfl | rfl
          · refine Nat.le_trans (ofL_short _) ?_; simp only [h1, List.length_map]; omega
          · refine Nat.le_trans (ofL_short _) ?_; simp only [h2, List.length_map]; omega
          · refine Nat.le_trans (ofL_short _) ?_; simp only [h3, List.length_map]; omega
        · have lt : (thirdX c.kind A B C).length ≤ 200 := Nat.le_trans (List.length_filter_le _ _) (Nat.le_trans (List.length_filter_le _ _) lc)
          split at hr <;>
          · simp only [List.mem_cons, List.not_mem_nil, or_false] at hr
            rcases hr with rfl | rfl | rfl
            · exact Nat.le_trans (List.length_filter_le _ _) (by omega)
            · exact Nat.le_trans (List.length_filter_le _ _) (by omega)
            · omega
    rw [extE_is hf]
    split
    · exact ⟨by simp, fun r hr => by cases hr⟩
    · exact key
theorem extE_small {c : ConL} {D : List (List Int)} (hD : ∀ l ∈ D, DomL l ∧ l.length ≤ 60) : ((extE c D).getD []).length ≤ 3 ∧ ∀ r ∈ (extE c D).getD [], r.length ≤ 4096 :=
  extE_sized fun l hl => by have := (hD l hl).2; omega
end Go.Proofs.YtkhmocbfkpbpfaaGreatDoor

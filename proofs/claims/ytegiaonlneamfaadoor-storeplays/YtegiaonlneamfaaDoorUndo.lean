/- What was kept and what is put back: the domains of all levels. Plain facts; no walk. -/
import Derived.Test.YtegiaonlneamfaaDoorBack
namespace Go.Proofs.YtegiaonlneamfaaDoor

/-- What was, newest first, is kept in order: the newest became what it is at the highest level of all. -/
def Good : List Vr → List Er → Prop
  | vs, [] => ∀ v ∈ vs, v.since = 0
  | vs, a :: r => a.place < vs.length ∧ a.was.since < sinceAt vs a.place ∧ (∀ v ∈ vs, v.since ≤ sinceAt vs a.place) ∧ Good (vs.set a.place a.was) r

theorem sinceAt_get {vs : List Vr} {p : Nat} {v : Vr} (h : vs[p]? = some v) : sinceAt vs p = v.since := by unfold sinceAt; rw [h]; rfl

theorem sinceAt_le {vs : List Vr} {k : Nat} (h : ∀ v ∈ vs, v.since ≤ k) (p : Nat) : sinceAt vs p ≤ k := by
  unfold sinceAt
  cases hp : vs[p]? with
  | none => exact Nat.zero_le _
  | some v => exact h v (List.mem_of_getElem? hp)

theorem sinceAt_set {vs : List Vr} {i p : Nat} {x : Vr} (hi : i < vs.length) : sinceAt (vs.set i x) p = if i = p then x.since else sinceAt vs p := by
  unfold sinceAt
  rw [List.getElem?_set]
  by_cases h : i = p
  · rw [if_pos h, if_pos h, if_pos hi]; rfl
  · rw [if_neg h, if_neg h]

theorem undo_stop {k : Nat} {vs : List Vr} (h : ∀ v ∈ vs, v.since ≤ k) (bs : List Er) : undo k vs bs = (vs, bs) := by
  cases bs with
  | nil => rfl
  | cons a r =>
    rw [undo, if_neg]
    have := sinceAt_le h a.place
    omega

theorem undo_since {k : Nat} : ∀ (bs : List Er) (vs : List Vr), Good vs bs → ∀ v ∈ (undo k vs bs).1, v.since ≤ k
  | [], vs, h, v, hv => by rw [h v hv]; exact Nat.zero_le _
  | a :: r, vs, h, v, hv => by
    rw [undo] at hv
    by_cases hk : k < sinceAt vs a.place
    · rw [if_pos hk] at hv
      exact undo_since r _ h.2.2.2 v hv
    · rw [if_neg hk] at hv
      have := h.2.2.1 v hv
      omega

theorem undo_good {k : Nat} : ∀ (bs : List Er) (vs : List Vr), Good vs bs → Good (undo k vs bs).1 (undo k vs bs).2
  | [], vs, h => h
  | a :: r, vs, h => by
    rw [undo]
    by_cases hk : k < sinceAt vs a.place
    · rw [if_pos hk]; exact undo_good r _ h.2.2.2
    · rw [if_neg hk]; exact h

theorem undo_undo {j k : Nat} (hjk : j ≤ k) : ∀ (bs : List Er) (vs : List Vr), undo j (undo k vs bs).1 (undo k vs bs).2 = undo j vs bs
  | [], vs => rfl
  | a :: r, vs => by
    rw [undo]
    by_cases hk : k < sinceAt vs a.place
    · rw [if_pos hk, undo_undo hjk r, undo, if_pos (by omega)]
    · rw [if_neg hk]

theorem set_comm' {vs : List Vr} {i p : Nat} (x y : Vr) (h : i ≠ p) : (vs.set i x).set p y = (vs.set p y).set i x := List.set_comm x y h

theorem undo_set {k l i : Nat} {x : Vr} (hx : x.since = l) (hk : k < l) : ∀ (bs : List Er) (vs : List Vr), Good vs bs → i < vs.length → sinceAt vs i = l → undo k (vs.set i x) bs = undo k vs bs
  | [], vs, h, hi, hs => by
    have h0 := h vs[i] (List.getElem_mem hi)
    rw [sinceAt_get (List.getElem?_eq_getElem hi)] at hs
    omega
  | a :: r, vs, h, hi, hs => by
    have hle : l ≤ sinceAt vs a.place := by
      have := h.2.2.1 vs[i] (List.getElem_mem hi)
      rw [sinceAt_get (List.getElem?_eq_getElem hi)] at hs
      omega
    rw [undo, undo, if_pos (show k < sinceAt vs a.place by omega)]
    by_cases hp : i = a.place
    · have e : sinceAt (vs.set i x) a.place = l := by rw [sinceAt_set hi, if_pos hp, hx]
      rw [if_pos (by omega), ← hp, List.set_set]
    · have e : sinceAt (vs.set i x) a.place = sinceAt vs a.place := by rw [sinceAt_set hi, if_neg hp]
      rw [if_pos (by omega), set_comm' _ _ hp]
      refine undo_set hx hk r _ h.2.2.2 (by rw [List.length_set]; exact hi) ?_
      rw [sinceAt_set h.1, if_neg (Ne.symm hp)]
      exact hs

theorem good_set {l i : Nat} {x : Vr} (hx : x.since = l) : ∀ (bs : List Er) (vs : List Vr), Good vs bs → i < vs.length → sinceAt vs i = l → Good (vs.set i x) bs
  | [], vs, h, hi, hs => by
    have h0 := h vs[i] (List.getElem_mem hi)
    rw [sinceAt_get (List.getElem?_eq_getElem hi)] at hs
    intro v hv
    rcases List.mem_or_eq_of_mem_set hv with hv | hv
    · exact h v hv
    · rw [hv, hx, ← hs, h0]
  | a :: r, vs, h, hi, hs => by
    have e : sinceAt (vs.set i x) a.place = sinceAt vs a.place := by
      rw [sinceAt_set hi]
      by_cases hp : i = a.place
      · rw [if_pos hp, hx, ← hs, hp]
      · rw [if_neg hp]
    refine ⟨by rw [List.length_set]; exact h.1, by rw [e]; exact h.2.1, fun v hv => ?_, ?_⟩
    · rw [e]
      rcases List.mem_or_eq_of_mem_set hv with hv | hv
      · exact h.2.2.1 v hv
      · have := h.2.2.1 vs[i] (List.getElem_mem hi)
        rw [sinceAt_get (List.getElem?_eq_getElem hi)] at hs
        rw [hv, hx, ← hs]
        exact this
    · by_cases hp : i = a.place
      · rw [← hp, List.set_set]
        rw [hp]
        exact h.2.2.2
      · rw [set_comm' _ _ hp]
        refine good_set hx r _ h.2.2.2 (by rw [List.length_set]; exact hi) ?_
        rw [sinceAt_set h.1, if_neg (Ne.symm hp)]
        exact hs

theorem set_back {vs : List Vr} {i : Nat} {v x : Vr} (hv : vs[i]? = some v) : (vs.set i x).set i v = vs := by
  obtain ⟨hi, e⟩ := List.getElem?_eq_some_iff.1 hv
  rw [List.set_set, ← e, List.set_getElem_self]

/-- The domains of all levels. -/
structure Hist (vs : List Vr) (bs : List Er) (lev : Nat) (H : List (List (List Int))) : Prop where
  good : Good vs bs.reverse
  le : ∀ v ∈ vs, v.since ≤ lev
  len : H.length = lev + 1
  hist : ∀ k, k ≤ lev → H[k]? = some ((undo k vs bs.reverse).1.map Vr.L)

theorem Hist.now {vs : List Vr} {bs : List Er} {lev : Nat} {H : List (List (List Int))} (h : Hist vs bs lev H) : H[lev]? = some (vs.map Vr.L) := by
  rw [h.hist lev (Nat.le_refl _), undo_stop h.le]

theorem Hist.new (vs : List Vr) (h : ∀ v ∈ vs, v.since = 0) : Hist vs [] 0 [vs.map Vr.L] := by
  refine ⟨h, fun v hv => by rw [h v hv]; exact Nat.le_refl _, rfl, fun k hk => ?_⟩
  have : k = 0 := by omega
  subst this
  rfl

theorem Hist.push {vs : List Vr} {bs : List Er} {lev : Nat} {H : List (List (List Int))} (h : Hist vs bs lev H) : Hist vs bs (lev + 1) (H ++ [vs.map Vr.L]) := by
  refine ⟨h.good, fun v hv => Nat.le_succ_of_le (h.le v hv), by rw [List.length_append, h.len]; rfl, fun k hk => ?_⟩
  by_cases e : k = lev + 1
  · subst e
    rw [undo_stop (fun v hv => Nat.le_succ_of_le (h.le v hv)), ← h.len, List.getElem?_append_right (Nat.le_refl _), Nat.sub_self]
    rfl
  · rw [List.getElem?_append_left (by rw [h.len]; omega)]
    exact h.hist k (by omega)

theorem Hist.back {vs vs' : List Vr} {bs bs' : List Er} {lev : Nat} {H : List (List (List Int))} (h : Hist vs bs lev H) (k : Nat) (hk : k ≤ lev) (e : (vs', bs'.reverse) = undo k vs bs.reverse) : Hist vs' bs' k (H.take (k + 1)) := by
  have e1 : vs' = (undo k vs bs.reverse).1 := congrArg Prod.fst e
  have e2 : bs'.reverse = (undo k vs bs.reverse).2 := congrArg Prod.snd e
  refine ⟨by rw [e1, e2]; exact undo_good _ _ h.good, fun v hv => undo_since _ _ h.good v (by rw [← e1]; exact hv), by rw [List.length_take, h.len]; omega, fun j hj => ?_⟩
  rw [List.getElem?_take_of_lt (by omega), h.hist j (by omega), e1, e2, undo_undo hj]

theorem Hist.narrow {vs vs' : List Vr} {bs bs' : List Er} {lev i : Nat} {H : List (List (List Int))} {v v' : Vr} (h : Hist vs bs lev H) (hv : vs[i]? = some v) (hs : v'.since = lev) (e1 : vs' = vs.set i v') (e2 : bs' = if v.since < lev then bs ++ [⟨i, v⟩] else bs) :
    Hist vs' bs' lev (H.set lev (vs'.map Vr.L)) := by
  obtain ⟨hi, ev⟩ := List.getElem?_eq_some_iff.1 hv
  have hle : ∀ u ∈ vs', u.since ≤ lev := by
    intro u hu
    rw [e1] at hu
    rcases List.mem_or_eq_of_mem_set hu with hu | hu
    · exact h.le u hu
    · rw [hu, hs]; exact Nat.le_refl _
  have hsv := sinceAt_get hv
  have key : Good vs' bs'.reverse ∧ ∀ k, k < lev → undo k vs' bs'.reverse = undo k vs bs.reverse := by
    by_cases hc : v.since < lev
    · rw [if_pos hc] at e2
      rw [e2, List.reverse_append]
      have es : sinceAt (vs.set i v') i = lev := by rw [sinceAt_set hi, if_pos rfl, hs]
      refine ⟨⟨?_, ?_, ?_, ?_⟩, fun k hk => ?_⟩
      · rw [e1, List.length_set]; exact hi
      · show v.since < sinceAt vs' i
        rw [e1, es]; exact hc
      · intro u hu
        show u.since ≤ sinceAt vs' i
        rw [e1, es]; exact hle u hu
      · show Good (vs'.set i v) bs.reverse
        rw [e1, set_back hv]; exact h.good
      · show undo k vs' (⟨i, v⟩ :: bs.reverse) = _
        rw [undo, if_pos (by show k < sinceAt vs' i; rw [e1, es]; exact hk)]
        show undo k (vs'.set i v) bs.reverse = _
        rw [e1, set_back hv]
    · rw [if_neg hc] at e2
      have hl : sinceAt vs i = lev := by
        have := h.le v (List.mem_of_getElem? hv)
        omega
      rw [e1, e2]
      exact ⟨good_set hs _ _ h.good hi hl, fun k hk => undo_set hs hk _ _ h.good hi hl⟩
  refine ⟨key.1, hle, by rw [List.length_set]; exact h.len, fun k hk => ?_⟩
  rw [List.getElem?_set]
  by_cases e : lev = k
  · subst e
    rw [if_pos rfl, if_pos (by rw [h.len]; omega), undo_stop hle]
  · rw [if_neg e, key.2 k (by omega)]
    exact h.hist k hk
end Go.Proofs.YtegiaonlneamfaaDoor

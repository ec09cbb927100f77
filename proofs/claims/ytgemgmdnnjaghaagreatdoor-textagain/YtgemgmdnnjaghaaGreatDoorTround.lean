/- The tokens of what is printed are read to the same model: pure. -/
import Derived.Test.YtgemgmdnnjaghaaGreatDoorTprint
namespace Go.Proofs.YtgemgmdnnjaghaaGreatDoor
open Go.RowKit

theorem idx_nodup : ∀ {l : List Bs}, l.Nodup → ∀ {i : Nat} (hi : i < l.length), l.idxOf l[i] = i
  | [], _, i, hi => by simp at hi
  | a :: l, h, 0, _ => by simp
  | a :: l, h, i + 1, hi => by
    have h2 := List.nodup_cons.1 h
    have hi' : i < l.length := by simpa using hi
    have hne : l[i] ≠ a := fun e => h2.1 (e ▸ List.getElem_mem hi')
    simp only [List.getElem_cons_succ]
    rw [List.idxOf_cons, show (a == l[i]) = false by simpa using Ne.symm hne, idx_nodup h2.2 hi']
    rfl
theorem placeP_reads {names : List Bs} (hn : names.Nodup) {v : Int} (h0 : 0 ≤ v) (h1 : v < (names.length : Int)) (r : List Tok) : placeP 0 names (tW (nmV names v) :: r) = .ok (v, r) := by
  have hv : v.toNat < names.length := by omega
  have e : nmV names v = names[v.toNat] := by
    unfold nmV
    rw [List.getD_eq_getElem?_getD, List.getElem?_eq_getElem hv]
    rfl
  have ht : takeP 0 1 (tW (nmV names v) :: r) = .ok (tW (nmV names v), r) := rfl
  unfold placeP
  rw [ht]
  simp only
  rw [if_pos (by rw [e]; exact List.getElem_mem hv), e, idx_nodup hn hv]
  congr 2
  omega
theorem numP_reads (n : Int) (r : List Tok) : numP 0 (tN n :: r) = .ok (n, r) := rfl
theorem tail_reads {α : Type} {el : List Tok → PR α} {k : α → List Tok} {last : UInt8} (hl : last ≠ 44) : ∀ (l : List α), (∀ x ∈ l, ∀ r, el (k x ++ r) = .ok (x, r)) → ∀ (n : Nat) (r : List Tok), l.length ≤ n → tailP 0 [last] el n (((l.map k).map (tS 44 :: ·)).flatten ++ tS last :: r) = .ok (l, r)
  | [], _, n, r, _ => by
    cases n with
    | zero => simp [tailP, aheadT]
    | succ n => simp [tailP, aheadT]
  | x :: l, h, n, r, hn => by
    obtain ⟨n', rfl⟩ : ∃ n', n = n' + 1 := ⟨n - 1, by simp at hn; omega⟩
    have ih := tail_reads hl l (fun y hy => h y (by simp [hy])) n' r (by simpa using hn)
    simp only [List.map_cons, List.flatten_cons, List.cons_append, List.append_assoc, tailP]
    rw [if_neg (by simp [aheadT]; exact fun e => hl e.symm)]
    rw [show ∀ X, wantP 0 [44] (tS 44 :: X) = .ok X from fun _ => rfl]
    simp only
    rw [h x (by simp)]
    simp only
    rw [ih]
theorem flat_len {α : Type} (k : α → List Tok) : ∀ l : List α, l.length ≤ (((l.map k).map (tS 44 :: ·)).flatten).length
  | [] => by simp
  | x :: l => by
    have := flat_len k l
    simp only [List.map_cons, List.flatten_cons, List.length_append, List.length_cons]
    omega
theorem list_reads {α : Type} {el : List Tok → PR α} {k : α → List Tok} {first last : UInt8} (hl : last ≠ 44) (l : List α) (h : ∀ x ∈ l, ∀ r, el (k x ++ r) = .ok (x, r)) (hne : ∀ x ∈ l, ∀ r, (aheadT 0 (k x ++ r)).text ≠ [last]) (r : List Tok) : listP 0 [first] [last] el (brK first last (l.map k) ++ r) = .ok (l, r) := by
  unfold listP brK
  simp only [List.cons_append, List.append_assoc, List.nil_append]
  rw [show ∀ X, wantP 0 [first] (tS first :: X) = .ok X from fun _ => by simp [wantP, aheadT]]
  simp only
  cases l with
  | nil => simp [cj, aheadT]
  | cons x l =>
    simp only [List.map_cons, cj, List.append_assoc]
    rw [if_neg (hne x (by simp) _), h x (by simp)]
    simp only
    rw [tail_reads hl l (fun y hy => h y (by simp [hy])) _ r (by
      have := flat_len k l
      rw [List.length_append]
      omega)]
theorem itoa_ne (n : Int) (c : UInt8) (hc : digitB c = false) (h45 : c ≠ 45) : Lib.itoa n ≠ [c] := by
  unfold Lib.itoa
  split
  · intro e
    injection e with e _
    exact h45 e.symm
  · intro e
    have := dd_digits n.toNat c (by rw [e]; simp)
    rw [hc] at this
    cases this
theorem row_reads (l : List Int) (r : List Tok) : rowP 0 (rowK l ++ r) = .ok (l, r) :=
  list_reads (k := fun n => [tN n]) (first := 91) (last := 93) (by decide) l (fun n _ r => numP_reads n r) (fun n _ r => itoa_ne n 93 (by decide) (by decide)) r
theorem word_ne {w : Bs} (h : wordB w) {c : UInt8} (hc : letterB c = false) : w ≠ [c] := by
  obtain ⟨a, r, rfl, ha, _⟩ := h
  intro e
  injection e with e _
  rw [e, hc] at ha
  cases ha
theorem pl_reads {names : List Bs} (hm : ∀ b ∈ names, mayNameB b = true) (hn : names.Nodup) {l : List Int} (h : ∀ v ∈ l, 0 ≤ v ∧ v < (names.length : Int)) (r : List Tok) : listP 0 [91] [93] (placeP 0 names) (plK names l ++ r) = .ok (l, r) :=
  list_reads (k := fun v => [tW (nmV names v)]) (first := 91) (last := 93) (by decide) l (fun v hv r => placeP_reads hn (h v hv).1 (h v hv).2 r) (fun v hv r => word_ne (c := 93) (nm_word hm (h v hv).1 (h v hv).2).2 (by decide)) r
theorem rws_reads (R : List (List Int)) (r : List Tok) : listP 0 [91] [93] (rowP 0) (rwsK R ++ r) = .ok (R, r) :=
  list_reads (k := rowK) (first := 91) (last := 93) (by decide) R (fun l _ r => row_reads l r) (fun l _ r => by simp [rowK, brK, aheadT]) r
/-- What is set by a part. -/
def setP (c : ConL) (b : UInt8) (nx : Nat) (acc : ConL) : ConL :=
  if b = 118 then { acc with A := acc.A ++ [c.A.getD nx 0] }
  else if b = 119 then { acc with B := acc.B ++ [c.B.getD 0 0] }
  else if b = 86 then { acc with A := c.A }
  else if b = 87 then { acc with B := c.B }
  else if b = 99 then { acc with C := c.C }
  else if b = 100 then { acc with D := c.D }
  else if b = 101 then { acc with E := c.E }
  else if b = 114 then { acc with rows := c.rows }
  else { acc with K := c.K }
def appl (c : ConL) : Nat → List UInt8 → ConL → ConL
  | _, [], acc => acc
  | nx, b :: sh, acc => appl c (nxt b nx) sh (setP c b nx acc)
def lettersP : List UInt8 := [118, 119, 86, 87, 99, 100, 101, 114, 107]
theorem part_reads {names : List Bs} {c : ConL} (hm : ∀ b ∈ names, mayNameB b = true) (hn : names.Nodup) (h : ConOK names.length c) {b : UInt8} (hb : b ∈ lettersP) {nx : Nat} (hp : PartAt c b nx) (acc : ConL) (r : List Tok) : partP 0 names b.toNat acc (partK names c b nx ++ r) = .ok (setP c b nx acc, r) := by
  unfold lettersP at hb
  simp only [List.mem_cons, List.not_mem_nil, or_false] at hb
  rcases hb with rfl | rfl | rfl | rfl | rfl | rfl | rfl | rfl | rfl
  · have hv := h.pa _ (at_mem (hp.1 rfl))
    show partP 0 names 118 acc (tW (nmV names (c.A.getD nx 0)) :: r) = .ok ({ acc with A := acc.A ++ [c.A.getD nx 0] }, r)
    unfold partP
    rw [if_pos rfl, placeP_reads hn hv.1 hv.2]
  · have hv := h.pb _ (at_mem (hp.2 rfl))
    show partP 0 names 119 acc (tW (nmV names (c.B.getD 0 0)) :: r) = .ok ({ acc with B := acc.B ++ [c.B.getD 0 0] }, r)
    unfold partP
    rw [if_neg (by decide), if_pos rfl, placeP_reads hn hv.1 hv.2]
  · show partP 0 names 86 acc (plK names c.A ++ r) = .ok ({ acc with A := c.A }, r)
    unfold partP
    rw [if_neg (by decide), if_neg (by decide), if_pos rfl, pl_reads hm hn h.pa]
  · show partP 0 names 87 acc (plK names c.B ++ r) = .ok ({ acc with B := c.B }, r)
    unfold partP
    rw [if_neg (by decide), if_neg (by decide), if_neg (by decide), if_pos rfl, pl_reads hm hn h.pb]
  · show partP 0 names 99 acc (rowK c.C ++ r) = .ok ({ acc with C := c.C }, r)
    unfold partP
    rw [if_neg (by decide), if_neg (by decide), if_neg (by decide), if_neg (by decide), if_pos rfl, row_reads]
  · show partP 0 names 100 acc (rowK c.D ++ r) = .ok ({ acc with D := c.D }, r)
    unfold partP
    rw [if_neg (by decide), if_neg (by decide), if_neg (by decide), if_neg (by decide), if_neg (by decide), if_pos rfl, row_reads]
  · show partP 0 names 101 acc (rowK c.E ++ r) = .ok ({ acc with E := c.E }, r)
    unfold partP
    rw [if_neg (by decide), if_neg (by decide), if_neg (by decide), if_neg (by decide), if_neg (by decide), if_neg (by decide), if_pos rfl, row_reads]
  · show partP 0 names 114 acc (rwsK c.rows ++ r) = .ok ({ acc with rows := c.rows }, r)
    unfold partP
    rw [if_neg (by decide), if_neg (by decide), if_neg (by decide), if_neg (by decide), if_neg (by decide), if_neg (by decide), if_neg (by decide), if_neg (by decide), if_pos rfl, rws_reads]
  · show partP 0 names 107 acc (tN c.K :: r) = .ok ({ acc with K := c.K }, r)
    unfold partP
    rw [if_neg (by decide), if_neg (by decide), if_neg (by decide), if_neg (by decide), if_neg (by decide), if_neg (by decide), if_neg (by decide), if_pos rfl, numP_reads]
theorem parts_more {names : List Bs} {c : ConL} (hm : ∀ b ∈ names, mayNameB b = true) (hn : names.Nodup) (h : ConOK names.length c) : ∀ (sh : List UInt8) (nx i : Nat) (acc : ConL) (r : List Tok), 0 < i → PartsAt c nx sh → (∀ b ∈ sh, b ∈ lettersP) → partsP 0 names i sh acc (((partsK names c nx sh).map (tS 44 :: ·)).flatten ++ r) = .ok (appl c nx sh acc, r)
  | [], _, _, _, _, _, _, _ => rfl
  | b :: sh, nx, i, acc, r, hi, hp, hb => by
    simp only [partsK, List.map_cons, List.flatten_cons, List.cons_append, List.append_assoc, partsP, appl]
    rw [if_pos hi, show ∀ X, wantP 0 [44] (tS 44 :: X) = .ok X from fun _ => rfl]
    simp only
    rw [part_reads hm hn h (hb b (by simp)) hp.1]
    simp only
    exact parts_more hm hn h sh (nxt b nx) (i + 1) _ r (by omega) hp.2 (fun x hx => hb x (by simp [hx]))
theorem parts_reads {names : List Bs} {c : ConL} (hm : ∀ b ∈ names, mayNameB b = true) (hn : names.Nodup) (h : ConOK names.length c) (sh : List UInt8) (acc : ConL) (r : List Tok) (hp : PartsAt c 0 sh) (hb : ∀ b ∈ sh, b ∈ lettersP) : partsP 0 names 0 sh acc (cj (tS 44) (partsK names c 0 sh) ++ r) = .ok (appl c 0 sh acc, r) := by
  cases sh with
  | nil => rfl
  | cons b sh =>
    simp only [partsK, cj, List.append_assoc, partsP, appl]
    rw [if_neg (by decide)]
    simp only
    rw [part_reads hm hn h (hb b (by simp)) hp.1]
    simp only
    exact parts_more hm hn h sh (nxt b 0) 1 _ r (by omega) hp.2 (fun x hx => hb x (by simp [hx]))

/-! What the sizes of a constraint's lists say. -/
structure SizeF (c : ConL) (sh : Bs) : Prop where
  a : c.kind ≠ 12 → 0 < sh.count 118 → c.A.length = sh.count 118
  bw : c.kind ≠ 12 → hasC ⟨sh.toArray⟩ 87 = false → hasC ⟨sh.toArray⟩ 119 = true → c.B.length = 1
  bn : c.kind ≠ 12 → hasC ⟨sh.toArray⟩ 87 = false → hasC ⟨sh.toArray⟩ 119 = false → c.B = []
  sc : hasC ⟨sh.toArray⟩ 99 = false → c.C = []
  sd : hasC ⟨sh.toArray⟩ 100 = false → c.D = []
  se : hasC ⟨sh.toArray⟩ 101 = false → c.E = []
  sr : hasC ⟨sh.toArray⟩ 114 = false → c.rows = []
  sk : hasC ⟨sh.toArray⟩ 107 = false → c.K = 0
theorem in_zero {n : Nat} (h : inS (0, 0) (n : Int) = true) : n = 0 := by
  unfold inS at h
  simp at h
  omega
theorem in_just {a n : Nat} (h : inS ((a : Nat), (a : Nat)) (n : Int) = true) : n = a := by
  unfold inS at h
  simp at h
  omega
theorem size_facts {c : ConL} {sh : Bs} (h : sizesB c ⟨sh.toArray⟩ = true) : SizeF c sh := by
  unfold sizesB at h
  simp only [Bool.and_eq_true] at h
  obtain ⟨⟨⟨⟨⟨⟨h1, h2⟩, h3⟩, h4⟩, h5⟩, h6⟩, h7⟩ := h
  have hbl : bl ⟨sh.toArray⟩ = sh := by simp [bl]
  refine ⟨fun k12 hc => ?_, fun k12 a b => ?_, fun k12 a b => ?_, fun a => ?_, fun a => ?_, fun a => ?_, fun a => ?_, fun a => ?_⟩
  · unfold sizeA at h1
    rw [if_neg k12, hbl, if_pos hc] at h1
    exact in_just h1
  · unfold sizeB at h2
    rw [if_neg k12, a, b] at h2
    exact in_just (a := 1) h2
  · unfold sizeB at h2
    rw [if_neg k12, a, b] at h2
    exact List.length_eq_zero_iff.1 (in_zero h2)
  · unfold sizeC at h3
    rw [a] at h3
    exact List.length_eq_zero_iff.1 (in_zero h3)
  · unfold sizeL at h4
    rw [a] at h4
    exact List.length_eq_zero_iff.1 (in_zero h4)
  · unfold sizeL at h5
    rw [a] at h5
    exact List.length_eq_zero_iff.1 (in_zero h5)
  · unfold rowsB at h6
    rw [a] at h6
    simpa using h6
  · rw [a] at h7
    simpa using h7
theorem fin_V (c : ConL) (hB : c.B = []) (hC : c.C = []) (hD : c.D = []) (hE : c.E = []) (hrows : c.rows = []) (hK : c.K = 0) : PartsAt c 0 [86] ∧ appl c 0 [86] { noCon with kind := c.kind } = c := by
  obtain ⟨kd, A, B, C, D, E, K, R⟩ := c
  simp only at hB hC hD hE hrows hK
  subst hC
  subst hD
  subst hE
  subst hrows
  subst hK
  subst hB
  exact ⟨by simp [PartsAt, PartAt], rfl⟩
theorem fin_VW (c : ConL) (hC : c.C = []) (hD : c.D = []) (hE : c.E = []) (hrows : c.rows = []) (hK : c.K = 0) : PartsAt c 0 [86, 87] ∧ appl c 0 [86, 87] { noCon with kind := c.kind } = c := by
  obtain ⟨kd, A, B, C, D, E, K, R⟩ := c
  simp only at hC hD hE hrows hK
  subst hC
  subst hD
  subst hE
  subst hrows
  subst hK
  exact ⟨by simp [PartsAt, PartAt, nxt], rfl⟩
theorem fin_Vcde (c : ConL) (hB : c.B = []) (hrows : c.rows = []) (hK : c.K = 0) : PartsAt c 0 [86, 99, 100, 101] ∧ appl c 0 [86, 99, 100, 101] { noCon with kind := c.kind } = c := by
  obtain ⟨kd, A, B, C, D, E, K, R⟩ := c
  simp only at hB hrows hK
  subst hrows
  subst hK
  subst hB
  exact ⟨by simp [PartsAt, PartAt, nxt], rfl⟩
theorem fin_Vcdk (c : ConL) (hB : c.B = []) (hE : c.E = []) (hrows : c.rows = []) : PartsAt c 0 [86, 99, 100, 107] ∧ appl c 0 [86, 99, 100, 107] { noCon with kind := c.kind } = c := by
  obtain ⟨kd, A, B, C, D, E, K, R⟩ := c
  simp only at hB hE hrows
  subst hE
  subst hrows
  subst hB
  exact ⟨by simp [PartsAt, PartAt, nxt], rfl⟩
theorem fin_Vr (c : ConL) (hB : c.B = []) (hC : c.C = []) (hD : c.D = []) (hE : c.E = []) (hK : c.K = 0) : PartsAt c 0 [86, 114] ∧ appl c 0 [86, 114] { noCon with kind := c.kind } = c := by
  obtain ⟨kd, A, B, C, D, E, K, R⟩ := c
  simp only at hB hC hD hE hK
  subst hC
  subst hD
  subst hE
  subst hK
  subst hB
  exact ⟨by simp [PartsAt, PartAt, nxt], rfl⟩
theorem fin_cVk (c : ConL) (hB : c.B = []) (hD : c.D = []) (hE : c.E = []) (hrows : c.rows = []) : PartsAt c 0 [99, 86, 107] ∧ appl c 0 [99, 86, 107] { noCon with kind := c.kind } = c := by
  obtain ⟨kd, A, B, C, D, E, K, R⟩ := c
  simp only at hB hD hE hrows
  subst hD
  subst hE
  subst hrows
  subst hB
  exact ⟨by simp [PartsAt, PartAt, nxt], rfl⟩
theorem fin_cVkw (c : ConL) (hB : c.B.length = 1) (hD : c.D = []) (hE : c.E = []) (hrows : c.rows = []) : PartsAt c 0 [99, 86, 107, 119] ∧ appl c 0 [99, 86, 107, 119] { noCon with kind := c.kind } = c := by
  obtain ⟨kd, A, B, C, D, E, K, R⟩ := c
  simp only at hB hD hE hrows
  subst hD
  subst hE
  subst hrows
  obtain ⟨b0, rfl⟩ : ∃ b0, B = [b0] := by
    match B, hB with
    | [b0], _ => exact ⟨b0, rfl⟩
  exact ⟨by simp [PartsAt, PartAt, nxt], rfl⟩
theorem fin_vcv (c : ConL) (hA : c.A.length = 2) (hB : c.B = []) (hD : c.D = []) (hE : c.E = []) (hrows : c.rows = []) (hK : c.K = 0) : PartsAt c 0 [118, 99, 118] ∧ appl c 0 [118, 99, 118] { noCon with kind := c.kind } = c := by
  obtain ⟨kd, A, B, C, D, E, K, R⟩ := c
  simp only at hA hB hD hE hrows hK
  subst hD
  subst hE
  subst hrows
  subst hK
  subst hB
  obtain ⟨a0, a1, rfl⟩ : ∃ a0 a1, A = [a0, a1] := by
    match A, hA with
    | [a0, a1], _ => exact ⟨a0, a1, rfl⟩
  exact ⟨by simp [PartsAt, PartAt, nxt], rfl⟩
theorem fin_vkw (c : ConL) (hA : c.A.length = 1) (hB : c.B.length = 1) (hC : c.C = []) (hD : c.D = []) (hE : c.E = []) (hrows : c.rows = []) : PartsAt c 0 [118, 107, 119] ∧ appl c 0 [118, 107, 119] { noCon with kind := c.kind } = c := by
  obtain ⟨kd, A, B, C, D, E, K, R⟩ := c
  simp only at hA hB hC hD hE hrows
  subst hC
  subst hD
  subst hE
  subst hrows
  obtain ⟨a0, rfl⟩ : ∃ a0, A = [a0] := by
    match A, hA with
    | [a0], _ => exact ⟨a0, rfl⟩
  obtain ⟨b0, rfl⟩ : ∃ b0, B = [b0] := by
    match B, hB with
    | [b0], _ => exact ⟨b0, rfl⟩
  exact ⟨by simp [PartsAt, PartAt, nxt], rfl⟩
theorem fin_vv (c : ConL) (hA : c.A.length = 2) (hB : c.B = []) (hC : c.C = []) (hD : c.D = []) (hE : c.E = []) (hrows : c.rows = []) (hK : c.K = 0) : PartsAt c 0 [118, 118] ∧ appl c 0 [118, 118] { noCon with kind := c.kind } = c := by
  obtain ⟨kd, A, B, C, D, E, K, R⟩ := c
  simp only at hA hB hC hD hE hrows hK
  subst hC
  subst hD
  subst hE
  subst hrows
  subst hK
  subst hB
  obtain ⟨a0, a1, rfl⟩ : ∃ a0 a1, A = [a0, a1] := by
    match A, hA with
    | [a0, a1], _ => exact ⟨a0, a1, rfl⟩
  exact ⟨by simp [PartsAt, PartAt, nxt], rfl⟩
theorem fin_vvv (c : ConL) (hA : c.A.length = 3) (hB : c.B = []) (hC : c.C = []) (hD : c.D = []) (hE : c.E = []) (hrows : c.rows = []) (hK : c.K = 0) : PartsAt c 0 [118, 118, 118] ∧ appl c 0 [118, 118, 118] { noCon with kind := c.kind } = c := by
  obtain ⟨kd, A, B, C, D, E, K, R⟩ := c
  simp only at hA hB hC hD hE hrows hK
  subst hC
  subst hD
  subst hE
  subst hrows
  subst hK
  subst hB
  obtain ⟨a0, a1, a2, rfl⟩ : ∃ a0 a1 a2, A = [a0, a1, a2] := by
    match A, hA with
    | [a0, a1, a2], _ => exact ⟨a0, a1, a2, rfl⟩
  exact ⟨by simp [PartsAt, PartAt, nxt], rfl⟩
theorem con_fin {n : Nat} {c : ConL} (h : ConOK n c) : PartsAt c 0 (entOf c).shape ∧ appl c 0 (entOf c).shape { noCon with kind := c.kind } = c ∧ ∀ b ∈ (entOf c).shape, b ∈ lettersP := by
  have f := size_facts h.size
  obtain ⟨k, hk, hkd, he, _⟩ := ent_in h
  rw [he] at f ⊢
  have h23 : k = 0 ∨ k = 1 ∨ k = 2 ∨ k = 3 ∨ k = 4 ∨ k = 5 ∨ k = 6 ∨ k = 7 ∨ k = 8 ∨ k = 9 ∨ k = 10 ∨ k = 11 ∨ k = 12 ∨ k = 13 ∨ k = 14 ∨ k = 15 ∨ k = 16 ∨ k = 17 ∨ k = 18 ∨ k = 19 ∨ k = 20 ∨ k = 21 ∨ k = 22 := by omega
  rcases h23 with rfl | rfl | rfl | rfl | rfl | rfl | rfl | rfl | rfl | rfl | rfl | rfl | rfl | rfl | rfl | rfl | rfl | rfl | rfl | rfl | rfl | rfl | rfl
  · rw [show (ents.getD 0 noEnt).shape = [99, 86, 107] from rfl] at f ⊢
    have hk12 : c.kind ≠ 12 := by omega
    exact ⟨(fin_cVk c (f.bn hk12 (by kernel_rfl) (by kernel_rfl)) (f.sd (by kernel_rfl)) (f.se (by kernel_rfl)) (f.sr (by kernel_rfl))).1, (fin_cVk c (f.bn hk12 (by kernel_rfl) (by kernel_rfl)) (f.sd (by kernel_rfl)) (f.se (by kernel_rfl)) (f.sr (by kernel_rfl))).2, by decide⟩
  · rw [show (ents.getD 1 noEnt).shape = [99, 86, 107] from rfl] at f ⊢
    have hk12 : c.kind ≠ 12 := by omega
    exact ⟨(fin_cVk c (f.bn hk12 (by kernel_rfl) (by kernel_rfl)) (f.sd (by kernel_rfl)) (f.se (by kernel_rfl)) (f.sr (by kernel_rfl))).1, (fin_cVk c (f.bn hk12 (by kernel_rfl) (by kernel_rfl)) (f.sd (by kernel_rfl)) (f.se (by kernel_rfl)) (f.sr (by kernel_rfl))).2, by decide⟩
  · rw [show (ents.getD 2 noEnt).shape = [99, 86, 107] from rfl] at f ⊢
    have hk12 : c.kind ≠ 12 := by omega
    exact ⟨(fin_cVk c (f.bn hk12 (by kernel_rfl) (by kernel_rfl)) (f.sd (by kernel_rfl)) (f.se (by kernel_rfl)) (f.sr (by kernel_rfl))).1, (fin_cVk c (f.bn hk12 (by kernel_rfl) (by kernel_rfl)) (f.sd (by kernel_rfl)) (f.se (by kernel_rfl)) (f.sr (by kernel_rfl))).2, by decide⟩
  · rw [show (ents.getD 3 noEnt).shape = [99, 86, 107, 119] from rfl] at f ⊢
    have hk12 : c.kind ≠ 12 := by omega
    exact ⟨(fin_cVkw c (f.bw hk12 (by kernel_rfl) (by kernel_rfl)) (f.sd (by kernel_rfl)) (f.se (by kernel_rfl)) (f.sr (by kernel_rfl))).1, (fin_cVkw c (f.bw hk12 (by kernel_rfl) (by kernel_rfl)) (f.sd (by kernel_rfl)) (f.se (by kernel_rfl)) (f.sr (by kernel_rfl))).2, by decide⟩
  · rw [show (ents.getD 4 noEnt).shape = [118, 118, 118] from rfl] at f ⊢
    have hk12 : c.kind ≠ 12 := by omega
    exact ⟨(fin_vvv c (f.a hk12 (by decide)) (f.bn hk12 (by kernel_rfl) (by kernel_rfl)) (f.sc (by kernel_rfl)) (f.sd (by kernel_rfl)) (f.se (by kernel_rfl)) (f.sr (by kernel_rfl)) (f.sk (by kernel_rfl))).1, (fin_vvv c (f.a hk12 (by decide)) (f.bn hk12 (by kernel_rfl) (by kernel_rfl)) (f.sc (by kernel_rfl)) (f.sd (by kernel_rfl)) (f.se (by kernel_rfl)) (f.sr (by kernel_rfl)) (f.sk (by kernel_rfl))).2, by decide⟩
  · rw [show (ents.getD 5 noEnt).shape = [118, 118, 118] from rfl] at f ⊢
    have hk12 : c.kind ≠ 12 := by omega
    exact ⟨(fin_vvv c (f.a hk12 (by decide)) (f.bn hk12 (by kernel_rfl) (by kernel_rfl)) (f.sc (by kernel_rfl)) (f.sd (by kernel_rfl)) (f.se (by kernel_rfl)) (f.sr (by kernel_rfl)) (f.sk (by kernel_rfl))).1, (fin_vvv c (f.a hk12 (by decide)) (f.bn hk12 (by kernel_rfl) (by kernel_rfl)) (f.sc (by kernel_rfl)) (f.sd (by kernel_rfl)) (f.se (by kernel_rfl)) (f.sr (by kernel_rfl)) (f.sk (by kernel_rfl))).2, by decide⟩
  · rw [show (ents.getD 6 noEnt).shape = [118, 118, 118] from rfl] at f ⊢
    have hk12 : c.kind ≠ 12 := by omega
    exact ⟨(fin_vvv c (f.a hk12 (by decide)) (f.bn hk12 (by kernel_rfl) (by kernel_rfl)) (f.sc (by kernel_rfl)) (f.sd (by kernel_rfl)) (f.se (by kernel_rfl)) (f.sr (by kernel_rfl)) (f.sk (by kernel_rfl))).1, (fin_vvv c (f.a hk12 (by decide)) (f.bn hk12 (by kernel_rfl) (by kernel_rfl)) (f.sc (by kernel_rfl)) (f.sd (by kernel_rfl)) (f.se (by kernel_rfl)) (f.sr (by kernel_rfl)) (f.sk (by kernel_rfl))).2, by decide⟩
  · rw [show (ents.getD 7 noEnt).shape = [118, 118] from rfl] at f ⊢
    have hk12 : c.kind ≠ 12 := by omega
    exact ⟨(fin_vv c (f.a hk12 (by decide)) (f.bn hk12 (by kernel_rfl) (by kernel_rfl)) (f.sc (by kernel_rfl)) (f.sd (by kernel_rfl)) (f.se (by kernel_rfl)) (f.sr (by kernel_rfl)) (f.sk (by kernel_rfl))).1, (fin_vv c (f.a hk12 (by decide)) (f.bn hk12 (by kernel_rfl) (by kernel_rfl)) (f.sc (by kernel_rfl)) (f.sd (by kernel_rfl)) (f.se (by kernel_rfl)) (f.sr (by kernel_rfl)) (f.sk (by kernel_rfl))).2, by decide⟩
  · rw [show (ents.getD 8 noEnt).shape = [118, 118, 118] from rfl] at f ⊢
    have hk12 : c.kind ≠ 12 := by omega
    exact ⟨(fin_vvv c (f.a hk12 (by decide)) (f.bn hk12 (by kernel_rfl) (by kernel_rfl)) (f.sc (by kernel_rfl)) (f.sd (by kernel_rfl)) (f.se (by kernel_rfl)) (f.sr (by kernel_rfl)) (f.sk (by kernel_rfl))).1, (fin_vvv c (f.a hk12 (by decide)) (f.bn hk12 (by kernel_rfl) (by kernel_rfl)) (f.sc (by kernel_rfl)) (f.sd (by kernel_rfl)) (f.se (by kernel_rfl)) (f.sr (by kernel_rfl)) (f.sk (by kernel_rfl))).2, by decide⟩
  · rw [show (ents.getD 9 noEnt).shape = [118, 118, 118] from rfl] at f ⊢
    have hk12 : c.kind ≠ 12 := by omega
    exact ⟨(fin_vvv c (f.a hk12 (by decide)) (f.bn hk12 (by kernel_rfl) (by kernel_rfl)) (f.sc (by kernel_rfl)) (f.sd (by kernel_rfl)) (f.se (by kernel_rfl)) (f.sr (by kernel_rfl)) (f.sk (by kernel_rfl))).1, (fin_vvv c (f.a hk12 (by decide)) (f.bn hk12 (by kernel_rfl) (by kernel_rfl)) (f.sc (by kernel_rfl)) (f.sd (by kernel_rfl)) (f.se (by kernel_rfl)) (f.sr (by kernel_rfl)) (f.sk (by kernel_rfl))).2, by decide⟩
  · rw [show (ents.getD 10 noEnt).shape = [118, 99, 118] from rfl] at f ⊢
    have hk12 : c.kind ≠ 12 := by omega
    exact ⟨(fin_vcv c (f.a hk12 (by decide)) (f.bn hk12 (by kernel_rfl) (by kernel_rfl)) (f.sd (by kernel_rfl)) (f.se (by kernel_rfl)) (f.sr (by kernel_rfl)) (f.sk (by kernel_rfl))).1, (fin_vcv c (f.a hk12 (by decide)) (f.bn hk12 (by kernel_rfl) (by kernel_rfl)) (f.sd (by kernel_rfl)) (f.se (by kernel_rfl)) (f.sr (by kernel_rfl)) (f.sk (by kernel_rfl))).2, by decide⟩
  · rw [show (ents.getD 11 noEnt).shape = [86, 87] from rfl] at f ⊢
    exact ⟨(fin_VW c (f.sc (by kernel_rfl)) (f.sd (by kernel_rfl)) (f.se (by kernel_rfl)) (f.sr (by kernel_rfl)) (f.sk (by kernel_rfl))).1, (fin_VW c (f.sc (by kernel_rfl)) (f.sd (by kernel_rfl)) (f.se (by kernel_rfl)) (f.sr (by kernel_rfl)) (f.sk (by kernel_rfl))).2, by decide⟩
  · rw [show (ents.getD 12 noEnt).shape = [118, 107, 119] from rfl] at f ⊢
    have hk12 : c.kind ≠ 12 := by omega
    exact ⟨(fin_vkw c (f.a hk12 (by decide)) (f.bw hk12 (by kernel_rfl) (by kernel_rfl)) (f.sc (by kernel_rfl)) (f.sd (by kernel_rfl)) (f.se (by kernel_rfl)) (f.sr (by kernel_rfl))).1, (fin_vkw c (f.a hk12 (by decide)) (f.bw hk12 (by kernel_rfl) (by kernel_rfl)) (f.sc (by kernel_rfl)) (f.sd (by kernel_rfl)) (f.se (by kernel_rfl)) (f.sr (by kernel_rfl))).2, by decide⟩
  · rw [show (ents.getD 13 noEnt).shape = [118, 107, 119] from rfl] at f ⊢
    have hk12 : c.kind ≠ 12 := by omega
    exact ⟨(fin_vkw c (f.a hk12 (by decide)) (f.bw hk12 (by kernel_rfl) (by kernel_rfl)) (f.sc (by kernel_rfl)) (f.sd (by kernel_rfl)) (f.se (by kernel_rfl)) (f.sr (by kernel_rfl))).1, (fin_vkw c (f.a hk12 (by decide)) (f.bw hk12 (by kernel_rfl) (by kernel_rfl)) (f.sc (by kernel_rfl)) (f.sd (by kernel_rfl)) (f.se (by kernel_rfl)) (f.sr (by kernel_rfl))).2, by decide⟩
  · rw [show (ents.getD 14 noEnt).shape = [118, 107, 119] from rfl] at f ⊢
    have hk12 : c.kind ≠ 12 := by omega
    exact ⟨(fin_vkw c (f.a hk12 (by decide)) (f.bw hk12 (by kernel_rfl) (by kernel_rfl)) (f.sc (by kernel_rfl)) (f.sd (by kernel_rfl)) (f.se (by kernel_rfl)) (f.sr (by kernel_rfl))).1, (fin_vkw c (f.a hk12 (by decide)) (f.bw hk12 (by kernel_rfl) (by kernel_rfl)) (f.sc (by kernel_rfl)) (f.sd (by kernel_rfl)) (f.se (by kernel_rfl)) (f.sr (by kernel_rfl))).2, by decide⟩
  · rw [show (ents.getD 15 noEnt).shape = [118, 107, 119] from rfl] at f ⊢
    have hk12 : c.kind ≠ 12 := by omega
    exact ⟨(fin_vkw c (f.a hk12 (by decide)) (f.bw hk12 (by kernel_rfl) (by kernel_rfl)) (f.sc (by kernel_rfl)) (f.sd (by kernel_rfl)) (f.se (by kernel_rfl)) (f.sr (by kernel_rfl))).1, (fin_vkw c (f.a hk12 (by decide)) (f.bw hk12 (by kernel_rfl) (by kernel_rfl)) (f.sc (by kernel_rfl)) (f.sd (by kernel_rfl)) (f.se (by kernel_rfl)) (f.sr (by kernel_rfl))).2, by decide⟩
  · rw [show (ents.getD 16 noEnt).shape = [86] from rfl] at f ⊢
    have hk12 : c.kind ≠ 12 := by omega
    exact ⟨(fin_V c (f.bn hk12 (by kernel_rfl) (by kernel_rfl)) (f.sc (by kernel_rfl)) (f.sd (by kernel_rfl)) (f.se (by kernel_rfl)) (f.sr (by kernel_rfl)) (f.sk (by kernel_rfl))).1, (fin_V c (f.bn hk12 (by kernel_rfl) (by kernel_rfl)) (f.sc (by kernel_rfl)) (f.sd (by kernel_rfl)) (f.se (by kernel_rfl)) (f.sr (by kernel_rfl)) (f.sk (by kernel_rfl))).2, by decide⟩
  · rw [show (ents.getD 17 noEnt).shape = [86, 114] from rfl] at f ⊢
    have hk12 : c.kind ≠ 12 := by omega
    exact ⟨(fin_Vr c (f.bn hk12 (by kernel_rfl) (by kernel_rfl)) (f.sc (by kernel_rfl)) (f.sd (by kernel_rfl)) (f.se (by kernel_rfl)) (f.sk (by kernel_rfl))).1, (fin_Vr c (f.bn hk12 (by kernel_rfl) (by kernel_rfl)) (f.sc (by kernel_rfl)) (f.sd (by kernel_rfl)) (f.se (by kernel_rfl)) (f.sk (by kernel_rfl))).2, by decide⟩
  · rw [show (ents.getD 18 noEnt).shape = [86, 99, 100, 107] from rfl] at f ⊢
    have hk12 : c.kind ≠ 12 := by omega
    exact ⟨(fin_Vcdk c (f.bn hk12 (by kernel_rfl) (by kernel_rfl)) (f.se (by kernel_rfl)) (f.sr (by kernel_rfl))).1, (fin_Vcdk c (f.bn hk12 (by kernel_rfl) (by kernel_rfl)) (f.se (by kernel_rfl)) (f.sr (by kernel_rfl))).2, by decide⟩
  · rw [show (ents.getD 19 noEnt).shape = [86] from rfl] at f ⊢
    have hk12 : c.kind ≠ 12 := by omega
    exact ⟨(fin_V c (f.bn hk12 (by kernel_rfl) (by kernel_rfl)) (f.sc (by kernel_rfl)) (f.sd (by kernel_rfl)) (f.se (by kernel_rfl)) (f.sr (by kernel_rfl)) (f.sk (by kernel_rfl))).1, (fin_V c (f.bn hk12 (by kernel_rfl) (by kernel_rfl)) (f.sc (by kernel_rfl)) (f.sd (by kernel_rfl)) (f.se (by kernel_rfl)) (f.sr (by kernel_rfl)) (f.sk (by kernel_rfl))).2, by decide⟩
  · rw [show (ents.getD 20 noEnt).shape = [86, 99, 100, 101] from rfl] at f ⊢
    have hk12 : c.kind ≠ 12 := by omega
    exact ⟨(fin_Vcde c (f.bn hk12 (by kernel_rfl) (by kernel_rfl)) (f.sr (by kernel_rfl)) (f.sk (by kernel_rfl))).1, (fin_Vcde c (f.bn hk12 (by kernel_rfl) (by kernel_rfl)) (f.sr (by kernel_rfl)) (f.sk (by kernel_rfl))).2, by decide⟩
  · rw [show (ents.getD 21 noEnt).shape = [86, 87] from rfl] at f ⊢
    exact ⟨(fin_VW c (f.sc (by kernel_rfl)) (f.sd (by kernel_rfl)) (f.se (by kernel_rfl)) (f.sr (by kernel_rfl)) (f.sk (by kernel_rfl))).1, (fin_VW c (f.sc (by kernel_rfl)) (f.sd (by kernel_rfl)) (f.se (by kernel_rfl)) (f.sr (by kernel_rfl)) (f.sk (by kernel_rfl))).2, by decide⟩
  · rw [show (ents.getD 22 noEnt).shape = [86, 87] from rfl] at f ⊢
    exact ⟨(fin_VW c (f.sc (by kernel_rfl)) (f.sd (by kernel_rfl)) (f.se (by kernel_rfl)) (f.sr (by kernel_rfl)) (f.sk (by kernel_rfl))).1, (fin_VW c (f.sc (by kernel_rfl)) (f.sd (by kernel_rfl)) (f.se (by kernel_rfl)) (f.sr (by kernel_rfl)) (f.sk (by kernel_rfl))).2, by decide⟩
end Go.Proofs.YtgemgmdnnjaghaaGreatDoor

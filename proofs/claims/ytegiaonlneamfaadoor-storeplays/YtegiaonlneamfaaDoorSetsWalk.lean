/- Facts and contract of Range: all numbers between two, or its error. -/
import Derived.Test.YtegiaonlneamfaaDoorOf
import Derived.Lib.QuietBelow
namespace Go.Proofs.YtegiaonlneamfaaDoor
open Go.RowKit

/-- The numbers from low to high. -/
def rangeL (lo hi : Int) : List Int := (List.range (hi - lo + 1).toNat).map fun j : Nat => lo + (j : Int)
/-- The error of Range. -/
def rangeErr (lo hi : Int) : Int := if mayB lo = true ∧ mayB hi = true then (if hi < lo then 4 else if 65536 ≤ hi - lo then 5 else 0) else 3

theorem mem_rangeL (lo hi v : Int) : v ∈ rangeL lo hi ↔ lo ≤ v ∧ v ≤ hi := by
  unfold rangeL
  rw [List.mem_map]
  constructor
  · rintro ⟨j, hj, rfl⟩
    have := List.mem_range.1 hj
    omega
  · intro h
    exact ⟨(v - lo).toNat, List.mem_range.2 (by omega), by omega⟩

theorem rising_rangeL (lo hi : Int) : (rangeL lo hi).Pairwise (· < ·) := by
  unfold rangeL
  rw [List.pairwise_map]
  exact List.pairwise_lt_range.imp (by intro a b h; omega)

theorem len_rangeL (lo hi : Int) : (rangeL lo hi).length = (hi - lo + 1).toNat := by simp [rangeL]

/-- The words of a range. -/
def fullTo (m k : Nat) : List Nat := List.replicate k 18446744073709551615 ++ List.replicate (m - k) 0

theorem fullTo_set (m k : Nat) (hk : k < m) : (U (fullTo m k)).set k (.int .u64 18446744073709551615) = U (fullTo m (k + 1)) := by
  have : (fullTo m k).set k 18446744073709551615 = fullTo m (k + 1) := by
    unfold fullTo
    rw [show m - k = (m - (k + 1)) + 1 by omega, List.replicate_succ, List.set_append]
    simp [List.replicate_succ']
  rw [← this]
  unfold U
  rw [List.map_set]
  rfl

theorem full_all (m : Nat) : fullTo m m = List.replicate m 18446744073709551615 := by simp [fullTo]

def rangeWs (lo hi : Int) (m : Nat) : List Nat :=
  ((List.replicate m 18446744073709551615).set 0 (18446744073709551615 &&& upN lo)).set (m - 1) (((List.replicate m 18446744073709551615).set 0 (18446744073709551615 &&& upN lo)).getD (m - 1) 0 &&& downN hi)

theorem ones_bit (j : Nat) : (18446744073709551615 : Nat).testBit j = decide (j < 64) := by
  rw [show (18446744073709551615 : Nat) = 2 ^ 64 - 1 from rfl, Nat.testBit_two_pow_sub_one]

theorem getD_rep (m j : Nat) : (List.replicate m 18446744073709551615).getD j 0 = if j < m then 18446744073709551615 else 0 := by
  rw [List.getD_eq_getElem?_getD, List.getElem?_replicate]
  split <;> rfl

theorem range_get (lo hi : Int) (m : Nat) (hm : 0 < m) (j : Nat) : (rangeWs lo hi m).getD j 0 =
    if j < m then (if j = m - 1 then (if j = 0 then 18446744073709551615 &&& upN lo else 18446744073709551615) &&& downN hi else (if j = 0 then 18446744073709551615 &&& upN lo else 18446744073709551615)) else 0 := by
  unfold rangeWs
  rw [getD_set _ _ _ _ (by simp; omega), getD_set _ _ _ _ (by simp; omega), getD_set _ _ _ _ (by simp; omega), getD_rep, getD_rep]
  (repeat' split) <;> first | rfl | (exfalso; omega)

theorem range_form (lo hi : Int) (m : Nat) (hle : lo ≤ hi) (h1 : -1000000 ≤ lo) (h2 : hi ≤ 1000000) (hm : (m : Int) = hi / 64 - lo / 64 + 1) :
    (rangeWs lo hi m).length = m ∧ Form (lo / 64) (rangeWs lo hi m) ∧ listOf (lo / 64) (rangeWs lo hi m) = rangeL lo hi := by
  have hm0 : 0 < m := by omega
  have hlen : (rangeWs lo hi m).length = m := by simp [rangeWs]
  have hlt : ∀ j, (rangeWs lo hi m).getD j 0 < 18446744073709551616 := by
    intro j
    rw [range_get lo hi m hm0]
    split
    · split <;> split
      · exact and_lt _ _ (and_lt _ _ (by decide))
      · exact and_lt _ _ (by decide)
      · exact and_lt _ _ (by decide)
      · decide
    · decide
  have hhas : ∀ v, hasB (lo / 64) (rangeWs lo hi m) v = true ↔ lo ≤ v ∧ v ≤ hi := by
    intro v
    unfold hasB
    rw [range_get lo hi m hm0]
    by_cases hs : lo / 64 ≤ v / 64
    · by_cases hj : (v / 64 - lo / 64).toNat < m
      · rw [if_pos hj]
        have hb : (v % 64).toNat < 64 := by omega
        by_cases ha : (v / 64 - lo / 64).toNat = m - 1 <;> by_cases hz : (v / 64 - lo / 64).toNat = 0
        · rw [if_pos ha, if_pos hz, Nat.testBit_and, Nat.testBit_and, ones_bit, upN_bit, downN_bit]
          simp only [hs, hb, decide_true, Bool.true_and, Bool.and_eq_true, decide_eq_true_eq]
          omega
        · rw [if_pos ha, if_neg hz, Nat.testBit_and, ones_bit, downN_bit]
          simp only [hs, hb, decide_true, Bool.true_and, decide_eq_true_eq]
          omega
        · rw [if_neg ha, if_pos hz, Nat.testBit_and, ones_bit, upN_bit]
          simp only [hs, hb, decide_true, Bool.true_and, decide_eq_true_eq]
          omega
        · rw [if_neg ha, if_neg hz, ones_bit]
          simp only [hs, hb, decide_true, Bool.true_and, true_iff]
          omega
      · rw [if_neg hj]
        simp
        omega
    · simp only [hs, decide_false, Bool.false_and]
      constructor
      · intro q; cases q
      · intro q; omega
  refine ⟨hlen, ⟨hlt, fun _ e => ?_, fun _ e => ?_, fun e => by omega, by omega, by omega⟩, ?_⟩
  · have := (hhas lo).2 ⟨by omega, hle⟩
    unfold hasB at this
    rw [show (lo / 64 - lo / 64).toNat = 0 by omega, e] at this
    simp at this
  · have := (hhas hi).2 ⟨hle, by omega⟩
    unfold hasB at this
    rw [show (hi / 64 - lo / 64).toNat = (rangeWs lo hi m).length - 1 by omega, e] at this
    simp at this
  · apply eq_of_rising _ _ (rising_listOf _ _) (rising_rangeL _ _)
    intro v
    rw [mem_listOf, hhas, mem_rangeL]
end Go.Proofs.YtegiaonlneamfaaDoor

/- Contract of Range: all numbers between two, or its error. -/
namespace Go.Proofs.YtegiaonlneamfaaDoor
open Go.RowKit

theorem boxed_free {w W : World} {a b c : Value} {t : TypeId} (h : Below (w.heap.size + 1) (w.alloc (.cells #[a, b, c] t)) W) :
    W.frozen? ⟨w.heap.size, 0, none⟩ = false ∧ W.frozen? ⟨w.heap.size, 1, none⟩ = false ∧ W.frozen? ⟨w.heap.size, 2, none⟩ = false :=
  ⟨by rw [h.frozen (by simp)]; simp, by rw [h.frozen (by simp)]; simp, by rw [h.frozen (by simp)]; simp⟩

theorem own_word {w : World} {base g m k : Nat} {zs : List Nat} (h : w.ownsRow base 85 1 (.slice (some ⟨g, 0, none⟩) m m) m (U zs)) (hz : zs.length = m) (hk : k < m) : w.cell? ⟨g, k, none⟩ = some (.int .u64 ((zs.getD k 0 : Nat) : Int)) := by
  rw [h.cellAt k (by omega)]
  simp [U, List.getD_eq_getElem?_getD, List.getElem?_eq_getElem (show k < zs.length by omega)]

theorem own_put {w : World} {base g m : Nat} {zs : List Nat} (h : w.ownsRow base 85 1 (.slice (some ⟨g, 0, none⟩) m m) m (U zs)) (k x : Nat) : (w.setCell ⟨g, k, none⟩ (.int .u64 (x : Nat))).ownsRow base 85 1 (.slice (some ⟨g, 0, none⟩) m m) m (U (zs.set k x)) := by
  have := (h.stored k (.int .u64 (x : Nat))).1
  rwa [show (U zs).set k (.int .u64 ((x : Nat) : Int)) = U (zs.set k x) by unfold U; rw [List.map_set]] at this

end Go.Proofs.YtegiaonlneamfaaDoor

/- Contracts of the law's own near and wakes. -/
namespace Go.Proofs.YtegiaonlneamfaaDoor
open Go.RowKit

/-- The numbers of which a domain is made. -/
def nearL (zs : List Int) : List Int := (zs.take 40).map fun z => z.tmod 3000

theorem near_len (zs : List Int) : (nearL zs).length = min 40 zs.length := by simp [nearL]

def nearTo (zs : List Int) (k : Nat) : List Int := (zs.take k).map fun z => z.tmod 3000
theorem nearTo_step (zs : List Int) (k : Nat) (h : k < zs.length) : nearTo zs (k + 1) = nearTo zs k ++ [(zs.getD k 0).tmod 3000] := by
  unfold nearTo
  rw [List.take_succ_eq_append_getElem h, List.map_append, List.getD_eq_getElem?_getD, List.getElem?_eq_getElem h]
  rfl
theorem nearTo_len (zs : List Int) (k : Nat) : (nearTo zs k).length ≤ k := by simp [nearTo]; omega

end Go.Proofs.YtegiaonlneamfaaDoor

/- Contract of the law's own wakes: it is true. Condition: the table of math/bits is laid as its text says. -/
namespace Go.Proofs.YtegiaonlneamfaaDoor
open Go.RowKit

/-- Three cells of one block. -/
def At3 (W : World) (g : Nat) (a b c : Value) : Prop := g < W.heap.size ∧ W.cell? ⟨g, 0, none⟩ = some a ∧ W.cell? ⟨g, 1, none⟩ = some b ∧ W.cell? ⟨g, 2, none⟩ = some c
theorem At3.below {W W' : World} {g : Nat} {a b c : Value} (h : At3 W g a b c) (hb : Below W.heap.size W W') : At3 W' g a b c :=
  ⟨Nat.lt_of_lt_of_le h.1 hb.size, (hb.cell h.1).trans h.2.1, (hb.cell h.1).trans h.2.2.1, (hb.cell h.1).trans h.2.2.2⟩
theorem At3.new (W : World) (a b c : Value) (t : TypeId) : At3 (W.alloc (.cells #[a, b, c] t)) W.heap.size a b c := ⟨by simp, by simp, by simp, by simp⟩

theorem wakes_ofL : ofL [3, 1, 3] = [1, 3] := by decide +kernel
theorem wakes_ofE : ofErr [3, 1, 3] = 0 := by decide +kernel
theorem wakes_f : ([1, 3] : List Int).filter (fun u => decide (u ≠ 3)) = [1] := by decide +kernel
theorem wakes_c : chg [1, 3] [1] = 3 := by decide +kernel
theorem wakes_r : rangeErr 5 4 = 4 := by decide +kernel
theorem wakes_r2 : rangeErr (-3) 70 = 0 := by decide +kernel
theorem wakes_l : (rangeL (-3) 70).length = 74 := by decide +kernel
theorem wakes_h : decide ((-3 : Int) ∈ rangeL (-3) 70) = true := by decide +kernel
theorem wakes_n : decide ((71 : Int) ∈ rangeL (-3) 70) = false := by decide +kernel

theorem ints3 (w : World) : Lies (w.alloc (.cells #[.int .i64 3, .int .i64 1, .int .i64 3] 3)) (some ⟨w.heap.size, 0, none⟩) 3 (i64f [3, 1, 3]) := by
  intro _
  refine ⟨_, rfl, by simp, fun j hj => ?_⟩
  match j, hj with
  | 0, _ => simp [Addr.add, i64f]
  | 1, _ => simp [Addr.add, i64f]
  | 2, _ => simp [Addr.add, i64f]

theorem ints1 (w : World) (z : Int) : Lies (w.alloc (.cells #[.int .i64 z] 3)) (some ⟨w.heap.size, 0, none⟩) 1 (i64f [z]) := by
  intro _
  refine ⟨_, rfl, by simp, fun j hj => ?_⟩
  match j, hj with
  | 0, _ => simp [Addr.add, i64f]

end Go.Proofs.YtegiaonlneamfaaDoor

/- The walk of the law DomSets: it returns true. -/
namespace Go.Proofs.YtegiaonlneamfaaDoor
open Go.RowKit Go.Sort

/-- A domain in a box. -/
structure Box (W : World) (g : Nat) (s : Int) (A : Option Addr) (n c : Nat) (L : List Int) : Prop where
  at3 : At3 W g (.int .i64 s) (.slice A n c) (.int .i64 (L.length : Nat))
  dom : IsDom W (.agg #[.int .i64 s, .slice A n c, .int .i64 (L.length : Nat)]) L

theorem Box.below {W W' : World} {g : Nat} {s : Int} {A : Option Addr} {n c : Nat} {L : List Int} (h : Box W g s A n c L) (hb : Below W.heap.size W W') : Box W' g s A n c L := ⟨h.at3.below hb, h.dom.below hb⟩
theorem Box.new {W : World} {s : Int} {A : Option Addr} {n c : Nat} {L : List Int} (h : IsDom W (.agg #[.int .i64 s, .slice A n c, .int .i64 (L.length : Nat)]) L) :
    Box (W.alloc (.cells #[.int .i64 s, .slice A n c, .int .i64 (L.length : Nat)] 48)) W.heap.size s A n c L := ⟨At3.new _ _ _ _ _, h.below (below1 _ _)⟩

/-- A new domain, with its parts named. -/
def GivesParts (w : World) (R : List Int) (ch : Int) (e : Ending) (w' : World) : Prop :=
  ∃ s A n c, e = .returned (.tuple #[.agg #[.int .i64 s, .slice A n c, .int .i64 (R.length : Nat)], .int .i64 ch]) ∧ IsDom w' (.agg #[.int .i64 s, .slice A n c, .int .i64 (R.length : Nat)]) R ∧ Below w.heap.size w w'
theorem GivesDom.parts {w w' : World} {R : List Int} {ch : Int} {e : Ending} (h : GivesDom w R ch e w') : GivesParts w R ch e w' := by
  obtain ⟨d, he, hd, hb⟩ := h
  obtain ⟨s, A, ws, c, rfl, -⟩ := id hd
  exact ⟨s, A, ws.length, c, he, hd, hb⟩

/-- Of(near(..)). -/
theorem of_near (A : Option Addr) (zs : List Int) (c n : Nat) (w : World) (hn : n = (nearL zs).length) (h : Lies w A n (i64f (nearL zs))) : Calls Tryd.prog 16 #[.slice A n c] w (GivesParts w (ofL (nearL zs)) (ofErr (nearL zs))) := by
  subst hn
  exact (of_dom A (nearL zs) c w h (by rw [near_len]; omega)).mono fun _ _ => GivesDom.parts

/-- A new slice, with its parts named. -/
def GivesSlice (w : World) (zs : List Int) (e : Ending) (w' : World) : Prop :=
  ∃ A c, e = .returned (.slice A zs.length c) ∧ Lies w' A zs.length (i64f zs) ∧ zs.length ≤ c ∧ Below w.heap.size w w'
theorem GivesInts.slice {w w' : World} {zs : List Int} {e : Ending} (h : GivesInts w zs e w') : GivesSlice w zs e w' := by
  obtain ⟨v, rfl, ho, hb⟩ := h
  obtain ⟨A, c, rfl, hl, hc⟩ := own_lies ho
  exact ⟨A, c, rfl, hl, hc, hb⟩

theorem tmod_small (z : Int) : -3000 < z.tmod 3000 ∧ z.tmod 3000 < 3000 := by
  have : (z.tmod 3000).natAbs = z.natAbs % 3000 := Int.natAbs_tmod z 3000
  omega

theorem IsDom.len {W : World} {d : Value} {L : List Int} (h : IsDom W d L) : L.length ≤ 2000064 := by
  obtain ⟨s, A, ws, c, -, -, hF, rfl⟩ := h
  have := len_le_listOf ws s
  have := hF.len
  omega

/-- And and Minus, what they return under a name. -/
theorem and_parts (L M P : List Int) (ch : Int) (hP : L.filter (fun u => decide (u ∈ M)) = P) (hc : chg L P = ch) (d e : Value) (W : World) (h : IsDom W d L) (he : IsDom W e M) (hT : Tab W) : Calls Tryd.prog 42 #[d, e] W (GivesParts W P ch) := by
  subst hP hc
  exact (and_dom d e L M W h he hT).mono fun _ _ => GivesDom.parts
theorem minus_parts (L M P : List Int) (ch : Int) (hP : L.filter (fun u => decide (u ∉ M)) = P) (hc : chg L P = ch) (d e : Value) (W : World) (h : IsDom W d L) (he : IsDom W e M) (hT : Tab W) : Calls Tryd.prog 27 #[d, e] W (GivesParts W P ch) := by
  subst hP hc
  exact (minus_dom d e L M W h he hT).mono fun _ _ => GivesDom.parts
theorem list_parts (L : List Int) (d : Value) (W : World) (h : IsDom W d L) (hT : Tab W) : Calls Tryd.prog 45 #[d] W (GivesSlice W L) :=
  (list_dom d L W h hT).mono fun _ _ => GivesInts.slice
theorem equal_parts (L M : List Int) (d e : Value) (b : Bool) (W : World) (hd : IsDom W d L) (he : IsDom W e M) (hb : decide (L = M) = b) :
    Calls Tryd.prog 28 #[d, e] W fun e w' => e = .returned (.bool b) ∧ Below W.heap.size W w' := by
  subst hb
  exact equal_dom d e L M W hd he

/-- What the law asks, of the lists. -/
theorem sets_lens (L M : List Int) : (L.filter fun u => decide (u ∈ M)).length + (L.filter fun u => decide (u ∉ M)).length = L.length := by
  induction L with
  | nil => rfl
  | cons a l ih => by_cases h : a ∈ M <;> simp [h] at ih ⊢ <;> omega

theorem sets_none (L M : List Int) : (L.filter fun u => decide (u ∈ M)).filter (fun u => decide (u ∈ L.filter fun u => decide (u ∉ M))) = [] := by
  rw [List.filter_eq_nil_iff]
  intro u hu
  simp only [List.mem_filter, decide_eq_true_eq] at hu ⊢
  intro h
  exact h.2 hu.2

theorem filter_swap {L M : List Int} (hL : L.Pairwise (· < ·)) (hM : M.Pairwise (· < ·)) : (L.filter fun u => decide (u ∈ M)) = M.filter fun u => decide (u ∈ L) := by
  apply eq_of_rising _ _ (hL.filter _) (hM.filter _)
  intro u
  simp only [List.mem_filter, decide_eq_true_eq]
  exact And.comm

theorem sets_equal {L M : List Int} (hL : L.Pairwise (· < ·)) (hM : M.Pairwise (· < ·)) :
    L = M ↔ (L.filter fun u => decide (u ∈ M)).length = L.length ∧ (L.filter fun u => decide (u ∈ M)).length = M.length := by
  constructor
  · rintro rfl
    have : (L.filter fun u => decide (u ∈ L)) = L := List.filter_eq_self.2 (by simp)
    rw [this]; exact ⟨rfl, rfl⟩
  · rintro ⟨h1, h2⟩
    rw [List.length_filter_eq_length_iff] at h1
    rw [filter_swap hL hM, List.length_filter_eq_length_iff] at h2
    apply eq_of_rising _ _ hL hM
    intro u
    exact ⟨fun h => by simpa using h1 u h, fun h => by simpa using h2 u h⟩

theorem minus_nil (L M : List Int) : (L.filter fun u => decide (u ∉ M)).length = 0 ↔ (L.filter fun u => decide (u ∈ M)).length = L.length := by
  have := sets_lens L M; omega

end Go.Proofs.YtegiaonlneamfaaDoor

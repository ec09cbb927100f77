/- The walk of the law DomSets: it returns true. -/
import Derived.Test.YtegiaonlneamfaaDoorWakes
import Derived.Lib.QuietBelow
namespace Go.Proofs.YtegiaonlneamfaaDoor
open Go.RowKit Go.Sort

/-- A domain in a box. -/
structure Box (W : World) (g : Nat) (s : Int) (A : Option Addr) (n c : Nat) (L : List Int) : Prop where
  at3 : At3 W g (.int .i64 s) (.slice A n c) (.int .i64 (L.length : Nat))
  dom : IsDom W (.agg #[.int .i64 s, .slice A n c, .int .i64 (L.length : Nat)]) L

theorem Box.below {W W' : World} {g : Nat} {s : Int} {A : Option Addr} {n c : Nat} {L : List Int} (h : Box W g s A n c L) (hb : Below W.heap.size W W') : Box W' g s A n c L := ⟨h.at3.below hb, h.dom.below hb⟩
theorem Box.new {W : World} {s : Int} {A : Option Addr} {n c : Nat} {L : List Int} (h : IsDom W (.agg #[.int .i64 s, .slice A n c, .int .i64 (L.length : Nat)]) L) :
    Box (W.alloc (.cells #[.int .i64 s, .slice A n c, .int .i64 (L.length : Nat)] 48)) W.heap.size s A n c L := ⟨At3.new _ _ _ _ _, h.below (below1 _ _)⟩

/-- A new domain, with its parts named. -/
def GivesParts (w : World) (R : List Int) (ch : Int) (e : Ending) (w' : World) : Prop :=
  ∃ s A n c, e = .returned (.tuple #[.agg #[.int .i64 s, .slice A n c, .int .i64 (R.length : Nat)], .int .i64 ch]) ∧ IsDom w' (.agg #[.int .i64 s, .slice A n c, .int .i64 (R.length : Nat)]) R ∧ Below w.heap.size w w'
theorem GivesDom.parts {w w' : World} {R : List Int} {ch : Int} {e : Ending} (h : GivesDom w R ch e w') : GivesParts w R ch e w' := by
  obtain ⟨d, he, hd, hb⟩ := h
  obtain ⟨s, A, ws, c, rfl, -⟩ := id hd
  exact ⟨s, A, ws.length, c, he, hd, hb⟩

/-- Of(near(..)). -/
theorem of_near (A : Option Addr) (zs : List Int) (c n : Nat) (w : World) (hn : n = (nearL zs).length) (h : Lies w A n (i64f (nearL zs))) : Calls Tryd.prog 16 #[.slice A n c] w (GivesParts w (ofL (nearL zs)) (ofErr (nearL zs))) := by
  subst hn
  exact (of_dom A (nearL zs) c w h (by rw [near_len]; omega)).mono fun _ _ => GivesDom.parts

/-- A new slice, with its parts named. -/
def GivesSlice (w : World) (zs : List Int) (e : Ending) (w' : World) : Prop :=
  ∃ A c, e = .returned (.slice A zs.length c) ∧ Lies w' A zs.length (i64f zs) ∧ zs.length ≤ c ∧ Below w.heap.size w w'
theorem GivesInts.slice {w w' : World} {zs : List Int} {e : Ending} (h : GivesInts w zs e w') : GivesSlice w zs e w' := by
  obtain ⟨v, rfl, ho, hb⟩ := h
  obtain ⟨A, c, rfl, hl, hc⟩ := own_lies ho
  exact ⟨A, c, rfl, hl, hc, hb⟩

theorem tmod_small (z : Int) : -3000 < z.tmod 3000 ∧ z.tmod 3000 < 3000 := by
  have : (z.tmod 3000).natAbs = z.natAbs % 3000 := Int.natAbs_tmod z 3000
  omega

theorem IsDom.len {W : World} {d : Value} {L : List Int} (h : IsDom W d L) : L.length ≤ 2000064 := by
  obtain ⟨s, A, ws, c, -, -, hF, rfl⟩ := h
  have := len_le_listOf ws s
  have := hF.len
  omega

/-- And and Minus, what they return under a name. -/
theorem and_parts (L M P : List Int) (ch : Int) (hP : L.filter (fun u => decide (u ∈ M)) = P) (hc : chg L P = ch) (d e : Value) (W : World) (h : IsDom W d L) (he : IsDom W e M) (hT : Tab W) : Calls Tryd.prog 42 #[d, e] W (GivesParts W P ch) := by
  subst hP hc
  exact (and_dom d e L M W h he hT).mono fun _ _ => GivesDom.parts
theorem minus_parts (L M P : List Int) (ch : Int) (hP : L.filter (fun u => decide (u ∉ M)) = P) (hc : chg L P = ch) (d e : Value) (W : World) (h : IsDom W d L) (he : IsDom W e M) (hT : Tab W) : Calls Tryd.prog 27 #[d, e] W (GivesParts W P ch) := by
  subst hP hc
  exact (minus_dom d e L M W h he hT).mono fun _ _ => GivesDom.parts
theorem list_parts (L : List Int) (d : Value) (W : World) (h : IsDom W d L) (hT : Tab W) : Calls Tryd.prog 45 #[d] W (GivesSlice W L) :=
  (list_dom d L W h hT).mono fun _ _ => GivesInts.slice
theorem equal_parts (L M : List Int) (d e : Value) (b : Bool) (W : World) (hd : IsDom W d L) (he : IsDom W e M) (hb : decide (L = M) = b) :
    Calls Tryd.prog 28 #[d, e] W fun e w' => e = .returned (.bool b) ∧ Below W.heap.size W w' := by
  subst hb
  exact equal_dom d e L M W hd he

/-- What the law asks, of the lists. -/
theorem sets_lens (L M : List Int) : (L.filter fun u => decide (u ∈ M)).length + (L.filter fun u => decide (u ∉ M)).length = L.length := by
  induction L with
  | nil => rfl
  | cons a l ih => by_cases h : a ∈ M <;> simp [h] at ih ⊢ <;> omega

theorem sets_none (L M : List Int) : (L.filter fun u => decide (u ∈ M)).filter (fun u => decide (u ∈ L.filter fun u => decide (u ∉ M))) = [] := by
  rw [List.filter_eq_nil_iff]
  intro u hu
  simp only [List.mem_filter, decide_eq_true_eq] at hu ⊢
  intro h
  exact h.2 hu.2

theorem filter_swap {L M : List Int} (hL : L.Pairwise (· < ·)) (hM : M.Pairwise (· < ·)) : (L.filter fun u => decide (u ∈ M)) = M.filter fun u => decide (u ∈ L) := by
  apply eq_of_rising _ _ (hL.filter _) (hM.filter _)
  intro u
  simp only [List.mem_filter, decide_eq_true_eq]
  exact And.comm

theorem sets_equal {L M : List Int} (hL : L.Pairwise (· < ·)) (hM : M.Pairwise (· < ·)) :
    L = M ↔ (L.filter fun u => decide (u ∈ M)).length = L.length ∧ (L.filter fun u => decide (u ∈ M)).length = M.length := by
  constructor
  · rintro rfl
    have : (L.filter fun u => decide (u ∈ L)) = L := List.filter_eq_self.2 (by simp)
    rw [this]; exact ⟨rfl, rfl⟩
  · rintro ⟨h1, h2⟩
    rw [List.length_filter_eq_length_iff] at h1
    rw [filter_swap hL hM, List.length_filter_eq_length_iff] at h2
    apply eq_of_rising _ _ hL hM
    intro u
    exact ⟨fun h => by simpa using h1 u h, fun h => by simpa using h2 u h⟩

theorem minus_nil (L M : List Int) : (L.filter fun u => decide (u ∉ M)).length = 0 ↔ (L.filter fun u => decide (u ∈ M)).length = L.length := by
  have := sets_lens L M; omega

end Go.Proofs.YtegiaonlneamfaaDoor

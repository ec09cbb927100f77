/- The walk of the law DomSets: it returns true. -/
import Derived.Test.YtmamgaaeeonfmaaGreatDoorDWakes
import Derived.Lib.QuietBelow
import Derived.RegionTactic
import Derived.ChangeAlike
namespace Go.Proofs.YtmamgaaeeonfmaaGreatDoor
open Go.RowKit Go.Sort

/-- A domain in a box. -/
structure Box (W : World) (g : Nat) (s : Int) (A : Option Addr) (n c : Nat) (L : List Int) : Prop where
  at3 : At3 W g (.int .i64 s) (.slice A n c) (.int .i64 (L.length : Nat))
  dom : IsDom W (.agg #[.int .i64 s, .slice A n c, .int .i64 (L.length : Nat)]) L

theorem Box.below {W W' : World} {g : Nat} {s : Int} {A : Option Addr} {n c : Nat} {L : List Int} (h : Box W g s A n c L) (hb : Below W.heap.size W W') : Box W' g s A n c L := ⟨h.at3.below hb, h.dom.below hb⟩
theorem Box.new {W : World} {s : Int} {A : Option Addr} {n c : Nat} {L : List Int} (h : IsDom W (.agg #[.int .i64 s, .slice A n c, .int .i64 (L.length : Nat)]) L) :
    Box (W.alloc (.cells #[.int .i64 s, .slice A n c, .int .i64 (L.length : Nat)] 105)) W.heap.size s A n c L := ⟨At3.new _ _ _ _ _, h.below (below1 _ _)⟩

/-- A new domain, with its parts named. -/
def GivesParts (w : World) (R : List Int) (ch : Int) (e : Ending) (w' : World) : Prop :=
  ∃ s A n c, e = .returned (.tuple #[.agg #[.int .i64 s, .slice A n c, .int .i64 (R.length : Nat)], .int .i64 ch]) ∧ IsDom w' (.agg #[.int .i64 s, .slice A n c, .int .i64 (R.length : Nat)]) R ∧ Below w.heap.size w w'
theorem GivesDom.parts {w w' : World} {R : List Int} {ch : Int} {e : Ending} (h : GivesDom w R ch e w') : GivesParts w R ch e w' := by
  obtain ⟨d, he, hd, hb⟩ := h
  obtain ⟨s, A, ws, c, rfl, -⟩ := id hd
  exact ⟨s, A, ws.length, c, he, hd, hb⟩

/-- A new slice, with its parts named. -/
def GivesSlice (w : World) (zs : List Int) (e : Ending) (w' : World) : Prop :=
  ∃ A c, e = .returned (.slice A zs.length c) ∧ Lies w' A zs.length (i64f zs) ∧ zs.length ≤ c ∧ Below w.heap.size w w'
theorem GivesInts.slice {w w' : World} {zs : List Int} {e : Ending} (h : GivesInts w zs e w') : GivesSlice w zs e w' := by
  obtain ⟨v, rfl, ho, hb⟩ := h
  obtain ⟨A, c, rfl, hl, hc⟩ := own_lies ho
  exact ⟨A, c, rfl, hl, hc, hb⟩

end Go.Proofs.YtmamgaaeeonfmaaGreatDoor

/- Plain facts for the law DomWalks. No walk. -/
namespace Go.Proofs.YtmamgaaeeonfmaaGreatDoor
open Go.RowKit

theorem ins_len (v : Int) : ∀ l, (ins v l).length ≤ l.length + 1
  | [] => by simp [ins]
  | a :: l => by
    unfold ins
    split
    · simp
    · split
      · simp
      · have := ins_len v l
        simp; omega

theorem setOf_len (zs : List Int) : (setOf zs).length ≤ zs.length := by
  have : ∀ (zs l : List Int), (zs.foldl (fun l v => ins v l) l).length ≤ l.length + zs.length := by
    intro zs
    induction zs with
    | nil => intro l; simp
    | cons z zs ih =>
      intro l
      rw [List.foldl_cons]
      have := ih (ins z l)
      have := ins_len z l
      simp only [List.length_cons]
      omega
  have := this zs []
  simpa [setOf] using this

end Go.Proofs.YtmamgaaeeonfmaaGreatDoor

/- Contracts of the reference's Has, Next, Prev and Range: they only read. -/
namespace Go.Proofs.YtmamgaaeeonfmaaGreatDoor
open Go.RowKit

theorem take_getD (zs : List Int) (k : Nat) (h : k < zs.length) : zs.take (k + 1) = zs.take k ++ [zs.getD k 0] := by
  rw [List.take_succ_eq_append_getElem h, List.getD_eq_getElem?_getD, List.getElem?_eq_getElem h]
  rfl

end Go.Proofs.YtmamgaaeeonfmaaGreatDoor

/- Contract of the reference's Of: the numbers rising, each once, or the error. -/
namespace Go.Proofs.YtmamgaaeeonfmaaGreatDoor
open Go.RowKit

theorem ins_app (v : Int) : ∀ (t s : List Int), (∃ u ∈ t, v < u) → ins v (t ++ s) = ins v t ++ s
  | [], s, h => by obtain ⟨u, hu, _⟩ := h; cases hu
  | a :: t, s, h => by
    rw [List.cons_append]
    unfold ins
    by_cases h1 : v < a
    · rw [if_pos h1, if_pos h1]; rfl
    · rw [if_neg h1, if_neg h1]
      by_cases h2 : v = a
      · rw [if_pos h2, if_pos h2]; rfl
      · rw [if_neg h2, if_neg h2, ins_app v t s, List.cons_append]
        obtain ⟨u, hu, hv⟩ := h
        rcases List.mem_cons.1 hu with e | e
        · exact absurd (e ▸ hv) h1
        · exact ⟨u, e, hv⟩

theorem ins_end (v : Int) : ∀ (t s : List Int), (∀ u ∈ t, u < v) → ins v (t ++ s) = t ++ ins v s
  | [], s, _ => rfl
  | a :: t, s, h => by
    rw [List.cons_append, List.cons_append]
    have := h a (by simp)
    rw [ins.eq_def]
    simp only
    rw [if_neg (by omega), if_neg (by omega), ins_end v t s (fun u hu => h u (by simp [hu]))]

theorem ins_in (v : Int) : ∀ l : List Int, l.Pairwise (· < ·) → v ∈ l → ins v l = l
  | [], _, h => by cases h
  | a :: l, hp, h => by
    have hp' := List.pairwise_cons.1 hp
    unfold ins
    rcases List.mem_cons.1 h with e | e
    · rw [if_neg (by omega), if_pos e]
    · have := hp'.1 v e
      rw [if_neg (by omega), if_neg (by omega), ins_in v l hp'.2 e]

/-- Whether a greater number was met. -/
def doneTo (v : Int) (t : List Int) : Bool := t.any fun u => decide (v < u)
/-- What is gathered then. -/
def accTo (v : Int) (t : List Int) : List Int := if doneTo v t = true then ins v t else t

theorem doneTo_app (v y : Int) (t : List Int) : doneTo v (t ++ [y]) = (doneTo v t || decide (v < y)) := by simp [doneTo]

theorem acc_put (v y : Int) (t : List Int) (hn : v ∉ t) (hd : doneTo v t = false) (hy : v < y) : accTo v (t ++ [y]) = accTo v t ++ [v] ++ [y] := by
  unfold accTo
  rw [if_pos (by rw [doneTo_app, hd]; simpa using hy), if_neg (by rw [hd]; decide), ins_end]
  · simp [ins, hy]
  · intro u hu
    have h1 : ¬ v < u := by
      intro q
      have : doneTo v t = true := List.any_eq_true.2 ⟨u, hu, by simpa using q⟩
      rw [hd] at this; cases this
    have h2 : u ≠ v := fun e => hn (e ▸ hu)
    omega

theorem acc_go (v y : Int) (t : List Int) (h : doneTo v t = true ∨ ¬ v < y) : accTo v (t ++ [y]) = accTo v t ++ [y] := by
  unfold accTo
  cases hd : doneTo v t
  · have hy : ¬ v < y := by
      rcases h with h | h
      · rw [hd] at h; cases h
      · exact h
    rw [if_neg (by rw [doneTo_app, hd]; simpa using hy), if_neg (by decide)]
  · rw [if_pos (by rw [doneTo_app, hd]; rfl), if_pos rfl, ins_app]
    obtain ⟨u, hu, q⟩ := List.any_eq_true.1 hd
    exact ⟨u, hu, by simpa using q⟩

theorem acc_done (v : Int) (t : List Int) (h : doneTo v t = true) : accTo v t = ins v t := by unfold accTo; rw [if_pos h]
theorem acc_last (v : Int) (t : List Int) (hn : v ∉ t) (h : doneTo v t = false) : accTo v t ++ [v] = ins v t := by
  unfold accTo
  rw [if_neg (by rw [h]; decide)]
  have := ins_end v t [] (fun u hu => by
    have h1 : ¬ v < u := by
      intro q
      have : doneTo v t = true := List.any_eq_true.2 ⟨u, hu, by simpa using q⟩
      rw [h] at this; cases this
    have h2 : u ≠ v := fun e => hn (e ▸ hu)
    omega)
  rw [List.append_nil] at this
  rw [this]; rfl

theorem accTo_len (v : Int) (t : List Int) : (accTo v t).length ≤ t.length + 1 := by
  unfold accTo
  split
  · exact ins_len v t
  · omega

theorem setOf_snoc (zs : List Int) (k : Nat) (h : k < zs.length) : setOf (zs.take (k + 1)) = ins (zs.getD k 0) (setOf (zs.take k)) := by
  rw [take_getD zs k h]
  unfold setOf
  rw [List.foldl_append]
  rfl

/-- What the first loop has seen. -/
structure Seen (zs : List Int) (k : Nat) (lo hi : Int) : Prop where
  isLo : lo ∈ zs
  isHi : hi ∈ zs
  all : ∀ j, j < k → mayB (zs.getD j 0) = true ∧ lo ≤ zs.getD j 0 ∧ zs.getD j 0 ≤ hi

theorem Seen.start (zs : List Int) (h : 0 < zs.length) : Seen zs 0 (zs.getD 0 0) (zs.getD 0 0) := ⟨getD_mem zs 0 h, getD_mem zs 0 h, fun j hj => absurd hj (by omega)⟩
theorem Seen.step {zs : List Int} {k : Nat} {lo hi lo' hi' : Int} (h : Seen zs k lo hi) (hm : mayB (zs.getD k 0) = true) (h1 : lo' ∈ zs) (h2 : hi' ∈ zs) (h3 : lo' ≤ lo) (h4 : lo' ≤ zs.getD k 0) (h5 : hi ≤ hi') (h6 : zs.getD k 0 ≤ hi') : Seen zs (k + 1) lo' hi' := by
  refine ⟨h1, h2, fun j hj => ?_⟩
  by_cases e : j = k
  · rw [e]; exact ⟨hm, h4, h6⟩
  · have := h.all j (by omega)
    exact ⟨this.1, by omega, by omega⟩
theorem Seen.err {zs : List Int} {lo hi : Int} (h : Seen zs zs.length lo hi) (hp : 0 < zs.length) : mayB lo = true ∧ mayB hi = true ∧ ofErr zs = if 65536 ≤ hi - lo then 5 else 0 := by
  have hl : lo ∈ zs ∧ ∀ z ∈ zs, lo ≤ z := ⟨h.isLo, fun z hz => by obtain ⟨j, hj, e⟩ := mem_getD zs z hz; rw [← e]; exact (h.all j hj).2.1⟩
  have hh : hi ∈ zs ∧ ∀ z ∈ zs, z ≤ hi := ⟨h.isHi, fun z hz => by obtain ⟨j, hj, e⟩ := mem_getD zs z hz; rw [← e]; exact (h.all j hj).2.2⟩
  have m1 : mayB lo = true := by obtain ⟨j, hj, e⟩ := mem_getD zs lo h.isLo; rw [← e]; exact (h.all j hj).1
  have m2 : mayB hi = true := by obtain ⟨j, hj, e⟩ := mem_getD zs hi h.isHi; rw [← e]; exact (h.all j hj).1
  refine ⟨m1, m2, ?_⟩
  rw [ofErr_by zs lo hi (by omega) hl hh, if_pos ⟨m1, m2⟩]

theorem err_three (zs : List Int) (k : Nat) (hk : k < zs.length) (h : mayB (zs.getD k 0) = false) : ofErr zs = 3 := by
  unfold ofErr
  rw [if_neg (by omega), if_pos]
  rw [List.any_eq_true]
  exact ⟨_, getD_mem zs k hk, by rw [h]; rfl⟩

/-- What the reference's Of returns. -/
def GivesOf (w : World) (zs : List Int) (er : Int) (e : Ending) (w' : World) : Prop :=
  ∃ v, e = .returned (.tuple #[v, .int .i64 er]) ∧ w'.ownsRow w.heap.size 3 1 v zs.length (I zs) ∧ Below w.heap.size w w'

/-- The second half: from the found bounds on. -/
theorem ofL_err (zs : List Int) (e : Int) (h : ofErr zs = e) (he : e ≠ 0) : ofL zs = [] := by unfold ofL; rw [h, if_neg he]
theorem ofL_ok (zs : List Int) (h : ofErr zs = 0) : ofL zs = setOf zs := by unfold ofL; rw [h, if_pos rfl]

end Go.Proofs.YtmamgaaeeonfmaaGreatDoor

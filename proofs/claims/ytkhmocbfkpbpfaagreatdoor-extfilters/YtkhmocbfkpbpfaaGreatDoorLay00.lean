/- The walk of the law DomSets: it returns true. -/
import Derived.Test.YtkhmocbfkpbpfaaGreatDoorDWakes
import Derived.Lib.QuietBelow
import Derived.RegionTactic
import Derived.ChangeAlike
namespace Go.Proofs.YtkhmocbfkpbpfaaGreatDoor
open Go.RowKit Go.Sort

/-- A domain in a box. -/
structure Box (W : World) (g : Nat) (s : Int) (A : Option Addr) (n c : Nat) (L : List Int) : Prop where
  at3 : At3 W g (.int .i64 s) (.slice A n c) (.int .i64 (L.length : Nat))
  dom : IsDom W (.agg #[.int .i64 s, .slice A n c, .int .i64 (L.length : Nat)]) L

theorem Box.below {W W' : World} {g : Nat} {s : Int} {A : Option Addr} {n c : Nat} {L : List Int} (h : Box W g s A n c L) (hb : Below W.heap.size W W') : Box W' g s A n c L := ⟨h.at3.below hb, h.dom.below hb⟩
theorem Box.new {W : World} {s : Int} {A : Option Addr} {n c : Nat} {L : List Int} (h : IsDom W (.agg #[.int .i64 s, .slice A n c, .int .i64 (L.length : Nat)]) L) :
    Box (W.alloc (.cells #[.int .i64 s, .slice A n c, .int .i64 (L.length : Nat)] 53)) W.heap.size s A n c L := ⟨At3.new _ _ _ _ _, h.below (below1 _ _)⟩

/-- A new domain, with its parts named. -/
def GivesParts (w : World) (R : List Int) (ch : Int) (e : Ending) (w' : World) : Prop :=
  ∃ s A n c, e = .returned (.tuple #[.agg #[.int .i64 s, .slice A n c, .int .i64 (R.length : Nat)], .int .i64 ch]) ∧ IsDom w' (.agg #[.int .i64 s, .slice A n c, .int .i64 (R.length : Nat)]) R ∧ Below w.heap.size w w'
theorem GivesDom.parts {w w' : World} {R : List Int} {ch : Int} {e : Ending} (h : GivesDom w R ch e w') : GivesParts w R ch e w' := by
  obtain ⟨d, he, hd, hb⟩ := h
  obtain ⟨s, A, ws, c, rfl, -⟩ := id hd
  exact ⟨s, A, ws.length, c, he, hd, hb⟩

/-- A new slice, with its parts named. -/
def GivesSlice (w : World) (zs : List Int) (e : Ending) (w' : World) : Prop :=
  ∃ A c, e = .returned (.slice A zs.length c) ∧ Lies w' A zs.length (i64f zs) ∧ zs.length ≤ c ∧ Below w.heap.size w w'
theorem GivesInts.slice {w w' : World} {zs : List Int} {e : Ending} (h : GivesInts w zs e w') : GivesSlice w zs e w' := by
  obtain ⟨v, rfl, ho, hb⟩ := h
  obtain ⟨A, c, rfl, hl, hc⟩ := own_lies ho
  exact ⟨A, c, rfl, hl, hc, hb⟩

end Go.Proofs.YtkhmocbfkpbpfaaGreatDoor

/- Plain facts for the law DomWalks. No walk. -/
namespace Go.Proofs.YtkhmocbfkpbpfaaGreatDoor
open Go.RowKit

theorem ins_len (v : Int) : ∀ l, (ins v l).length ≤ l.length + 1
  | [] => by simp [ins]
  | a :: l => by
    unfold ins
    split
    · simp
    · split
      · simp
      · have := ins_len v l
        simp; omega

theorem setOf_len (zs : List Int) : (setOf zs).length ≤ zs.length := by
  have : ∀ (zs l : List Int), (zs.foldl (fun l v => ins v l) l).length ≤ l.length + zs.length := by
    intro zs
    induction zs with
    | nil => intro l; simp
    | cons z zs ih =>
      intro l
      rw [List.foldl_cons]
      have := ih (ins z l)
      have := ins_len z l
      simp only [List.length_cons]
      omega
  have := this zs []
  simpa [setOf] using this

end Go.Proofs.YtkhmocbfkpbpfaaGreatDoor

/- Contracts of the reference's Has, Next, Prev and Range: they only read. -/
namespace Go.Proofs.YtkhmocbfkpbpfaaGreatDoor
open Go.RowKit

theorem take_getD (zs : List Int) (k : Nat) (h : k < zs.length) : zs.take (k + 1) = zs.take k ++ [zs.getD k 0] := by
  rw [List.take_succ_eq_append_getElem h, List.getD_eq_getElem?_getD, List.getElem?_eq_getElem h]
  rfl

theorem refhas_no (A : Option Addr) (c : Nat) (v : Int) (w : World) : Calls Tryz.prog 109 #[.slice A 0 c, .int .i64 v] w fun e w' => e = .returned (.bool false) ∧ w = w' := by
  go_enter Tryz.func109, Tryz.ntmps109
  go_wp2
  refine wp_loop_rounds 1 ?_
  rw [rounds_succ]
  go_wp2
  go_ret
  exact ⟨rfl, rfl⟩

theorem refhas_any (A : Option Addr) (zs : List Int) (n c : Nat) (v : Int) (w : World) (hn : n = zs.length) (h : Lies w A n (i64f zs)) (hbig : n ≤ 2000064) :
    Calls Tryz.prog 109 #[.slice A n c, .int .i64 v] w fun e w' => e = .returned (.bool (decide (v ∈ zs))) ∧ w = w' := by
  by_cases hp : 0 < n
  · obtain ⟨a, rfl, ha, hca⟩ := h hp
    have Ha := Lib.hid hca
    have Hn := Lib.hid hn
    clear hca hn h
    go_enter Tryz.func109, Tryz.ntmps109
    go_wp2
    go_loop [5] (fun i => ∃ k : Nat, k ≤ n ∧ i = .int .i64 (k : Nat) ∧ Hid (v ∉ zs.take k)) (fun i => n - (intOf i).toNat)
    case atStart => exact ⟨0, Nat.zero_le _, rfl, by show v ∉ _; simp⟩
    case round =>
      obtain ⟨k, hk, rfl, HE⟩ := hrel
      by_cases hlt : k < n
      · have ck : w.cell? (a.add k) = some (.int .i64 (zs.getD k 0)) := Ha.out k hlt
        have Ht := Lib.hid (take_getD zs k (by rw [← Hn.out]; exact hlt))
        have Hg := Lib.hid (getD_mem zs k (by rw [← Hn.out]; exact hlt))
        generalize zs.getD k 0 = x at *
        by_cases hx : x = v
        · have hx' : (x == v) = true := by simpa using hx
          have Hx := Lib.hid hx
          clear hx
          go_wp2
          go_ret
          have : decide (v ∈ zs) = true := by have := Hg.out; rw [Hx.out] at this; simpa using this
          exact ⟨by rw [this]; rfl, rfl⟩
        · have hx' : (x == v) = false := by simpa using hx
          have HE2 : Hid (v ∉ zs.take (k + 1)) := by
            show v ∉ _
            rw [Ht.out, List.mem_append]
            rintro (q | q)
            · exact HE.out q
            · simp at q; exact hx q.symm
          clear hx
          go_wp2
          go_round
          case rel => exact ⟨k + 1, by omega, by go_num, HE2⟩
          case measure => simp [intOf]; omega
      · have hall : zs.take k = zs := List.take_of_length_le (by rw [← Hn.out]; omega)
        have hno : decide (v ∈ zs) = false := by have := HE.out; rw [hall] at this; simpa using this
        have Hno := Lib.hid hno
        clear hall hno
        go_wp2
        go_ret
        exact ⟨by rw [Hno.out]; rfl, rfl⟩
  · have h0 : n = 0 := by omega
    have : zs = [] := List.eq_nil_of_length_eq_zero (by omega)
    subst this
    rw [h0]
    simpa using refhas_no A c v w

end Go.Proofs.YtkhmocbfkpbpfaaGreatDoor

/- Contract of the reference's Of: the numbers rising, each once, or the error. -/
namespace Go.Proofs.YtkhmocbfkpbpfaaGreatDoor
open Go.RowKit

theorem ins_app (v : Int) : ∀ (t s : List Int), (∃ u ∈ t, v < u) → ins v (t ++ s) = ins v t ++ s
  | [], s, h => by obtain ⟨u, hu, _⟩ := h; cases hu
  | a :: t, s, h => by
    rw [List.cons_append]
    unfold ins
    by_cases h1 : v < a
    · rw [if_pos h1, if_pos h1]; rfl
    · rw [if_neg h1, if_neg h1]
      by_cases h2 : v = a
      · rw [if_pos h2, if_pos h2]; rfl
      · rw [if_neg h2, if_neg h2, ins_app v t s, List.cons_append]
        obtain ⟨u, hu, hv⟩ := h
        rcases List.mem_cons.1 hu with e | e
        · exact absurd (e ▸ hv) h1
        · exact ⟨u, e, hv⟩

theorem ins_end (v : Int) : ∀ (t s : List Int), (∀ u ∈ t, u < v) → ins v (t ++ s) = t ++ ins v s
  | [], s, _ => rfl
  | a :: t, s, h => by
    rw [List.cons_append, List.cons_append]
    have := h a (by simp)
    rw [ins.eq_def]
    simp only
    rw [if_neg (by omega), if_neg (by omega), ins_end v t s (fun u hu => h u (by simp [hu]))]

theorem ins_in (v : Int) : ∀ l : List Int, l.Pairwise (· < ·) → v ∈ l → ins v l = l
  | [], _, h => by cases h
  | a :: l, hp, h => by
    have hp' := List.pairwise_cons.1 hp
    unfold ins
    rcases List.mem_cons.1 h with e | e
    · rw [if_neg (by omega), if_pos e]
    · have := hp'.1 v e
      rw [if_neg (by omega), if_neg (by omega), ins_in v l hp'.2 e]

/-- Whether a greater number was met. -/
def doneTo (v : Int) (t : List Int) : Bool := t.any fun u => decide (v < u)
/-- What is gathered then. -/
def accTo (v : Int) (t : List Int) : List Int := if doneTo v t = true then ins v t else t

theorem doneTo_app (v y : Int) (t : List Int) : doneTo v (t ++ [y]) = (doneTo v t || decide (v < y)) := by simp [doneTo]

theorem acc_put (v y : Int) (t : List Int) (hn : v ∉ t) (hd : doneTo v t = false) (hy : v < y) : accTo v (t ++ [y]) = accTo v t ++ [v] ++ [y] := by
  unfold accTo
  rw [if_pos (by rw [doneTo_app, hd]; simpa using hy), if_neg (by rw [hd]; decide), ins_end]
  · simp [ins, hy]
  · intro u hu
    have h1 : ¬ v < u := by
      intro q
      have : doneTo v t = true := List.any_eq_true.2 ⟨u, hu, by simpa using q⟩
      rw [hd] at this; cases this
    have h2 : u ≠ v := fun e => hn (e ▸ hu)
    omega

theorem acc_go (v y : Int) (t : List Int) (h : doneTo v t = true ∨ ¬ v < y) : accTo v (t ++ [y]) = accTo v t ++ [y] := by
  unfold accTo
  cases hd : doneTo v t
  · have hy : ¬ v < y := by
      rcases h with h | h
      · rw [hd] at h; cases h
      · exact h
    rw [if_neg (by rw [doneTo_app, hd]; simpa using hy), if_neg (by decide)]
  · rw [if_pos (by rw [doneTo_app, hd]; rfl), if_pos rfl, ins_app]
    obtain ⟨u, hu, q⟩ := List.any_eq_true.1 hd
    exact ⟨u, hu, by simpa using q⟩

theorem acc_done (v : Int) (t : List Int) (h : doneTo v t = true) : accTo v t = ins v t := by unfold accTo; rw [if_pos h]
theorem acc_last (v : Int) (t : List Int) (hn : v ∉ t) (h : doneTo v t = false) : accTo v t ++ [v] = ins v t := by
  unfold accTo
  rw [if_neg (by rw [h]; decide)]
  have := ins_end v t [] (fun u hu => by
    have h1 : ¬ v < u := by
      intro q
      have : doneTo v t = true := List.any_eq_true.2 ⟨u, hu, by simpa using q⟩
      rw [h] at this; cases this
    have h2 : u ≠ v := fun e => hn (e ▸ hu)
    omega)
  rw [List.append_nil] at this
  rw [this]; rfl

theorem accTo_len (v : Int) (t : List Int) : (accTo v t).length ≤ t.length + 1 := by
  unfold accTo
  split
  · exact ins_len v t
  · omega

theorem setOf_snoc (zs : List Int) (k : Nat) (h : k < zs.length) : setOf (zs.take (k + 1)) = ins (zs.getD k 0) (setOf (zs.take k)) := by
  rw [take_getD zs k h]
  unfold setOf
  rw [List.foldl_append]
  rfl

/-- What the first loop has seen. -/
structure Seen (zs : List Int) (k : Nat) (lo hi : Int) : Prop where
  isLo : lo ∈ zs
  isHi : hi ∈ zs
  all : ∀ j, j < k → mayB (zs.getD j 0) = true ∧ lo ≤ zs.getD j 0 ∧ zs.getD j 0 ≤ hi

theorem Seen.start (zs : List Int) (h : 0 < zs.length) : Seen zs 0 (zs.getD 0 0) (zs.getD 0 0) := ⟨getD_mem zs 0 h, getD_mem zs 0 h, fun j hj => absurd hj (by omega)⟩
theorem Seen.step {zs : List Int} {k : Nat} {lo hi lo' hi' : Int} (h : Seen zs k lo hi) (hm : mayB (zs.getD k 0) = true) (h1 : lo' ∈ zs) (h2 : hi' ∈ zs) (h3 : lo' ≤ lo) (h4 : lo' ≤ zs.getD k 0) (h5 : hi ≤ hi') (h6 : zs.getD k 0 ≤ hi') : Seen zs (k + 1) lo' hi' := by
  refine ⟨h1, h2, fun j hj => ?_⟩
  by_cases e : j = k
  · rw [e]; exact ⟨hm, h4, h6⟩
  · have := h.all j (by omega)
    exact ⟨this.1, by omega, by omega⟩
theorem Seen.err {zs : List Int} {lo hi : Int} (h : Seen zs zs.length lo hi) (hp : 0 < zs.length) : mayB lo = true ∧ mayB hi = true ∧ ofErr zs = if 65536 ≤ hi - lo then 5 else 0 := by
  have hl : lo ∈ zs ∧ ∀ z ∈ zs, lo ≤ z := ⟨h.isLo, fun z hz => by obtain ⟨j, hj, e⟩ := mem_getD zs z hz; rw [← e]; exact (h.all j hj).2.1⟩
  have hh : hi ∈ zs ∧ ∀ z ∈ zs, z ≤ hi := ⟨h.isHi, fun z hz => by obtain ⟨j, hj, e⟩ := mem_getD zs z hz; rw [← e]; exact (h.all j hj).2.2⟩
  have m1 : mayB lo = true := by obtain ⟨j, hj, e⟩ := mem_getD zs lo h.isLo; rw [← e]; exact (h.all j hj).1
  have m2 : mayB hi = true := by obtain ⟨j, hj, e⟩ := mem_getD zs hi h.isHi; rw [← e]; exact (h.all j hj).1
  refine ⟨m1, m2, ?_⟩
  rw [ofErr_by zs lo hi (by omega) hl hh, if_pos ⟨m1, m2⟩]

theorem err_three (zs : List Int) (k : Nat) (hk : k < zs.length) (h : mayB (zs.getD k 0) = false) : ofErr zs = 3 := by
  unfold ofErr
  rw [if_neg (by omega), if_pos]
  rw [List.any_eq_true]
  exact ⟨_, getD_mem zs k hk, by rw [h]; rfl⟩

/-- What the reference's Of returns. -/
def GivesOf (w : World) (zs : List Int) (er : Int) (e : Ending) (w' : World) : Prop :=
  ∃ v, e = .returned (.tuple #[v, .int .i64 er]) ∧ w'.ownsRow w.heap.size 3 1 v zs.length (I zs) ∧ Below w.heap.size w w'

theorem refof_empty (A : Option Addr) (c : Nat) (w : World) : Calls Tryz.prog 111 #[.slice A 0 c] w (GivesOf w [] 4) := by
  go_enter Tryz.func111, Tryz.ntmps111
  go_wp2
  go_ret2
  exact ⟨_, rfl, World.ownsRow_nil _ _ _ _, Below.refl _ _⟩

/-- The second half: from the found bounds on. -/
theorem ofL_err (zs : List Int) (e : Int) (h : ofErr zs = e) (he : e ≠ 0) : ofL zs = [] := by unfold ofL; rw [h, if_neg he]
theorem ofL_ok (zs : List Int) (h : ofErr zs = 0) : ofL zs = setOf zs := by unfold ofL; rw [h, if_pos rfl]

set_option maxHeartbeats 4000000 in
set_option maxRecDepth 100000 in
theorem refof_some (a : Addr) (zs : List Int) (n c : Nat) (w : World) (hn : n = zs.length) (hp : 0 < n) (hbig : n ≤ 1000000) (ha : a.block < w.heap.size) (hca : ∀ j, j < n → w.cell? (a.add j) = some (i64f zs j)) :
    Calls Tryz.prog 111 #[.slice (some a) n c] w (GivesOf w (ofL zs) (ofErr zs)) := by
  obtain ⟨i0, hi', hz0, hz1, hz2⟩ := info_parts Tryz.info3
  have hn' : ((n : Int) == 0) = false := by simp; omega
  have Ha := Lib.hid hca
  have Hn := Lib.hid hn
  have c0 : w.cell? (a.add 0) = some (.int .i64 (zs.getD 0 0)) := hca 0 hp
  have HS := Lib.hid (Seen.start zs (by omega))
  rw [add_zero] at c0
  clear hca hn
  generalize zs.getD 0 0 = z0 at *
  go_enter Tryz.func111, Tryz.ntmps111
  go_wp2
  go_loop [4, 5, 6] (fun l h i => ∃ (k : Nat) (lo hi : Int), k ≤ n ∧ l = .int .i64 lo ∧ h = .int .i64 hi ∧ i = .int .i64 (k : Nat) ∧ Hid (Seen zs k lo hi)) (fun _ _ i => n - (intOf i).toNat)
  case atStart => exact ⟨0, z0, z0, Nat.zero_le _, rfl, rfl, rfl, HS⟩
  case round =>
    clear HS c0
    obtain ⟨k, lo, hi, hk, rfl, rfl, rfl, HE⟩ := hrel
    by_cases hlt : k < n
    · have hkz : k < zs.length := by rw [← Hn.out]; exact hlt
      have ck : w.cell? (a.add k) = some (.int .i64 (zs.getD k 0)) := Ha.out k hlt
      have Hg := Lib.hid (getD_mem zs k hkz)
      have Hst := Lib.hid (fun lo' hi' => HE.out.step (lo' := lo') (hi' := hi'))
      have H3 := Lib.hid (err_three zs k hkz)
      have H1 := Lib.hid HE.out.isLo
      have H2 := Lib.hid HE.out.isHi
      clear hkz HE
      generalize zs.getD k 0 = x at *
      by_cases hm : -1000000 ≤ x ∧ x ≤ 1000000
      · obtain ⟨m1, m2⟩ := hm
        have hmb : mayB x = true := (mayB_iff x).2 ⟨m1, m2⟩
        by_cases hl : x < lo
        · by_cases hh : hi < x
          · have HS2 : Hid (Seen zs (k + 1) x x) := Hst.out x x hmb Hg.out Hg.out (by omega) (by omega) (by omega) (by omega)
            clear hmb
            go_wp2
            go_round
            case rel => exact ⟨k + 1, _, _, by omega, rfl, rfl, by go_num, HS2⟩
            case measure => simp [intOf]; omega
          · have HS2 : Hid (Seen zs (k + 1) x hi) := Hst.out x hi hmb Hg.out H2.out (by omega) (by omega) (by omega) (by omega)
            clear hmb
            go_wp2
            go_round
            case rel => exact ⟨k + 1, _, _, by omega, rfl, rfl, by go_num, HS2⟩
            case measure => simp [intOf]; omega
        · by_cases hh : hi < x
          · have HS2 : Hid (Seen zs (k + 1) lo x) := Hst.out lo x hmb H1.out Hg.out (by omega) (by omega) (by omega) (by omega)
            clear hmb
            go_wp2
            go_round
            case rel => exact ⟨k + 1, _, _, by omega, rfl, rfl, by go_num, HS2⟩
            case measure => simp [intOf]; omega
          · have HS2 : Hid (Seen zs (k + 1) lo hi) := Hst.out lo hi hmb H1.out H2.out (by omega) (by omega) (by omega) (by omega)
            clear hmb
            go_wp2
            go_round
            case rel => exact ⟨k + 1, _, _, by omega, rfl, rfl, by go_num, HS2⟩
            case measure => simp [intOf]; omega
      · have hmb : mayB x = false := by
          cases h : mayB x
          · rfl
          · exact absurd ((mayB_iff x).1 h) hm
        have He := Lib.hid (H3.out hmb)
        clear hmb
        by_cases m1 : x < -1000000
        · clear hm
          go_wp2
          go_ret2
          rw [ofL_err zs 3 He.out (by decide), He.out]
          exact ⟨_, rfl, World.ownsRow_nil _ _ _ _, Below.refl _ _⟩
        · have m2 : 1000000 < x := by omega
          clear hm
          go_wp2
          go_ret2
          rw [ofL_err zs 3 He.out (by decide), He.out]
          exact ⟨_, rfl, World.ownsRow_nil _ _ _ _, Below.refl _ _⟩
    · have hkz : k = zs.length := by rw [← Hn.out]; omega
      have HE' := HE.out
      rw [hkz] at HE'
      obtain ⟨b1, b2, herr⟩ := HE'.err (by rw [← Hn.out]; exact hp)
      have a1 := (mayB_iff lo).1 b1
      have a2 := (mayB_iff hi).1 b2
      have Herr := Lib.hid herr
      clear hkz HE' HE b1 b2 herr
      by_cases h5 : 65536 ≤ hi - lo
      · have He : Hid (ofErr zs = 5) := by show _ = _; rw [Herr.out, if_pos h5]
        go_wp2
        go_ret2
        rw [ofL_err zs 5 He.out (by decide), He.out]
        exact ⟨_, rfl, World.ownsRow_nil _ _ _ _, Below.refl _ _⟩
      · have He : Hid (ofErr zs = 0) := by show _ = _; rw [Herr.out, if_neg h5]
        go_wp2
        go_loopw [7, 8] (fun v i wr => ∃ k : Nat, k ≤ n ∧ i = .int .i64 (k : Nat) ∧ wr.ownsRow w.heap.size 3 1 v (setOf (zs.take k)).length (I (setOf (zs.take k))) ∧ Below w.heap.size w wr) (fun _ i _ => n - (intOf i).toNat)
        case atStart => exact ⟨0, Nat.zero_le _, rfl, World.ownsRow_nil _ _ _ _, Below.refl _ _⟩
        case round =>
          clear Herr a1 a2 h5 hlt hk
          obtain ⟨wo, rfl⟩ : ∃ wo, wo = wr := ⟨_, rfl⟩
          obtain ⟨k, hk, rfl, hown, hbr⟩ := hrel
          by_cases hlt : k < n
          · have hkz : k < zs.length := by rw [← Hn.out]; exact hlt
            have ck : wo.cell? (a.add k) = some (.int .i64 (zs.getD k 0)) := (hbr.cell (by rw [add_block]; exact ha)).trans (Ha.out k hlt)
            have hst := setOf_snoc zs k hkz
            have hlen : (setOf (zs.take k)).length ≤ 1000000 := Nat.le_trans (setOf_len _) (by rw [List.length_take]; omega)
            have hris := rising_setOf (zs.take k)
            obtain ⟨B, cB, rfl, hB, hcB⟩ := own_lies hown
            generalize zs.getD k 0 = x at *
            generalize hl : setOf (zs.take k) = l at *
            have hmem := refhas_any B l l.length cB x wo rfl hB (by omega)
            obtain ⟨m, hm⟩ : ∃ m, m = l.length := ⟨_, rfl⟩
            rw [← hm] at hmem hB hlen hown
            rw [← hm]
            have Hm := Lib.hid hm
            have Hst := Lib.hid hst
            have HB := Lib.hid hB
            have Hown := Lib.hid hown
            have Hbr := Lib.hid hbr
            have Hris := Lib.hid hris
            have hsz := hbr.size
            clear hm hst hB hown hbr hris hcB hkz hl
            by_cases hx : x ∈ l
            · have hin := ins_in x l Hris.out hx
              rw [show decide (x ∈ l) = true by simpa using hx] at hmem
              have Hin := Lib.hid hin
              clear hin hx
              go_wp2_with (go_at_call 109; (with_reducible refine hmem.mono ?_); rintro e w' ⟨rfl, rfl⟩)
              go_roundw
              case rel => exact ⟨k + 1, by omega, by go_num, by rw [Hst.out, Hin.out, ← Hm.out]; exact Hown.out, Hbr.out⟩
              case measure => simp [intOf]; omega
            · rw [show decide (x ∈ l) = false by simpa using hx] at hmem
              have Hx := Lib.hid hx
              clear hx
              go_wp2_with (go_at_call 109; (with_reducible refine hmem.mono ?_); rintro e w' ⟨rfl, rfl⟩)
              clear hmem
              go_loopw [10, 11, 12] (fun v d i w2 => ∃ (j : Nat) (dn : Bool), j ≤ m ∧ d = .bool dn ∧ i = .int .i64 (j : Nat) ∧ Hid (dn = doneTo x (l.take j)) ∧ w2.ownsRow wo.heap.size 3 1 v (accTo x (l.take j)).length (I (accTo x (l.take j))) ∧ Below wo.heap.size wo w2) (fun _ _ i _ => m - (intOf i).toNat)
              case atStart => exact ⟨0, false, Nat.zero_le _, rfl, rfl, rfl, World.ownsRow_nil _ _ _ _, Below.refl _ _⟩
              case round =>
                obtain ⟨w2, rfl⟩ : ∃ w2, w2 = wr := ⟨_, rfl⟩
                obtain ⟨j, dn, hj, rfl, rfl, Hdn, hown, hb2⟩ := hrel
                have ck2 : w2.cell? (a.add k) = some (.int .i64 x) := (hb2.cell (by rw [add_block]; omega)).trans ck
                have hacc := accTo_len x (l.take j)
                rw [List.length_take] at hacc
                by_cases hjm : j < m
                · have hjl : j < l.length := by rw [← Hm.out]; exact hjm
                  obtain ⟨b, rfl, hbb, hcb⟩ := HB.out (by omega)
                  have cj : w2.cell? (b.add j) = some (.int .i64 (l.getD j 0)) := (hb2.cell (by rw [add_block]; exact hbb)).trans (hcb j hjm)
                  have cj0 : wo.cell? (b.add j) = some (.int .i64 (l.getD j 0)) := hcb j hjm
                  have Htk := Lib.hid (take_getD l j hjl)
                  have Hnt : Hid (x ∉ l.take j) := fun q => Hx.out (List.mem_of_mem_take q)
                  generalize l.getD j 0 = y at *
                  have hji : (j : Int) < (m : Int) := by omega
                  have Hd2 : Hid (doneTo x (l.take (j + 1)) = (dn || decide (x < y))) := by show _ = _; rw [Htk.out, doneTo_app, Hdn.out]
                  clear hcb hjl HB
                  by_cases hxy : x < y
                  · cases dn
                    · have Hacc : Hid (accTo x (l.take (j + 1)) = accTo x (l.take j) ++ [x] ++ [y]) := by show _ = _; rw [Htk.out]; exact acc_put x y _ Hnt.out Hdn.out.symm hxy
                      have hd : decide (x < y) = true := by simpa using hxy
                      generalize accTo x (l.take j) = acc at *
                      clear hxy
                      go_wp2
                      go_quiet (fail)
                      have hown1 : (w2.drewN nq).ownsRow wo.heap.size 3 1 _ acc.length (I acc) := hown
                      have hb3 := below_drewN hb2 nq
                      have ck3 : (w2.drewN nq).cell? (a.add k) = some (.int .i64 x) := ck2
                      have cj3 : (w2.drewN nq).cell? (b.add j) = some (.int .i64 y) := cj
                      generalize w2.drewN nq = w3 at hown1 hb3 ck3 cj3 ⊢
                      clear hown hb2 ck2 cj
                      go_wp2_with (at_builtin; refine wpList_append_own _ rfl _ _ 30 rfl wo.heap.size 3 i0 (.int .i64 0) 1 8 Tryz.underlying30 hi' hz0 hz1 hz2 rfl (by decide) _ _ _ rfl (hown1.alloc _) ⟨_, 0, none⟩ 1 1 [.int .i64 x] rfl rfl ?c1 ?c2 ?c3 ?c4 ?c5 ?_)
                      case c1 => intro j u hj; match j, hj with | 0, hj => simp at hj; subst hj; simp [Addr.add]
                      case c2 => intro u hu; simp at hu; subst hu; rfl
                      case c3 => unfold maxLen; omega
                      case c4 => omega
                      case c5 => have := hb3.size; simp; omega
                      intro v' w4 hown' hgrow _
                      have hb4 : Below wo.heap.size wo w4 := (hb3.alloc hb3.size _).grown hgrow (by have := hb3.size; simp; omega) (fun k hk => own_ge hown1 k hk)
                      rw [← I_one, ← I_append, show acc.length + 1 = (acc ++ [x]).length by simp] at hown'
                      have ck4 : w4.cell? (a.add k) = some (.int .i64 x) := (hb4.cell (by rw [add_block]; omega)).trans ck
                      have cj4 : w4.cell? (b.add j) = some (.int .i64 y) := (hb4.cell (by rw [add_block]; exact hbb)).trans cj0
                      have hl4 : (acc ++ [x]).length ≤ 1000001 := by simp; omega
                      generalize acc ++ [x] = acc2 at *
                      clear hown1 hgrow hb3 ck3 cj3
                      go_wp2_with (at_builtin; refine wpList_append_own _ rfl _ _ 30 rfl wo.heap.size 3 i0 (.int .i64 0) 1 8 Tryz.underlying30 hi' hz0 hz1 hz2 rfl (by decide) _ _ _ rfl (hown'.alloc _) ⟨_, 0, none⟩ 1 1 [.int .i64 y] rfl rfl ?c1 ?c2 ?c3 ?c4 ?c5 ?_)
                      case c1 => intro j u hj; match j, hj with | 0, hj => simp at hj; subst hj; simp [Addr.add]
                      case c2 => intro u hu; simp at hu; subst hu; rfl
                      case c3 => unfold maxLen; omega
                      case c4 => omega
                      case c5 => have := hb4.size; simp; omega
                      intro v5 w5 hown5 hgrow _
                      have hb5 : Below wo.heap.size wo w5 := (hb4.alloc hb4.size _).grown hgrow (by have := hb4.size; simp; omega) (fun k hk => own_ge hown' k hk)
                      rw [← I_one, ← I_append, show acc2.length + 1 = (acc2 ++ [y]).length by simp, ← Hacc.out] at hown5
                      clear hown' hgrow hb4 ck4 cj4
                      go_wp2
                      go_roundw
                      case rel => exact ⟨j + 1, true, by omega, rfl, by go_num, by show _ = _; rw [Hd2.out, hd]; rfl, hown5, hb5⟩
                      case measure => simp [intOf]; omega
                    · have Hacc : Hid (accTo x (l.take (j + 1)) = accTo x (l.take j) ++ [y]) := by show _ = _; rw [Htk.out]; exact acc_go x y _ (.inl Hdn.out.symm)
                      have hd : decide (x < y) = true := by simpa using hxy
                      generalize accTo x (l.take j) = acc at *
                      clear hxy
                      go_wp2
                      go_quiet (fail)
                      have hown1 : (w2.drewN nq).ownsRow wo.heap.size 3 1 _ acc.length (I acc) := hown
                      have hb3 := below_drewN hb2 nq
                      have ck3 : (w2.drewN nq).cell? (a.add k) = some (.int .i64 x) := ck2
                      have cj3 : (w2.drewN nq).cell? (b.add j) = some (.int .i64 y) := cj
                      generalize w2.drewN nq = w3 at hown1 hb3 ck3 cj3 ⊢
                      clear hown hb2 ck2 cj
                      go_wp2_with (at_builtin; refine wpList_append_own _ rfl _ _ 30 rfl wo.heap.size 3 i0 (.int .i64 0) 1 8 Tryz.underlying30 hi' hz0 hz1 hz2 rfl (by decide) _ _ _ rfl (hown1.alloc _) ⟨_, 0, none⟩ 1 1 [.int .i64 y] rfl rfl ?c1 ?c2 ?c3 ?c4 ?c5 ?_)
                      case c1 => intro j u hj; match j, hj with | 0, hj => simp at hj; subst hj; simp [Addr.add]
                      case c2 => intro u hu; simp at hu; subst hu; rfl
                      case c3 => unfold maxLen; omega
                      case c4 => omega
                      case c5 => have := hb3.size; simp; omega
                      intro v' w4 hown' hgrow _
                      have hb4 : Below wo.heap.size wo w4 := (hb3.alloc hb3.size _).grown hgrow (by have := hb3.size; simp; omega) (fun k hk => own_ge hown1 k hk)
                      rw [← I_one, ← I_append, show acc.length + 1 = (acc ++ [y]).length by simp, ← Hacc.out] at hown'
                      clear hown1 hgrow hb3 ck3 cj3
                      go_wp2
                      go_roundw
                      case rel => exact ⟨j + 1, true, by omega, rfl, by go_num, by show _ = _; rw [Hd2.out, hd]; rfl, hown', hb4⟩
                      case measure => simp [intOf]; omega
                  · have Hacc : Hid (accTo x (l.take (j + 1)) = accTo x (l.take j) ++ [y]) := by show _ = _; rw [Htk.out]; exact acc_go x y _ (.inr hxy)
                    have hd : decide (x < y) = false := by simpa using hxy
                    generalize accTo x (l.take j) = acc at *
                    clear hxy
                    go_wp2
                    go_quiet (fail)
                    have hown1 : (w2.drewN nq).ownsRow wo.heap.size 3 1 _ acc.length (I acc) := hown
                    have hb3 := below_drewN hb2 nq
                    have ck3 : (w2.drewN nq).cell? (a.add k) = some (.int .i64 x) := ck2
                    have cj3 : (w2.drewN nq).cell? (b.add j) = some (.int .i64 y) := cj
                    generalize w2.drewN nq = w3 at hown1 hb3 ck3 cj3 ⊢
                    clear hown hb2 ck2 cj
                    go_wp2_with (at_builtin; refine wpList_append_own _ rfl _ _ 30 rfl wo.heap.size 3 i0 (.int .i64 0) 1 8 Tryz.underlying30 hi' hz0 hz1 hz2 rfl (by decide) _ _ _ rfl (hown1.alloc _) ⟨_, 0, none⟩ 1 1 [.int .i64 y] rfl rfl ?c1 ?c2 ?c3 ?c4 ?c5 ?_)
                    case c1 => intro j u hj; match j, hj with | 0, hj => simp at hj; subst hj; simp [Addr.add]
                    case c2 => intro u hu; simp at hu; subst hu; rfl
                    case c3 => unfold maxLen; omega
                    case c4 => omega
                    case c5 => have := hb3.size; simp; omega
                    intro v' w4 hown' hgrow _
                    have hb4 : Below wo.heap.size wo w4 := (hb3.alloc hb3.size _).grown hgrow (by have := hb3.size; simp; omega) (fun k hk => own_ge hown1 k hk)
                    rw [← I_one, ← I_append, show acc.length + 1 = (acc ++ [y]).length by simp, ← Hacc.out] at hown'
                    clear hown1 hgrow hb3 ck3 cj3
                    go_wp2
                    go_roundw
                    case rel => exact ⟨j + 1, dn, by omega, rfl, by go_num, by show _ = _; rw [Hd2.out, hd]; simp, hown', hb4⟩
                    case measure => simp [intOf]; omega
                · have hall : l.take j = l := List.take_of_length_le (by rw [← Hm.out]; omega)
                  rw [hall] at Hdn hown hacc
                  clear hall
                  cases dn
                  · have Hacc : Hid (accTo x l ++ [x] = ins x l) := acc_last x l Hx.out Hdn.out.symm
                    generalize accTo x l = acc at *
                    go_wp2_with (at_builtin; refine wpList_append_own _ rfl _ _ 30 rfl wo.heap.size 3 i0 (.int .i64 0) 1 8 Tryz.underlying30 hi' hz0 hz1 hz2 rfl (by decide) _ _ _ rfl (hown.alloc _) ⟨_, 0, none⟩ 1 1 [.int .i64 x] rfl rfl ?c1 ?c2 ?c3 ?c4 ?c5 ?_)
                    case c1 => intro j u hj; match j, hj with | 0, hj => simp at hj; subst hj; simp [Addr.add]
                    case c2 => intro u hu; simp at hu; subst hu; rfl
                    case c3 => unfold maxLen; omega
                    case c4 => omega
                    case c5 => have := hb2.size; simp; omega
                    intro v' w4 hown' hgrow _
                    have hb4 : Below wo.heap.size wo w4 := (hb2.alloc hb2.size _).grown hgrow (by have := hb2.size; simp; omega) (fun k hk => own_ge hown k hk)
                    rw [← I_one, ← I_append, show acc.length + 1 = (acc ++ [x]).length by simp, Hacc.out, ← Hst.out] at hown'
                    clear hown hgrow hb2 ck2
                    go_wp2
                    go_roundw
                    case rel => exact ⟨k + 1, by omega, by go_num, own_base hown' hsz, Hbr.out.trans (hb4.mono hsz)⟩
                    case measure => simp [intOf]; omega
                  · have Hacc : Hid (accTo x l = ins x l) := acc_done x l Hdn.out.symm
                    rw [Hacc.out, ← Hst.out] at hown
                    go_wp2
                    go_roundw
                    case rel => exact ⟨k + 1, by omega, by go_num, own_base hown hsz, Hbr.out.trans (hb2.mono hsz)⟩
                    case measure => simp [intOf]; omega
          · have hkz : zs.take k = zs := List.take_of_length_le (by rw [← Hn.out]; omega)
            rw [hkz] at hown
            clear hkz
            go_wp2
            go_ret2
            rw [ofL_ok zs He.out, He.out]
            exact ⟨_, rfl, hown, hbr⟩

theorem refof_any (A : Option Addr) (zs : List Int) (n c : Nat) (w : World) (hn : n = zs.length) (h : Lies w A n (i64f zs)) (hbig : n ≤ 1000000) :
    Calls Tryz.prog 111 #[.slice A n c] w (GivesOf w (ofL zs) (ofErr zs)) := by
  by_cases hp : 0 < n
  · obtain ⟨a, rfl, ha, hca⟩ := h hp
    exact refof_some a zs n c w hn hp hbig ha hca
  · have : zs = [] := List.eq_nil_of_length_eq_zero (by omega)
    subst this
    have h0 : n = 0 := by omega
    rw [h0]
    exact refof_empty A c w
end Go.Proofs.YtkhmocbfkpbpfaaGreatDoor

/- Lists that are domains: what all layers want of them (layers 10 to 22). No walk. -/
namespace Go.Proofs.YtkhmocbfkpbpfaaGreatDoor
open Go.RowKit Go.Sort

/-- A list that is a domain's. -/
def DomL (L : List Int) : Prop := L.Pairwise (· < ·) ∧ (L ≠ [] → ofErr L = 0)
theorem ofErr_sub {L S : List Int} (h : ofErr L = 0) (hs : S ≠ []) (hm : ∀ v ∈ S, v ∈ L) : ofErr S = 0 := by
  unfold ofErr at h ⊢
  split at h
  · cases h
  · split at h
    · cases h
    · next h1 h2 =>
      split at h
      · cases h
      · next h3 =>
        rw [if_neg (by simpa using hs), if_neg, if_neg]
        · intro e
          apply h3
          rw [List.any_eq_true] at e ⊢
          obtain ⟨a, ha, e⟩ := e
          rw [List.any_eq_true] at e
          obtain ⟨b, hb, e⟩ := e
          exact ⟨a, hm a ha, List.any_eq_true.2 ⟨b, hm b hb, e⟩⟩
        · intro e
          apply h2
          rw [List.any_eq_true] at e ⊢
          obtain ⟨a, ha, e⟩ := e
          exact ⟨a, hm a ha, e⟩
theorem domL_in {L : List Int} (h : DomL L) : ∀ v ∈ L, -1000000 ≤ v ∧ v ≤ 1000000 := by
  intro v hv
  have he := h.2 (List.ne_nil_of_mem hv)
  unfold ofErr at he
  split at he
  · cases he
  · split at he
    · cases he
    · next h2 =>
      have := List.any_eq_false.1 (Bool.eq_false_iff.2 h2) v hv
      simp [mayB] at this
      omega
theorem ofL_ne {S : List Int} (h : ofErr S = 0) (hs : S ≠ []) : ofL S ≠ [] := by
  rw [ofL_ok _ h]
  intro e
  obtain ⟨v, hv⟩ := List.exists_mem_of_ne_nil S hs
  have := (mem_setOf S v).2 hv
  rw [e] at this
  cases this
theorem ofL_dom {L : List Int} (h : DomL L) : ofL L = L := by
  by_cases e : L = []
  · subst e; rfl
  · rw [ofL_ok _ (h.2 e)]
    exact eq_of_rising _ _ (rising_setOf _) h.1 (fun v => mem_setOf L v)
theorem domL_ofL (S : List Int) : DomL (ofL S) := by
  by_cases he : ofErr S = 0
  · rw [ofL_ok _ he]
    exact ⟨rising_setOf _, fun hn => ofErr_sub he hn fun v hv => (mem_setOf S v).1 hv⟩
  · rw [ofL_err _ _ rfl he]
    exact ⟨List.Pairwise.nil, fun h => absurd rfl h⟩
theorem ofL_short (S : List Int) : (ofL S).length ≤ S.length := by
  by_cases he : ofErr S = 0
  · rw [ofL_ok _ he]; exact setOf_len S
  · rw [ofL_err _ _ rfl he]; simp
theorem ofL_one {a : Int} (h : -1000000 ≤ a ∧ a ≤ 1000000) : ofL [a] = [a] := by
  have he : ofErr [a] = 0 := by
    unfold ofErr
    have hm : mayB a = true := by unfold mayB; simp; omega
    simp [hm]
  rw [ofL_ok _ he]
  rfl
theorem mem_ofL {S L : List Int} {v : Int} (hL : DomL L) (hs : S ≠ []) (hm : ∀ v ∈ S, v ∈ L) : v ∈ ofL S ↔ v ∈ S := by
  obtain ⟨u, hu⟩ := List.exists_mem_of_ne_nil S hs
  rw [ofL_ok _ (ofErr_sub (hL.2 (List.ne_nil_of_mem (hm u hu))) hs hm)]
  exact mem_setOf S v
theorem ofL_same {S T L : List Int} (hL : DomL L) (hs : S ≠ []) (hm : ∀ v ∈ S, v ∈ L) (h : ∀ v, v ∈ T ↔ v ∈ S) : ofL T = ofL S := by
  obtain ⟨u, hu⟩ := List.exists_mem_of_ne_nil S hs
  have hT : T ≠ [] := List.ne_nil_of_mem ((h u).2 hu)
  have e := hL.2 (List.ne_nil_of_mem (hm u hu))
  rw [ofL_ok _ (ofErr_sub e hs hm), ofL_ok _ (ofErr_sub e hT fun v hv => hm v ((h v).1 hv))]
  exact eq_of_rising _ _ (rising_setOf _) (rising_setOf _) fun v => by rw [mem_setOf, mem_setOf, h]
theorem mem_getD_iff {L : List Int} {v : Int} : v ∈ L ↔ ∃ i, i < L.length ∧ L.getD i 0 = v := by
  constructor
  · intro h
    obtain ⟨i, hi, e⟩ := List.getElem_of_mem h
    exact ⟨i, hi, by rw [List.getD_eq_getElem?_getD, List.getElem?_eq_getElem hi]; exact e⟩
  · rintro ⟨i, hi, rfl⟩
    exact getD_mem L i hi
end Go.Proofs.YtkhmocbfkpbpfaaGreatDoor

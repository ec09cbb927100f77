/- Contracts of the function that Parse defers. -/
import Derived.Test.YtmamgaaeeonfmaaGreatDoorPitems
import Derived.Test.YtmamgaaeeonfmaaGreatDoorMcheckv
import Derived.Defers
import Derived.Recover
namespace Go.Proofs.YtmamgaaeeonfmaaGreatDoor
open Go.RowKit Go.Sort Go.Maps

theorem tmps21 (a b c v : Value) : #[a, b, c] ++ ((Array.replicate 18 undef).setIfInBounds 3 v).setIfInBounds 0 v = #[a, b, c, v, undef, undef, v, undef, undef, undef, undef, undef, undef, undef, undef, undef, undef, undef, undef, undef, undef] := by kernel_rfl
theorem assert_flt (a b : Int) (W : World) : (Instr.typeAssert (.iface 44 (.agg #[.int .i64 a, .int .i64 b])) 20 44 true).run Tryz.prog W = .ok (.tuple #[.agg #[.int .i64 a, .int .i64 b], .bool true]) W := by kernel_rfl
theorem assert_nil (W : World) : (Instr.typeAssert .nilIface 20 44 true).run Tryz.prog W = .ok (.tuple #[.agg #[.int .i64 0, .int .i64 0], .bool false]) W := by kernel_rfl

set_option maxHeartbeats 2000000 in
set_option maxRecDepth 100000 in
theorem catch_idle (a b c : Addr) (w : World) :
    CallsD Tryz.prog 13 #[.pointer (some a), .pointer (some b), .pointer (some c)] .returning w fun e u' w' => e = .returned (.tuple #[]) ∧ u' = .returning ∧ Below w.heap.size w w' := by
  have ha := assert_nil
  refine callsD_of_wpS Tryz.func13 rfl fun c₀ cs hu => ?_
  apply wpS_seq
  apply wpS_region
  generalize hQ : (Exit.thenS (Code.wpS _ _ _) _) = Q
  simp [wpOpsS, go_sem, recoverD, hu, Tryz.ntmps13]
  rw [tmps21]
  rw [← hQ]
  clear hQ
  show Code.wpS _ _ _ _ _ _
  refine wpS_of_wp ?_
  go_wp2
  refine ⟨rfl, .returning, ?_, .tuple #[], by simp [results, Tryz.results13], rfl, rfl, below1 _ _⟩
  cases c₀
  simp at hu
  subst hu
  rfl

end Go.Proofs.YtmamgaaeeonfmaaGreatDoor

/- The function that Parse defers, at a fault. -/
namespace Go.Proofs.YtmamgaaeeonfmaaGreatDoor
open Go.RowKit Go.Sort Go.Maps

/-- The three results' boxes. -/
structure Boxes3 (w : World) (P : Nat) (mc : Array Value) (av ev : Value) : Prop where
  m : w.heap[P]? = some (.cells mc 26 (0, 0))
  a : w.heap[P + 1]? = some (.cells #[av] 3 (0, 0))
  e : w.heap[P + 2]? = some (.cells #[ev] 27 (0, 0))

/-- All results are written. -/
abbrev set7 (w : World) (P : Nat) (a b c d e av ev : Value) : World := ((((((w.setCell ⟨P, 0, none⟩ a).setCell ⟨P, 1, none⟩ b).setCell ⟨P, 2, none⟩ c).setCell ⟨P, 3, none⟩ d).setCell ⟨P, 4, none⟩ e).setCell ⟨P + 1, 0, none⟩ av).setCell ⟨P + 2, 0, none⟩ ev
theorem Boxes3.set7 {w : World} {P : Nat} {x0 x1 x2 x3 x4 av ev : Value} (h : Boxes3 w P #[x0, x1, x2, x3, x4] av ev) (a b c d e av' ev' : Value) : Boxes3 (Go.Proofs.YtmamgaaeeonfmaaGreatDoor.set7 w P a b c d e av' ev') P #[a, b, c, d, e] av' ev' := by
  refine ⟨?_, ?_, ?_⟩
  · simp [Go.Proofs.YtmamgaaeeonfmaaGreatDoor.set7, World.setCell, Array.getElem?_modify, h.m]
  · simp [Go.Proofs.YtmamgaaeeonfmaaGreatDoor.set7, World.setCell, Array.getElem?_modify, h.a]
  · simp [Go.Proofs.YtmamgaaeeonfmaaGreatDoor.set7, World.setCell, Array.getElem?_modify, h.e]
theorem below_set7 {w0 w : World} {P Q : Nat} (h : Below P w0 w) (hQ : P ≤ Q) (a b c d e av ev : Value) : Below P w0 (set7 w Q a b c d e av ev) :=
  ((((((h.setCell (p := ⟨Q, 0, none⟩) hQ a).setCell (p := ⟨Q, 1, none⟩) hQ b).setCell (p := ⟨Q, 2, none⟩) hQ c).setCell (p := ⟨Q, 3, none⟩) hQ d).setCell (p := ⟨Q, 4, none⟩) hQ e).setCell (p := ⟨Q + 1, 0, none⟩) (by simp only; omega) av).setCell (p := ⟨Q + 2, 0, none⟩) (by simp only; omega) ev
theorem Boxes3.below {w w' : World} {P : Nat} {mc : Array Value} {av ev : Value} (h : Boxes3 w P mc av ev) (hb : Below w.heap.size w w') : Boxes3 w' P mc av ev :=
  ⟨(hb.block P (lt_of_obj h.m)).trans h.m, (hb.block _ (lt_of_obj h.a)).trans h.a, (hb.block _ (lt_of_obj h.e)).trans h.e⟩

theorem Boxes3.drew {w : World} {P : Nat} {mc : Array Value} {av ev : Value} (h : Boxes3 w P mc av ev) : Boxes3 w.drew P mc av ev := ⟨h.m, h.a, h.e⟩
theorem fault_end {w : World} {P : Nat} {x0 x1 x2 x3 x4 av ev : Value} {o : Obj} (h : Boxes3 w P #[x0, x1, x2, x3, x4] av ev) (a b c d e av' ev' : Value) : Boxes3 (Go.Proofs.YtmamgaaeeonfmaaGreatDoor.set7 (w.alloc o) P a b c d e av' ev').drew P #[a, b, c, d, e] av' ev' ∧ Below P w (Go.Proofs.YtmamgaaeeonfmaaGreatDoor.set7 (w.alloc o) P a b c d e av' ev').drew :=
  ⟨((h.below (below1 w o)).set7 a b c d e av' ev').drew, (below_set7 ((below1 w o).mono (Nat.le_of_lt (lt_of_obj h.m))) (Nat.le_refl P) a b c d e av' ev').drew⟩

set_option maxHeartbeats 2000000 in
set_option maxRecDepth 100000 in
theorem catch_fault (P : Nat) (x0 x1 x2 x3 x4 av ev : Value) (f : Flt) (w : World) (hb : Boxes3 w P #[x0, x1, x2, x3, x4] av ev) :
    CallsD Tryz.prog 13 #[.pointer (some ⟨P, 0, none⟩), .pointer (some ⟨P + 1, 0, none⟩), .pointer (some ⟨P + 2, 0, none⟩)] (.panicking (fltV f)) w fun e u' w' => e = .returned (.tuple #[]) ∧ u' = .panicking [{ v := .iface 44 (.agg #[.int .i64 (f.1 : Nat), .int .i64 f.2]), recovered := true }] ∧ Boxes3 w' P #[.slice none 0 0, .slice none 0 0, .slice none 0 0, .int .i64 0, .int .i64 0] (.int .i64 (f.1 : Nat)) (.int .i64 f.2) ∧ Below P w w' := by
  unfold fltV
  have ha := assert_flt (f.1 : Nat) f.2
  refine callsD_of_wpS Tryz.func13 rfl fun c₀ cs hu => ?_
  apply wpS_seq
  apply wpS_region
  generalize hQ : (Exit.thenS (Code.wpS _ _ _) _) = Q
  simp [wpOpsS, go_sem, recoverD, hu, Tryz.ntmps13]
  rw [tmps21]
  rw [← hQ]
  clear hQ
  show Code.wpS _ _ _ _ _ _
  refine wpS_of_wp ?_
  have hcell : ∀ (g j : Nat) (cur : Array Value) (ty : TypeId) (u : Value), w.heap[g]? = some (.cells cur ty (0, 0)) → cur[j]? = some u → (w.alloc (.cells #[.int .i64 (f.1 : Nat), .int .i64 f.2] 44)).cell? ⟨g, j, none⟩ = some u ∧ (w.alloc (.cells #[.int .i64 (f.1 : Nat), .int .i64 f.2] 44)).frozen? ⟨g, j, none⟩ = false := fun g j cur ty u h1 h2 => by
    have h3 := (Below.heap_alloc w (.cells #[.int .i64 (f.1 : Nat), .int .i64 f.2] 44) g (lt_of_obj h1)).trans h1
    exact ⟨by unfold World.cell?; rw [h3]; exact h2, by unfold World.frozen?; rw [h3]; simp⟩
  obtain ⟨m0, n0⟩ := hcell _ 0 _ _ _ hb.m rfl
  obtain ⟨m1, n1⟩ := hcell _ 1 _ _ _ hb.m rfl
  obtain ⟨m2, n2⟩ := hcell _ 2 _ _ _ hb.m rfl
  obtain ⟨m3, n3⟩ := hcell _ 3 _ _ _ hb.m rfl
  obtain ⟨m4, n4⟩ := hcell _ 4 _ _ _ hb.m rfl
  obtain ⟨a0, b0⟩ := hcell _ 0 _ _ _ hb.a rfl
  obtain ⟨e0, g0⟩ := hcell _ 0 _ _ _ hb.e rfl
  have hP : P + 2 < w.heap.size := lt_of_obj hb.e
  have HB := Lib.hid hb
  clear hcell hb
  have k1 : w.heap.size ≠ P := by omega
  have k2 : w.heap.size ≠ P + 1 := by omega
  have k3 : w.heap.size ≠ P + 2 := by omega
  go_wp2
  go_region
  have HX := Lib.hid (fault_end (o := .cells #[.int .i64 (f.1 : Nat), .int .i64 f.2] 44) HB.out (.slice none 0 0) (.slice none 0 0) (.slice none 0 0) (.int .i64 0) (.int .i64 0) (.int .i64 (f.1 : Nat)) (.int .i64 f.2))
  clear m0 m1 m2 m3 m4 a0 e0 n0 n1 n2 n3 n4 b0 g0 k1 k2 k3 hP HB ha
  go_wp2_with fail
  refine ⟨rfl, .panicking [{ v := .iface 44 (.agg #[.int .i64 (f.1 : Nat), .int .i64 f.2]), recovered := true }], rfl, .tuple #[], ?_, rfl, rfl, HX.out.1, HX.out.2⟩
  simp [results, Tryz.results13]
end Go.Proofs.YtmamgaaeeonfmaaGreatDoor

/- What is parsed may be: pure. -/
namespace Go.Proofs.YtmamgaaeeonfmaaGreatDoor
open Go.RowKit Go.Sort Go.Maps

/-- More variables make no constraint wrong. -/
theorem rightE_more {c : ConL} {n n' : Int} (h : rightE c n = 0) (hn : n ≤ n') : rightE c n' = 0 := by
  unfold rightE at h ⊢
  split at h
  · cases h
  · next h1 =>
    rw [if_neg h1]
    split at h
    · cases h
    · next h2 =>
      rw [if_neg h2]
      split at h
      · cases h
      · next h3 =>
        have key : ∀ l : List Int, l.any (outV n') = true → l.any (outV n) = true := fun l hl => by
          rw [List.any_eq_true] at hl ⊢
          obtain ⟨z, hz, ho⟩ := hl
          refine ⟨z, hz, ?_⟩
          unfold outV at ho ⊢
          simp only [Bool.or_eq_true, decide_eq_true_eq] at ho ⊢
          omega
        rw [if_neg (fun e => h3 (by
          simp only [Bool.or_eq_true] at e ⊢
          exact e.imp (key _) (key _)))]
        exact h
theorem ofErr_same {l l' : List Int} (h : ofErr l = 0) (hm : ∀ u, u ∈ l' ↔ u ∈ l) : ofErr l' = 0 := by
  unfold ofErr at h ⊢
  split at h
  · cases h
  · next h1 =>
    split at h
    · cases h
    · next h2 =>
      split at h
      · cases h
      · next h3 =>
        have hne : l'.length ≠ 0 := fun e => by
          have he : l' = [] := List.length_eq_zero_iff.1 e
          cases l with
          | nil => exact h1 rfl
          | cons a l => have := (hm a).2 (by simp); rw [he] at this; cases this
        rw [if_neg hne, if_neg (fun e => h2 (by
          rw [List.any_eq_true] at e ⊢
          obtain ⟨z, hz, ho⟩ := e
          exact ⟨z, (hm z).1 hz, ho⟩)), if_neg (fun e => h3 (by
          rw [List.any_eq_true] at e ⊢
          obtain ⟨a, ha, e2⟩ := e
          rw [List.any_eq_true] at e2
          obtain ⟨b, hb, ho⟩ := e2
          exact ⟨a, (hm a).1 ha, by rw [List.any_eq_true]; exact ⟨b, (hm b).1 hb, ho⟩⟩))]
/-- A rising list. -/
theorem rise_of_pair {l : List Int} (h : l.Pairwise (· < ·)) : riseTo l l.length := by
  intro i h1 hi
  rw [List.getD_eq_getElem?_getD, List.getD_eq_getElem?_getD, List.getElem?_eq_getElem hi, List.getElem?_eq_getElem (by omega : i - 1 < l.length)]
  exact List.pairwise_iff_getElem.1 h (i - 1) i (by omega) hi (by omega)
theorem mayList_of {l : List Int} (h : l.Pairwise (· < ·)) (he : ofErr l = 0) : mayListB l = true := by
  unfold mayListB
  rw [rise_yes (rise_of_pair h), he]
  rfl
theorem range_err {lo hi : Int} (h : rangeErr lo hi = 0) : ofErr (rangeL lo hi) = 0 := by
  unfold rangeErr at h
  split at h
  · next hm =>
    split at h
    · cases h
    · split at h
      · cases h
      · have h1 := (mayB_iff lo).1 hm.1
        have h2 := (mayB_iff hi).1 hm.2
        unfold ofErr
        rw [if_neg (by rw [len_rangeL]; omega), if_neg (fun e => by
          rw [List.any_eq_true] at e
          obtain ⟨z, hz, ho⟩ := e
          have := (mem_rangeL lo hi z).1 hz
          have hmz : mayB z = true := (mayB_iff z).2 (by omega)
          rw [hmz] at ho
          cases ho), if_neg (fun e => by
          rw [List.any_eq_true] at e
          obtain ⟨a, ha, e2⟩ := e
          rw [List.any_eq_true] at e2
          obtain ⟨b, hb, ho⟩ := e2
          have := (mem_rangeL lo hi a).1 ha
          have := (mem_rangeL lo hi b).1 hb
          simp only [decide_eq_true_eq] at ho
          omega)]
  · cases h
/-- A domain that is read is one. -/
theorem domP_may {en : Nat} {ts rs : List Tok} {l : List Int} (h : domP en ts = .ok (l, rs)) : mayListB l = true := by
  unfold domP at h
  split at h
  · cases h
  · next l' e r' hr =>
    split at h
    · next he =>
      injection h with h; injection h with h1 h2; subst h1; subst h2
      unfold rosP at hr
      split at hr
      · split at hr
        · cases hr
        · next xs r2 hx =>
          injection hr with hr; injection hr with h1 h2; injection h1 with h1 h3
          subst h1; subst h3
          rw [ofL_ok xs he]
          exact mayList_of (rising_setOf xs) (ofErr_same he (mem_setOf xs))
      · split at hr
        · cases hr
        · split at hr
          · cases hr
          · split at hr
            · cases hr
            · injection hr with hr; injection hr with h1 h2; injection h1 with h1 h3
              subst h1; subst h3
              rw [if_pos he]
              exact mayList_of (rising_rangeL _ _) (range_err he)
    · cases h

/-- A model that may be, so far. -/
structure Good (m : ModL) : Prop where
  len : m.names.length = m.doms.length
  n256 : m.names.length ≤ 256
  c1024 : m.cons.length ≤ 1024
  vars : ∀ k, k < m.names.length → varE m k = 0
  cons : ∀ c ∈ m.cons, rightE c (m.names.length : Nat) = 0
  goal : m.goal = 0
  obj : m.obj = 0
theorem getD_old {α : Type} {l : List α} {x d : α} {k : Nat} (h : k < l.length) : (l ++ [x]).getD k d = l.getD k d := by
  rw [List.getD_eq_getElem?_getD, List.getD_eq_getElem?_getD, List.getElem?_append_left h]
theorem getD_new {α : Type} {l : List α} {x d : α} : (l ++ [x]).getD l.length d = x := by
  rw [List.getD_eq_getElem?_getD, List.getElem?_append_right (Nat.le_refl _)]
  simp
theorem Good.var {en : Nat} {m m' : ModL} {x : Tok} {ts rs : List Tok} (h : Good m) (hv : varP en m x ts = .ok (m', rs)) : Good m' := by
  unfold varP at hv
  split at hv
  · cases hv
  · next hfull =>
    split at hv
    · cases hv
    · next d r0 e0 =>
      split at hv
      · cases hv
      · next r1 e1 =>
        split at hv
        · cases hv
        · next b r2 e2 =>
          split at hv
          · cases hv
          · next r3 e3 =>
            injection hv with hv; injection hv with h1 h2; subst h1
            have hb : mayNameB b = true ∧ b ∉ m.names := by
              unfold newNameP at e2
              split at e2
              · cases e2
              · split at e2
                · cases e2
                · next hm =>
                  split at e2
                  · cases e2
                  · next hn =>
                    injection e2 with e2; injection e2 with h1 h2; subst h1
                    exact ⟨by simpa using hm, hn⟩
            have n256 := h.n256
            refine ⟨by simp [h.len], by simp; omega, h.c1024, fun k hk => ?_, fun c hc => rightE_more (h.cons c hc) (by simp; omega), h.goal, h.obj⟩
            by_cases hkl : k < m.names.length
            · have := h.vars k hkl
              unfold varE at this ⊢
              simp only
              rw [getD_old hkl, getD_old (by rw [← h.len]; exact hkl), List.take_append_of_le_length (by omega)]
              exact this
            · have hk2 : k = m.names.length := by simp at hk; omega
              subst hk2
              unfold varE
              simp only
              rw [getD_new, h.len, getD_new, ← h.len, List.take_left', if_neg (by rw [hb.1]; decide), if_neg (fun e => by
                rw [List.any_eq_true] at e
                obtain ⟨z, hz, ho⟩ := e
                have hzb : z = b := by simpa using ho
                rw [hzb] at hz
                exact hb.2 hz), if_neg (by rw [domP_may e0]; decide)]
              rfl
theorem Good.con {en : Nat} {m m' : ModL} {x : Tok} {ts rs : List Tok} (h : Good m) (hv : conP en m x ts = .ok (m', rs)) : Good m' := by
  unfold conP at hv
  split at hv
  · cases hv
  · next hfull =>
    split at hv
    · cases hv
    · split at hv
      · cases hv
      · split at hv
        · cases hv
        · split at hv
          · cases hv
          · next c r2 e2 =>
            split at hv
            · cases hv
            · split at hv
              · cases hv
              · next hr =>
                split at hv
                · cases hv
                · injection hv with hv; injection hv with h1 h2; subst h1
                  have c1024 := h.c1024
                  refine ⟨h.len, h.n256, by simp; omega, h.vars, fun c' hc' => ?_, h.goal, h.obj⟩
                  rcases List.mem_append.1 hc' with e | e
                  · exact h.cons c' e
                  · rw [List.mem_singleton.1 e]
                    simpa using hr
theorem placeP_lt {en : Nat} {names : List Bs} {ts rs : List Tok} {x : Int} (h : placeP en names ts = .ok (x, rs)) : 0 ≤ x ∧ x < (names.length : Nat) := by
  unfold placeP at h
  split at h
  · cases h
  · split at h
    · next hm =>
      injection h with h; injection h with h1 h2; subst h1
      have := List.idxOf_lt_length_of_mem hm
      omega
    · cases h
/-- All but the goal may be. -/
theorem Good.check {m : ModL} (h : Good m) (g o : Int) (hg : goalB { m with goal := g, obj := o } = true) : checkE { m with goal := g, obj := o } = (-1, 0) := by
  rw [checkE_end (m := { m with goal := g, obj := o }) h.len h.n256 h.c1024 (firstE_no fun j hj => h.vars j hj) (fun j hj => ?_), if_neg (by rw [hg]; decide)]
  unfold conE
  simp only at hj ⊢
  rw [List.getD_eq_getElem?_getD, List.getElem?_eq_getElem hj]
  exact h.cons _ (List.getElem_mem hj)
theorem goal_check {en : Nat} {m m' : ModL} {ts rs : List Tok} (h : Good m) (hv : goalP en m ts = .ok (m', rs)) : checkE m' = (-1, 0) := by
  unfold goalP at hv
  split at hv
  · cases hv
  · next t r0 e0 =>
    split at hv
    · cases hv
    · next m2 r2 e2 =>
      split at hv
      · cases hv
      · injection hv with hv; injection hv with h1 h2; subst h1
        split at e2
        · injection e2 with e2; injection e2 with h1 h2; subst h1
          have := h.check 0 m.obj (by unfold goalB; simp [h.obj])
          exact this
        · split at e2
          · split at e2
            · cases e2
            · next x r3 e3 =>
              injection e2 with e2; injection e2 with h1 h2; subst h1
              have hp := placeP_lt e3
              exact h.check 1 x (by unfold goalB; simp; omega)
          · split at e2
            · split at e2
              · cases e2
              · next x r3 e3 =>
                injection e2 with e2; injection e2 with h1 h2; subst h1
                have hp := placeP_lt e3
                exact h.check 2 x (by unfold goalB; simp; omega)
            · cases e2
/-- What is parsed may be. -/
theorem items_check {en : Nat} : ∀ (n : Nat) (m m' : ModL) (ts : List Tok), Good m → itemsP en n m ts = .ok m' → checkE m' = (-1, 0) := by
  intro n
  induction n with
  | zero => intro m m' ts hg h; simp only [itemsP] at h; cases h
  | succ n ih =>
    intro m m' ts hg h
    simp only [itemsP] at h
    split at h
    · cases h
    · split at h
      · split at h
        · cases h
        · next m2 r2 e2 => exact ih _ _ _ (hg.var e2) h
      · split at h
        · split at h
          · cases h
          · next m2 r2 e2 => exact ih _ _ _ (hg.con e2) h
        · split at h
          · split at h
            · cases h
            · next m2 r2 e2 =>
              split at h
              · injection h with h; subst h; exact goal_check hg e2
              · cases h
          · cases h
theorem noMod_good : Good noMod := ⟨rfl, by simp [noMod], by simp [noMod], fun k hk => absurd hk (by simp [noMod]), fun c hc => absurd hc (by simp [noMod]), rfl, rfl⟩
end Go.Proofs.YtmamgaaeeonfmaaGreatDoor

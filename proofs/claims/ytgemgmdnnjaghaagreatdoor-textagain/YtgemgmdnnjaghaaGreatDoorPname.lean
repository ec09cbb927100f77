/- Names and their places; contracts: place, variable, mayName, newName. -/
import Derived.Test.YtgemgmdnnjaghaaGreatDoorPlist
import Derived.Test.YtgemgmdnnjaghaaGreatDoorMequal3
import Derived.Lib.QuietBelow
namespace Go.Proofs.YtgemgmdnnjaghaaGreatDoor
open Go.RowKit Go.Sort Go.Maps

/-- The places of names, in a map. -/
def PlcD (D : DataW Unit) (l : List Bs) : Prop := MetD D l ∧ ∀ b, b ∈ l → ∀ z, D.atKey (keyS b) z = numD ((l.idxOf b : Nat) : Int)
def Plc (w : World) (M : Nat) (l : List Bs) : Prop := ∃ D : DataW Unit, w.ownsMap Tryz.prog 9 (plainElem Tryz.prog 3) M (size D) D ∧ PlcD D l
theorem Plc.keep {w w' : World} {M : Nat} {l : List Bs} (h : Plc w M l) (hk : w'.heap[M]? = w.heap[M]?) : Plc w' M l := by
  obtain ⟨D, hD, h2⟩ := h
  exact ⟨D, metmap_keep hD hk, h2⟩
theorem Plc.lt {w : World} {M : Nat} {l : List Bs} (h : Plc w M l) : M < w.heap.size := by
  obtain ⟨D, hD, -⟩ := h
  exact hD.lt
theorem Plc.new (w : World) : Plc (w.alloc (.map #[] 0)) w.heap.size [] :=
  ⟨.map [], World.ownsMap_made _ _ _ _, ⟨fun x => by simp [has], rfl⟩, fun b hb => by simp at hb⟩
theorem PlcD.put {w : World} {M : Nat} {l : List Bs} {b : Bs} {D : DataW Unit} (hD : w.ownsMap Tryz.prog 9 (plainElem Tryz.prog 3) M (size D) D) (h : PlcD D l) (hx : b ∉ l) : size (D.put (keyS b) (numD (l.length : Nat))) = size D + 1 ∧ PlcD (D.put (keyS b) (numD (l.length : Nat))) (l ++ [b]) := by
  have hx' : l.any (· == b) = false := by
    rw [List.any_eq_false]
    intro y hy e
    have : y = b := by simpa using e
    exact hx (this ▸ hy)
  obtain ⟨h1, h2⟩ := MetD.put hD h.1 hx' ((l.length : Nat) : Int)
  refine ⟨h1, h2, fun y hy z => ?_⟩
  by_cases e : y = b
  · subst e
    rw [atKey_put_same hD.isMap (keyS_lit _), List.idxOf_append, if_neg hx]
    simp
  · rw [atKey_put_other (keyS_ne e)]
    have hyl : y ∈ l := by
      rcases List.mem_append.1 hy with h | h
      · exact h
      · exact absurd (by simpa using h) e
    rw [h.2 y hyl z, List.idxOf_append, if_pos hyl]
/-- What is found under a name. -/
theorem Plc.look {w : World} {M : Nat} {l : List Bs} (h : Plc w M l) (b : Bs) (hb : b.length ≤ 4611686018427387903) : (Instr.lookup 82 (.map (some M)) (.string (txt b)) true).run Tryz.prog w = .ok (.tuple #[.int .i64 (if b ∈ l then ((l.idxOf b : Nat) : Int) else 0), .bool (decide (b ∈ l))]) w := by
  obtain ⟨D, hD, h2⟩ := h
  have hkey : keyOf Tryz.prog 9 (.string (txt b)) = some (keyS b) := by
    have := keyS_mk (s := txt b) (by rw [txt_size]; unfold maxLen; omega)
    rw [this, bl_txt]
  obtain ⟨v, ps, hrun, hv⟩ := hD.look_ok law9 Tryz.underlying82 (zero3 w) (plainElem_int Tryz.underlying3 (by decide)) hkey
  obtain ⟨c, rfl, hc, -⟩ := plainElem_int_inv Tryz.underlying3 hv
  have hc1 : D.atKey (keyS b) (.lit (.int .i64 0)) = .lit (.int .i64 c) := congrArg Prod.fst hc
  have hhas : has D (keyS b) = decide (b ∈ l) := by
    rw [h2.1.1 b, Bool.eq_iff_iff, List.any_eq_true]
    simp
  rw [hrun, hhas]
  by_cases hbl : b ∈ l
  · rw [h2.2 b hbl] at hc1
    simp only [if_pos hbl]
    cases hc1
    rfl
  · simp only [if_neg hbl]
    rw [atKey_of_not_has (by rw [hhas]; simpa using hbl)] at hc1
    cases hc1
    rfl

/-- The parser, with the places of its names. -/
structure IsPk (S : Nat → Bool) (w : World) (B : Nat) (r : PRest) (t : Sl) (ts : List Tok) (names : List Bs) : Prop where
  tk : IsTk S w B r t ts
  plc : ∃ M, r.mp = .map (some M) ∧ Plc w M names ∧ M ≠ B ∧ S M = true

theorem pplace_any {S : Nat → Bool} {B : Nat} {r : PRest} {t : Sl} {ts : List Tok} {names : List Bs} (w : World) (h : IsPk S w B r t ts names) : Calls Tryz.prog 115 #[.pointer (some ⟨B, 0, none⟩)] w (After S B r w (placeP r.en names ts) fun x _ v => v = .int .i64 x) := by
  obtain ⟨M, hM, hP, hne, hS⟩ := h.plc
  have C := Lib.hid (take_any 1 (by decide) w h.tk)
  have hMl : M < w.heap.size := hP.lt
  have HP := Lib.hid hP
  have HN : Hid (placeP r.en names ts = match takeP r.en 1 ts with
  | .error f => .error f
  | .ok (t, r) => if t.text ∈ names then .ok (((names.idxOf t.text : Nat) : Int), r) else .error (t.at_, 7)) := Lib.hid rfl
  have HBT : Hid (∀ x rs, takeP r.en 1 ts = .ok (x, rs) → x.text.length ≤ 1048576) := Lib.hid (fun x rs e => by
    have := take_len e
    cases ts with
    | nil => rw [this.2.1]; simp [aheadT]
    | cons y ts => rw [this.2.1]; exact h.tk.tok.brief _ (by simp [aheadT]))
  have HM := Lib.hid hM
  unfold After at C
  generalize placeP r.en names ts = RES at HN ⊢
  generalize takeP r.en 1 ts = res at C HN HBT
  clear h hP hM
  go_enter Tryz.func115, Tryz.ntmps115
  go_wp2_with fail
  refine C.out.mono ?_
  rintro e w1 ⟨m1, h1⟩
  cases res with
  | error f =>
    subst h1
    refine ⟨rfl, ?_⟩
    unfold After
    rw [HN.out]
    exact ⟨m1, rfl⟩
  | ok p =>
    obtain ⟨x, rs⟩ := p
    obtain ⟨⟨v, rfl, rfl⟩, t1, h2⟩ := h1
    have H2 := Lib.hid h2
    have M1 := Lib.hid m1
    have hxt := HBT.out _ _ rfl
    have HPL := Lib.hid (fun (W : World) (hW : W.heap[M]? = w1.heap[M]?) => ((HP.out.keep (m1.block M hMl (by simpa [one] using hne))).keep hW).look x.text (by omega))
    obtain ⟨-, -, c2, -⟩ := (h2.step (below1 w1 (tokObj x))).cells
    rw [HM.out] at c2
    unfold ptokV
    have T4 := TBox.new 118 w1 (.int .i64 (x.kind : Nat)) (.string (txt x.text)) (.int .i64 x.num) (.int .i64 (x.at_ : Nat))
    obtain ⟨y0, y1, y2, y3⟩ := T4.cells
    clear h2 m1 HBT C T4
    go_upto_region 2 with fail
    have hlk := HPL.out (w1.alloc (tokObj x)).drew (Below.heap_alloc _ _ _ (Nat.lt_of_lt_of_le hMl M1.out.size))
    obtain ⟨W, hW⟩ : ∃ W, W = w1.alloc (tokObj x) := ⟨_, rfl⟩
    have BW : Hid (Below w1.heap.size w1 W) := Lib.hid (by rw [hW]; exact below1 _ _)
    have HMW : Hid (Mv (one B) w W) := Lib.hid (by rw [hW]; exact M1.out.alloc _)
    rw [← hW] at hlk c2 y0 y1 y2 y3
    change Code.wp _ _ _ _ (w1.alloc (tokObj x))
    rw [← hW]
    clear hW HPL
    have CT := Lib.hid (throw_any x 7)
    unfold ptokV at CT
    by_cases hmem : x.text ∈ names
    · simp only [if_pos hmem, decide_eq_true hmem] at hlk
      have HN2 : Hid (RES = .ok (((names.idxOf x.text : Nat) : Int), rs)) := Lib.hid (by rw [HN.out]; simp only [if_pos hmem])
      generalize ((names.idxOf x.text : Nat) : Int) = ix at hlk HN2
      clear hmem HN CT
      go_region
      go_wp2_with fail
      go_ret
      unfold After
      rw [HN2.out]
      exact ⟨HMW.out.drew, ⟨_, rfl, rfl⟩, _, (H2.out.step BW.out).keep fun _ _ => rfl⟩
    · simp only [if_neg hmem, decide_eq_false hmem] at hlk
      have HN2 : Hid (RES = .error (x.at_, 7)) := Lib.hid (by rw [HN.out]; simp only [if_neg hmem])
      clear hmem HN
      go_region
      go_wp2_with fail
      refine (CT.out _).mono ?_
      rintro e w3 ⟨rfl, b3⟩
      refine ⟨rfl, ?_⟩
      unfold After
      rw [HN2.out]
      exact ⟨HMW.out.drew.trans (Mv.of_below b3), rfl⟩

/-- What of a parser's places stays. -/
theorem IsPk.after {S : Nat → Bool} {w w' : World} {B : Nat} {r : PRest} {t t' : Sl} {ts ts' : List Tok} {names : List Bs} (h : IsPk S w B r t ts names) (hm : Mv (one B) w w') (h' : IsTk S w' B r t' ts') : IsPk S w' B r t' ts' names := by
  obtain ⟨M, e, hP, hne, hS⟩ := h.plc
  exact ⟨h', M, e, hP.keep (hm.block M hP.lt (by simpa [one] using hne)), hne, hS⟩

theorem Mv.toS {S : Nat → Bool} {B : Nat} {w w' : World} (h : Mv (one B) w w') (hS : S B = true) : Mv S w w' := h.wide fun g _ hg => by
  cases e : one B g
  · rfl
  · have : g = B := by simpa [one] using e
    rw [this, hS] at hg; cases hg
theorem EntIn.unhide {S : Nat → Bool} {w : World} (h : EntIn (hide S w)) : EntIn w := ⟨by have := h.1; rw [hide_size] at this; exact this, fun j v e => (hide_cell (h.2 j v e)).2⟩
theorem TabZ.unhide {S : Nat → Bool} {w : World} (h : TabZ (hide S w)) : TabZ w := ⟨by have := h.1; rw [hide_size] at this; exact this, fun j hj => (hide_cell (h.2 j hj)).2⟩

theorem variable_any {S : Nat → Bool} {B : Nat} {r : PRest} {t : Sl} {ts : List Tok} {names : List Bs} (w : World) (h : IsPk S w B r t ts names) : Calls Tryz.prog 146 #[.pointer (some ⟨B, 0, none⟩)] w (After S B r w (placeP r.en names ts) fun x _ v => RInt w v x) := by
  have C := Lib.hid (pplace_any w h)
  unfold After at C
  generalize placeP r.en names ts = RES at C ⊢
  clear h
  go_enter Tryz.func146, Tryz.ntmps146
  go_wp2_with fail
  refine C.out.mono ?_
  rintro e w1 ⟨m1, h1⟩
  cases RES with
  | error f =>
    subst h1
    exact ⟨rfl, m1, rfl⟩
  | ok p =>
    obtain ⟨x, rs⟩ := p
    obtain ⟨⟨v, rfl, rfl⟩, h2⟩ := h1
    have H2 := Lib.hid h2
    have M1 := Lib.hid m1
    clear h2 m1
    go_wp2
    go_ret
    exact ⟨M1.out, ⟨_, rfl, rfl⟩, H2.out⟩

/-- What Check tells of a name alone. -/
theorem check_name (b : Bs) : (checkE ⟨[b], [[0]], [], 0, 0⟩).2 = if mayNameB b then 0 else 7 := by
  cases h : mayNameB b
  · have h1 : firstE (varE ⟨[b], [[0]], [], 0, 0⟩) 1 = 7 := by
      have : varE ⟨[b], [[0]], [], 0, 0⟩ 0 = 7 := varE_name (m := ⟨[b], [[0]], [], 0, 0⟩) (k := 0) h
      rw [firstE_at (k := 0) (by omega) (fun j hj => absurd hj (by omega)) (by rw [this]; decide), this]
    rw [checkE_var rfl (by simp) (by simp) (by show firstE _ 1 ≠ 0; rw [h1]; decide)]
    exact h1
  · have h1 : firstE (varE ⟨[b], [[0]], [], 0, 0⟩) 1 = 0 := firstE_no fun j hj => by
      obtain rfl : j = 0 := by omega
      rw [varE_dom (m := ⟨[b], [[0]], [], 0, 0⟩) (k := 0) h rfl]
      show (if mayListB [0] = false then (3 : Int) else 0) = 0
      decide
    rw [checkE_end rfl (by simp) (by simp) h1 (fun j hj => absurd hj (by simp))]
    rfl

theorem alloc_size (w : World) (o : Obj) : (w.alloc o).heap.size = w.heap.size + 1 := by simp
theorem new_cell1 (w : World) (v : Value) (ty : TypeId) : (w.alloc (.cells #[v] ty)).cell? ⟨w.heap.size, 0, none⟩ = some v := by
  unfold World.cell?
  rw [heap_alloc_new]
  rfl

theorem mayName_p (b : Bs) (w : World) (hE : EntIn w) (hb : b.length ≤ 4611686018427387903) : Calls Tryz.prog 142 #[.string (txt b)] w fun e w' => e = .returned (.bool (mayNameB b)) ∧ Below w.heap.size w w' := by
  obtain ⟨W, hW⟩ : ∃ W, W = ((w.alloc (.cells #[.string (txt b)] 9)).alloc (.cells #[.int .i64 0] 3)).alloc (.cells #[.slice (some ⟨w.heap.size + 1, 0, none⟩) 1 1] 35) := ⟨_, rfl⟩
  have hBW : Below w.heap.size w W := by
    rw [hW]
    exact ((below1 w _).trans ((below1 _ _).mono (by simp))).trans ((below1 _ _).mono (by simp; omega))
  have c0 : W.cell? ⟨w.heap.size, 0, none⟩ = some (.string (txt b)) := by
    rw [hW, (below1 _ _).cell (by simp; omega), (below1 _ _).cell (by simp)]
    exact new_cell1 w _ _
  have c1 : W.cell? ⟨w.heap.size + 1, 0, none⟩ = some (.int .i64 0) := by
    rw [hW, (below1 _ _).cell (by simp)]
    have := new_cell1 (w.alloc (.cells #[.string (txt b)] 9)) (.int .i64 0) 3
    rw [alloc_size] at this
    exact this
  have c2 : W.cell? ⟨w.heap.size + 2, 0, none⟩ = some (.slice (some ⟨w.heap.size + 1, 0, none⟩) 1 1) := by
    rw [hW]
    have := new_cell1 ((w.alloc (.cells #[.string (txt b)] 9)).alloc (.cells #[.int .i64 0] 3)) (.slice (some ⟨w.heap.size + 1, 0, none⟩) 1 1) 35
    rw [alloc_size, alloc_size] at this
    exact this
  have hs : W.heap.size = w.heap.size + 3 := by rw [hW]; simp
  have hm : ModIn W ⟨⟨some ⟨w.heap.size, 0, none⟩, 1, 1⟩, ⟨some ⟨w.heap.size + 2, 0, none⟩, 1, 1⟩, ⟨none, 0, 0⟩⟩ ⟨[b], [[0]], [], 0, 0⟩ := by
    refine ⟨⟨rfl, fun _ => ⟨_, rfl, by simp only; omega, fun j hj => ?_⟩, by simp, Nat.le_refl _⟩, ⟨rfl, by simp, fun _ => ⟨_, rfl, by simp only; omega, fun i hi => ?_⟩⟩, IsCons.nil W, fun l hl => by simp at hl; subst hl; simp, fun x hx => by simp at hx; subst hx; exact hb⟩
    · obtain rfl : j = 0 := by simp only at hj; omega
      rw [add_zero]
      exact c0
    · obtain rfl : i = 0 := by simp only at hi; omega
      refine ⟨⟨some ⟨w.heap.size + 1, 0, none⟩, 1, 1⟩, by rw [add_zero]; exact c2, rfl, fun _ => ⟨_, rfl, by simp only; omega, fun j hj => ?_⟩, by simp, Nat.le_refl _⟩
      obtain rfl : j = 0 := by simp only at hj; omega
      rw [add_zero]
      exact c1
  have C := Lib.hid (check_any _ _ W (hE.below hBW) hm)
  rw [check_name] at C
  generalize (checkE ⟨[b], [[0]], [], 0, 0⟩).1 = q at C
  have HBW := Lib.hid hBW
  have HW := Lib.hid hW
  have hsd : W.heap.size = w.heap.size + 3 := hs
  clear hm hW hBW hE hb c0 c1 c2 hs
  go_enter Tryz.func142, Tryz.ntmps142
  go_wp2_with fail
  rw [show w.heap.size + 1 + 1 = w.heap.size + 2 from rfl, ← HW.out]
  refine C.out.mono ?_
  rintro e w1 ⟨rfl, b1⟩
  have HB1 := Lib.hid (HBW.out.trans (b1.mono HBW.out.size))
  clear b1
  cases hmn : mayNameB b
  · simp only [Bool.false_eq_true, if_false]
    go_wp2_with fail
    go_ret
    exact ⟨by rw [hmn]; rfl, HB1.out⟩
  · simp only [if_true]
    go_wp2_with fail
    go_ret
    exact ⟨by rw [hmn]; rfl, HB1.out⟩

theorem newName_any {S : Nat → Bool} {B : Nat} {r : PRest} {t : Sl} {ts : List Tok} {names : List Bs} (w : World) (h : IsPk S w B r t ts names) (hE : EntIn (hide S w)) : Calls Tryz.prog 112 #[.pointer (some ⟨B, 0, none⟩)] w (After S B r w (newNameP r.en names ts) fun x _ v => v = .string (txt x) ∧ x.length ≤ 1048576) := by
  obtain ⟨M, hM, hP, hne, hS⟩ := h.plc
  have C := Lib.hid (take_any 1 (by decide) w h.tk)
  have hMl : M < w.heap.size := hP.lt
  have HP := Lib.hid hP
  have HN : Hid (newNameP r.en names ts = match takeP r.en 1 ts with
  | .error f => .error f
  | .ok (t, r) => if mayNameB t.text = false then .error (t.at_, 7) else if t.text ∈ names then .error (t.at_, 8) else .ok (t.text, r)) := Lib.hid rfl
  have HBT : Hid (∀ x rs, takeP r.en 1 ts = .ok (x, rs) → x.text.length ≤ 1048576) := Lib.hid (fun x rs e => by
    have := take_len e
    cases ts with
    | nil => rw [this.2.1]; simp [aheadT]
    | cons y ts => rw [this.2.1]; exact h.tk.tok.brief _ (by simp [aheadT]))
  have HM := Lib.hid hM
  have HSB := Lib.hid h.tk.hid
  have HE := Lib.hid hE
  unfold After at C
  generalize newNameP r.en names ts = RES at HN ⊢
  generalize takeP r.en 1 ts = res at C HN HBT
  clear h hP hM hE
  go_enter Tryz.func112, Tryz.ntmps112
  go_wp2_with fail
  refine C.out.mono ?_
  rintro e w1 ⟨m1, h1⟩
  cases res with
  | error f =>
    subst h1
    refine ⟨rfl, ?_⟩
    unfold After
    rw [HN.out]
    exact ⟨m1, rfl⟩
  | ok p =>
    obtain ⟨x, rs⟩ := p
    obtain ⟨⟨v, rfl, rfl⟩, t1, h2⟩ := h1
    have H2 := Lib.hid h2
    have hxt := HBT.out _ _ rfl
    have HPL := Lib.hid (fun (W : World) (hW : W.heap[M]? = w1.heap[M]?) => ((HP.out.keep (m1.block M hMl (by simpa [one] using hne))).keep hW).look x.text (by omega))
    have HE1 : Hid (EntIn (hide S w1)) := Lib.hid (HE.out.below (by rw [hide_size]; exact (m1.toS HSB.out).hide))
    have M1 := Lib.hid m1
    have CM := Lib.hid (fun (W : World) (hW : EntIn W) => mayName_p x.text W hW (by omega))
    unfold ptokV
    have T4 := TBox.new 118 w1 (.int .i64 (x.kind : Nat)) (.string (txt x.text)) (.int .i64 x.num) (.int .i64 (x.at_ : Nat))
    obtain ⟨y0, y1, y2, y3⟩ := T4.cells
    have HT4 := Lib.hid T4
    have HB4 := Lib.hid (below1 w1 (tokObj x))
    have C7 := Lib.hid (throw_any x 7)
    have C8 := Lib.hid (throw_any x 8)
    unfold ptokV at C7 C8
    clear h2 m1 HBT C T4
    go_wp2_with fail
    refine (CM.out _ (HE1.out.unhide.below HB4.out)).mono ?_
    rintro e w2 ⟨rfl, b2⟩
    have B2 : Hid (Below w1.heap.size w1 w2) := Lib.hid (HB4.out.trans (b2.mono HB4.out.size))
    obtain ⟨z0, z1, z2, z3⟩ := (HT4.out.below b2).cells
    clear b2 y0 y1 y2 y3
    cases hmn : mayNameB x.text
    · have HN2 : Hid (RES = .error (x.at_, 7)) := Lib.hid (by rw [HN.out]; simp only [if_pos hmn])
      clear hmn HN
      go_wp2_with fail
      refine (C7.out _).mono ?_
      rintro e w3 ⟨rfl, b3⟩
      refine ⟨rfl, ?_⟩
      unfold After
      rw [HN2.out]
      exact ⟨(M1.out.trans (Mv.of_below B2.out)).trans (Mv.of_below b3), rfl⟩
    · have hlk := HPL.out w2.drew (B2.out.block M (Nat.lt_of_lt_of_le hMl M1.out.size))
      obtain ⟨-, -, c2, -⟩ := (H2.out.step B2.out).cells
      rw [HM.out] at c2
      by_cases hmem : x.text ∈ names
      · simp only [if_pos hmem, decide_eq_true hmem] at hlk
        have HN2 : Hid (RES = .error (x.at_, 8)) := Lib.hid (by rw [HN.out]; simp only [hmn, Bool.true_eq_false, if_false, if_pos hmem])
        generalize ((names.idxOf x.text : Nat) : Int) = ix at hlk
        clear hmem HN HPL
        go_wp2_with fail
        go_region
        go_wp2_with fail
        refine (C8.out _).mono ?_
        rintro e w3 ⟨rfl, b3⟩
        refine ⟨rfl, ?_⟩
        unfold After
        rw [HN2.out]
        exact ⟨(M1.out.trans (Mv.of_below B2.out)).drew.trans (Mv.of_below b3), rfl⟩
      · simp only [if_neg hmem, decide_eq_false hmem] at hlk
        have HN2 : Hid (RES = .ok (x.text, rs)) := Lib.hid (by rw [HN.out]; simp only [hmn, Bool.true_eq_false, if_false, if_neg hmem])
        clear hmem HN HPL
        go_wp2_with fail
        go_region
        go_wp2_with fail
        go_ret
        unfold After
        rw [HN2.out]
        exact ⟨(M1.out.trans (Mv.of_below B2.out)).drew, ⟨_, rfl, rfl, hxt⟩, _, (H2.out.step B2.out).keep fun _ _ => rfl⟩
end Go.Proofs.YtgemgmdnnjaghaaGreatDoor

/- Contracts: row, lists of rows and of variables, rangeOrSet, domain. -/
import Derived.Test.YtgemgmdnnjaghaaGreatDoorPname
namespace Go.Proofs.YtgemgmdnnjaghaaGreatDoor
open Go.RowKit Go.Sort Go.Maps

/-- What reads an element reads a token at least. -/
def Eats1 {α : Type} (el : List Tok → PR α) : Prop := ∀ ts x r, el ts = .ok (x, r) → r.length + 1 ≤ ts.length
theorem Eats1.weak {α : Type} {el : List Tok → PR α} (h : Eats1 el) : Eats el := fun ts x r e => by have := h ts x r e; omega
theorem take_one {en k : Nat} (hk : k ≠ 0) {ts r : List Tok} {t : Tok} (h : takeP en k ts = .ok (t, r)) : r.length + 1 ≤ ts.length := by
  obtain ⟨h1, h2, h3⟩ := take_len h
  cases ts with
  | nil => exact absurd h3.symm hk
  | cons y ts => rw [h1]; simp
theorem want_one {en : Nat} {s : Bs} (hs : s ≠ []) {ts r : List Tok} (h : wantP en s ts = .ok r) : r.length + 1 ≤ ts.length := by
  obtain ⟨h1, h2⟩ := want_len h
  cases ts with
  | nil => exact absurd h2.symm hs
  | cons y ts => rw [h1]; simp
theorem text_one {en : Nat} {s : Bs} (hs : s ≠ []) {ts : List Tok} (h : (aheadT en ts).text = s) : ts.tail.length + 1 ≤ ts.length := by
  cases ts with
  | nil => exact absurd h.symm hs
  | cons y ts => simp
theorem numP_one (en : Nat) : Eats1 (numP en) := by
  intro ts x r h
  unfold numP at h
  split at h
  · cases h
  · next t r' e => injection h with h; injection h with h1 h2; subst h2; exact take_one (by decide) e
theorem placeP_one (en : Nat) (names : List Bs) : Eats1 (placeP en names) := by
  intro ts x r h
  unfold placeP at h
  split at h
  · cases h
  · next t r' e =>
    split at h
    · injection h with h; injection h with h1 h2; subst h2; exact take_one (by decide) e
    · cases h
theorem tailP_len {α : Type} (en : Nat) (last : Bs) (hl : last ≠ []) {el : List Tok → PR α} (he : Eats1 el) : ∀ n ts xs r, tailP en last el n ts = .ok (xs, r) → 2 * xs.length + r.length + 1 ≤ ts.length := by
  intro n
  induction n with
  | zero =>
    intro ts x r h
    simp only [tailP] at h
    split at h
    · next ht => injection h with h; injection h with h1 h2; subst h2; subst h1; have := text_one hl ht; simp only [List.length_nil]; omega
    · cases h
  | succ n ih =>
    intro ts x r h
    simp only [tailP] at h
    split at h
    · next ht => injection h with h; injection h with h1 h2; subst h2; subst h1; have := text_one hl ht; simp only [List.length_nil]; omega
    · split at h
      · cases h
      · next r1 e1 =>
        split at h
        · cases h
        · next x2 r2 e2 =>
          split at h
          · cases h
          · next xs r3 e3 =>
            injection h with h; injection h with h1 h2; subst h2; subst h1
            have a := he _ _ _ e2
            have b := ih _ _ _ e3
            have c := want_one (by decide) e1
            simp only [List.length_cons]
            omega
theorem listP_len {α : Type} (en : Nat) (first last : Bs) (hf : first ≠ []) (hl : last ≠ []) {el : List Tok → PR α} (he : Eats1 el) {ts r : List Tok} {xs : List α} (h : listP en first last el ts = .ok (xs, r)) : 2 * xs.length + r.length + 1 ≤ ts.length := by
  unfold listP at h
  split at h
  · cases h
  · next r1 e1 =>
    have c := want_one hf e1
    split at h
    · injection h with h; injection h with h1 h2; subst h2; subst h1; have := tail_le r1; simp only [List.length_nil]; omega
    · split at h
      · cases h
      · next x2 r2 e2 =>
        split at h
        · cases h
        · next xs r3 e3 =>
          injection h with h; injection h with h1 h2; subst h2; subst h1
          have a := he _ _ _ e2
          have b := tailP_len en last hl he _ _ _ _ e3
          simp only [List.length_cons]
          omega
theorem rowP_one (en : Nat) : Eats1 (rowP en) := fun ts x r h => by have := listP_len en _ _ (by decide) (by decide) (numP_one en) h; omega

theorem row_any {S : Nat → Bool} {B : Nat} {r : PRest} {t : Sl} {ts : List Tok} (w : World) (h : IsTk S w B r t ts) : Calls Tryz.prog 149 #[.pointer (some ⟨B, 0, none⟩)] w (After S B r w (rowP r.en ts) fun l w' v => RRow w.heap.size w' v l) := by
  have C := Lib.hid (list_num [91] [93] (by decide) (by decide) w h)
  have HLEN : Hid (∀ xs rs, rowP r.en ts = .ok (xs, rs) → xs.length ≤ 1048577) := Lib.hid (fun xs rs e => by
    have := listP_len r.en _ _ (by decide) (by decide) (numP_one r.en) e
    have h1 := h.tok.len
    have h2 := h.tok.big
    omega)
  have hmf : ∀ (fn : Fn) (first cap : Array Value) (w : World), (Instr.makeFunc fn first cap).run Tryz.prog w = .ok (.func fn first cap) w := fun _ _ _ _ => rfl
  have e91 : (⟨#[91]⟩ : ByteArray) = txt [91] := rfl
  have e93 : (⟨#[93]⟩ : ByteArray) = txt [93] := rfl
  unfold After at C
  change Calls _ _ _ _ (After S B r w (listP r.en [91] [93] (numP r.en) ts) _)
  change Hid (∀ xs rs, listP r.en [91] [93] (numP r.en) ts = .ok (xs, rs) → xs.length ≤ 1048577) at HLEN
  generalize listP r.en [91] [93] (numP r.en) ts = RES at C HLEN ⊢
  clear h
  go_enter Tryz.func149, Tryz.ntmps149
  go_wp2_with fail
  refine C.out.mono ?_
  rintro e w1 ⟨m1, h1⟩
  cases RES with
  | error f =>
    subst h1
    exact ⟨rfl, m1, rfl⟩
  | ok p =>
    obtain ⟨xs, rs⟩ := p
    obtain ⟨⟨v, rfl, hv⟩, t1, h2⟩ := h1
    have H2 := Lib.hid h2
    have M1 := Lib.hid m1
    have CI := Lib.hid (ints_any v xs w1 hv (HLEN.out _ _ rfl))
    clear h2 m1 hv HLEN C
    go_wp2_with fail
    refine CI.out.mono ?_
    rintro e w2 ⟨v2, rfl, hv2, b2⟩
    obtain ⟨A2, c2, rfl, -, -⟩ := own_lies hv2
    have HV2 := Lib.hid hv2
    have B2 := Lib.hid b2
    clear hv2 b2
    go_wp2_with fail
    go_ret
    exact ⟨M1.out.trans (Mv.of_below B2.out), ⟨_, rfl, A2, c2, rfl, own_base HV2.out M1.out.size⟩, _, H2.out.step B2.out⟩

theorem eRow : ∀ args w, (callFunc 149 args).run Tryz.prog w = .ok (.enter 149 args) w := enters_of Tryz.func149 (by kernel_rfl) rfl
theorem eVariable : ∀ args w, (callFunc 146 args).run Tryz.prog w = .ok (.enter 146 args) w := enters_of Tryz.func146 (by kernel_rfl) rfl
/-- A list of rows is read. -/
theorem list_row {S : Nat → Bool} {B : Nat} {r : PRest} {t : Sl} {ts : List Tok} (w : World) (h : IsTk S w B r t ts) :
    Calls Tryz.prog 145 #[.pointer (some ⟨B, 0, none⟩), .string (txt [91]), .string (txt [93]), .func (.func 149) #[.pointer (some ⟨B, 0, none⟩)] #[]] w (After S B r w (listP r.en [91] [93] (rowP r.en) ts) fun xs w' v => IsEls (RRow w.heap.size) w.heap.size w' v xs) := by
  have hB : B < w.heap.size := h.lt B h.hid
  refine list_any (rowP r.en) (RRow w.heap.size) (fun W => w.heap.size ≤ W.heap.size) 149 [91] [93] (by decide) (by decide) eRow w h (Nat.le_refl _) (fun W t ts hW hJ => (row_any W hW).mono ?_) ?_ (fun W W' hm hJ => Nat.le_trans hJ hm.size) (fun W u x hR => ?_) (rowP_eats r.en) ?_
  · intro e w' he
    unfold After at he ⊢
    refine ⟨he.1, ?_⟩
    have := he.2
    revert this
    cases rowP r.en ts with
    | error f => exact id
    | ok p =>
      rintro ⟨⟨v, e, A, c, e2, h3⟩, h4⟩
      exact ⟨⟨v, e, A, c, e2, own_base h3 hJ⟩, h4⟩
  · rintro W W' u x hm ⟨A, c, e, h3⟩
    exact ⟨A, c, e, own_same h3 fun g hg hlt => hm.block g hlt (by have := own_ge h3 g hg; simp [one]; omega)⟩
  · obtain ⟨A, c, e, h3⟩ := hR
    exact ⟨_, _, e⟩
  · rintro W W' o row u x hs hgr hrow ⟨A, c, e, h3⟩
    refine ⟨A, c, e, own_same h3 fun g hg hlt => (hgr.block g (by simp; omega) fun er => ?_).trans (Below.heap_alloc _ _ _ hlt)⟩
    obtain ⟨-, cur, hcur⟩ := hrow g er.symm
    obtain ⟨cur2, hcur2⟩ := own_typed h3 hg
    rw [hcur] at hcur2
    cases hcur2
/-- A list of variables is read. -/
theorem list_var {S : Nat → Bool} {B : Nat} {r : PRest} {t : Sl} {ts : List Tok} {names : List Bs} (w : World) (h : IsPk S w B r t ts names) :
    Calls Tryz.prog 145 #[.pointer (some ⟨B, 0, none⟩), .string (txt [91]), .string (txt [93]), .func (.func 146) #[.pointer (some ⟨B, 0, none⟩)] #[]] w (After S B r w (listP r.en [91] [93] (placeP r.en names) ts) fun xs w' v => IsEls RInt w.heap.size w' v xs) := by
  obtain ⟨M, hM, hP, hne, hS⟩ := h.plc
  refine list_any (placeP r.en names) RInt (fun W => Plc W M names) 146 [91] [93] (by decide) (by decide) eVariable w h.tk hP (fun W _ _ hW hJ => variable_any W ⟨hW, M, hM, hJ, hne, hS⟩) (fun _ _ _ _ _ h => h) (fun W W' hm hJ => hJ.keep (hm.block M hJ.lt (by simpa [one] using hne))) (fun _ _ _ h => ⟨_, _, h⟩) (placeP_eats r.en names) (fun _ _ _ _ _ _ _ _ _ h => h)

/-- A domain's box. -/
abbrev domObj (a b c : Value) : Obj := .cells #[a, b, c] 153
def DBox (W : World) (g : Nat) (a b c : Value) : Prop := W.heap[g]? = some (.cells #[a, b, c] 153 (0, 0))
theorem DBox.lt {W : World} {g : Nat} {a b c : Value} (h : DBox W g a b c) : g < W.heap.size := (Array.getElem?_eq_some_iff.1 h).1
theorem DBox.below {W W' : World} {g : Nat} {a b c : Value} (h : DBox W g a b c) (hb : Below W.heap.size W W') : DBox W' g a b c := (hb.block g h.lt).trans h
theorem DBox.mv {B : Nat} {W W' : World} {g : Nat} {a b c : Value} (h : DBox W g a b c) (hb : Mv (one B) W W') (hne : g ≠ B) : DBox W' g a b c := (hb.block g h.lt (by simpa [one] using hne)).trans h
theorem DBox.cells {W : World} {g : Nat} {a b c : Value} (h : DBox W g a b c) : W.cell? ⟨g, 0, none⟩ = some a ∧ W.cell? ⟨g, 1, none⟩ = some b ∧ W.cell? ⟨g, 2, none⟩ = some c := by
  unfold DBox at h
  refine ⟨?_, ?_, ?_⟩ <;> (unfold World.cell?; rw [h]; simp)
theorem DBox.free {W : World} {g : Nat} {a b c : Value} (h : DBox W g a b c) (i : Nat) : W.frozen? ⟨g, i, none⟩ = false := by
  unfold DBox at h
  unfold World.frozen?
  rw [h]; simp
abbrev dput (W : World) (g : Nat) (a b c : Value) : World := ((W.setCell ⟨g, 0, none⟩ a).setCell ⟨g, 1, none⟩ b).setCell ⟨g, 2, none⟩ c
theorem dput_heap (W : World) (g k : Nat) (a b c : Value) (h : k ≠ g) : (dput W g a b c).heap[k]? = W.heap[k]? := by
  simp [dput, World.setCell, Array.getElem?_modify, Ne.symm h]
theorem dput_size (W : World) (g : Nat) (a b c : Value) : (dput W g a b c).heap.size = W.heap.size := by simp [dput, World.setCell]
theorem dput_same {W : World} {g : Nat} {a b c : Value} (h : DBox W g a b c) (a' b' c' : Value) : DBox (dput W g a' b' c') g a' b' c' := by
  unfold DBox at h ⊢
  simp [dput, World.setCell, Array.getElem?_modify, h]
theorem Mv.dput {S : Nat → Bool} {w w' : World} (h : Mv S w w') (a b c : Value) : Mv S w (dput w' w.heap.size a b c) :=
  ⟨h.os, h.tape, h.output, by rw [dput_size]; exact h.size, fun k hk hS => (dput_heap _ _ _ _ _ _ (by omega)).trans (h.block k hk hS)⟩
/-- A domain's words stay where its box is written to. -/
theorem IsDom.dput {W : World} {g n c : Nat} {A : Option Addr} {p q : Int} {L : List Int} {d : Value} (h : IsDom W d L) (hb : DBox W g (.int .i64 p) (.slice A n c) (.int .i64 q)) (a' b' c' : Value) : IsDom (Go.Proofs.YtgemgmdnnjaghaaGreatDoor.dput W g a' b' c') d L := by
  obtain ⟨s, A, ws, c, e, h1, h2, h3⟩ := h
  refine ⟨s, A, ws, c, e, fun hn => ?_, h2, h3⟩
  obtain ⟨ad, e1, hl, hc⟩ := h1 hn
  have hne : ad.block ≠ g := fun eb => by
    have := hc 0 hn
    unfold World.cell? at this
    unfold DBox at hb
    rw [add_block, eb, hb] at this
    simp only at this
    generalize (ad.add 0).off = o at this
    split at this
    · cases this
    · match o, this with
      | 0, h => simp [u64f] at h
      | 1, h => simp [u64f] at h
      | 2, h => simp [u64f] at h
      | n + 3, h => simp at h
  exact ⟨ad, e1, by rw [dput_size]; exact hl, fun j hj => (World.cell?_of_block (w := W) (dput_heap _ _ _ _ _ _ (by rw [add_block]; exact hne))).trans (hc j hj)⟩

abbrev zeroDom : Obj := .cells #[.int .i64 0, .slice none 0 0, .int .i64 0] 153

set_option maxHeartbeats 1000000 in
set_option maxRecDepth 100000 in
theorem ros_set {S : Nat → Bool} {B : Nat} {r : PRest} {t : Sl} {ts : List Tok} (w : World) (h : IsTk S w B r t ts) (hset : (aheadT r.en ts).text = [123]) : Calls Tryz.prog 139 #[.pointer (some ⟨B, 0, none⟩)] w (After S B r w (rosP r.en ts) fun p w' v => ∃ d, v = .tuple #[d, .int .i64 p.2] ∧ IsDom w' d p.1) := by
  have hB : B < w.heap.size := h.lt B h.hid
  have A0 := Lib.hid (ahead_any (w.alloc zeroDom) (h.step (below1 w zeroDom)))
  have HT := Lib.hid h
  have HS0 := Lib.hid h.lt
  have HR : Hid (rosP r.en ts = match listP r.en [123] [125] (numP r.en) ts with
    | .error f => .error f
    | .ok (l, r) => .ok ((ofL l, ofErr l), r)) := Lib.hid (by unfold rosP; rw [if_pos hset]; rfl)
  have HLEN : Hid (∀ xs rs, listP r.en [123] [125] (numP r.en) ts = .ok (xs, rs) → xs.length ≤ 1000000) := Lib.hid (fun xs rs e => by
    have := listP_len r.en _ _ (by decide) (by decide) (numP_one r.en) e
    have h1 := h.tok.len
    have h2 := h.tok.big
    omega)
  have CL := Lib.hid (fun (W : World) (hW : IsTk S W B r t ts) => list_num [123] [125] (by decide) (by decide) W hW)
  have hmf : ∀ (fn : Fn) (first cap : Array Value) (w : World), (Instr.makeFunc fn first cap).run Tryz.prog w = .ok (.func fn first cap) w := fun _ _ _ _ => rfl
  unfold After at CL
  generalize rosP r.en ts = RES at HR ⊢
  generalize listP r.en [123] [125] (numP r.en) ts = res at HR HLEN CL
  generalize aheadT r.en ts = x at A0 hset
  unfold ptokV at A0
  have hf := field1 (x.kind : Nat) x.num (x.at_ : Nat) (txt x.text)
  have ht := txt_list x.text
  clear h
  go_enter Tryz.func139, Tryz.ntmps139
  go_wp2_with fail
  refine A0.out.mono ?_
  rintro e w1 ⟨rfl, b1⟩
  have T1 : DBox w1 w.heap.size (.int .i64 0) (.slice none 0 0) (.int .i64 0) := DBox.below (heap_alloc_new w _) b1
  have B1 := Lib.hid ((below1 w zeroDom).trans (b1.mono (by simp)))
  have HT1 := Lib.hid (HT.out.step B1.out)
  have C1 := Lib.hid (CL.out w1 HT1.out)
  have e1 : (⟨#[123]⟩ : ByteArray) = txt [123] := rfl
  have e2 : (⟨#[125]⟩ : ByteArray) = txt [125] := rfl
  have hlist : (x.text == [123]) = true := by rw [hset]; rfl
  have ht2 := txt_list [123]
  have HD1 := Lib.hid T1
  clear b1 A0 HT HT1 CL hset T1
  go_wp2_with fail
  refine C1.out.mono ?_
  rintro e w2 ⟨m2, h2⟩
  have M2 : Hid (Mv (one B) w w2) := Lib.hid ((Mv.of_below B1.out).trans m2)
  have D2 := Lib.hid (HD1.out.mv m2 (by omega))
  clear m2 HD1 C1
  cases res with
  | error f =>
    subst h2
    refine ⟨rfl, ?_⟩
    unfold After
    rw [HR.out]
    exact ⟨M2.out, rfl⟩
  | ok p =>
    obtain ⟨xs, rs⟩ := p
    obtain ⟨⟨v, rfl, hv⟩, t2, h3⟩ := h2
    have H3 := Lib.hid h3
    have hxs := HLEN.out _ _ rfl
    have CI := Lib.hid (ints_any v xs w2 hv (by omega))
    clear h3 hv HLEN
    go_wp2_with fail
    refine CI.out.mono ?_
    rintro e w3 ⟨v3, rfl, hv3, b3⟩
    obtain ⟨A3, c3, rfl, hl3, -⟩ := own_lies hv3
    have M3 := Lib.hid (M2.out.trans (Mv.of_below b3))
    have D3 := Lib.hid (D2.out.below b3)
    have H4 := Lib.hid (H3.out.step b3)
    have CO := Lib.hid (of_dom A3 xs c3 w3 hl3 hxs)
    clear hv3 hl3 b3 M2 D2 H3 CI
    go_wp2_with fail
    refine CO.out.mono ?_
    rintro e w4 ⟨d, rfl, hd, b4⟩
    have M4 := Lib.hid (M3.out.trans (Mv.of_below b4))
    have D4 := Lib.hid (D3.out.below b4)
    have H5 := Lib.hid (H4.out.step b4)
    have HDM := Lib.hid hd
    obtain ⟨s, A, ws, c, hde, -⟩ := hd
    rw [hde]
    rw [hde] at HDM
    obtain ⟨x0, x1, x2⟩ := D4.out.cells
    have f0 := D4.out.free 0
    have f1 := D4.out.free 1
    have f2 := D4.out.free 2
    generalize ofErr xs = er at HR ⊢
    have HRES : Hid (RES = .ok ((ofL xs, er), rs)) := Lib.hid HR.out
    generalize ofL xs = L at HRES HDM ⊢
    generalize hLn : L.length = Ln at HDM ⊢
    have MF := Lib.hid (M4.out.dput (.int .i64 s) (.slice A ws.length c) (.int .i64 (Ln : Nat)))
    have HF : Hid (IsTk S (dput w4 w.heap.size (.int .i64 s) (.slice A ws.length c) (.int .i64 (Ln : Nat))) B r t2 rs) := Lib.hid (H5.out.keep fun g hg => dput_heap _ _ _ _ _ _ (by have := HS0.out g hg; omega))
    have HDF := Lib.hid (HDM.out.dput D4.out (.int .i64 s) (.slice A ws.length c) (.int .i64 (Ln : Nat)))
    have HQ := Lib.hid (dput_same D4.out (.int .i64 s) (.slice A ws.length c) (.int .i64 (Ln : Nat))).cells
    clear hde b4 M3 D3 H4 CO HDM D4 M4 H5 HR hLn
    go_wp2_with fail
    refine bodyPost_ret (v := .tuple #[.agg #[.int .i64 s, .slice A ws.length c, .int .i64 (Ln : Nat)], .int .i64 er]) ?_ rfl ?_
    · obtain ⟨q0, q1, q2⟩ := HQ.out
      simp [results, Tryz.results139, go_sem, q0, q1, q2]
    · unfold After
      rw [HRES.out]
      exact ⟨MF.out, ⟨_, rfl, _, rfl, HDF.out⟩, _, HF.out⟩

set_option maxHeartbeats 1000000 in
set_option maxRecDepth 100000 in
theorem ros_range {S : Nat → Bool} {B : Nat} {r : PRest} {t : Sl} {ts : List Tok} (w : World) (h : IsTk S w B r t ts) (hset : (aheadT r.en ts).text ≠ [123]) : Calls Tryz.prog 139 #[.pointer (some ⟨B, 0, none⟩)] w (After S B r w (rosP r.en ts) fun p w' v => ∃ d, v = .tuple #[d, .int .i64 p.2] ∧ IsDom w' d p.1) := by
  have hB : B < w.heap.size := h.lt B h.hid
  have A0 := Lib.hid (ahead_any (w.alloc zeroDom) (h.step (below1 w zeroDom)))
  have HT := Lib.hid h
  have HS0 := Lib.hid h.lt
  have HR : Hid (rosP r.en ts = match takeP r.en 2 ts with
    | .error f => .error f
    | .ok (t, r0) =>
      match wantP r.en [46, 46] r0 with
      | .error f => .error f
      | .ok r1 =>
        match takeP r.en 2 r1 with
        | .error f => .error f
        | .ok (t2, r2) => .ok ((if rangeErr t.num t2.num = 0 then rangeL t.num t2.num else [], rangeErr t.num t2.num), r2)) := Lib.hid (by unfold rosP; rw [if_neg hset]; rfl)
  have CT := Lib.hid (fun (W : World) (hW : IsTk S W B r t ts) => take_any 2 (by decide) W hW)
  have CT2 := Lib.hid (fun (W : World) (t : Sl) (ts : List Tok) (hW : IsTk S W B r t ts) => take_any 2 (by decide) W hW)
  have CW := Lib.hid (fun (W : World) (t : Sl) (ts : List Tok) (hW : IsTk S W B r t ts) => want_any [46, 46] (by decide) W hW)
  unfold After at CT CT2
  generalize rosP r.en ts = RES at HR ⊢
  generalize takeP r.en 2 ts = res at HR CT
  generalize aheadT r.en ts = x at A0 hset
  unfold ptokV at A0
  have hf := field1 (x.kind : Nat) x.num (x.at_ : Nat) (txt x.text)
  have ht := txt_list x.text
  clear h
  go_enter Tryz.func139, Tryz.ntmps139
  go_wp2_with fail
  refine A0.out.mono ?_
  rintro e w1 ⟨rfl, b1⟩
  have T1 : DBox w1 w.heap.size (.int .i64 0) (.slice none 0 0) (.int .i64 0) := DBox.below (heap_alloc_new w _) b1
  have B1 := Lib.hid ((below1 w zeroDom).trans (b1.mono (by simp)))
  have C1 := Lib.hid (CT.out w1 (HT.out.step B1.out))
  have e1 : (⟨#[123]⟩ : ByteArray) = txt [123] := rfl
  have e2 : (⟨#[46, 46]⟩ : ByteArray) = txt [46, 46] := rfl
  have hlist : (x.text == [123]) = false := by simpa using hset
  have ht2 := txt_list [123]
  have HD1 := Lib.hid T1
  clear b1 A0 HT CT hset T1
  go_wp2_with fail
  refine C1.out.mono ?_
  rintro e w2 ⟨m2, h2⟩
  have M2 : Hid (Mv (one B) w w2) := Lib.hid ((Mv.of_below B1.out).trans m2)
  have D2 := Lib.hid (HD1.out.mv m2 (by omega))
  clear m2 HD1 C1
  cases res with
  | error f =>
    subst h2
    refine ⟨rfl, ?_⟩
    unfold After
    rw [HR.out]
    exact ⟨M2.out, rfl⟩
  | ok p =>
    obtain ⟨y, r0⟩ := p
    obtain ⟨⟨v, rfl, rfl⟩, t2, h3⟩ := h2
    have C3 := Lib.hid (CW.out w2 t2 r0 h3)
    have HR2 : Hid (RES = match wantP r.en [46, 46] r0 with
      | .error f => .error f
      | .ok r1 =>
        match takeP r.en 2 r1 with
        | .error f => .error f
        | .ok (t2, r2) => .ok ((if rangeErr y.num t2.num = 0 then rangeL y.num t2.num else [], rangeErr y.num t2.num), r2)) := Lib.hid HR.out
    generalize wantP r.en [46, 46] r0 = res3 at C3 HR2
    have hfy := field2 (y.kind : Nat) y.num (y.at_ : Nat) (txt y.text)
    unfold ptokV
    clear h3 HR
    go_wp2_with fail
    refine C3.out.mono ?_
    rintro e w3 ⟨m3, h4⟩
    have M3 := Lib.hid (M2.out.trans m3)
    have D3 := Lib.hid (D2.out.mv m3 (by omega))
    clear m3 C3 M2 D2
    cases res3 with
    | error f =>
      subst h4
      refine ⟨rfl, ?_⟩
      unfold After
      rw [HR2.out]
      exact ⟨M3.out, rfl⟩
    | ok r1 =>
      obtain ⟨rfl, t3, h5⟩ := h4
      have C4 := Lib.hid (CT2.out w3 t3 r1 h5)
      have HR3 : Hid (RES = match takeP r.en 2 r1 with
        | .error f => .error f
        | .ok (t2, r2) => .ok ((if rangeErr y.num t2.num = 0 then rangeL y.num t2.num else [], rangeErr y.num t2.num), r2)) := Lib.hid HR2.out
      generalize takeP r.en 2 r1 = res4 at C4 HR3
      clear h5 HR2
      go_wp2_with fail
      refine C4.out.mono ?_
      rintro e w4 ⟨m4, h6⟩
      have M4 := Lib.hid (M3.out.trans m4)
      have D4 := Lib.hid (D3.out.mv m4 (by omega))
      clear m4 C4 M3 D3
      cases res4 with
      | error f =>
        subst h6
        refine ⟨rfl, ?_⟩
        unfold After
        rw [HR3.out]
        exact ⟨M4.out, rfl⟩
      | ok p =>
        obtain ⟨z, r2⟩ := p
        obtain ⟨⟨v, rfl, rfl⟩, t4, h7⟩ := h6
        have H7 := Lib.hid h7
        have hfz := field2 (z.kind : Nat) z.num (z.at_ : Nat) (txt z.text)
        unfold ptokV
        have CR := Lib.hid (range_dom y.num z.num w4)
        have HR4 : Hid (RES = .ok ((if rangeErr y.num z.num = 0 then rangeL y.num z.num else [], rangeErr y.num z.num), r2)) := Lib.hid HR3.out
        generalize rangeErr y.num z.num = er at CR HR4
        generalize hL0 : (if er = 0 then rangeL y.num z.num else []) = L at CR
        have HRES : Hid (RES = .ok ((L, er), r2)) := Lib.hid (by rw [← hL0]; exact HR4.out)
        clear h7 HR3 HR4 hL0
        go_wp2_with fail
        refine CR.out.mono ?_
        rintro e w5 ⟨d, rfl, hd, b5⟩
        have M5 := Lib.hid (M4.out.trans (Mv.of_below b5))
        have D5 := Lib.hid (D4.out.below b5)
        have H8 := Lib.hid (H7.out.step b5)
        have HDM := Lib.hid hd
        obtain ⟨s, A, ws, c, hde, -⟩ := hd
        rw [hde]
        rw [hde] at HDM
        obtain ⟨x0, x1, x2⟩ := D5.out.cells
        have f0 := D5.out.free 0
        have f1 := D5.out.free 1
        have f2 := D5.out.free 2
        generalize hLn : L.length = Ln at HDM ⊢
        have MF := Lib.hid (M5.out.dput (.int .i64 s) (.slice A ws.length c) (.int .i64 (Ln : Nat)))
        have HF : Hid (IsTk S (dput w5 w.heap.size (.int .i64 s) (.slice A ws.length c) (.int .i64 (Ln : Nat))) B r t4 r2) := Lib.hid (H8.out.keep fun g hg => dput_heap _ _ _ _ _ _ (by have := HS0.out g hg; omega))
        have HDF := Lib.hid (HDM.out.dput D5.out (.int .i64 s) (.slice A ws.length c) (.int .i64 (Ln : Nat)))
        have HQ := Lib.hid (dput_same D5.out (.int .i64 s) (.slice A ws.length c) (.int .i64 (Ln : Nat))).cells
        clear hde b5 M4 D4 CR HDM D5 M5 H7 H8 hLn
        go_wp2_with fail
        refine bodyPost_ret (v := .tuple #[.agg #[.int .i64 s, .slice A ws.length c, .int .i64 (Ln : Nat)], .int .i64 er]) ?_ rfl ?_
        · obtain ⟨q0, q1, q2⟩ := HQ.out
          simp [results, Tryz.results139, go_sem, q0, q1, q2]
        · unfold After
          rw [HRES.out]
          exact ⟨MF.out, ⟨_, rfl, _, rfl, HDF.out⟩, _, HF.out⟩

set_option maxHeartbeats 1000000 in
set_option maxRecDepth 100000 in
theorem domain_any {S : Nat → Bool} {B : Nat} {r : PRest} {t : Sl} {ts : List Tok} (w : World) (h : IsTk S w B r t ts) (hT : TabZ (hide S w)) : Calls Tryz.prog 110 #[.pointer (some ⟨B, 0, none⟩)] w (After S B r w (domP r.en ts) fun l w' v => w'.ownsRow w.heap.size 3 1 v l.length (I l)) := by
  have hB : B < w.heap.size := h.lt B h.hid
  have A0 := Lib.hid (ahead_any w h)
  have HT := Lib.hid h
  have HTB := Lib.hid hT
  have HSB := Lib.hid h.hid
  have CR : Hid (∀ (W : World), IsTk S W B r t ts → Calls Tryz.prog 139 #[.pointer (some ⟨B, 0, none⟩)] W (After S B r W (rosP r.en ts) fun p w' v => ∃ d, v = .tuple #[d, .int .i64 p.2] ∧ IsDom w' d p.1)) := Lib.hid (fun W hW => by
    by_cases hset : (aheadT r.en ts).text = [123]
    · exact ros_set W hW hset
    · exact ros_range W hW hset)
  have HR : Hid (domP r.en ts = match rosP r.en ts with
    | .error f => .error f
    | .ok ((l, e), r0) => if e = 0 then .ok (l, r0) else .error ((aheadT r.en ts).at_, e)) := Lib.hid rfl
  unfold After at CR
  generalize domP r.en ts = RES at HR ⊢
  generalize rosP r.en ts = res at HR CR
  generalize aheadT r.en ts = x at A0 HR
  unfold ptokV at A0
  clear h hT
  go_enter Tryz.func110, Tryz.ntmps110
  go_wp2_with fail
  refine A0.out.mono ?_
  rintro e w1 ⟨rfl, b1⟩
  have B1 : Hid (Below w.heap.size w (w1.alloc (tokObj x))) := Lib.hid (b1.trans ((below1 w1 _).mono b1.size))
  have T1 := Lib.hid (TBox.new 118 w1 (.int .i64 (x.kind : Nat)) (.string (txt x.text)) (.int .i64 x.num) (.int .i64 (x.at_ : Nat)))
  have C1 := Lib.hid (CR.out _ (HT.out.step B1.out))
  have hgB : Hid (w1.heap.size ≠ B) := Lib.hid (by have := b1.size; omega)
  clear b1 A0 CR HT
  go_wp2_with fail
  refine C1.out.mono ?_
  rintro e w2 ⟨m2, h2⟩
  have M2 : Hid (Mv (one B) w w2) := Lib.hid ((Mv.of_below B1.out).trans m2)
  have T2 : Hid (TBox 118 w2 w1.heap.size (.int .i64 (x.kind : Nat)) (.string (txt x.text)) (.int .i64 x.num) (.int .i64 (x.at_ : Nat))) := Lib.hid ((m2.block _ T1.out.lt (by simpa [one] using hgB.out)).trans T1.out)
  clear m2 T1 C1 B1
  cases res with
  | error f =>
    subst h2
    refine ⟨rfl, ?_⟩
    unfold After
    rw [HR.out]
    exact ⟨M2.out, rfl⟩
  | ok p =>
    obtain ⟨⟨L, er⟩, rs⟩ := p
    obtain ⟨⟨v, rfl, d, rfl, hd⟩, t2, h3⟩ := h2
    have H3 := Lib.hid h3
    have HDM := Lib.hid hd
    obtain ⟨s, A, ws, c, hde, -⟩ := hd
    rw [hde]
    rw [hde] at HDM
    generalize hLn : L.length = Ln at HDM ⊢
    have BN := Lib.hid (below1 w2 (domObj (.int .i64 s) (.slice A ws.length c) (.int .i64 (Ln : Nat))))
    have TN := Lib.hid (show DBox (w2.alloc (domObj (.int .i64 s) (.slice A ws.length c) (.int .i64 (Ln : Nat)))) w2.heap.size (.int .i64 s) (.slice A ws.length c) (.int .i64 (Ln : Nat)) from heap_alloc_new _ _)
    have CT := Lib.hid (throw_any x er)
    unfold ptokV at CT
    clear h3 hde
    by_cases her : er = 0
    · have HRES : Hid (RES = .ok (L, rs)) := Lib.hid (by rw [HR.out]; simp only [if_pos her])
      have hne : (er != 0) = false := by simp [her]
      have CL := Lib.hid (list_dom (.agg #[.int .i64 s, .slice A ws.length c, .int .i64 (Ln : Nat)]) L (w2.alloc (domObj (.int .i64 s) (.slice A ws.length c) (.int .i64 (Ln : Nat)))) (HDM.out.below BN.out) ((HTB.out.below (by rw [hide_size]; exact (M2.out.toS HSB.out).hide)).unhide.below BN.out))
      obtain ⟨x0, x1, x2⟩ := TN.out.cells
      clear her HR T2 TN CT
      go_wp2_with fail
      refine CL.out.mono ?_
      rintro e w3 ⟨v3, rfl, hv3, b3⟩
      have HV3 := Lib.hid hv3
      have B3 := Lib.hid b3
      clear hv3 b3
      go_wp2_with fail
      go_ret
      unfold After
      rw [HRES.out]
      exact ⟨(M2.out.trans (Mv.of_below BN.out)).trans (Mv.of_below B3.out), ⟨_, rfl, own_base HV3.out (by have := M2.out.size; simp; omega)⟩, _, (H3.out.step BN.out).step B3.out⟩
    · have HRES : Hid (RES = .error (x.at_, er)) := Lib.hid (by rw [HR.out]; simp only [if_neg her])
      have hne : (er != 0) = true := by simpa using her
      obtain ⟨y0, y1, y2, y3⟩ := (T2.out.below BN.out).cells
      clear her HR T2 TN
      go_wp2_with fail
      refine (CT.out _).mono ?_
      rintro e w3 ⟨rfl, b3⟩
      refine ⟨rfl, ?_⟩
      unfold After
      rw [HRES.out]
      exact ⟨(M2.out.trans (Mv.of_below BN.out)).trans (Mv.of_below b3), rfl⟩
end Go.Proofs.YtgemgmdnnjaghaaGreatDoor

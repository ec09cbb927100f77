/- Contract: part, letter by letter (made by genpart.py). -/
import Derived.Test.YtgemgmdnnjaghaaGreatDoorPcon
namespace Go.Proofs.YtgemgmdnnjaghaaGreatDoor
open Go.RowKit Go.Sort Go.Maps

theorem tailP_all {α : Type} (en : Nat) (last : Bs) {el : List Tok → PR α} (he : Eats el) (P : α → Prop) (N : Nat) (hP : ∀ ts x r, ts.length ≤ N → el ts = .ok (x, r) → P x) : ∀ n ts xs r, ts.length ≤ N → tailP en last el n ts = .ok (xs, r) → ∀ x ∈ xs, P x := by
  intro n
  induction n with
  | zero =>
    intro ts xs r hN h
    simp only [tailP] at h
    split at h
    · injection h with h; injection h with h1 h2; subst h1; intro x hx; cases hx
    · cases h
  | succ n ih =>
    intro ts xs r hN h
    simp only [tailP] at h
    split at h
    · injection h with h; injection h with h1 h2; subst h1; intro x hx; cases hx
    · split at h
      · cases h
      · next r1 e1 =>
        have c := (want_len e1).1
        have d := tail_le ts
        subst c
        split at h
        · cases h
        · next x2 r2 e2 =>
          split at h
          · cases h
          · next xs r3 e3 =>
            injection h with h; injection h with h1 h2; subst h1
            have a := he _ _ _ e2
            intro x hx
            rcases List.mem_cons.1 hx with e | e
            · rw [e]; exact hP _ _ _ (by omega) e2
            · exact ih _ _ _ (by omega) e3 x e
theorem listP_all {α : Type} (en : Nat) (first last : Bs) {el : List Tok → PR α} (he : Eats el) (P : α → Prop) (N : Nat) (hP : ∀ ts x r, ts.length ≤ N → el ts = .ok (x, r) → P x) {ts r : List Tok} {xs : List α} (hN : ts.length ≤ N) (h : listP en first last el ts = .ok (xs, r)) : ∀ x ∈ xs, P x := by
  unfold listP at h
  split at h
  · cases h
  · next r1 e1 =>
    have c := (want_len e1).1
    have d := tail_le ts
    subst c
    split at h
    · injection h with h; injection h with h1 h2; subst h1; intro x hx; cases hx
    · split at h
      · cases h
      · next x2 r2 e2 =>
        split at h
        · cases h
        · next xs r3 e3 =>
          injection h with h; injection h with h1 h2; subst h1
          have a := he _ _ _ e2
          intro x hx
          rcases List.mem_cons.1 hx with e | e
          · rw [e]; exact hP _ _ _ (by omega) e2
          · exact tailP_all en last he P N hP _ _ _ _ (by omega) e3 x e
/-- A new row of numbers lies outside what was there. -/
theorem ints_hide {U : Nat → Bool} {w : World} {b : Nat} {v : Value} {l : List Int} (h : w.ownsRow b 3 1 v l.length (I l)) (hU : ∀ g, U g = true → g < b) (hl : l.length ≤ 1048577) : ∃ A c, v = .slice A l.length c ∧ IsInts (hide U w) ⟨A, l.length, c⟩ l := by
  obtain ⟨A, c, rfl, h1, h2⟩ := own_lies h
  refine ⟨A, c, rfl, IsInts.hide ⟨rfl, h1, by simp only; omega, h2⟩ fun ad e => ?_⟩
  cases hs : U ad.block
  · rfl
  · have h3 := hU _ hs
    have h4 := own_ge h ad.block (by rw [show A = some ad from e]; rfl)
    omega
theorem rows_hide {U : Nat → Bool} {w : World} {b b' : Nat} {v : Value} {xs : List (List Int)} (h : RowsO b b' w v xs) (hU : ∀ g, U g = true → g < b) (hb : b ≤ b') (hl : xs.length ≤ 1048577) (hls : ∀ l ∈ xs, l.length ≤ 1048577) : ∃ A c, v = .slice A xs.length c ∧ IsRows (hide U w) ⟨A, xs.length, c⟩ xs := by
  obtain ⟨vs, h1, h2⟩ := h
  rcases h1.2 with ⟨rfl, h0⟩ | ⟨g, cap, cur, rfl, hbg, hg, hn, hm, hs, ht⟩
  · exact ⟨none, 0, by rw [h0], rfl, by simp only; omega, fun hp => absurd hp (by simp only; omega)⟩
  · refine ⟨some ⟨g, 0, none⟩, cap, rfl, rfl, by simp only; omega, fun hp => ⟨⟨g, 0, none⟩, rfl, by rw [hide_size]; exact lt_of_block hg, fun i hi => ?_⟩⟩
    simp only at hi
    have hvl : vs.length = xs.length := by have := h1.1; omega
    have hv : vs[i]? = some (vs[i]'(by omega)) := List.getElem?_eq_getElem (by omega)
    have hx : xs[i]? = some (xs[i]'hi) := List.getElem?_eq_getElem hi
    obtain ⟨A, c, e, h3⟩ := h2 i _ _ hv hx
    obtain ⟨A2, c2, e2, h4⟩ := ints_hide (U := U) h3 hU (hls _ (List.getElem_mem hi))
    injection e2 with e3 e4 e5
    subst e3; subst e5
    refine ⟨⟨A, xs[i].length, c⟩, ?_, ?_⟩
    · have hgU : U g = false := by
        cases hs : U g
        · rfl
        · have := hU _ hs; omega
      refine cell_hide ?_ (by rw [add_block]; exact hgU)
      have := h1.cellAt i (by omega)
      rw [add_at, this, hv, e]
    · rw [List.getD_eq_getElem?_getD, hx]; exact h4

theorem plus_low {U : Nat → Bool} {v : Value} {g : Nat} (h : v.ownBlock ≠ some g) : plus U v g = U g := by simp [plus, h]
/-- What a part leaves. -/
def PartR (S : Nat → Bool) (b0 B : Nat) (r : PRest) (G : Nat) (U : Nat → Bool) (w : World) (res : PR ConL) (e : Ending) (w' : World) : Prop :=
  Lo b0 B w w' ∧ Mv U w w' ∧ match res with
  | .ok (c', rs) => e = .returned (.tuple #[]) ∧ ∃ U' v' t', ConSt b0 B U' w' G v' c' ∧ (∀ g, S g = true → U' g = true) ∧ (∀ g, g < w.heap.size → U' g = U g) ∧ IsTk S w' B r t' rs
  | .error f => e = .panicked (fltV f)

set_option maxHeartbeats 1000000 in
set_option maxRecDepth 100000 in
theorem part_V {S : Nat → Bool} {b0 B G : Nat} {r : PRest} {t : Sl} {ts : List Tok} {names : List Bs} {U : Nat → Bool} {v : ConV} {c : ConL} (w : World) (h : IsPk S w B r t ts names) (hc : ConSt b0 B U w G v c) (hSb : ∀ g, S g = true → g < b0) (hSU : ∀ g, S g = true → U g = true) : Calls Tryz.prog 114 #[.pointer (some ⟨B, 0, none⟩), .pointer (some ⟨G, 0, none⟩), .int .i32 86] w (PartR S b0 B r G U w (partP r.en names 86 c ts)) := by
  have C := Lib.hid (list_var w h)
  have HR : Hid (partP r.en names 86 c ts = match listP r.en [91] [93] (placeP r.en names) ts with | .error f => .error f | .ok (l, r) => .ok ({ c with A := l }, r)) := Lib.hid rfl
  have HLEN : Hid (∀ xs rs, listP r.en [91] [93] (placeP r.en names) ts = .ok (xs, rs) → xs.length ≤ 1048577) := Lib.hid (fun xs rs e => by
    have := listP_len r.en _ _ (by decide) (by decide) (placeP_one r.en names) e
    have h1 := h.tk.tok.len
    have h2 := h.tk.tok.big
    omega)
  have hmf : ∀ (fn : Fn) (first cap : Array Value) (w : World), (Instr.makeFunc fn first cap).run Tryz.prog w = .ok (.func fn first cap) w := fun _ _ _ _ => rfl
  have e91 : (⟨#[91]⟩ : ByteArray) = txt [91] := rfl
  have e93 : (⟨#[93]⟩ : ByteArray) = txt [93] := rfl
  have HC := Lib.hid hc
  have HS := Lib.hid hSb
  have HSU := Lib.hid hSU
  unfold After at C
  generalize partP r.en names 86 c ts = RES at HR ⊢
  generalize listP r.en [91] [93] (placeP r.en names) ts = res at C HR HLEN
  clear h hc hSb hSU
  go_enter Tryz.func114, Tryz.ntmps114
  go_wp2_with fail
  refine C.out.mono ?_
  rintro e w1 ⟨m1, h1⟩
  have L1 := Lib.hid (m1.lo (b0 := b0) HC.out.hb)
  have MU := Lib.hid (m1.toS HC.out.uB)
  cases res with
  | error f =>
    subst h1
    refine ⟨rfl, ?_⟩
    unfold PartR
    rw [HR.out]
    exact ⟨L1.out, MU.out, rfl⟩
  | ok p =>
    obtain ⟨xs, rs⟩ := p
    obtain ⟨⟨v1, rfl, hv⟩, t1, h2⟩ := h1
    have H2 := Lib.hid h2
    have HC1 := Lib.hid (HC.out.mv m1)
    have hxs := HLEN.out _ _ rfl
    have HRES : Hid (RES = .ok ({ c with A := xs }, rs)) := Lib.hid HR.out
    have CI := Lib.hid (ints_any v1 xs w1 hv hxs)
    clear h2 m1 hv HLEN C HR
    go_wp2_with fail
    refine CI.out.mono ?_
    rintro e w2 ⟨v2, rfl, hv2, b2⟩
    obtain ⟨A2, c2, rfl⟩ := own_shape hv2
    have hcs := HC1.out.setA (x := ⟨A2, xs.length, c2⟩) (l := xs) (w3 := w2) (Mv.of_below b2) (own_base hv2 HC1.out.hb) (fun g e => .inr (own_ge hv2 g e)) (b2.block G (HC1.out.lt G HC1.out.uG)) (fun g e => b2.block g (own_lt HC1.out.b e).2)
    have HU2 : Hid (∀ g, S g = true → plus U (.slice A2 xs.length c2) g = true) := Lib.hid (fun g hg => plus_of (HSU.out g hg))
    have HAG : Hid (∀ g, g < w.heap.size → plus U (.slice A2 xs.length c2) g = U g) := Lib.hid (fun g hg => plus_low (fun e => by have := own_ge hv2 g e; have := MU.out.size; omega))
    have HCS := Lib.hid hcs
    have L2 : Hid (Lo b0 B w (w2.setCell ⟨G, 1, none⟩ (.slice A2 xs.length c2))) := Lib.hid ((L1.out.trans (lo_below b2 HC1.out.hb)).setCell (p := ⟨G, 1, none⟩) HC.out.ge _)
    have MF : Hid (Mv U w (w2.setCell ⟨G, 1, none⟩ (.slice A2 xs.length c2))) := Lib.hid ((MU.out.trans (Mv.of_below b2)).setCell (p := ⟨G, 1, none⟩) HC.out.uG _)
    have HT2 : Hid (IsTk S (w2.setCell ⟨G, 1, none⟩ (.slice A2 xs.length c2)) B r t1 rs) := Lib.hid ((H2.out.step b2).keep fun g hg => Below.heap_setCell _ _ _ _ (by have := HS.out g hg; have := HC.out.ge; simp; omega))
    have HC2 := HC1.out.mv (Mv.of_below b2)
    have cj := HC2.cells 1 _ rfl
    have fj := HC2.free 1
    generalize xs.length = nx at *
    clear hcs b2 hv2 HC2 CI H2 L1 HC1 HC HSU
    go_wp2_with fail
    go_end0
    unfold PartR
    rw [HRES.out]
    exact ⟨L2.out, MF.out, rfl, _, _, _, HCS.out, HU2.out, HAG.out, HT2.out⟩

set_option maxHeartbeats 1000000 in
set_option maxRecDepth 100000 in
theorem part_W {S : Nat → Bool} {b0 B G : Nat} {r : PRest} {t : Sl} {ts : List Tok} {names : List Bs} {U : Nat → Bool} {v : ConV} {c : ConL} (w : World) (h : IsPk S w B r t ts names) (hc : ConSt b0 B U w G v c) (hSb : ∀ g, S g = true → g < b0) (hSU : ∀ g, S g = true → U g = true) : Calls Tryz.prog 114 #[.pointer (some ⟨B, 0, none⟩), .pointer (some ⟨G, 0, none⟩), .int .i32 87] w (PartR S b0 B r G U w (partP r.en names 87 c ts)) := by
  have C := Lib.hid (list_var w h)
  have HR : Hid (partP r.en names 87 c ts = match listP r.en [91] [93] (placeP r.en names) ts with | .error f => .error f | .ok (l, r) => .ok ({ c with B := l }, r)) := Lib.hid rfl
  have HLEN : Hid (∀ xs rs, listP r.en [91] [93] (placeP r.en names) ts = .ok (xs, rs) → xs.length ≤ 1048577) := Lib.hid (fun xs rs e => by
    have := listP_len r.en _ _ (by decide) (by decide) (placeP_one r.en names) e
    have h1 := h.tk.tok.len
    have h2 := h.tk.tok.big
    omega)
  have hmf : ∀ (fn : Fn) (first cap : Array Value) (w : World), (Instr.makeFunc fn first cap).run Tryz.prog w = .ok (.func fn first cap) w := fun _ _ _ _ => rfl
  have e91 : (⟨#[91]⟩ : ByteArray) = txt [91] := rfl
  have e93 : (⟨#[93]⟩ : ByteArray) = txt [93] := rfl
  have HC := Lib.hid hc
  have HS := Lib.hid hSb
  have HSU := Lib.hid hSU
  unfold After at C
  generalize partP r.en names 87 c ts = RES at HR ⊢
  generalize listP r.en [91] [93] (placeP r.en names) ts = res at C HR HLEN
  clear h hc hSb hSU
  go_enter Tryz.func114, Tryz.ntmps114
  go_wp2_with fail
  refine C.out.mono ?_
  rintro e w1 ⟨m1, h1⟩
  have L1 := Lib.hid (m1.lo (b0 := b0) HC.out.hb)
  have MU := Lib.hid (m1.toS HC.out.uB)
  cases res with
  | error f =>
    subst h1
    refine ⟨rfl, ?_⟩
    unfold PartR
    rw [HR.out]
    exact ⟨L1.out, MU.out, rfl⟩
  | ok p =>
    obtain ⟨xs, rs⟩ := p
    obtain ⟨⟨v1, rfl, hv⟩, t1, h2⟩ := h1
    have H2 := Lib.hid h2
    have HC1 := Lib.hid (HC.out.mv m1)
    have hxs := HLEN.out _ _ rfl
    have HRES : Hid (RES = .ok ({ c with B := xs }, rs)) := Lib.hid HR.out
    have CI := Lib.hid (ints_any v1 xs w1 hv hxs)
    clear h2 m1 hv HLEN C HR
    go_wp2_with fail
    refine CI.out.mono ?_
    rintro e w2 ⟨v2, rfl, hv2, b2⟩
    obtain ⟨A2, c2, rfl⟩ := own_shape hv2
    have hcs := HC1.out.setB (x := ⟨A2, xs.length, c2⟩) (l := xs) (w3 := w2) (Mv.of_below b2) (own_base hv2 HC1.out.hb) (fun g e => .inr (own_ge hv2 g e)) (b2.block G (HC1.out.lt G HC1.out.uG)) (fun g e => b2.block g (own_lt HC1.out.a e).2)
    have HU2 : Hid (∀ g, S g = true → plus U (.slice A2 xs.length c2) g = true) := Lib.hid (fun g hg => plus_of (HSU.out g hg))
    have HAG : Hid (∀ g, g < w.heap.size → plus U (.slice A2 xs.length c2) g = U g) := Lib.hid (fun g hg => plus_low (fun e => by have := own_ge hv2 g e; have := MU.out.size; omega))
    have HCS := Lib.hid hcs
    have L2 : Hid (Lo b0 B w (w2.setCell ⟨G, 2, none⟩ (.slice A2 xs.length c2))) := Lib.hid ((L1.out.trans (lo_below b2 HC1.out.hb)).setCell (p := ⟨G, 2, none⟩) HC.out.ge _)
    have MF : Hid (Mv U w (w2.setCell ⟨G, 2, none⟩ (.slice A2 xs.length c2))) := Lib.hid ((MU.out.trans (Mv.of_below b2)).setCell (p := ⟨G, 2, none⟩) HC.out.uG _)
    have HT2 : Hid (IsTk S (w2.setCell ⟨G, 2, none⟩ (.slice A2 xs.length c2)) B r t1 rs) := Lib.hid ((H2.out.step b2).keep fun g hg => Below.heap_setCell _ _ _ _ (by have := HS.out g hg; have := HC.out.ge; simp; omega))
    have HC2 := HC1.out.mv (Mv.of_below b2)
    have cj := HC2.cells 2 _ rfl
    have fj := HC2.free 2
    generalize xs.length = nx at *
    clear hcs b2 hv2 HC2 CI H2 L1 HC1 HC HSU
    go_wp2_with fail
    go_end0
    unfold PartR
    rw [HRES.out]
    exact ⟨L2.out, MF.out, rfl, _, _, _, HCS.out, HU2.out, HAG.out, HT2.out⟩

set_option maxHeartbeats 1000000 in
set_option maxRecDepth 100000 in
theorem part_c {S : Nat → Bool} {b0 B G : Nat} {r : PRest} {t : Sl} {ts : List Tok} {names : List Bs} {U : Nat → Bool} {v : ConV} {c : ConL} (w : World) (h : IsPk S w B r t ts names) (hc : ConSt b0 B U w G v c) (hSb : ∀ g, S g = true → g < b0) (hSU : ∀ g, S g = true → U g = true) : Calls Tryz.prog 114 #[.pointer (some ⟨B, 0, none⟩), .pointer (some ⟨G, 0, none⟩), .int .i32 99] w (PartR S b0 B r G U w (partP r.en names 99 c ts)) := by
  have C := Lib.hid (list_num [91] [93] (by decide) (by decide) w h.tk)
  have HR : Hid (partP r.en names 99 c ts = match listP r.en [91] [93] (numP r.en) ts with | .error f => .error f | .ok (l, r) => .ok ({ c with C := l }, r)) := Lib.hid rfl
  have HLEN : Hid (∀ xs rs, listP r.en [91] [93] (numP r.en) ts = .ok (xs, rs) → xs.length ≤ 1048577) := Lib.hid (fun xs rs e => by
    have := listP_len r.en _ _ (by decide) (by decide) (numP_one r.en) e
    have h1 := h.tk.tok.len
    have h2 := h.tk.tok.big
    omega)
  have hmf : ∀ (fn : Fn) (first cap : Array Value) (w : World), (Instr.makeFunc fn first cap).run Tryz.prog w = .ok (.func fn first cap) w := fun _ _ _ _ => rfl
  have e91 : (⟨#[91]⟩ : ByteArray) = txt [91] := rfl
  have e93 : (⟨#[93]⟩ : ByteArray) = txt [93] := rfl
  have HC := Lib.hid hc
  have HS := Lib.hid hSb
  have HSU := Lib.hid hSU
  unfold After at C
  generalize partP r.en names 99 c ts = RES at HR ⊢
  generalize listP r.en [91] [93] (numP r.en) ts = res at C HR HLEN
  clear h hc hSb hSU
  go_enter Tryz.func114, Tryz.ntmps114
  go_wp2_with fail
  refine C.out.mono ?_
  rintro e w1 ⟨m1, h1⟩
  have L1 := Lib.hid (m1.lo (b0 := b0) HC.out.hb)
  have MU := Lib.hid (m1.toS HC.out.uB)
  cases res with
  | error f =>
    subst h1
    refine ⟨rfl, ?_⟩
    unfold PartR
    rw [HR.out]
    exact ⟨L1.out, MU.out, rfl⟩
  | ok p =>
    obtain ⟨xs, rs⟩ := p
    obtain ⟨⟨v1, rfl, hv⟩, t1, h2⟩ := h1
    have H2 := Lib.hid h2
    have HC1 := Lib.hid (HC.out.mv m1)
    have hxs := HLEN.out _ _ rfl
    have HRES : Hid (RES = .ok ({ c with C := xs }, rs)) := Lib.hid HR.out
    have CI := Lib.hid (ints_any v1 xs w1 hv hxs)
    clear h2 m1 hv HLEN C HR
    go_wp2_with fail
    refine CI.out.mono ?_
    rintro e w2 ⟨v2, rfl, hv2, b2⟩
    obtain ⟨A2, c2, rfl, hi2⟩ := ints_hide (U := U) hv2 HC1.out.lt hxs
    have hcs := (HC1.out.mv (Mv.of_below b2)).setC (x := ⟨A2, xs.length, c2⟩) hi2
    have HU2 := HSU
    have HCS := Lib.hid hcs
    have L2 : Hid (Lo b0 B w (w2.setCell ⟨G, 3, none⟩ (.slice A2 xs.length c2))) := Lib.hid ((L1.out.trans (lo_below b2 HC1.out.hb)).setCell (p := ⟨G, 3, none⟩) HC.out.ge _)
    have MF : Hid (Mv U w (w2.setCell ⟨G, 3, none⟩ (.slice A2 xs.length c2))) := Lib.hid ((MU.out.trans (Mv.of_below b2)).setCell (p := ⟨G, 3, none⟩) HC.out.uG _)
    have HT2 : Hid (IsTk S (w2.setCell ⟨G, 3, none⟩ (.slice A2 xs.length c2)) B r t1 rs) := Lib.hid ((H2.out.step b2).keep fun g hg => Below.heap_setCell _ _ _ _ (by have := HS.out g hg; have := HC.out.ge; simp; omega))
    have HC2 := HC1.out.mv (Mv.of_below b2)
    have cj := HC2.cells 3 _ rfl
    have fj := HC2.free 3
    generalize xs.length = nx at *
    clear hcs b2 hv2 HC2 CI H2 L1 HC1 HC HSU
    go_wp2_with fail
    go_end0
    unfold PartR
    rw [HRES.out]
    exact ⟨L2.out, MF.out, rfl, _, _, _, HCS.out, HU2.out, fun _ _ => rfl, HT2.out⟩

set_option maxHeartbeats 1000000 in
set_option maxRecDepth 100000 in
theorem part_d {S : Nat → Bool} {b0 B G : Nat} {r : PRest} {t : Sl} {ts : List Tok} {names : List Bs} {U : Nat → Bool} {v : ConV} {c : ConL} (w : World) (h : IsPk S w B r t ts names) (hc : ConSt b0 B U w G v c) (hSb : ∀ g, S g = true → g < b0) (hSU : ∀ g, S g = true → U g = true) : Calls Tryz.prog 114 #[.pointer (some ⟨B, 0, none⟩), .pointer (some ⟨G, 0, none⟩), .int .i32 100] w (PartR S b0 B r G U w (partP r.en names 100 c ts)) := by
  have C := Lib.hid (list_num [91] [93] (by decide) (by decide) w h.tk)
  have HR : Hid (partP r.en names 100 c ts = match listP r.en [91] [93] (numP r.en) ts with | .error f => .error f | .ok (l, r) => .ok ({ c with D := l }, r)) := Lib.hid rfl
  have HLEN : Hid (∀ xs rs, listP r.en [91] [93] (numP r.en) ts = .ok (xs, rs) → xs.length ≤ 1048577) := Lib.hid (fun xs rs e => by
    have := listP_len r.en _ _ (by decide) (by decide) (numP_one r.en) e
    have h1 := h.tk.tok.len
    have h2 := h.tk.tok.big
    omega)
  have hmf : ∀ (fn : Fn) (first cap : Array Value) (w : World), (Instr.makeFunc fn first cap).run Tryz.prog w = .ok (.func fn first cap) w := fun _ _ _ _ => rfl
  have e91 : (⟨#[91]⟩ : ByteArray) = txt [91] := rfl
  have e93 : (⟨#[93]⟩ : ByteArray) = txt [93] := rfl
  have HC := Lib.hid hc
  have HS := Lib.hid hSb
  have HSU := Lib.hid hSU
  unfold After at C
  generalize partP r.en names 100 c ts = RES at HR ⊢
  generalize listP r.en [91] [93] (numP r.en) ts = res at C HR HLEN
  clear h hc hSb hSU
  go_enter Tryz.func114, Tryz.ntmps114
  go_wp2_with fail
  refine C.out.mono ?_
  rintro e w1 ⟨m1, h1⟩
  have L1 := Lib.hid (m1.lo (b0 := b0) HC.out.hb)
  have MU := Lib.hid (m1.toS HC.out.uB)
  cases res with
  | error f =>
    subst h1
    refine ⟨rfl, ?_⟩
    unfold PartR
    rw [HR.out]
    exact ⟨L1.out, MU.out, rfl⟩
  | ok p =>
    obtain ⟨xs, rs⟩ := p
    obtain ⟨⟨v1, rfl, hv⟩, t1, h2⟩ := h1
    have H2 := Lib.hid h2
    have HC1 := Lib.hid (HC.out.mv m1)
    have hxs := HLEN.out _ _ rfl
    have HRES : Hid (RES = .ok ({ c with D := xs }, rs)) := Lib.hid HR.out
    have CI := Lib.hid (ints_any v1 xs w1 hv hxs)
    clear h2 m1 hv HLEN C HR
    go_wp2_with fail
    refine CI.out.mono ?_
    rintro e w2 ⟨v2, rfl, hv2, b2⟩
    obtain ⟨A2, c2, rfl, hi2⟩ := ints_hide (U := U) hv2 HC1.out.lt hxs
    have hcs := (HC1.out.mv (Mv.of_below b2)).setD (x := ⟨A2, xs.length, c2⟩) hi2
    have HU2 := HSU
    have HCS := Lib.hid hcs
    have L2 : Hid (Lo b0 B w (w2.setCell ⟨G, 4, none⟩ (.slice A2 xs.length c2))) := Lib.hid ((L1.out.trans (lo_below b2 HC1.out.hb)).setCell (p := ⟨G, 4, none⟩) HC.out.ge _)
    have MF : Hid (Mv U w (w2.setCell ⟨G, 4, none⟩ (.slice A2 xs.length c2))) := Lib.hid ((MU.out.trans (Mv.of_below b2)).setCell (p := ⟨G, 4, none⟩) HC.out.uG _)
    have HT2 : Hid (IsTk S (w2.setCell ⟨G, 4, none⟩ (.slice A2 xs.length c2)) B r t1 rs) := Lib.hid ((H2.out.step b2).keep fun g hg => Below.heap_setCell _ _ _ _ (by have := HS.out g hg; have := HC.out.ge; simp; omega))
    have HC2 := HC1.out.mv (Mv.of_below b2)
    have cj := HC2.cells 4 _ rfl
    have fj := HC2.free 4
    generalize xs.length = nx at *
    clear hcs b2 hv2 HC2 CI H2 L1 HC1 HC HSU
    go_wp2_with fail
    go_end0
    unfold PartR
    rw [HRES.out]
    exact ⟨L2.out, MF.out, rfl, _, _, _, HCS.out, HU2.out, fun _ _ => rfl, HT2.out⟩

set_option maxHeartbeats 1000000 in
set_option maxRecDepth 100000 in
theorem part_e {S : Nat → Bool} {b0 B G : Nat} {r : PRest} {t : Sl} {ts : List Tok} {names : List Bs} {U : Nat → Bool} {v : ConV} {c : ConL} (w : World) (h : IsPk S w B r t ts names) (hc : ConSt b0 B U w G v c) (hSb : ∀ g, S g = true → g < b0) (hSU : ∀ g, S g = true → U g = true) : Calls Tryz.prog 114 #[.pointer (some ⟨B, 0, none⟩), .pointer (some ⟨G, 0, none⟩), .int .i32 101] w (PartR S b0 B r G U w (partP r.en names 101 c ts)) := by
  have C := Lib.hid (list_num [91] [93] (by decide) (by decide) w h.tk)
  have HR : Hid (partP r.en names 101 c ts = match listP r.en [91] [93] (numP r.en) ts with | .error f => .error f | .ok (l, r) => .ok ({ c with E := l }, r)) := Lib.hid rfl
  have HLEN : Hid (∀ xs rs, listP r.en [91] [93] (numP r.en) ts = .ok (xs, rs) → xs.length ≤ 1048577) := Lib.hid (fun xs rs e => by
    have := listP_len r.en _ _ (by decide) (by decide) (numP_one r.en) e
    have h1 := h.tk.tok.len
    have h2 := h.tk.tok.big
    omega)
  have hmf : ∀ (fn : Fn) (first cap : Array Value) (w : World), (Instr.makeFunc fn first cap).run Tryz.prog w = .ok (.func fn first cap) w := fun _ _ _ _ => rfl
  have e91 : (⟨#[91]⟩ : ByteArray) = txt [91] := rfl
  have e93 : (⟨#[93]⟩ : ByteArray) = txt [93] := rfl
  have HC := Lib.hid hc
  have HS := Lib.hid hSb
  have HSU := Lib.hid hSU
  unfold After at C
  generalize partP r.en names 101 c ts = RES at HR ⊢
  generalize listP r.en [91] [93] (numP r.en) ts = res at C HR HLEN
  clear h hc hSb hSU
  go_enter Tryz.func114, Tryz.ntmps114
  go_wp2_with fail
  refine C.out.mono ?_
  rintro e w1 ⟨m1, h1⟩
  have L1 := Lib.hid (m1.lo (b0 := b0) HC.out.hb)
  have MU := Lib.hid (m1.toS HC.out.uB)
  cases res with
  | error f =>
    subst h1
    refine ⟨rfl, ?_⟩
    unfold PartR
    rw [HR.out]
    exact ⟨L1.out, MU.out, rfl⟩
  | ok p =>
    obtain ⟨xs, rs⟩ := p
    obtain ⟨⟨v1, rfl, hv⟩, t1, h2⟩ := h1
    have H2 := Lib.hid h2
    have HC1 := Lib.hid (HC.out.mv m1)
    have hxs := HLEN.out _ _ rfl
    have HRES : Hid (RES = .ok ({ c with E := xs }, rs)) := Lib.hid HR.out
    have CI := Lib.hid (ints_any v1 xs w1 hv hxs)
    clear h2 m1 hv HLEN C HR
    go_wp2_with fail
    refine CI.out.mono ?_
    rintro e w2 ⟨v2, rfl, hv2, b2⟩
    obtain ⟨A2, c2, rfl, hi2⟩ := ints_hide (U := U) hv2 HC1.out.lt hxs
    have hcs := (HC1.out.mv (Mv.of_below b2)).setE (x := ⟨A2, xs.length, c2⟩) hi2
    have HU2 := HSU
    have HCS := Lib.hid hcs
    have L2 : Hid (Lo b0 B w (w2.setCell ⟨G, 5, none⟩ (.slice A2 xs.length c2))) := Lib.hid ((L1.out.trans (lo_below b2 HC1.out.hb)).setCell (p := ⟨G, 5, none⟩) HC.out.ge _)
    have MF : Hid (Mv U w (w2.setCell ⟨G, 5, none⟩ (.slice A2 xs.length c2))) := Lib.hid ((MU.out.trans (Mv.of_below b2)).setCell (p := ⟨G, 5, none⟩) HC.out.uG _)
    have HT2 : Hid (IsTk S (w2.setCell ⟨G, 5, none⟩ (.slice A2 xs.length c2)) B r t1 rs) := Lib.hid ((H2.out.step b2).keep fun g hg => Below.heap_setCell _ _ _ _ (by have := HS.out g hg; have := HC.out.ge; simp; omega))
    have HC2 := HC1.out.mv (Mv.of_below b2)
    have cj := HC2.cells 5 _ rfl
    have fj := HC2.free 5
    generalize xs.length = nx at *
    clear hcs b2 hv2 HC2 CI H2 L1 HC1 HC HSU
    go_wp2_with fail
    go_end0
    unfold PartR
    rw [HRES.out]
    exact ⟨L2.out, MF.out, rfl, _, _, _, HCS.out, HU2.out, fun _ _ => rfl, HT2.out⟩

set_option maxHeartbeats 1000000 in
set_option maxRecDepth 100000 in
theorem part_r {S : Nat → Bool} {b0 B G : Nat} {r : PRest} {t : Sl} {ts : List Tok} {names : List Bs} {U : Nat → Bool} {v : ConV} {c : ConL} (w : World) (h : IsPk S w B r t ts names) (hc : ConSt b0 B U w G v c) (hSb : ∀ g, S g = true → g < b0) (hSU : ∀ g, S g = true → U g = true) : Calls Tryz.prog 114 #[.pointer (some ⟨B, 0, none⟩), .pointer (some ⟨G, 0, none⟩), .int .i32 114] w (PartR S b0 B r G U w (partP r.en names 114 c ts)) := by
  have C := Lib.hid (list_row w h.tk)
  have HR : Hid (partP r.en names 114 c ts = match listP r.en [91] [93] (rowP r.en) ts with | .error f => .error f | .ok (l, r) => .ok ({ c with rows := l }, r)) := Lib.hid rfl
  have HLEN : Hid (∀ xs rs, listP r.en [91] [93] (rowP r.en) ts = .ok (xs, rs) → xs.length ≤ 1048577) := Lib.hid (fun xs rs e => by
    have := listP_len r.en _ _ (by decide) (by decide) (rowP_one r.en) e
    have h1 := h.tk.tok.len
    have h2 := h.tk.tok.big
    omega)
  have HALL : Hid (∀ xs rs, listP r.en [91] [93] (rowP r.en) ts = .ok (xs, rs) → ∀ l ∈ xs, l.length ≤ 1048577) := Lib.hid (fun xs rs e => by
    have h1 := h.tk.tok.len
    have h2 := h.tk.tok.big
    exact listP_all r.en [91] [93] (rowP_eats r.en) (fun l => l.length ≤ 1048577) 1048576 (fun ts x rs hN e => by
      have := listP_len r.en _ _ (by decide) (by decide) (numP_one r.en) e
      omega) (by omega) e)
  have hmf : ∀ (fn : Fn) (first cap : Array Value) (w : World), (Instr.makeFunc fn first cap).run Tryz.prog w = .ok (.func fn first cap) w := fun _ _ _ _ => rfl
  have e91 : (⟨#[91]⟩ : ByteArray) = txt [91] := rfl
  have e93 : (⟨#[93]⟩ : ByteArray) = txt [93] := rfl
  have HC := Lib.hid hc
  have HS := Lib.hid hSb
  have HSU := Lib.hid hSU
  unfold After at C
  generalize partP r.en names 114 c ts = RES at HR ⊢
  generalize listP r.en [91] [93] (rowP r.en) ts = res at C HR HLEN HALL
  clear h hc hSb hSU
  go_enter Tryz.func114, Tryz.ntmps114
  go_wp2_with fail
  refine C.out.mono ?_
  rintro e w1 ⟨m1, h1⟩
  have L1 := Lib.hid (m1.lo (b0 := b0) HC.out.hb)
  have MU := Lib.hid (m1.toS HC.out.uB)
  cases res with
  | error f =>
    subst h1
    refine ⟨rfl, ?_⟩
    unfold PartR
    rw [HR.out]
    exact ⟨L1.out, MU.out, rfl⟩
  | ok p =>
    obtain ⟨xs, rs⟩ := p
    obtain ⟨⟨v1, rfl, hv⟩, t1, h2⟩ := h1
    have H2 := Lib.hid h2
    have HC1 := Lib.hid (HC.out.mv m1)
    have hxs := HLEN.out _ _ rfl
    have HRES : Hid (RES = .ok ({ c with rows := xs }, rs)) := Lib.hid HR.out
    have HA := Lib.hid (HALL.out _ _ rfl)
    have CI := Lib.hid (rows_any v1 xs w1 hv hxs)
    have hs1 := Lib.hid m1.size
    clear h2 m1 hv HLEN HALL C HR
    go_wp2_with fail
    refine CI.out.mono ?_
    rintro e w2 ⟨v2, rfl, hv2, b2⟩
    obtain ⟨A2, c2, rfl, hi2⟩ := rows_hide (U := U) hv2 HC.out.lt hs1.out hxs HA.out
    have hcs := (HC1.out.mv (Mv.of_below b2)).setR (x := ⟨A2, xs.length, c2⟩) hi2
    have HU2 := HSU
    have HCS := Lib.hid hcs
    have L2 : Hid (Lo b0 B w (w2.setCell ⟨G, 7, none⟩ (.slice A2 xs.length c2))) := Lib.hid ((L1.out.trans (lo_below b2 HC1.out.hb)).setCell (p := ⟨G, 7, none⟩) HC.out.ge _)
    have MF : Hid (Mv U w (w2.setCell ⟨G, 7, none⟩ (.slice A2 xs.length c2))) := Lib.hid ((MU.out.trans (Mv.of_below b2)).setCell (p := ⟨G, 7, none⟩) HC.out.uG _)
    have HT2 : Hid (IsTk S (w2.setCell ⟨G, 7, none⟩ (.slice A2 xs.length c2)) B r t1 rs) := Lib.hid ((H2.out.step b2).keep fun g hg => Below.heap_setCell _ _ _ _ (by have := HS.out g hg; have := HC.out.ge; simp; omega))
    have HC2 := HC1.out.mv (Mv.of_below b2)
    have cj := HC2.cells 7 _ rfl
    have fj := HC2.free 7
    generalize xs.length = nx at *
    clear hcs b2 hv2 HC2 CI H2 L1 HC1 HC HSU
    go_wp2_with fail
    go_end0
    unfold PartR
    rw [HRES.out]
    exact ⟨L2.out, MF.out, rfl, _, _, _, HCS.out, HU2.out, fun _ _ => rfl, HT2.out⟩

set_option maxHeartbeats 1000000 in
set_option maxRecDepth 100000 in
theorem part_k {S : Nat → Bool} {b0 B G : Nat} {r : PRest} {t : Sl} {ts : List Tok} {names : List Bs} {U : Nat → Bool} {v : ConV} {c : ConL} (w : World) (h : IsPk S w B r t ts names) (hc : ConSt b0 B U w G v c) (hSb : ∀ g, S g = true → g < b0) (hSU : ∀ g, S g = true → U g = true) : Calls Tryz.prog 114 #[.pointer (some ⟨B, 0, none⟩), .pointer (some ⟨G, 0, none⟩), .int .i32 107] w (PartR S b0 B r G U w (partP r.en names 107 c ts)) := by
  have C := Lib.hid (take_any 2 (by decide) w h.tk)
  have HR : Hid (partP r.en names 107 c ts = match takeP r.en 2 ts with | .error f => .error f | .ok (t, r) => .ok ({ c with K := t.num }, r)) := Lib.hid (by
    show (match numP r.en ts with | .error f => .error f | .ok (x, r) => .ok ({ c with K := x }, r) : PR ConL) = _
    unfold numP
    cases takeP r.en 2 ts with
    | error f => rfl
    | ok p => rfl)
  have HC := Lib.hid hc
  have HS := Lib.hid hSb
  have HSU := Lib.hid hSU
  unfold After at C
  generalize partP r.en names 107 c ts = RES at HR ⊢
  generalize takeP r.en 2 ts = res at C HR
  clear h hc hSb hSU
  go_enter Tryz.func114, Tryz.ntmps114
  go_wp2_with fail
  refine C.out.mono ?_
  rintro e w1 ⟨m1, h1⟩
  have L1 := Lib.hid (m1.lo (b0 := b0) HC.out.hb)
  have MU := Lib.hid (m1.toS HC.out.uB)
  cases res with
  | error f =>
    subst h1
    refine ⟨rfl, ?_⟩
    unfold PartR
    rw [HR.out]
    exact ⟨L1.out, MU.out, rfl⟩
  | ok p =>
    obtain ⟨x, rs⟩ := p
    obtain ⟨⟨v1, rfl, rfl⟩, t1, h2⟩ := h1
    have HC1 := HC.out.mv m1
    have HRES : Hid (RES = .ok ({ c with K := x.num }, rs)) := Lib.hid HR.out
    have HCS := Lib.hid (HC1.setK x.num)
    have L2 : Hid (Lo b0 B w (w1.setCell ⟨G, 6, none⟩ (.int .i64 x.num))) := Lib.hid (L1.out.setCell (p := ⟨G, 6, none⟩) HC.out.ge _)
    have MF : Hid (Mv U w (w1.setCell ⟨G, 6, none⟩ (.int .i64 x.num))) := Lib.hid (MU.out.setCell (p := ⟨G, 6, none⟩) HC.out.uG _)
    have HT2 : Hid (IsTk S (w1.setCell ⟨G, 6, none⟩ (.int .i64 x.num)) B r t1 rs) := Lib.hid (h2.keep fun g hg => Below.heap_setCell _ _ _ _ (by have := HS.out g hg; have := HC.out.ge; simp; omega))
    have cj := HC1.cells 6 _ rfl
    have fj := HC1.free 6
    have hf := field2 (x.kind : Nat) x.num (x.at_ : Nat) (txt x.text)
    unfold ptokV
    clear m1 h2 HC1 C HR L1 HC
    go_wp2_with fail
    go_end0
    unfold PartR
    rw [HRES.out]
    exact ⟨L2.out, MF.out, rfl, _, _, _, HCS.out, HSU.out, fun _ _ => rfl, HT2.out⟩
end Go.Proofs.YtgemgmdnnjaghaaGreatDoor

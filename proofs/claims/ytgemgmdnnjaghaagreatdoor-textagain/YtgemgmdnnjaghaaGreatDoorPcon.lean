/- Contract: goal. -/
import Derived.Test.YtgemgmdnnjaghaaGreatDoorPvar
namespace Go.Proofs.YtgemgmdnnjaghaaGreatDoor
open Go.RowKit Go.Sort Go.Maps

/-- The goal and its variable are written. -/
theorem IsPx.mvr {S : Nat → Bool} {w w' : World} {B : Nat} {r : PRest} {t t' : Sl} {ts ts' : List Tok} {pn nn : List Bs} {dd : List (List Int)} {cc : List ConL} (h : IsPx S w B r t ts pn nn dd cc) {g o : Int} (hm : Mv (one B) w w') (h' : IsTk S w' B { r with goal := g, obj := o } t' ts') : IsPx S w' B { r with goal := g, obj := o } t' ts' pn nn dd cc := by
  have hmS := hm.toS h.tk.hid
  have hk : ∀ g, g ≠ B → g < w.heap.size → w'.heap[g]? = w.heap[g]? := fun g hg hl => hm.block g hl (by simpa [one] using hg)
  refine ⟨h', ?_, own_same h.n fun g hg hl => hk g ?_ hl, h.d.keep hmS (fun _ _ => rfl) fun g hg hl => hk g ?_ hl, h.c.keep hmS (fun _ _ => rfl) fun g hg hl => hk g ?_ hl, h.nS, h.dS, h.cS, h.ent.below (hide_step hmS fun _ _ => rfl), h.tab.below (hide_step hmS fun _ _ => rfl), fun p hp => ?_⟩
  · obtain ⟨M, e, hP, hne, hS⟩ := h.plc
    exact ⟨M, e, hP.keep (hk M hne hP.lt), hne, hS⟩
  · obtain ⟨cur, hc⟩ := h.nT hg
    exact ty_ne hc h.tk.box (by decide)
  · obtain ⟨cur, hc⟩ := h.dT hg
    exact ty_ne hc h.tk.box (by decide)
  · obtain ⟨cur, hc⟩ := h.cT hg
    exact ty_ne hc h.tk.box (by decide)
  · obtain ⟨h1, h2, h3⟩ := h.kept p hp
    exact ⟨(hk p.1 (ty_ne h1 h.tk.box (fun e => h3 (by rw [e]; simp))) (lt_of_block h1)).trans h1, h2, h3⟩
theorem box_go {w : World} {B : Nat} {r : PRest} {t : Sl} {g o : Int} (h : w.heap[B]? = some (.cells (pcells t r) 84 (0, 0))) : ((w.setCell ⟨B, 6, none⟩ (.int .i64 g)).setCell ⟨B, 7, none⟩ (.int .i64 o)).heap[B]? = some (.cells (pcells t { r with goal := g, obj := o }) 84 (0, 0)) := by
  simp [World.setCell, Array.getElem?_modify, h, pcells]
theorem IsTk.goes {S : Nat → Bool} {w w' : World} {B : Nat} {r : PRest} {t : Sl} {ts : List Tok} (h : IsTk S w B r t ts) {g o : Int} (hm : Mv (one B) w w') (hbox : w'.heap[B]? = some (.cells (pcells t { r with goal := g, obj := o }) 84 (0, 0))) : IsTk S w' B { r with goal := g, obj := o } t ts := h.moved hm hbox h.tok h.own

/-- The goal that a word names. -/
def goalW (en : Nat) (m : ModL) (t : Tok) (r : List Tok) : PR ModL :=
  if t.text = [115, 97, 116, 105, 115, 102, 121] then .ok ({ m with goal := 0 }, r)
  else if t.text = [109, 105, 110, 105, 109, 105, 122, 101] then (match placeP en m.names r with | .error f => .error f | .ok (x, r2) => .ok ({ m with goal := 1, obj := x }, r2))
  else if t.text = [109, 97, 120, 105, 109, 105, 122, 101] then (match placeP en m.names r with | .error f => .error f | .ok (x, r2) => .ok ({ m with goal := 2, obj := x }, r2))
  else .error (t.at_, 6)

set_option maxHeartbeats 2000000 in
set_option maxRecDepth 100000 in
theorem goal_any {S : Nat → Bool} {B : Nat} {r : PRest} {t : Sl} {ts : List Tok} {m : ModL} (w : World) (h : IsP S w B r t ts m) : Calls Tryz.prog 72 #[.pointer (some ⟨B, 0, none⟩)] w (Turn S B r w (goalP r.en m ts)) := by
  have hB : B < w.heap.size := h.px.tk.lt B h.px.tk.hid
  have HSB := Lib.hid h.px.tk.hid
  have HP := Lib.hid h
  have HG : Hid (goalP r.en m ts = match takeP r.en 1 ts with
    | .error f => .error f
    | .ok (t, r0) =>
      match goalW r.en m t r0 with
      | .error f => .error f
      | .ok (m2, r2) =>
        match wantP r.en [59] r2 with
        | .error f => .error f
        | .ok r3 => .ok (m2, r3)) := Lib.hid rfl
  have C1 := Lib.hid (take_any 1 (by decide) w h.px.tk)
  unfold After at C1
  generalize goalP r.en m ts = RES at HG ⊢
  generalize takeP r.en 1 ts = res at HG C1
  clear h
  go_enter Tryz.func72, Tryz.ntmps72
  go_wp2_with fail
  refine C1.out.mono ?_
  rintro e w1 ⟨m1, h1⟩
  cases res with
  | error f =>
    subst h1
    refine ⟨rfl, ?_⟩
    unfold Turn
    rw [HG.out]
    exact ⟨m1.toS HSB.out, rfl⟩
  | ok p =>
    obtain ⟨x, r0⟩ := p
    obtain ⟨⟨v, rfl, rfl⟩, t1, h2⟩ := h1
    have HX1 := Lib.hid (HP.out.px.mv m1 h2)
    have M1 := Lib.hid m1
    have HG2 : Hid (RES = match goalW r.en m x r0 with
      | .error f => .error f
      | .ok (m2, r2) =>
        match wantP r.en [59] r2 with
        | .error f => .error f
        | .ok r3 => .ok (m2, r3)) := Lib.hid HG.out
    have b2 := below1 w1 (tokObj x)
    have T4 := TBox.new 118 w1 (.int .i64 (x.kind : Nat)) (.string (txt x.text)) (.int .i64 x.num) (.int .i64 (x.at_ : Nat))
    obtain ⟨y0, y1, y2, y3⟩ := T4.cells
    have HX2 := Lib.hid (HX1.out.mv (Mv.of_below b2) (HX1.out.tk.step b2))
    have M2 : Hid (Mv (one B) w (w1.alloc (tokObj x))) := Lib.hid (M1.out.alloc _)
    have ht := txt_list x.text
    have ht1 : (⟨#[115, 97, 116, 105, 115, 102, 121]⟩ : ByteArray).toList = [115, 97, 116, 105, 115, 102, 121] := txt_list [115, 97, 116, 105, 115, 102, 121]
    have ht2 : (⟨#[109, 105, 110, 105, 109, 105, 122, 101]⟩ : ByteArray).toList = [109, 105, 110, 105, 109, 105, 122, 101] := txt_list [109, 105, 110, 105, 109, 105, 122, 101]
    have ht3 : (⟨#[109, 97, 120, 105, 109, 105, 122, 101]⟩ : ByteArray).toList = [109, 97, 120, 105, 109, 105, 122, 101] := txt_list [109, 97, 120, 105, 109, 105, 122, 101]
    have e59 : (⟨#[59]⟩ : ByteArray) = txt [59] := rfl
    have f6 := HX2.out.tk.free 6
    have f7 := HX2.out.tk.free 7
    obtain ⟨-, -, -, -, -, -, c6, c7⟩ := HX2.out.tk.cells
    have CT := Lib.hid (throw_any x 6)
    unfold ptokV at CT ⊢
    clear m1 h2 HG C1 HX1 M1 T4 b2
    -- what is left, behind the word: the last sign
    have FIN : Hid (∀ (W : World) (g o : Int) (t2 : Sl) (r2 : List Tok), r.goal = m.goal → IsPx S W B { r with goal := g, obj := o } t2 r2 m.names m.names m.doms m.cons → IsP S W B { r with goal := g, obj := o } t2 r2 { m with goal := g, obj := o }) := Lib.hid (fun W g o t2 r2 _ hx => ⟨hx, rfl, rfl, HP.out.len, HP.out.n256, HP.out.c1024, HP.out.brief, HP.out.short⟩)
    by_cases k1 : x.text = [115, 97, 116, 105, 115, 102, 121]
    · have q1 : (x.text == [115, 97, 116, 105, 115, 102, 121]) = true := by simpa using k1
      have HW : Hid (RES = match wantP r.en [59] r0 with
        | .error f => .error f
        | .ok r3 => .ok ({ m with goal := 0 }, r3)) := Lib.hid (by rw [HG2.out]; unfold goalW; rw [if_pos k1])
      have M3 : Hid (Mv (one B) w ((w1.alloc (tokObj x)).setCell ⟨B, 6, none⟩ (.int .i64 0))) := Lib.hid (M2.out.setCell (p := ⟨B, 6, none⟩) (one_self B) _)
      have hm23 : Mv (one B) (w1.alloc (tokObj x)) ((w1.alloc (tokObj x)).setCell ⟨B, 6, none⟩ (.int .i64 0)) := (Mv.refl _ _).setCell (p := ⟨B, 6, none⟩) (one_self B) _
      have HX3 := Lib.hid (HX2.out.mvr (g := 0) (o := r.obj) hm23 (HX2.out.tk.goes hm23 (box_g HX2.out.tk.box)))
      have C3 := Lib.hid (want_any [59] (by decide) _ HX3.out.tk)
      simp only at C3
      generalize wantP r.en [59] r0 = res3 at HW C3
      clear k1 HG2 hm23 HX2 M2
      go_wp2_with fail
      refine C3.out.mono ?_
      rintro e w4 ⟨m4, h4⟩
      have M4 := Lib.hid (M3.out.trans m4)
      cases res3 with
      | error f =>
        subst h4
        refine ⟨rfl, ?_⟩
        unfold Turn
        rw [HW.out]
        exact ⟨M4.out.toS HSB.out, rfl⟩
      | ok r3 =>
        obtain ⟨rfl, t4, h5⟩ := h4
        have HX4 := Lib.hid (HX3.out.mv m4 h5)
        clear m4 h5 C3 HX3 M3
        go_wp2_with fail
        go_end0
        unfold Turn
        rw [HW.out]
        have hfin := FIN.out _ 0 r.obj _ _ HP.out.goal HX4.out
        rw [show ({ m with goal := 0 } : ModL) = { m with goal := 0, obj := r.obj } by rw [HP.out.obj]]
        refine ⟨M4.out.toS HSB.out, rfl, S, _, _, fun _ _ => rfl, ?_, hfin⟩
        exact ⟨rfl, rfl⟩
    · have q1 : (x.text == [115, 97, 116, 105, 115, 102, 121]) = false := by simpa using k1
      by_cases k2 : x.text = [109, 105, 110, 105, 109, 105, 122, 101]
      · have q2 : (x.text == [109, 105, 110, 105, 109, 105, 122, 101]) = true := by simpa using k2
        have CP := Lib.hid (pplace_any _ HX2.out.pk)
        have HW0 : Hid (RES = match (match placeP r.en m.names r0 with | .error f => .error f | .ok (y, r2) => .ok ({ m with goal := 1, obj := y }, r2) : PR ModL) with
          | .error f => .error f
          | .ok (m2, r2) =>
            match wantP r.en [59] r2 with
            | .error f => .error f
            | .ok r3 => .ok (m2, r3)) := Lib.hid (by rw [HG2.out]; unfold goalW; rw [if_neg k1, if_pos k2])
        unfold After at CP
        generalize placeP r.en m.names r0 = resp at HW0 CP
        clear k1 k2 HG2 c6 c7 f6 f7
        go_wp2_with fail
        refine CP.out.mono ?_
        rintro e w3 ⟨m3, h3⟩
        have M3 := Lib.hid (M2.out.trans m3)
        cases resp with
        | error f =>
          subst h3
          refine ⟨rfl, ?_⟩
          unfold Turn
          rw [HW0.out]
          exact ⟨M3.out.toS HSB.out, rfl⟩
        | ok p =>
          obtain ⟨y, r2⟩ := p
          obtain ⟨⟨v, rfl, rfl⟩, t3, h4⟩ := h3
          have HX3 := Lib.hid (HX2.out.mv m3 h4)
          have HW : Hid (RES = match wantP r.en [59] r2 with
            | .error f => .error f
            | .ok r3 => .ok ({ m with goal := 1, obj := y }, r3)) := Lib.hid HW0.out
          have f6 := HX3.out.tk.free 6
          have f7 : ((w3.setCell ⟨B, 6, none⟩ (.int .i64 1)).frozen? ⟨B, 7, none⟩) = false := by
            unfold World.frozen?
            rw [box_g (g := 1) HX3.out.tk.box]; simp
          obtain ⟨-, -, -, -, -, -, c6, c7⟩ := HX3.out.tk.cells
          have c7' : (w3.setCell ⟨B, 6, none⟩ (.int .i64 1)).cell? ⟨B, 7, none⟩ = some (.int .i64 r.obj) := by
            unfold World.cell?
            rw [box_g (g := 1) HX3.out.tk.box]; rfl
          have hm45 : Mv (one B) w3 ((w3.setCell ⟨B, 6, none⟩ (.int .i64 1)).setCell ⟨B, 7, none⟩ (.int .i64 y)) := ((Mv.refl _ _).setCell (p := ⟨B, 6, none⟩) (one_self B) _).setCell (p := ⟨B, 7, none⟩) (one_self B) _
          have M5 := Lib.hid (M3.out.trans hm45)
          have HX5 := Lib.hid (HX3.out.mvr (g := 1) (o := y) hm45 (HX3.out.tk.goes hm45 (box_go HX3.out.tk.box)))
          have C5 := Lib.hid (want_any [59] (by decide) _ HX5.out.tk)
          simp only at C5
          generalize wantP r.en [59] r2 = res5 at HW C5
          clear m3 h4 hm45 HX2 M2 HX3 M3 CP HW0
          go_wp2_with fail
          refine C5.out.mono ?_
          rintro e w6 ⟨m6, h6⟩
          have M6 := Lib.hid (M5.out.trans m6)
          cases res5 with
          | error f =>
            subst h6
            refine ⟨rfl, ?_⟩
            unfold Turn
            rw [HW.out]
            exact ⟨M6.out.toS HSB.out, rfl⟩
          | ok r3 =>
            obtain ⟨rfl, t6, h7⟩ := h6
            have HX6 := Lib.hid (HX5.out.mv m6 h7)
            clear m6 h7 C5 HX5 M5
            go_wp2_with fail
            go_end0
            unfold Turn
            rw [HW.out]
            have hfin := FIN.out _ 1 y _ _ HP.out.goal HX6.out
            refine ⟨M6.out.toS HSB.out, rfl, S, _, _, fun _ _ => rfl, ?_, hfin⟩
            exact ⟨rfl, rfl⟩
      · have q2 : (x.text == [109, 105, 110, 105, 109, 105, 122, 101]) = false := by simpa using k2
        by_cases k3 : x.text = [109, 97, 120, 105, 109, 105, 122, 101]
        · have q3 : (x.text == [109, 97, 120, 105, 109, 105, 122, 101]) = true := by simpa using k3
          have CP := Lib.hid (pplace_any _ HX2.out.pk)
          have HW0 : Hid (RES = match (match placeP r.en m.names r0 with | .error f => .error f | .ok (y, r2) => .ok ({ m with goal := 2, obj := y }, r2) : PR ModL) with
            | .error f => .error f
            | .ok (m2, r2) =>
              match wantP r.en [59] r2 with
              | .error f => .error f
              | .ok r3 => .ok (m2, r3)) := Lib.hid (by rw [HG2.out]; unfold goalW; rw [if_neg k1, if_neg k2, if_pos k3])
          unfold After at CP
          generalize placeP r.en m.names r0 = resp at HW0 CP
          clear k1 k2 k3 HG2 c6 c7 f6 f7
          go_wp2_with fail
          refine CP.out.mono ?_
          rintro e w3 ⟨m3, h3⟩
          have M3 := Lib.hid (M2.out.trans m3)
          cases resp with
          | error f =>
            subst h3
            refine ⟨rfl, ?_⟩
            unfold Turn
            rw [HW0.out]
            exact ⟨M3.out.toS HSB.out, rfl⟩
          | ok p =>
            obtain ⟨y, r2⟩ := p
            obtain ⟨⟨v, rfl, rfl⟩, t3, h4⟩ := h3
            have HX3 := Lib.hid (HX2.out.mv m3 h4)
            have HW : Hid (RES = match wantP r.en [59] r2 with
              | .error f => .error f
              | .ok r3 => .ok ({ m with goal := 2, obj := y }, r3)) := Lib.hid HW0.out
            have f6 := HX3.out.tk.free 6
            have f7 : ((w3.setCell ⟨B, 6, none⟩ (.int .i64 2)).frozen? ⟨B, 7, none⟩) = false := by
              unfold World.frozen?
              rw [box_g (g := 2) HX3.out.tk.box]; simp
            obtain ⟨-, -, -, -, -, -, c6, c7⟩ := HX3.out.tk.cells
            have c7' : (w3.setCell ⟨B, 6, none⟩ (.int .i64 2)).cell? ⟨B, 7, none⟩ = some (.int .i64 r.obj) := by
              unfold World.cell?
              rw [box_g (g := 2) HX3.out.tk.box]; rfl
            have hm45 : Mv (one B) w3 ((w3.setCell ⟨B, 6, none⟩ (.int .i64 2)).setCell ⟨B, 7, none⟩ (.int .i64 y)) := ((Mv.refl _ _).setCell (p := ⟨B, 6, none⟩) (one_self B) _).setCell (p := ⟨B, 7, none⟩) (one_self B) _
            have M5 := Lib.hid (M3.out.trans hm45)
            have HX5 := Lib.hid (HX3.out.mvr (g := 2) (o := y) hm45 (HX3.out.tk.goes hm45 (box_go HX3.out.tk.box)))
            have C5 := Lib.hid (want_any [59] (by decide) _ HX5.out.tk)
            simp only at C5
            generalize wantP r.en [59] r2 = res5 at HW C5
            clear m3 h4 hm45 HX2 M2 HX3 M3 CP HW0
            go_wp2_with fail
            refine C5.out.mono ?_
            rintro e w6 ⟨m6, h6⟩
            have M6 := Lib.hid (M5.out.trans m6)
            cases res5 with
            | error f =>
              subst h6
              refine ⟨rfl, ?_⟩
              unfold Turn
              rw [HW.out]
              exact ⟨M6.out.toS HSB.out, rfl⟩
            | ok r3 =>
              obtain ⟨rfl, t6, h7⟩ := h6
              have HX6 := Lib.hid (HX5.out.mv m6 h7)
              clear m6 h7 C5 HX5 M5
              go_wp2_with fail
              go_end0
              unfold Turn
              rw [HW.out]
              have hfin := FIN.out _ 2 y _ _ HP.out.goal HX6.out
              refine ⟨M6.out.toS HSB.out, rfl, S, _, _, fun _ _ => rfl, ?_, hfin⟩
              exact ⟨rfl, rfl⟩
        · have q3 : (x.text == [109, 97, 120, 105, 109, 105, 122, 101]) = false := by simpa using k3
          have HW : Hid (RES = .error (x.at_, 6)) := Lib.hid (by rw [HG2.out]; unfold goalW; rw [if_neg k1, if_neg k2, if_neg k3])
          clear k1 k2 k3 HG2 c6 c7 f6 f7
          go_wp2_with fail
          refine (CT.out _).mono ?_
          rintro e w3 ⟨rfl, b3⟩
          refine ⟨rfl, ?_⟩
          unfold Turn
          rw [HW.out]
          exact ⟨(M2.out.trans (Mv.of_below b3)).toS HSB.out, rfl⟩
end Go.Proofs.YtgemgmdnnjaghaaGreatDoor

/- A constraint that is being read, in memory. No walk. -/
namespace Go.Proofs.YtgemgmdnnjaghaaGreatDoor
open Go.RowKit Go.Sort Go.Maps

/-- Below a number all blocks but one stay. -/
structure Lo (b0 B : Nat) (w w' : World) : Prop where
  os : w'.os = w.os
  tape : w'.tape = w.tape
  output : w'.output = w.output
  size : w.heap.size ≤ w'.heap.size
  block : ∀ k, k < b0 → k ≠ B → w'.heap[k]? = w.heap[k]?
theorem Lo.refl (b0 B : Nat) (w : World) : Lo b0 B w w := ⟨rfl, rfl, rfl, Nat.le_refl _, fun _ _ _ => rfl⟩
theorem Lo.trans {b0 B : Nat} {a b c : World} (h : Lo b0 B a b) (k : Lo b0 B b c) : Lo b0 B a c :=
  ⟨k.os.trans h.os, k.tape.trans h.tape, k.output.trans h.output, Nat.le_trans h.size k.size, fun i hi hB => (k.block i hi hB).trans (h.block i hi hB)⟩
theorem Mv.lo {b0 B : Nat} {w w' : World} (h : Mv (one B) w w') (hb : b0 ≤ w.heap.size) : Lo b0 B w w' :=
  ⟨h.os, h.tape, h.output, h.size, fun k hk hB => h.block k (by omega) (by simpa [one] using hB)⟩
theorem lo_below {b0 B : Nat} {w w' : World} (h : Below w.heap.size w w') (hb : b0 ≤ w.heap.size) : Lo b0 B w w' :=
  ⟨h.os, h.tape, h.output, h.size, fun k hk _ => h.block k (by omega)⟩
theorem Lo.setCell {b0 B : Nat} {w w' : World} (h : Lo b0 B w w') {p : Addr} (hp : b0 ≤ p.block) (u : Value) : Lo b0 B w (w'.setCell p u) :=
  h.trans ⟨rfl, rfl, rfl, by simp [World.setCell], fun k hk _ => Below.heap_setCell _ _ _ _ (by omega)⟩
theorem Lo.grown {b0 B : Nat} {w w' w'' : World} {row : Option Nat} (h : Lo b0 B w w') (hg : w'.grownBy w'' row) (hb : b0 ≤ w'.heap.size) (hr : ∀ k, row = some k → b0 ≤ k) : Lo b0 B w w'' :=
  h.trans ⟨hg.os, hg.tape, hg.output, hg.size, fun k hk _ => hg.block k (by omega) (fun e => by have := hr k e.symm; omega)⟩
theorem Lo.mv {B : Nat} {w w' : World} (h : Lo w.heap.size B w w') : Mv (one B) w w' := ⟨h.os, h.tape, h.output, h.size, fun k hk hS => h.block k hk (by simpa [one] using hS)⟩

/-- A constraint that is being read. -/
structure ConSt (b0 B : Nat) (U : Nat → Bool) (w : World) (G : Nat) (v : ConV) (c : ConL) : Prop where
  box : w.heap[G]? = some (.cells (v.cells c.kind c.K) 37 (0, 0))
  ge : b0 ≤ G
  bB : B < b0
  uG : U G = true
  uB : U B = true
  lt : ∀ g, U g = true → g < w.heap.size
  a : w.ownsRow b0 3 1 (.slice v.a.A v.a.n v.a.c) c.A.length (I c.A)
  aU : ∀ g, (Value.slice v.a.A v.a.n v.a.c).ownBlock = some g → U g = true
  b : w.ownsRow b0 3 1 (.slice v.b.A v.b.n v.b.c) c.B.length (I c.B)
  bU : ∀ g, (Value.slice v.b.A v.b.n v.b.c).ownBlock = some g → U g = true
  ab : ∀ g, (Value.slice v.a.A v.a.n v.a.c).ownBlock = some g → (Value.slice v.b.A v.b.n v.b.c).ownBlock ≠ some g
  fc : IsInts (hide U w) v.c c.C
  fd : IsInts (hide U w) v.d c.D
  fe : IsInts (hide U w) v.e c.E
  fr : IsRows (hide U w) v.r c.rows
section
variable {b0 B G : Nat} {U : Nat → Bool} {w w' : World} {v : ConV} {c : ConL}
theorem ConSt.cells (h : ConSt b0 B U w G v c) : ∀ j u, (v.cells c.kind c.K)[j]? = some u → w.cell? ⟨G, j, none⟩ = some u := fun j u hj => by
  unfold World.cell?
  rw [h.box]
  exact hj
theorem ConSt.free (h : ConSt b0 B U w G v c) (j : Nat) : w.frozen? ⟨G, j, none⟩ = false := by
  unfold World.frozen?; rw [h.box]; simp
theorem ConSt.hb (h : ConSt b0 B U w G v c) : b0 ≤ w.heap.size := by have := h.lt G h.uG; have := h.ge; omega
/-- Only tokens were read. -/
theorem ConSt.mv (h : ConSt b0 B U w G v c) (hm : Mv (one B) w w') : ConSt b0 B U w' G v c := by
  have hmU := hm.toS h.uB
  have hk : ∀ g, g < w.heap.size → b0 ≤ g → w'.heap[g]? = w.heap[g]? := fun g hg hb => hm.block g hg (by have := h.bB; simp [one]; omega)
  exact ⟨(hk G (h.lt G h.uG) h.ge).trans h.box, h.ge, h.bB, h.uG, h.uB, fun g hg => Nat.lt_of_lt_of_le (h.lt g hg) hm.size, own_same h.a fun g hg hl => hk g hl (own_ge h.a g hg), h.aU, own_same h.b fun g hg hl => hk g hl (own_ge h.b g hg), h.bU, h.ab, h.fc.below (hide_step hmU fun _ _ => rfl), h.fd.below (hide_step hmU fun _ _ => rfl), h.fe.below (hide_step hmU fun _ _ => rfl), h.fr.below (hide_step hmU fun _ _ => rfl)⟩
theorem ConSt.neG (h : ConSt b0 B U w G v c) {g : Nat} {cur : Array Value} (hg : w.heap[g]? = some (.cells cur 3 (0, 0))) : g ≠ G := ty_ne hg h.box (by decide)
/-- A store into the box leaves all but the box. -/
theorem ConSt.mvU (h : ConSt b0 B U w G v c) (j : Nat) (u : Value) : Mv U w (w.setCell ⟨G, j, none⟩ u) := (Mv.refl U w).setCell (p := ⟨G, j, none⟩) h.uG u
theorem ConSt.setC (h : ConSt b0 B U w G v c) {x : Sl} {l : List Int} (hx : IsInts (hide U w) x l) : ConSt b0 B U (w.setCell ⟨G, 3, none⟩ (.slice x.A x.n x.c)) G { v with c := x } { c with C := l } := by
  have hm := h.mvU 3 (.slice x.A x.n x.c)
  have hs : ∀ g, g ≠ G → (w.setCell ⟨G, 3, none⟩ (.slice x.A x.n x.c)).heap[g]? = w.heap[g]? := fun g hg => Below.heap_setCell _ _ _ _ hg
  exact ⟨by simp [World.setCell, Array.getElem?_modify, h.box, ConV.cells], h.ge, h.bB, h.uG, h.uB, fun g hg => Nat.lt_of_lt_of_le (h.lt g hg) hm.size, own_same h.a fun g hg _ => hs g (by obtain ⟨cur, hc⟩ := own_typed h.a hg; exact h.neG hc), h.aU, own_same h.b fun g hg _ => hs g (by obtain ⟨cur, hc⟩ := own_typed h.b hg; exact h.neG hc), h.bU, h.ab, hx.below (hide_step hm fun _ _ => rfl), h.fd.below (hide_step hm fun _ _ => rfl), h.fe.below (hide_step hm fun _ _ => rfl), h.fr.below (hide_step hm fun _ _ => rfl)⟩
theorem ConSt.setD (h : ConSt b0 B U w G v c) {x : Sl} {l : List Int} (hx : IsInts (hide U w) x l) : ConSt b0 B U (w.setCell ⟨G, 4, none⟩ (.slice x.A x.n x.c)) G { v with d := x } { c with D := l } := by
  have hm := h.mvU 4 (.slice x.A x.n x.c)
  have hs : ∀ g, g ≠ G → (w.setCell ⟨G, 4, none⟩ (.slice x.A x.n x.c)).heap[g]? = w.heap[g]? := fun g hg => Below.heap_setCell _ _ _ _ hg
  exact ⟨by simp [World.setCell, Array.getElem?_modify, h.box, ConV.cells], h.ge, h.bB, h.uG, h.uB, fun g hg => Nat.lt_of_lt_of_le (h.lt g hg) hm.size, own_same h.a fun g hg _ => hs g (by obtain ⟨cur, hc⟩ := own_typed h.a hg; exact h.neG hc), h.aU, own_same h.b fun g hg _ => hs g (by obtain ⟨cur, hc⟩ := own_typed h.b hg; exact h.neG hc), h.bU, h.ab, h.fc.below (hide_step hm fun _ _ => rfl), hx.below (hide_step hm fun _ _ => rfl), h.fe.below (hide_step hm fun _ _ => rfl), h.fr.below (hide_step hm fun _ _ => rfl)⟩
theorem ConSt.setE (h : ConSt b0 B U w G v c) {x : Sl} {l : List Int} (hx : IsInts (hide U w) x l) : ConSt b0 B U (w.setCell ⟨G, 5, none⟩ (.slice x.A x.n x.c)) G { v with e := x } { c with E := l } := by
  have hm := h.mvU 5 (.slice x.A x.n x.c)
  have hs : ∀ g, g ≠ G → (w.setCell ⟨G, 5, none⟩ (.slice x.A x.n x.c)).heap[g]? = w.heap[g]? := fun g hg => Below.heap_setCell _ _ _ _ hg
  exact ⟨by simp [World.setCell, Array.getElem?_modify, h.box, ConV.cells], h.ge, h.bB, h.uG, h.uB, fun g hg => Nat.lt_of_lt_of_le (h.lt g hg) hm.size, own_same h.a fun g hg _ => hs g (by obtain ⟨cur, hc⟩ := own_typed h.a hg; exact h.neG hc), h.aU, own_same h.b fun g hg _ => hs g (by obtain ⟨cur, hc⟩ := own_typed h.b hg; exact h.neG hc), h.bU, h.ab, h.fc.below (hide_step hm fun _ _ => rfl), h.fd.below (hide_step hm fun _ _ => rfl), hx.below (hide_step hm fun _ _ => rfl), h.fr.below (hide_step hm fun _ _ => rfl)⟩
theorem ConSt.setK (h : ConSt b0 B U w G v c) (x : Int) : ConSt b0 B U (w.setCell ⟨G, 6, none⟩ (.int .i64 x)) G v { c with K := x } := by
  have hm := h.mvU 6 (.int .i64 x)
  have hs : ∀ g, g ≠ G → (w.setCell ⟨G, 6, none⟩ (.int .i64 x)).heap[g]? = w.heap[g]? := fun g hg => Below.heap_setCell _ _ _ _ hg
  exact ⟨by simp [World.setCell, Array.getElem?_modify, h.box, ConV.cells], h.ge, h.bB, h.uG, h.uB, fun g hg => Nat.lt_of_lt_of_le (h.lt g hg) hm.size, own_same h.a fun g hg _ => hs g (by obtain ⟨cur, hc⟩ := own_typed h.a hg; exact h.neG hc), h.aU, own_same h.b fun g hg _ => hs g (by obtain ⟨cur, hc⟩ := own_typed h.b hg; exact h.neG hc), h.bU, h.ab, h.fc.below (hide_step hm fun _ _ => rfl), h.fd.below (hide_step hm fun _ _ => rfl), h.fe.below (hide_step hm fun _ _ => rfl), h.fr.below (hide_step hm fun _ _ => rfl)⟩
theorem ConSt.setR (h : ConSt b0 B U w G v c) {x : Sl} {l : List (List Int)} (hx : IsRows (hide U w) x l) : ConSt b0 B U (w.setCell ⟨G, 7, none⟩ (.slice x.A x.n x.c)) G { v with r := x } { c with rows := l } := by
  have hm := h.mvU 7 (.slice x.A x.n x.c)
  have hs : ∀ g, g ≠ G → (w.setCell ⟨G, 7, none⟩ (.slice x.A x.n x.c)).heap[g]? = w.heap[g]? := fun g hg => Below.heap_setCell _ _ _ _ hg
  exact ⟨by simp [World.setCell, Array.getElem?_modify, h.box, ConV.cells], h.ge, h.bB, h.uG, h.uB, fun g hg => Nat.lt_of_lt_of_le (h.lt g hg) hm.size, own_same h.a fun g hg _ => hs g (by obtain ⟨cur, hc⟩ := own_typed h.a hg; exact h.neG hc), h.aU, own_same h.b fun g hg _ => hs g (by obtain ⟨cur, hc⟩ := own_typed h.b hg; exact h.neG hc), h.bU, h.ab, h.fc.below (hide_step hm fun _ _ => rfl), h.fd.below (hide_step hm fun _ _ => rfl), h.fe.below (hide_step hm fun _ _ => rfl), hx.below (hide_step hm fun _ _ => rfl)⟩
/-- A new row of variables: 'x' lies in the old row's block, or in a new one. -/
theorem ConSt.setA (h : ConSt b0 B U w G v c) {x : Sl} {l : List Int} {w3 : World} (hm : Mv U w w3) (hx : w3.ownsRow b0 3 1 (.slice x.A x.n x.c) l.length (I l)) (hnew : ∀ g, (Value.slice x.A x.n x.c).ownBlock = some g → (Value.slice v.a.A v.a.n v.a.c).ownBlock = some g ∨ w.heap.size ≤ g)
    (hG : w3.heap[G]? = w.heap[G]?) (hb : ∀ g, (Value.slice v.b.A v.b.n v.b.c).ownBlock = some g → w3.heap[g]? = w.heap[g]?) : ConSt b0 B (plus U (.slice x.A x.n x.c)) (w3.setCell ⟨G, 1, none⟩ (.slice x.A x.n x.c)) G { v with a := x } { c with A := l } := by
  have hs : ∀ g, g ≠ G → (w3.setCell ⟨G, 1, none⟩ (.slice x.A x.n x.c)).heap[g]? = w3.heap[g]? := fun g hg => Below.heap_setCell _ _ _ _ hg
  have hbx : w3.heap[G]? = some (.cells (v.cells c.kind c.K) 37 (0, 0)) := hG.trans h.box
  have hm4 : Mv U w (w3.setCell ⟨G, 1, none⟩ (.slice x.A x.n x.c)) := hm.setCell (p := ⟨G, 1, none⟩) h.uG _
  have hT : ∀ g, g < w.heap.size → plus U (.slice x.A x.n x.c) g = U g := fun g hg => by
    unfold plus
    by_cases e : (Value.slice x.A x.n x.c).ownBlock = some g
    · rcases hnew g e with h1 | h1
      · simp [h.aU g h1]
      · omega
    · simp [e]
  refine ⟨by simp [World.setCell, Array.getElem?_modify, hbx, ConV.cells], h.ge, h.bB, plus_of h.uG, plus_of h.uB, fun g hg => ?_, own_same hx fun g hg _ => hs g (by obtain ⟨cur, hc⟩ := own_typed hx hg; exact ty_ne hc hbx (by decide)), fun g hg => plus_own hg, own_same h.b fun g hg hl => (hs g (by obtain ⟨cur, hc⟩ := own_typed h.b hg; exact h.neG hc)).trans (hb g hg), fun g hg => plus_of (h.bU g hg), fun g hg e => ?_, h.fc.below (hide_step hm4 hT), h.fd.below (hide_step hm4 hT), h.fe.below (hide_step hm4 hT), h.fr.below (hide_step hm4 hT)⟩
  · unfold plus at hg
    by_cases e : (Value.slice x.A x.n x.c).ownBlock = some g
    · exact Nat.lt_of_lt_of_le (own_lt hx e).2 (by simp [World.setCell])
    · exact Nat.lt_of_lt_of_le (h.lt g (by simpa [e] using hg)) hm4.size
  · rcases hnew g hg with h1 | h1
    · exact h.ab g h1 e
    · have := (own_lt h.b e).2; omega
theorem ConSt.setB (h : ConSt b0 B U w G v c) {x : Sl} {l : List Int} {w3 : World} (hm : Mv U w w3) (hx : w3.ownsRow b0 3 1 (.slice x.A x.n x.c) l.length (I l)) (hnew : ∀ g, (Value.slice x.A x.n x.c).ownBlock = some g → (Value.slice v.b.A v.b.n v.b.c).ownBlock = some g ∨ w.heap.size ≤ g)
    (hG : w3.heap[G]? = w.heap[G]?) (ha : ∀ g, (Value.slice v.a.A v.a.n v.a.c).ownBlock = some g → w3.heap[g]? = w.heap[g]?) : ConSt b0 B (plus U (.slice x.A x.n x.c)) (w3.setCell ⟨G, 2, none⟩ (.slice x.A x.n x.c)) G { v with b := x } { c with B := l } := by
  have hs : ∀ g, g ≠ G → (w3.setCell ⟨G, 2, none⟩ (.slice x.A x.n x.c)).heap[g]? = w3.heap[g]? := fun g hg => Below.heap_setCell _ _ _ _ hg
  have hbx : w3.heap[G]? = some (.cells (v.cells c.kind c.K) 37 (0, 0)) := hG.trans h.box
  have hm4 : Mv U w (w3.setCell ⟨G, 2, none⟩ (.slice x.A x.n x.c)) := hm.setCell (p := ⟨G, 2, none⟩) h.uG _
  have hT : ∀ g, g < w.heap.size → plus U (.slice x.A x.n x.c) g = U g := fun g hg => by
    unfold plus
    by_cases e : (Value.slice x.A x.n x.c).ownBlock = some g
    · rcases hnew g e with h1 | h1
      · simp [h.bU g h1]
      · omega
    · simp [e]
  refine ⟨by simp [World.setCell, Array.getElem?_modify, hbx, ConV.cells], h.ge, h.bB, plus_of h.uG, plus_of h.uB, fun g hg => ?_, own_same h.a fun g hg hl => (hs g (by obtain ⟨cur, hc⟩ := own_typed h.a hg; exact h.neG hc)).trans (ha g hg), fun g hg => plus_of (h.aU g hg), own_same hx fun g hg _ => hs g (by obtain ⟨cur, hc⟩ := own_typed hx hg; exact ty_ne hc hbx (by decide)), fun g hg => plus_own hg, fun g hg e => ?_, h.fc.below (hide_step hm4 hT), h.fd.below (hide_step hm4 hT), h.fe.below (hide_step hm4 hT), h.fr.below (hide_step hm4 hT)⟩
  · unfold plus at hg
    by_cases e : (Value.slice x.A x.n x.c).ownBlock = some g
    · exact Nat.lt_of_lt_of_le (own_lt hx e).2 (by simp [World.setCell])
    · exact Nat.lt_of_lt_of_le (h.lt g (by simpa [e] using hg)) hm4.size
  · rcases hnew g e with h1 | h1
    · exact h.ab g hg h1
    · have := (own_lt h.a hg).2; omega
theorem ConSt.gone_a (h : ConSt b0 B U w G v c) (j : Nat) {u : Value} (hj : (v.cells c.kind c.K)[j]? = some u) {o : Obj} : ∀ w5, (w.alloc o).grownBy w5 (Value.slice v.a.A v.a.n v.a.c).ownBlock → w5.cell? ⟨G, j, none⟩ = some u ∧ w5.frozen? ⟨G, j, none⟩ = false := fun w5 hg => by
  have hGl := h.lt G h.uG
  have hb : w5.heap[G]? = w.heap[G]? := (hg.block G (by simp; omega) (fun e => by obtain ⟨cur, hcur⟩ := own_typed h.a e.symm; exact h.neG hcur rfl)).trans (Below.heap_alloc _ _ _ hGl)
  exact ⟨(World.cell?_of_block hb).trans (h.cells j u hj), (World.frozen?_of_block hb).trans (h.free j)⟩
theorem ConSt.gone_b (h : ConSt b0 B U w G v c) (j : Nat) {u : Value} (hj : (v.cells c.kind c.K)[j]? = some u) {o : Obj} : ∀ w5, (w.alloc o).grownBy w5 (Value.slice v.b.A v.b.n v.b.c).ownBlock → w5.cell? ⟨G, j, none⟩ = some u ∧ w5.frozen? ⟨G, j, none⟩ = false := fun w5 hg => by
  have hGl := h.lt G h.uG
  have hb : w5.heap[G]? = w.heap[G]? := (hg.block G (by simp; omega) (fun e => by obtain ⟨cur, hcur⟩ := own_typed h.b e.symm; exact h.neG hcur rfl)).trans (Below.heap_alloc _ _ _ hGl)
  exact ⟨(World.cell?_of_block hb).trans (h.cells j u hj), (World.frozen?_of_block hb).trans (h.free j)⟩
/-- It is a constraint outside what is smaller. -/
theorem ConSt.con (h : ConSt b0 B U w G v c) {S : Nat → Bool} (hS : ∀ g, S g = true → g < b0) (hSU : ∀ g, S g = true → U g = true) (hla : c.A.length ≤ 1048576) (hlb : c.B.length ≤ 1048576) : ConIn (hide S w) v c := by
  have hrow : ∀ (x : Sl) (l : List Int), w.ownsRow b0 3 1 (.slice x.A x.n x.c) l.length (I l) → l.length ≤ 1048576 → IsInts (hide S w) x l := fun x l hx hb => by
    obtain ⟨A, k, e, hl, hc⟩ := own_lies hx
    injection e with e1 e2 e3
    refine IsInts.hide ⟨e2, by rw [e1, e2]; exact hl, by omega, by rw [e2, e3]; exact hc⟩ fun ad ea => ?_
    cases hs : S ad.block
    · rfl
    · have h1 := hS _ hs
      have h2 := own_ge hx ad.block (by rw [ea]; rfl)
      omega
  have hcell : ∀ a y, (hide U w).cell? a = some y → (hide S w).cell? a = some y := fun a y ha => by
    obtain ⟨h1, h2⟩ := hide_cell ha
    refine cell_hide h2 ?_
    cases hs : S a.block
    · rfl
    · rw [hSU _ hs] at h1; cases h1
  have hints : ∀ (x : Sl) (l : List Int), IsInts (hide U w) x l → IsInts (hide S w) x l := fun x l hx => ⟨hx.len, fun h0 => by
    obtain ⟨ad, e1, h2, h3⟩ := hx.lies h0
    exact ⟨ad, e1, by rw [hide_size] at h2 ⊢; exact h2, fun j hj => hcell _ _ (h3 j hj)⟩, hx.big, hx.cap⟩
  exact ⟨hrow _ _ h.a hla, hrow _ _ h.b hlb, hints _ _ h.fc, hints _ _ h.fd, hints _ _ h.fe, ⟨h.fr.len, h.fr.big, fun h0 => by
    obtain ⟨ad, e1, h2, h3⟩ := h.fr.lies h0
    refine ⟨ad, e1, by rw [hide_size] at h2 ⊢; exact h2, fun i hi => ?_⟩
    obtain ⟨u, h4, h5⟩ := h3 i hi
    exact ⟨u, hcell _ _ h4, hints _ _ h5⟩⟩⟩
end
end Go.Proofs.YtgemgmdnnjaghaaGreatDoor

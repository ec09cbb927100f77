/- Contract: goal. -/
import Derived.Test.YtmamgaaeeonfmaaGreatDoorPvar
namespace Go.Proofs.YtmamgaaeeonfmaaGreatDoor
open Go.RowKit Go.Sort Go.Maps

/-- The goal and its variable are written. -/
theorem IsPx.mvr {S : Nat → Bool} {w w' : World} {B : Nat} {r : PRest} {t t' : Sl} {ts ts' : List Tok} {pn nn : List Bs} {dd : List (List Int)} {cc : List ConL} (h : IsPx S w B r t ts pn nn dd cc) {g o : Int} (hm : Mv (one B) w w') (h' : IsTk S w' B { r with goal := g, obj := o } t' ts') : IsPx S w' B { r with goal := g, obj := o } t' ts' pn nn dd cc := by
  have hmS := hm.toS h.tk.hid
  have hk : ∀ g, g ≠ B → g < w.heap.size → w'.heap[g]? = w.heap[g]? := fun g hg hl => hm.block g hl (by simpa [one] using hg)
  refine ⟨h', ?_, own_same h.n fun g hg hl => hk g ?_ hl, h.d.keep hmS (fun _ _ => rfl) fun g hg hl => hk g ?_ hl, h.c.keep hmS (fun _ _ => rfl) fun g hg hl => hk g ?_ hl, h.nS, h.dS, h.cS, h.ent.below (hide_step hmS fun _ _ => rfl), h.tab.below (hide_step hmS fun _ _ => rfl), fun p hp => ?_⟩
  · obtain ⟨M, e, hP, hne, hS⟩ := h.plc
    exact ⟨M, e, hP.keep (hk M hne hP.lt), hne, hS⟩
  · obtain ⟨cur, hc⟩ := h.nT hg
    exact ty_ne hc h.tk.box (by decide)
  · obtain ⟨cur, hc⟩ := h.dT hg
    exact ty_ne hc h.tk.box (by decide)
  · obtain ⟨cur, hc⟩ := h.cT hg
    exact ty_ne hc h.tk.box (by decide)
  · obtain ⟨h1, h2, h3⟩ := h.kept p hp
    exact ⟨(hk p.1 (ty_ne h1 h.tk.box (fun e => h3 (by rw [e]; simp))) (lt_of_block h1)).trans h1, h2, h3⟩
theorem box_go {w : World} {B : Nat} {r : PRest} {t : Sl} {g o : Int} (h : w.heap[B]? = some (.cells (pcells t r) 48 (0, 0))) : ((w.setCell ⟨B, 6, none⟩ (.int .i64 g)).setCell ⟨B, 7, none⟩ (.int .i64 o)).heap[B]? = some (.cells (pcells t { r with goal := g, obj := o }) 48 (0, 0)) := by
  simp [World.setCell, Array.getElem?_modify, h, pcells]
theorem IsTk.goes {S : Nat → Bool} {w w' : World} {B : Nat} {r : PRest} {t : Sl} {ts : List Tok} (h : IsTk S w B r t ts) {g o : Int} (hm : Mv (one B) w w') (hbox : w'.heap[B]? = some (.cells (pcells t { r with goal := g, obj := o }) 48 (0, 0))) : IsTk S w' B { r with goal := g, obj := o } t ts := h.moved hm hbox h.tok h.own

/-- The goal that a word names. -/
def goalW (en : Nat) (m : ModL) (t : Tok) (r : List Tok) : PR ModL :=
  if t.text = [115, 97, 116, 105, 115, 102, 121] then .ok ({ m with goal := 0 }, r)
  else if t.text = [109, 105, 110, 105, 109, 105, 122, 101] then (match placeP en m.names r with | .error f => .error f | .ok (x, r2) => .ok ({ m with goal := 1, obj := x }, r2))
  else if t.text = [109, 97, 120, 105, 109, 105, 122, 101] then (match placeP en m.names r with | .error f => .error f | .ok (x, r2) => .ok ({ m with goal := 2, obj := x }, r2))
  else .error (t.at_, 6)

set_option maxHeartbeats 2000000 in
set_option maxRecDepth 100000 in
theorem goal_any {S : Nat → Bool} {B : Nat} {r : PRest} {t : Sl} {ts : List Tok} {m : ModL} (w : World) (h : IsP S w B r t ts m) : Calls Tryz.prog 29 #[.pointer (some ⟨B, 0, none⟩)] w (Turn S B r w (goalP r.en m ts)) := by
  have hB : B < w.heap.size := h.px.tk.lt B h.px.tk.hid
  have HSB := Lib.hid h.px.tk.hid
  have HP := Lib.hid h
  have HG : Hid (goalP r.en m ts = match takeP r.en 1 ts with
    | .error f => .error f
    | .ok (t, r0) =>
      match goalW r.en m t r0 with
      | .error f => .error f
      | .ok (m2, r2) =>
        match wantP r.en [59] r2 with
        | .error f => .error f
        | .ok r3 => .ok (m2, r3)) := Lib.hid rfl
  have C1 := Lib.hid (take_any 1 (by decide) w h.px.tk)
  unfold After at C1
  generalize goalP r.en m ts = RES at HG ⊢
  generalize takeP r.en 1 ts = res at HG C1
  clear h
  go_enter Tryz.func29, Tryz.ntmps29
  go_wp2_with fail
  refine C1.out.mono ?_
  rintro e w1 ⟨m1, h1⟩
  cases res with
  | error f =>
    subst h1
    refine ⟨rfl, ?_⟩
    unfold Turn
    rw [HG.out]
    exact ⟨m1.toS HSB.out, rfl⟩
  | ok p =>
    obtain ⟨x, r0⟩ := p
    obtain ⟨⟨v, rfl, rfl⟩, t1, h2⟩ := h1
    have HX1 := Lib.hid (HP.out.px.mv m1 h2)
    have M1 := Lib.hid m1
    have HG2 : Hid (RES = match goalW r.en m x r0 with
      | .error f => .error f
      | .ok (m2, r2) =>
        match wantP r.en [59] r2 with
        | .error f => .error f
        | .ok r3 => .ok (m2, r3)) := Lib.hid HG.out
    have b2 := below1 w1 (tokObj x)
    have T4 := TBox.new 63 w1 (.int .i64 (x.kind : Nat)) (.string (txt x.text)) (.int .i64 x.num) (.int .i64 (x.at_ : Nat))
    obtain ⟨y0, y1, y2, y3⟩ := T4.cells
    have HX2 := Lib.hid (HX1.out.mv (Mv.of_below b2) (HX1.out.tk.step b2))
    have M2 : Hid (Mv (one B) w (w1.alloc (tokObj x))) := Lib.hid (M1.out.alloc _)
    have ht := txt_list x.text
    have ht1 : (⟨#[115, 97, 116, 105, 115, 102, 121]⟩ : ByteArray).toList = [115, 97, 116, 105, 115, 102, 121] := txt_list [115, 97, 116, 105, 115, 102, 121]
    have ht2 : (⟨#[109, 105, 110, 105, 109, 105, 122, 101]⟩ : ByteArray).toList = [109, 105, 110, 105, 109, 105, 122, 101] := txt_list [109, 105, 110, 105, 109, 105, 122, 101]
    have ht3 : (⟨#[109, 97, 120, 105, 109, 105, 122, 101]⟩ : ByteArray).toList = [109, 97, 120, 105, 109, 105, 122, 101] := txt_list [109, 97, 120, 105, 109, 105, 122, 101]
    have e59 : (⟨#[59]⟩ : ByteArray) = txt [59] := rfl
    have f6 := HX2.out.tk.free 6
    have f7 := HX2.out.tk.free 7
    obtain ⟨-, -, -, -, -, -, c6, c7⟩ := HX2.out.tk.cells
    have CT := Lib.hid (throw_any x 6)
    unfold ptokV at CT ⊢
    clear m1 h2 HG C1 HX1 M1 T4 b2
    -- what is left, behind the word: the last sign
    have FIN : Hid (∀ (W : World) (g o : Int) (t2 : Sl) (r2 : List Tok), r.goal = m.goal → IsPx S W B { r with goal := g, obj := o } t2 r2 m.names m.names m.doms m.cons → IsP S W B { r with goal := g, obj := o } t2 r2 { m with goal := g, obj := o }) := Lib.hid (fun W g o t2 r2 _ hx => ⟨hx, rfl, rfl, HP.out.len, HP.out.n256, HP.out.c1024, HP.out.brief, HP.out.short⟩)
    by_cases k1 : x.text = [115, 97, 116, 105, 115, 102, 121]
    · have q1 : (x.text == [115, 97, 116, 105, 115, 102, 121]) = true := by simpa using k1
      have HW : Hid (RES = match wantP r.en [59] r0 with
        | .error f => .error f
        | .ok r3 => .ok ({ m with goal := 0 }, r3)) := Lib.hid (by rw [HG2.out]; unfold goalW; rw [if_pos k1])
      have M3 : Hid (Mv (one B) w ((w1.alloc (tokObj x)).setCell ⟨B, 6, none⟩ (.int .i64 0))) := Lib.hid (M2.out.setCell (p := ⟨B, 6, none⟩) (one_self B) _)
      have hm23 : Mv (one B) (w1.alloc (tokObj x)) ((w1.alloc (tokObj x)).setCell ⟨B, 6, none⟩ (.int .i64 0)) := (Mv.refl _ _).setCell (p := ⟨B, 6, none⟩) (one_self B) _
      have HX3 := Lib.hid (HX2.out.mvr (g := 0) (o := r.obj) hm23 (HX2.out.tk.goes hm23 (box_g HX2.out.tk.box)))
      have C3 := Lib.hid (want_any [59] (by decide) _ HX3.out.tk)
      simp only at C3
      generalize wantP r.en [59] r0 = res3 at HW C3
      clear k1 HG2 hm23 HX2 M2
      go_wp2_with fail
      refine C3.out.mono ?_
      rintro e w4 ⟨m4, h4⟩
      have M4 := Lib.hid (M3.out.trans m4)
      cases res3 with
      | error f =>
        subst h4
        refine ⟨rfl, ?_⟩
        unfold Turn
        rw [HW.out]
        exact ⟨M4.out.toS HSB.out, rfl⟩
      | ok r3 =>
        obtain ⟨rfl, t4, h5⟩ := h4
        have HX4 := Lib.hid (HX3.out.mv m4 h5)
        clear m4 h5 C3 HX3 M3
        go_wp2_with fail
        go_end0
        unfold Turn
        rw [HW.out]
        have hfin := FIN.out _ 0 r.obj _ _ HP.out.goal HX4.out
        rw [show ({ m with goal := 0 } : ModL) = { m with goal := 0, obj := r.obj } by rw [HP.out.obj]]
        refine ⟨M4.out.toS HSB.out, rfl, S, _, _, fun _ _ => rfl, ?_, hfin⟩
        exact ⟨rfl, rfl⟩
    · have q1 : (x.text == [115, 97, 116, 105, 115, 102, 121]) = false := by simpa using k1
      by_cases k2 : x.text = [109, 105, 110, 105, 109, 105, 122, 101]
      · have q2 : (x.text == [109, 105, 110, 105, 109, 105, 122, 101]) = true := by simpa using k2
        have CP := Lib.hid (pplace_any _ HX2.out.pk)
        have HW0 : Hid (RES = match (match placeP r.en m.names r0 with | .error f => .error f | .ok (y, r2) => .ok ({ m with goal := 1, obj := y }, r2) : PR ModL) with
          | .error f => .error f
          | .ok (m2, r2) =>
            match wantP r.en [59] r2 with
            | .error f => .error f
            | .ok r3 => .ok (m2, r3)) := Lib.hid (by rw [HG2.out]; unfold goalW; rw [if_neg k1, if_pos k2])
        unfold After at CP
        generalize placeP r.en m.names r0 = resp at HW0 CP
        clear k1 k2 HG2 c6 c7 f6 f7
        go_wp2_with fail
        refine CP.out.mono ?_
        rintro e w3 ⟨m3, h3⟩
        have M3 := Lib.hid (M2.out.trans m3)
        cases resp with
        | error f =>
          subst h3
          refine ⟨rfl, ?_⟩
          unfold Turn
          rw [HW0.out]
          exact ⟨M3.out.toS HSB.out, rfl⟩
        | ok p =>
          obtain ⟨y, r2⟩ := p
          obtain ⟨⟨v, rfl, rfl⟩, t3, h4⟩ := h3
          have HX3 := Lib.hid (HX2.out.mv m3 h4)
          have HW : Hid (RES = match wantP r.en [59] r2 with
            | .error f => .error f
            | .ok r3 => .ok ({ m with goal := 1, obj := y }, r3)) := Lib.hid HW0.out
          have f6 := HX3.out.tk.free 6
          have f7 : ((w3.setCell ⟨B, 6, none⟩ (.int .i64 1)).frozen? ⟨B, 7, none⟩) = false := by
            unfold World.frozen?
            rw [box_g (g := 1) HX3.out.tk.box]; simp
          obtain ⟨-, -, -, -, -, -, c6, c7⟩ := HX3.out.tk.cells
          have c7' : (w3.setCell ⟨B, 6, none⟩ (.int .i64 1)).cell? ⟨B, 7, none⟩ = some (.int .i64 r.obj) := by
            unfold World.cell?
            rw [box_g (g := 1) HX3.out.tk.box]; rfl
          have hm45 : Mv (one B) w3 ((w3.setCell ⟨B, 6, none⟩ (.int .i64 1)).setCell ⟨B, 7, none⟩ (.int .i64 y)) := ((Mv.refl _ _).setCell (p := ⟨B, 6, none⟩) (one_self B) _).setCell (p := ⟨B, 7, none⟩) (one_self B) _
          have M5 := Lib.hid (M3.out.trans hm45)
          have HX5 := Lib.hid (HX3.out.mvr (g := 1) (o := y) hm45 (HX3.out.tk.goes hm45 (box_go HX3.out.tk.box)))
          have C5 := Lib.hid (want_any [59] (by decide) _ HX5.out.tk)
          simp only at C5
          generalize wantP r.en [59] r2 = res5 at HW C5
          clear m3 h4 hm45 HX2 M2 HX3 M3 CP HW0
          go_wp2_with fail
          refine C5.out.mono ?_
          rintro e w6 ⟨m6, h6⟩
          have M6 := Lib.hid (M5.out.trans m6)
          cases res5 with
          | error f =>
            subst h6
            refine ⟨rfl, ?_⟩
            unfold Turn
            rw [HW.out]
            exact ⟨M6.out.toS HSB.out, rfl⟩
          | ok r3 =>
            obtain ⟨rfl, t6, h7⟩ := h6
            have HX6 := Lib.hid (HX5.out.mv m6 h7)
            clear m6 h7 C5 HX5 M5
            go_wp2_with fail
            go_end0
            unfold Turn
            rw [HW.out]
            have hfin := FIN.out _ 1 y _ _ HP.out.goal HX6.out
            refine ⟨M6.out.toS HSB.out, rfl, S, _, _, fun _ _ => rfl, ?_, hfin⟩
            exact ⟨rfl, rfl⟩
      · have q2 : (x.text == [109, 105, 110, 105, 109, 105, 122, 101]) = false := by simpa using k2
        by_cases k3 : x.text = [109, 97, 120, 105, 109, 105, 122, 101]
        · have q3 : (x.text == [109, 97, 120, 105, 109, 105, 122, 101]) = true := by simpa using k3
          have CP := Lib.hid (pplace_any _ HX2.out.pk)
          have HW0 : Hid (RES = match (match placeP r.en m.names r0 with | .error f => .error f | .ok (y, r2) => .ok ({ m with goal := 2, obj := y }, r2) : PR ModL) with
            | .error f => .error f
            | .ok (m2, r2) =>
              match wantP r.en [59] r2 with
              | .error f => .error f
              | .ok r3 => .ok (m2, r3)) := Lib.hid (by rw [HG2.out]; unfold goalW; rw [if_neg k1, if_neg k2, if_pos k3])
          unfold After at CP
          generalize placeP r.en m.names r0 = resp at HW0 CP
          clear k1 k2 k3 HG2 c6 c7 f6 f7
          go_wp2_with fail
          refine CP.out.mono ?_
          rintro e w3 ⟨m3, h3⟩
          have M3 := Lib.hid (M2.out.trans m3)
          cases resp with
          | error f =>
            subst h3
            refine ⟨rfl, ?_⟩
            unfold Turn
            rw [HW0.out]
            exact ⟨M3.out.toS HSB.out, rfl⟩
          | ok p =>
            obtain ⟨y, r2⟩ := p
            obtain ⟨⟨v, rfl, rfl⟩, t3, h4⟩ := h3
            have HX3 := Lib.hid (HX2.out.mv m3 h4)
            have HW : Hid (RES = match wantP r.en [59] r2 with
              | .error f => .error f
              | .ok r3 => .ok ({ m with goal := 2, obj := y }, r3)) := Lib.hid HW0.out
            have f6 := HX3.out.tk.free 6
            have f7 : ((w3.setCell ⟨B, 6, none⟩ (.int .i64 2)).frozen? ⟨B, 7, none⟩) = false := by
              unfold World.frozen?
              rw [box_g (g := 2) HX3.out.tk.box]; simp
            obtain ⟨-, -, -, -, -, -, c6, c7⟩ := HX3.out.tk.cells
            have c7' : (w3.setCell ⟨B, 6, none⟩ (.int .i64 2)).cell? ⟨B, 7, none⟩ = some (.int .i64 r.obj) := by
              unfold World.cell?
              rw [box_g (g := 2) HX3.out.tk.box]; rfl
            have hm45 : Mv (one B) w3 ((w3.setCell ⟨B, 6, none⟩ (.int .i64 2)).setCell ⟨B, 7, none⟩ (.int .i64 y)) := ((Mv.refl _ _).setCell (p := ⟨B, 6, none⟩) (one_self B) _).setCell (p := ⟨B, 7, none⟩) (one_self B) _
            have M5 := Lib.hid (M3.out.trans hm45)
            have HX5 := Lib.hid (HX3.out.mvr (g := 2) (o := y) hm45 (HX3.out.tk.goes hm45 (box_go HX3.out.tk.box)))
            have C5 := Lib.hid (want_any [59] (by decide) _ HX5.out.tk)
            simp only at C5
            generalize wantP r.en [59] r2 = res5 at HW C5
            clear m3 h4 hm45 HX2 M2 HX3 M3 CP HW0
            go_wp2_with fail
            refine C5.out.mono ?_
            rintro e w6 ⟨m6, h6⟩
            have M6 := Lib.hid (M5.out.trans m6)
            cases res5 with
            | error f =>
              subst h6
              refine ⟨rfl, ?_⟩
              unfold Turn
              rw [HW.out]
              exact ⟨M6.out.toS HSB.out, rfl⟩
            | ok r3 =>
              obtain ⟨rfl, t6, h7⟩ := h6
              have HX6 := Lib.hid (HX5.out.mv m6 h7)
              clear m6 h7 C5 HX5 M5
              go_wp2_with fail
              go_end0
              unfold Turn
              rw [HW.out]
              have hfin := FIN.out _ 2 y _ _ HP.out.goal HX6.out
              refine ⟨M6.out.toS HSB.out, rfl, S, _, _, fun _ _ => rfl, ?_, hfin⟩
              exact ⟨rfl, rfl⟩
        · have q3 : (x.text == [109, 97, 120, 105, 109, 105, 122, 101]) = false := by simpa using k3
          have HW : Hid (RES = .error (x.at_, 6)) := Lib.hid (by rw [HG2.out]; unfold goalW; rw [if_neg k1, if_neg k2, if_neg k3])
          clear k1 k2 k3 HG2 c6 c7 f6 f7
          go_wp2_with fail
          refine (CT.out _).mono ?_
          rintro e w3 ⟨rfl, b3⟩
          refine ⟨rfl, ?_⟩
          unfold Turn
          rw [HW.out]
          exact ⟨(M2.out.trans (Mv.of_below b3)).toS HSB.out, rfl⟩
end Go.Proofs.YtmamgaaeeonfmaaGreatDoor

/- Contract: newVariable. -/
import Derived.Test.YtgemgmdnnjaghaaGreatDoorPgrow
import Derived.StillTailTactics
namespace Go.Proofs.YtgemgmdnnjaghaaGreatDoor
open Go.RowKit Go.Sort Go.Maps

/-- The parser, with the model that was read. -/
structure IsP (S : Nat → Bool) (w : World) (B : Nat) (r : PRest) (t : Sl) (ts : List Tok) (m : ModL) : Prop where
  px : IsPx S w B r t ts m.names m.names m.doms m.cons
  goal : r.goal = m.goal
  obj : r.obj = m.obj
  len : m.names.length = m.doms.length
  n256 : m.names.length ≤ 256
  c1024 : m.cons.length ≤ 1024
  brief : ∀ b ∈ m.names, b.length ≤ 1048576
  short : ∀ l ∈ m.doms, l.length ≤ 1000000
/-- What an item leaves. -/
def Turn (S : Nat → Bool) (B : Nat) (r : PRest) (w : World) (res : PR ModL) (e : Ending) (w' : World) : Prop :=
  Mv S w w' ∧ match res with
  | .ok (m', rs) => e = .returned (.tuple #[]) ∧ ∃ S' r' t', (∀ g, g < w.heap.size → S' g = S g) ∧ (r'.en = r.en ∧ r'.kp = r.kp) ∧ IsP S' w' B r' t' rs m'
  | .error f => e = .panicked (fltV f)
theorem setOf_short {xs : List Int} {n : Nat} (h : xs.length ≤ n) : (ofL xs).length ≤ n := by
  unfold ofL
  split
  · exact Nat.le_trans (setOf_len xs) h
  · simp
theorem range_short (lo hi : Int) (h : rangeErr lo hi = 0) : (rangeL lo hi).length ≤ 1000000 := by
  rw [len_rangeL]
  unfold rangeErr at h
  split at h
  · split at h
    · cases h
    · split at h
      · cases h
      · omega
  · cases h
theorem domP_short {en : Nat} {ts rs : List Tok} {l : List Int} (h : domP en ts = .ok (l, rs)) (hts : ts.length ≤ 1048576) : l.length ≤ 1000000 := by
  unfold domP at h
  split at h
  · cases h
  · next l' e r' hr =>
    split at h
    · next he =>
      injection h with h; injection h with h1 h2; subst h1; subst h2
      unfold rosP at hr
      split at hr
      · split at hr
        · cases hr
        · next xs r2 hx =>
          injection hr with hr; injection hr with h1 h2; injection h1 with h1 h3
          subst h1
          have := listP_len en _ _ (by decide) (by decide) (numP_one en) hx
          exact setOf_short (by omega)
      · split at hr
        · cases hr
        · split at hr
          · cases hr
          · split at hr
            · cases hr
            · injection hr with hr; injection hr with h1 h2; injection h1 with h1 h3
              subst h1; subst h3
              rw [if_pos he]
              exact range_short _ _ he
    · cases h
theorem turned_keep {w w' : World} {M : Nat} (h : w.mapTurned w' M) : ∀ g, g ≠ M → w'.heap[g]? = w.heap[g]? := by
  obtain ⟨es, cl, es', cl', -, rfl⟩ := h
  intro g hg
  simp [ChangeMaps.setBlock, Ne.symm hg]
theorem turned_size {w w' : World} {M : Nat} (h : w.mapTurned w' M) : w'.heap.size = w.heap.size := by
  obtain ⟨es, cl, es', cl', -, rfl⟩ := h
  simp [ChangeMaps.setBlock]
theorem turned_os {w w' : World} {M : Nat} (h : w.mapTurned w' M) : w'.os = w.os ∧ w'.tape = w.tape ∧ w'.output = w.output := by
  obtain ⟨es, cl, es', cl', -, rfl⟩ := h
  exact ⟨rfl, rfl, rfl⟩
theorem own_shape {w : World} {base : Nat} {e : TypeId} {size n : Nat} {v : Value} {xs : List Value} (h : w.ownsRow base e size v n xs) : ∃ A c, v = .slice A n c := by
  rcases h.2 with ⟨rfl, h0⟩ | ⟨g, cap, cur, rfl, -⟩
  · exact ⟨none, 0, by rw [h0]⟩
  · exact ⟨_, _, rfl⟩
theorem infoStr : (Tryz.prog.info? 9).map (fun i => (i.zero, i.size, i.bytes)) = some (some (.string ⟨#[]⟩), 1, 16) := by kernel_rfl

set_option maxHeartbeats 2000000 in
set_option maxRecDepth 100000 in
theorem newVariable_any {S : Nat → Bool} {B : Nat} {r : PRest} {t : Sl} {ts : List Tok} {m : ModL} (x : Tok) (w : World) (h : IsP S w B r t ts m) : Calls Tryz.prog 70 #[.pointer (some ⟨B, 0, none⟩), ptokV x] w (Turn S B r w (varP r.en m x ts)) := by
  have hB : B < w.heap.size := h.px.tk.lt B h.px.tk.hid
  have HSB := Lib.hid h.px.tk.hid
  have HP := Lib.hid h
  have hnl : r.n.n = m.names.length := own_len h.px.n
  have h256 := h.n256
  have HVP : Hid (varP r.en m x ts = if m.names.length = 256 then .error (x.at_, 12) else
    match domP r.en ts with
    | .error f => .error f
    | .ok (d, r0) =>
      match wantP r.en [58] r0 with
      | .error f => .error f
      | .ok r1 =>
        match newNameP r.en m.names r1 with
        | .error f => .error f
        | .ok (b, r2) =>
          match wantP r.en [59] r2 with
          | .error f => .error f
          | .ok r3 => .ok ({ m with names := m.names ++ [b], doms := m.doms ++ [d] }, r3)) := Lib.hid rfl
  have HSH : Hid (∀ d r0, domP r.en ts = .ok (d, r0) → d.length ≤ 1000000) := Lib.hid (fun d r0 e => domP_short e (by have := h.px.tk.tok.len; have := h.px.tk.tok.big; omega))
  have b0 := below1 w (tokObj x)
  have HB0 := Lib.hid b0
  have T0 := TBox.new 118 w (.int .i64 (x.kind : Nat)) (.string (txt x.text)) (.int .i64 x.num) (.int .i64 (x.at_ : Nat))
  obtain ⟨-, -, -, c3, -⟩ := (h.px.tk.step b0).cells
  have CT := Lib.hid (throw_any x 12)
  have CD := Lib.hid (domain_any (w.alloc (tokObj x)) (h.px.tk.step b0) (h.px.tab.below (hide_step (Mv.of_below b0) fun _ _ => rfl)))
  unfold ptokV at CT ⊢
  generalize varP r.en m x ts = RES at HVP ⊢
  unfold After at CD
  clear h b0
  by_cases hfull : m.names.length = 256
  · have hne : r.n.n = 256 := by omega
    rw [hne] at c3
    have HRES : Hid (RES = .error (x.at_, 12)) := Lib.hid (by rw [HVP.out, if_pos hfull])
    obtain ⟨y0, y1, y2, y3⟩ := T0.cells
    clear hfull hne hnl HVP
    go_enter Tryz.func70, Tryz.ntmps70
    go_wp2_with fail
    refine (CT.out _).mono ?_
    rintro e w3 ⟨rfl, b3⟩
    refine ⟨rfl, ?_⟩
    unfold Turn
    rw [HRES.out]
    exact ⟨(Mv.of_below HB0.out).trans (Mv.of_below b3), rfl⟩
  · have hne : r.n.n < 256 := by omega
    have hne2 : (((r.n.n : Nat) : Int) == 256) = false := by simp; omega
    have HV2 : Hid (RES = match domP r.en ts with
      | .error f => .error f
      | .ok (d, r0) =>
        match wantP r.en [58] r0 with
        | .error f => .error f
        | .ok r1 =>
          match newNameP r.en m.names r1 with
          | .error f => .error f
          | .ok (b, r2) =>
            match wantP r.en [59] r2 with
            | .error f => .error f
            | .ok r3 => .ok ({ m with names := m.names ++ [b], doms := m.doms ++ [d] }, r3)) := Lib.hid (by rw [HVP.out, if_neg hfull])
    generalize domP r.en ts = res1 at HV2 HSH CD
    have HNL := Lib.hid hnl
    clear hfull HVP CT T0 hnl
    go_enter Tryz.func70, Tryz.ntmps70
    go_wp2_with fail
    refine CD.out.mono ?_
    rintro e w1 ⟨m1, h1⟩
    have M1 := Lib.hid ((Mv.of_below (S := one B) HB0.out).trans m1)
    clear m1 CD
    cases res1 with
    | error f =>
      subst h1
      refine ⟨rfl, ?_⟩
      unfold Turn
      rw [HV2.out]
      exact ⟨M1.out.toS HSB.out, rfl⟩
    | ok p =>
      obtain ⟨d, r0⟩ := p
      obtain ⟨⟨vd, rfl, hvd⟩, t1, h2⟩ := h1
      have hdl := HSH.out _ _ rfl
      have HX1 := Lib.hid (HP.out.px.mv M1.out h2)
      obtain ⟨Ad, cd, rfl, hld, hcd⟩ := own_lies hvd
      have HD1 : Hid (IsInts (hide S w1) ⟨Ad, d.length, cd⟩ d) := Lib.hid (IsInts.hide ⟨rfl, hld, by simp only; omega, hcd⟩ (fun ad e => by
        cases hS : S ad.block
        · rfl
        · have h3 := HP.out.px.tk.lt _ hS
          have h4 := own_ge hvd ad.block (by rw [show Ad = some ad from e]; rfl)
          simp at h4
          omega))
      have C2 := Lib.hid (want_any [58] (by decide) w1 h2)
      have HV3 : Hid (RES = match wantP r.en [58] r0 with
        | .error f => .error f
        | .ok r1 =>
          match newNameP r.en m.names r1 with
          | .error f => .error f
          | .ok (b, r2) =>
            match wantP r.en [59] r2 with
            | .error f => .error f
            | .ok r3 => .ok ({ m with names := m.names ++ [b], doms := m.doms ++ [d] }, r3)) := Lib.hid HV2.out
      generalize wantP r.en [58] r0 = res2 at HV3 C2
      have e58 : (⟨#[58]⟩ : ByteArray) = txt [58] := rfl
      have e59 : (⟨#[59]⟩ : ByteArray) = txt [59] := rfl
      generalize hdn : d.length = dn at HD1 ⊢
      clear h2 hvd hld hcd HV2 HSH c3
      go_wp2_with fail
      refine C2.out.mono ?_
      rintro e w2 ⟨m2, h3⟩
      have M2 := Lib.hid (M1.out.trans m2)
      have HD2 : Hid (IsInts (hide S w2) ⟨Ad, dn, cd⟩ d) := Lib.hid (HD1.out.below (hide_step (m2.toS HSB.out) fun _ _ => rfl))
      cases res2 with
      | error f =>
        subst h3
        refine ⟨rfl, ?_⟩
        unfold Turn
        rw [HV3.out]
        exact ⟨M2.out.toS HSB.out, rfl⟩
      | ok r1 =>
        obtain ⟨rfl, t2, h4⟩ := h3
        have HX2 := Lib.hid (HX1.out.mv m2 h4)
        have C3 := Lib.hid (newName_any w2 HX2.out.pk HX2.out.ent)
        unfold After at C3
        have HV4 : Hid (RES = match newNameP r.en m.names r1 with
          | .error f => .error f
          | .ok (b, r2) =>
            match wantP r.en [59] r2 with
            | .error f => .error f
            | .ok r3 => .ok ({ m with names := m.names ++ [b], doms := m.doms ++ [d] }, r3)) := Lib.hid HV3.out
        have HNN : Hid (∀ b r2, newNameP r.en m.names r1 = .ok (b, r2) → b ∉ m.names) := Lib.hid (fun b r2 e => by
          unfold newNameP at e
          split at e
          · cases e
          · split at e
            · cases e
            · split at e
              · cases e
              · next hnm => injection e with e; injection e with e1 e2; subst e1; exact hnm)
        generalize newNameP r.en m.names r1 = res3 at HV4 C3 HNN
        clear h4 m2 C2 HX1 HD1 HV3 M1
        go_wp2_with fail
        refine C3.out.mono ?_
        rintro e w3 ⟨m3, h5⟩
        have M3 := Lib.hid (M2.out.trans m3)
        have HD3 : Hid (IsInts (hide S w3) ⟨Ad, dn, cd⟩ d) := Lib.hid (HD2.out.below (hide_step (m3.toS HSB.out) fun _ _ => rfl))
        cases res3 with
        | error f =>
          subst h5
          refine ⟨rfl, ?_⟩
          unfold Turn
          rw [HV4.out]
          exact ⟨M3.out.toS HSB.out, rfl⟩
        | ok p =>
          obtain ⟨b, r2⟩ := p
          obtain ⟨⟨vb, rfl, rfl, hbl⟩, t3, h6⟩ := h5
          have HX3 := Lib.hid (HX2.out.mv m3 h6)
          have HNB := Lib.hid (HNN.out _ _ rfl)
          have C4 := Lib.hid (want_any [59] (by decide) w3 h6)
          have HV5 : Hid (RES = match wantP r.en [59] r2 with
            | .error f => .error f
            | .ok r3 => .ok ({ m with names := m.names ++ [b], doms := m.doms ++ [d] }, r3)) := Lib.hid HV4.out
          generalize wantP r.en [59] r2 = res4 at HV5 C4
          clear h6 m3 C3 HX2 HD2 HV4 M2 HNN
          go_wp2_with fail
          refine C4.out.mono ?_
          rintro e w4 ⟨m4, h7⟩
          have M4 := Lib.hid (M3.out.trans m4)
          have HD4 : Hid (IsInts (hide S w4) ⟨Ad, dn, cd⟩ d) := Lib.hid (HD3.out.below (hide_step (m4.toS HSB.out) fun _ _ => rfl))
          cases res4 with
          | error f =>
            subst h7
            refine ⟨rfl, ?_⟩
            unfold Turn
            rw [HV5.out]
            exact ⟨M4.out.toS HSB.out, rfl⟩
          | ok r3 =>
            obtain ⟨rfl, t4, h8⟩ := h7
            have HX4 := Lib.hid (HX3.out.mv m4 h8)
            have HRES : Hid (RES = .ok ({ m with names := m.names ++ [b], doms := m.doms ++ [d] }, r3)) := Lib.hid HV5.out
            clear h8 m4 C4 HX3 HD3 HV5 M3
            go_upto_region 7 with fail
            obtain ⟨-, -, c2, c3, -⟩ := HX4.out.tk.cells
            obtain ⟨MM, hMM, hPL, hMB, hMS⟩ := HX4.out.plc
            rw [hMM] at c2
            go_still_tail 11, (by kernel_rfl)
            change wpList _ _ _ _ _ w4.drew
            have HX5 := Lib.hid (HX4.out.mv (w' := w4.drew) (Mv.drew (Mv.refl _ _)) (HX4.out.tk.keep fun _ _ => rfl))
            have M5 : Hid (Mv S w w4.drew) := Lib.hid (M4.out.toS HSB.out).drew
            have HD5 : Hid (IsInts (hide S w4.drew) ⟨Ad, dn, cd⟩ d) := Lib.hid (HD4.out.below (hide_step (Mv.drew (Mv.refl _ _)) fun _ _ => rfl))
            clear c2 c3 HX4 M4 HD4 hPL hMB hMS
            generalize w4.drew = w5 at *
            obtain ⟨MM', hMM', hPL, hMB, hMS⟩ := HX5.out.plc
            rw [hMM] at hMM'
            cases hMM'
            have HMM := Lib.hid hMM
            have HPL := Lib.hid hPL
            obtain ⟨D, hD, hPD⟩ := hPL
            have hkey : keyOf Tryz.prog 9 (.string (txt b)) = some (keyS b) := by
              have := keyS_mk (s := txt b) (by rw [txt_size]; unfold maxLen; omega)
              rw [this, bl_txt]
            have hsz : size D = r.n.n := by rw [hPD.1.2, HNL.out]
            have hval : plainElem (H := Unit) Tryz.prog 3 (.int .i64 ((r.n.n : Nat) : Int)) = some (numD ((r.n.n : Nat) : Int), []) := plainElem_int Tryz.underlying3 (by simp [Lit.wf, IntKind.min, IntKind.max, IntKind.signed, IntKind.bits]; omega)
            have hP2 := PlcD.put hD hPD HNB.out
            rw [← HNL.out] at hP2
            have HPUT := Lib.hid hP2
            clear hP2
            have hlts : size D < maxLen := by rw [hsz]; unfold maxLen; omega
            have HD0 := Lib.hid hD
            refine wpList_mapUpdate_in _ rfl _ _ _ 82 rfl 9 3 law9 Tryz.underlying82 _ MM (size D) D rfl HD0.out hlts _ _ _ rfl rfl hkey _ _ hval ?_
            intro w6 hown6 ht6
            have hx6 := HX5.out.map (w' := w6) (pn' := m.names ++ [b]) hMM (turned_keep ht6) (turned_size ht6) (turned_os ht6) ⟨_, by rw [HPUT.out.1]; exact hown6, HPUT.out.2⟩
            have M6 := Lib.hid (M5.out.trans hx6.1)
            have HX6 := Lib.hid hx6.2
            have HD6 : Hid (IsInts (hide S w6) ⟨Ad, dn, cd⟩ d) := Lib.hid (HD5.out.below (hide_step hx6.1 fun _ _ => rfl))
            clear hown6 ht6 hx6 HD0 hD hPD HPL hval hkey hlts hsz HX5 M5 HD5 HPUT hMM
            obtain ⟨i0, hi, hz0, hz1, hz2⟩ := info_parts infoStr
            have HI := Lib.hid (And.intro hi (And.intro hz0 (And.intro hz1 hz2)))
            clear hi hz0 hz1 hz2
            obtain ⟨-, -, -, c3, -⟩ := HX6.out.tk.cells
            have HBB := Lib.hid (HX6.out.tk.lt B HSB.out)
            have HON := Lib.hid HX6.out.n
            have hz63 : m.names.length + 1 ≤ maxLen := by have := HNL.out; unfold maxLen; omega
            go_wp2_with (at_builtin; refine wpList_append_old _ rfl _ _ 26 rfl 9 i0 (.string ⟨#[]⟩) 1 16 Tryz.underlying26 HI.out.1 HI.out.2.1 HI.out.2.2.1 HI.out.2.2.2 rfl (by decide) _ _ _ rfl (HON.out.alloc _) ⟨_, 0, none⟩ 1 [.string (txt b)] rfl rfl ?c1 ?c2 hz63 ?c4 ?_)
            try case c1 => intro j u hj; match j, hj with | 0, hj => simp at hj; subst hj; simp [Addr.add]
            case c2 => first | rfl | (intro u hu; simp at hu; subst hu; rfl)
            case c4 => have := HNL.out; omega
            intro v7 w7 hown7 hg7 hn7
            have hb7 : w7.heap[B]? = some (.cells (pcells t4 r) 84 (0, 0)) := (hg7.block B (by simp; exact Nat.lt_succ_of_lt HBB.out) (fun e => by
              obtain ⟨c2, hc2⟩ := HX6.out.nT e.symm
              exact ty_ne hc2 HX6.out.tk.box (by decide) rfl)).trans ((Below.heap_alloc _ _ _ HBB.out).trans HX6.out.tk.box)
            obtain ⟨A7, k7, rfl⟩ := own_shape hown7
            have hG7 := grew_of (e := 9) (u := .slice A7 (m.names.length + 1) k7) (j := 3) HSB.out HX6.out.nS (fun g e => (own_lt hown7 e).2) hg7 hn7
            have hx8 := HX6.out.name (x := ⟨A7, m.names.length + 1, k7⟩) (b := b) hG7 (box_n (x := ⟨A7, m.names.length + 1, k7⟩) hb7) (own_same hown7 fun g hg hl => Below.heap_setCell _ _ _ _ (fun e => by
              obtain ⟨c2, hc2⟩ := own_typed hown7 hg
              exact ty_ne hc2 hb7 (by decide) e))
            have d3 : w7.cell? ⟨B, 3, none⟩ = some (.slice r.n.A r.n.n r.n.c) := by unfold World.cell?; rw [hb7]; rfl
            have f3 : w7.frozen? ⟨B, 3, none⟩ = false := by unfold World.frozen?; rw [hb7]; simp
            have HX8 := Lib.hid hx8
            have M8 := Lib.hid (M6.out.trans hG7.mv)
            have HG7 := Lib.hid hG7
            have HD8 := Lib.hid (HD6.out.below (hide_step hG7.mv hG7.same))
            have HS6 := Lib.hid M6.out.size
            have HS68 := Lib.hid hG7.mv.size
            obtain ⟨n7, hn7e⟩ : ∃ n7, n7 = m.names.length + 1 := ⟨_, rfl⟩
            rw [← hn7e] at HX8 M8 HG7 HD8 HS68
            rw [← hn7e]
            have HN7 := Lib.hid hn7e
            clear hx8 hG7 hown7 hg7 hn7 hb7 HX6 M6 HD6 c3 HON hn7e
            go_upto_region 9 with fail
            obtain ⟨w8, hw8⟩ : ∃ w8, w8 = w7.setCell ⟨B, 3, none⟩ (.slice A7 n7 k7) := ⟨_, rfl⟩
            rw [← hw8] at HX8 M8 HG7 HD8 HS68
            rw [← hw8]
            clear hw8 d3 f3
            obtain ⟨S7, hS7⟩ : ∃ S7, S7 = plus S (.slice A7 n7 k7) := ⟨_, rfl⟩
            have HS7 : Hid (∀ g, g < w6.heap.size → S7 g = S g) := Lib.hid (by rw [hS7]; exact HG7.out.same)
            have HSB7 : Hid (S7 B = true) := Lib.hid ((HS7.out B HBB.out).trans HSB.out)
            rw [← hS7] at HX8 HD8
            clear hS7 HG7
            obtain ⟨xs, hx1, hx2⟩ := HX8.out.d
            have hxl : xs.length = m.doms.length := by have := hx1.1; simpa using this
            have HOX := Lib.hid hx1
            have HX2 := Lib.hid hx2
            have hdl8 : m.doms.length < 256 := by have := HP.out.len; have := HNL.out; omega
            obtain ⟨j0, hj, hy0, hy1, hy2⟩ := info_parts infoSl
            have HJ := Lib.hid (And.intro hj (And.intro hy0 (And.intro hy1 hy2)))
            obtain ⟨-, -, -, -, c4, -⟩ := HX8.out.tk.cells
            have HBB8 := Lib.hid (HX8.out.tk.lt B HSB7.out)
            have hz63d : m.doms.length + 1 ≤ maxLen := by unfold maxLen; omega
            simp only at c4
            clear hj hy0 hy1 hy2 hx1 hx2
            go_wp2_with (at_builtin; refine wpList_append_old _ rfl _ _ 27 rfl 35 j0 (.slice none 0 0) 1 24 Tryz.underlying27 HJ.out.1 HJ.out.2.1 HJ.out.2.2.1 HJ.out.2.2.2 rfl (by decide) _ _ _ rfl (HOX.out.alloc _) ⟨_, 0, none⟩ 1 [.slice Ad dn cd] rfl rfl ?d1 ?d2 hz63d ?d4 ?_)
            try case d1 => intro j u hj; match j, hj with | 0, hj => simp at hj; subst hj; simp [Addr.add]
            case d2 => first | rfl | (intro u hu; simp at hu; subst hu; rfl)
            case d4 => omega
            intro v9 w9 hown9 hg9 hn9
            have hb9 : w9.heap[B]? = some (.cells (pcells t4 { r with n := ⟨A7, n7, k7⟩ }) 84 (0, 0)) := (hg9.block B (by simp; exact Nat.lt_succ_of_lt HBB8.out) (fun e => by
              obtain ⟨c2, hc2⟩ := HX8.out.dT e.symm
              exact ty_ne hc2 HX8.out.tk.box (by decide) rfl)).trans ((Below.heap_alloc _ _ _ HBB8.out).trans HX8.out.tk.box)
            obtain ⟨A9, k9, rfl⟩ := own_shape hown9
            have hG9 := grew_of (e := 35) (u := .slice A9 (m.doms.length + 1) k9) (j := 4) HSB7.out HX8.out.dS (fun g e => (own_lt hown9 e).2) hg9 hn9
            have hx10 := HX8.out.dom (x := ⟨A9, m.doms.length + 1, k9⟩) (y := ⟨Ad, dn, cd⟩) (l := d) (xs := xs) hxl HX2.out HD8.out hG9 (box_d (x := ⟨A9, m.doms.length + 1, k9⟩) hb9) (own_same hown9 fun g hg hl => Below.heap_setCell _ _ _ _ (fun e => by
              obtain ⟨c2, hc2⟩ := own_typed hown9 hg
              exact ty_ne hc2 hb9 (by decide) e))
            have d4 : w9.cell? ⟨B, 4, none⟩ = some (.slice r.d.A r.d.n r.d.c) := by unfold World.cell?; rw [hb9]; rfl
            have f4 : w9.frozen? ⟨B, 4, none⟩ = false := by unfold World.frozen?; rw [hb9]; simp
            have hs6 := HS6.out
            have hFIN : IsP (plus S7 (.slice A9 (m.doms.length + 1) k9)) (w9.setCell ⟨B, 4, none⟩ (.slice A9 (m.doms.length + 1) k9)) B { r with n := ⟨A7, n7, k7⟩, d := ⟨A9, m.doms.length + 1, k9⟩ } t4 r3 { m with names := m.names ++ [b], doms := m.doms ++ [d] } := by
              refine ⟨hx10, HP.out.goal, HP.out.obj, by simp [HP.out.len], by have := HNL.out; simp; omega, HP.out.c1024, fun y hy => ?_, fun y hy => ?_⟩
              · rcases List.mem_append.1 hy with h | h
                · exact HP.out.brief y h
                · rw [List.mem_singleton.1 h]; exact hbl
              · rcases List.mem_append.1 hy with h | h
                · exact HP.out.short y h
                · rw [List.mem_singleton.1 h]; exact hdl
            have HFIN := Lib.hid hFIN
            have M10 := Lib.hid (M8.out.trans2 hG9.mv (fun g hg hS => by rw [HS7.out g (Nat.lt_of_lt_of_le hg hs6)]; exact hS))
            have HSS : Hid (∀ g, g < w.heap.size → plus S7 (.slice A9 (m.doms.length + 1) k9) g = S g) := Lib.hid (fun g hg => (hG9.same g (Nat.lt_of_lt_of_le hg (Nat.le_trans hs6 HS68.out))).trans (HS7.out g (Nat.lt_of_lt_of_le hg hs6)))
            generalize m.doms.length + 1 = n9 at *
            clear hFIN hx10 hG9 hown9 hg9 hn9 hb9 HX8 M8 HD8 c4 HOX
            go_wp2_with fail
            go_end0
            unfold Turn
            rw [HRES.out]
            refine ⟨M10.out, rfl, _, _, _, HSS.out, ?_, HFIN.out⟩
            exact ⟨rfl, rfl⟩
end Go.Proofs.YtgemgmdnnjaghaaGreatDoor

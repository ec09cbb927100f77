/- Contract: constraint. -/
import Derived.Test.YtgemgmdnnjaghaaGreatDoorPconw
namespace Go.Proofs.YtgemgmdnnjaghaaGreatDoor
open Go.RowKit Go.Sort Go.Maps

/-- What follows a constraint's word. -/
def conR (en : Nat) (m : ModL) (y : Tok) (res : PR ConL) : PR ModL :=
  match res with
  | .error f => .error f
  | .ok (c, r2) =>
    match wantP en [41] r2 with
    | .error f => .error f
    | .ok r3 =>
      if rightE c (m.names.length : Nat) ≠ 0 then .error (y.at_, rightE c (m.names.length : Nat)) else
      match wantP en [59] r3 with
      | .error f => .error f
      | .ok r4 => .ok ({ m with cons := m.cons ++ [c] }, r4)
def conW (en : Nat) (m : ModL) (y : Tok) (kd : Int) (sh : Bs) (r0 : List Tok) : PR ModL :=
  match wantP en [40] r0 with
  | .error f => .error f
  | .ok r1 => conR en m y (partsP en m.names 0 sh { noCon with kind := kd } r1)
theorem infoCon : (Tryz.prog.info? 37).map (fun i => (i.zero, i.size, i.bytes)) = some (some (.agg #[.int .i64 0, .slice none 0 0, .slice none 0 0, .slice none 0 0, .slice none 0 0, .slice none 0 0, .int .i64 0, .slice none 0 0]), 8, 160) := by kernel_rfl
theorem cells8 (v : ConV) (kd k : Int) : ∀ u ∈ (v.cells kd k).toList, u.oneCell' = true := by
  intro u hu
  simp only [List.mem_cons, List.not_mem_nil, or_false] at hu
  rcases hu with rfl | rfl | rfl | rfl | rfl | rfl | rfl | rfl <;> rfl
theorem new8_cells (W : World) (v : ConV) (kd k : Int) : ∀ j u, (v.cells kd k).toList[j]? = some u → (W.alloc (.cells (v.cells kd k) 37)).cell? ((⟨W.heap.size, 0, none⟩ : Addr).add j) = some u := by
  intro j u hj
  rw [add_at]
  unfold World.cell?
  rw [heap_alloc_new]
  simpa using hj
theorem lt_of_obj {w : World} {g : Nat} {o : Obj} (h : w.heap[g]? = some o) : g < w.heap.size := (Array.getElem?_eq_some_iff.1 h).1
theorem conP_eq (en : Nat) (m : ModL) (x : Tok) (ts : List Tok) : conP en m x ts = if m.cons.length = 1024 then .error (x.at_, 12) else
  match takeP en 1 ts with
  | .error f => .error f
  | .ok (t, r) => if (foundF (wordP (txt t.text))).2 = false then .error (t.at_, 9) else conW en m t (((foundF (wordP (txt t.text))).1.k : Nat) : Int) (foundF (kindP (((foundF (wordP (txt t.text))).1.k : Nat) : Int))).1.shape r := by
  unfold conP conW conR
  rfl

set_option maxHeartbeats 4000000 in
set_option maxRecDepth 100000 in
theorem constraint_any {S : Nat → Bool} {B : Nat} {r : PRest} {t : Sl} {ts : List Tok} {m : ModL} (x : Tok) (w : World) (h : IsP S w B r t ts m) : Calls Tryz.prog 71 #[.pointer (some ⟨B, 0, none⟩), ptokV x] w (Turn S B r w (conP r.en m x ts)) := by
  have hB : B < w.heap.size := h.px.tk.lt B h.px.tk.hid
  have HSB := Lib.hid h.px.tk.hid
  have HS0 := Lib.hid h.px.tk.lt
  have HP := Lib.hid h
  have hcl : r.c.n = m.cons.length := by obtain ⟨xs, h0, h1, -⟩ := h.px.c; exact own_len h1
  have h1024 := h.c1024
  have HCP := Lib.hid (conP_eq r.en m x ts)
  have b0 := below1 w (tokObj x)
  have HB0 := Lib.hid b0
  have T0 := TBox.new 118 w (.int .i64 (x.kind : Nat)) (.string (txt x.text)) (.int .i64 x.num) (.int .i64 (x.at_ : Nat))
  obtain ⟨-, -, -, -, -, c5, -⟩ := (h.px.tk.step b0).cells
  have CT := Lib.hid (throw_any x 12)
  have C1 := Lib.hid (take_any 1 (by decide) (w.alloc (tokObj x)) (h.px.tk.step b0))
  unfold ptokV at CT ⊢
  unfold After at C1
  generalize conP r.en m x ts = RES at HCP ⊢
  clear h b0
  by_cases hfull : m.cons.length = 1024
  · have hne : r.c.n = 1024 := by omega
    rw [hne] at c5
    have HRES : Hid (RES = .error (x.at_, 12)) := Lib.hid (by rw [HCP.out, if_pos hfull])
    obtain ⟨y0, y1, y2, y3⟩ := T0.cells
    clear hfull hne hcl HCP
    go_enter Tryz.func71, Tryz.ntmps71
    go_wp2_with fail
    refine (CT.out _).mono ?_
    rintro e w3 ⟨rfl, b3⟩
    refine ⟨rfl, ?_⟩
    unfold Turn
    rw [HRES.out]
    exact ⟨(Mv.of_below HB0.out).trans (Mv.of_below b3), rfl⟩
  · have hne : r.c.n < 1024 := by omega
    have hne2 : (((r.c.n : Nat) : Int) == 1024) = false := by simp; omega
    have HV2 : Hid (RES = match takeP r.en 1 ts with
      | .error f => .error f
      | .ok (t, r0) => if (foundF (wordP (txt t.text))).2 = false then .error (t.at_, 9) else conW r.en m t (((foundF (wordP (txt t.text))).1.k : Nat) : Int) (foundF (kindP (((foundF (wordP (txt t.text))).1.k : Nat) : Int))).1.shape r0) := Lib.hid (by rw [HCP.out, if_neg hfull])
    have HTL : Hid (∀ y r0, takeP r.en 1 ts = .ok (y, r0) → y.text.length ≤ 1048576 ∧ r0.length ≤ 1048576) := Lib.hid (fun y r0 e => by
      have h1 := take_len e
      have h2 := HP.out.px.tk.tok.big
      have h3 := HP.out.px.tk.tok.len
      have h4 := tail_le ts
      refine ⟨?_, by rw [h1.1]; omega⟩
      cases ts with
      | nil => rw [h1.2.1]; simp [aheadT]
      | cons z ts => rw [h1.2.1]; exact HP.out.px.tk.tok.brief _ (by simp [aheadT]))
    generalize takeP r.en 1 ts = res1 at HV2 HTL C1
    have HCL := Lib.hid hcl
    clear hfull HCP CT T0 hcl
    go_enter Tryz.func71, Tryz.ntmps71
    go_wp2_with fail
    refine C1.out.mono ?_
    rintro e w1 ⟨m1, h1⟩
    have M1 := Lib.hid ((Mv.of_below (S := one B) HB0.out).trans m1)
    have hs1 : w.heap.size < w1.heap.size := by have := m1.size; simp at this; omega
    clear m1 C1
    cases res1 with
    | error f =>
      subst h1
      refine ⟨rfl, ?_⟩
      unfold Turn
      rw [HV2.out]
      exact ⟨M1.out.toS HSB.out, rfl⟩
    | ok p =>
      obtain ⟨y, r0⟩ := p
      obtain ⟨⟨v, rfl, rfl⟩, t1, h2⟩ := h1
      obtain ⟨hyt, hr0⟩ := HTL.out _ _ rfl
      have HT1 := Lib.hid h2
      have b2 := below1 w1 (tokObj y)
      have T2 := TBox.new 118 w1 (.int .i64 (y.kind : Nat)) (.string (txt y.text)) (.int .i64 y.num) (.int .i64 (y.at_ : Nat))
      obtain ⟨y0, y1, y2, y3⟩ := T2.cells
      have HT2 := Lib.hid T2
      have HB2 := Lib.hid b2
      have M2 : Hid (Mv (one B) w (w1.alloc (tokObj y))) := Lib.hid (M1.out.alloc _)
      have CK := Lib.hid (kind_word (txt y.text) (w1.alloc (tokObj y)) ((HP.out.px.mv M1.out h2).ent.unhide.below b2))
      have HV3 : Hid (RES = if (foundF (wordP (txt y.text))).2 = false then .error (y.at_, 9) else conW r.en m y (((foundF (wordP (txt y.text))).1.k : Nat) : Int) (foundF (kindP (((foundF (wordP (txt y.text))).1.k : Nat) : Int))).1.shape r0) := Lib.hid HV2.out
      unfold ptokV
      have C9 := Lib.hid (throw_any y 9)
      unfold ptokV at C9
      clear h2 b2 T2 HV2 HTL c5
      generalize hfd : foundF (wordP (txt y.text)) = fd at CK HV3
      obtain ⟨en, fb⟩ := fd
      go_wp2_with fail
      refine CK.out.mono ?_
      rintro e w3 ⟨rfl, b3⟩
      have M3 := Lib.hid (M2.out.trans (Mv.of_below b3))
      have HT3 := Lib.hid ((HT1.out.step HB2.out).step b3)
      have TY3 := Lib.hid (HT2.out.below b3)
      have hs3 : Hid (w1.heap.size < w3.heap.size) := Lib.hid (HT2.out.below b3).lt
      clear b3 CK hfd y0 y1 y2 y3
      cases fb with
      | false =>
        have HRES : Hid (RES = .error (y.at_, 9)) := Lib.hid HV3.out
        obtain ⟨y0, y1, y2, y3⟩ := TY3.out.cells
        clear HV3
        go_wp2_with fail
        refine (C9.out _).mono ?_
        rintro e w4 ⟨rfl, b4⟩
        refine ⟨rfl, ?_⟩
        unfold Turn
        rw [HRES.out]
        exact ⟨(M3.out.trans (Mv.of_below b4)).toS HSB.out, rfl⟩
      | true =>
        generalize hkd : ((en.k : Nat) : Int) = kd at HV3 ⊢
        have HV4 : Hid (RES = conW r.en m y kd (foundF (kindP kd)).1.shape r0) := Lib.hid HV3.out
        have HCS4 := Lib.hid (ConSt.new (S := S) (b0 := w.heap.size) w3 kd M3.out.size hB HSB.out HS0.out)
        have b4 := below1 w3 (.cells (v0.cells kd 0) 37)
        have HT4 := Lib.hid (HT3.out.step b4)
        have M4 : Hid (Mv (one B) w (w3.alloc (.cells (v0.cells kd 0) 37))) := Lib.hid (M3.out.alloc _)
        have TY4 := Lib.hid (TY3.out.below b4)
        have C4 := Lib.hid (want_any [40] (by decide) _ HT4.out)
        have e40 : (⟨#[40]⟩ : ByteArray) = txt [40] := rfl
        have e41 : (⟨#[41]⟩ : ByteArray) = txt [41] := rfl
        have e44 : (⟨#[44]⟩ : ByteArray) = txt [44] := rfl
        have e59 : (⟨#[59]⟩ : ByteArray) = txt [59] := rfl
        unfold conW at HV4
        have HWL : Hid (∀ r1, wantP r.en [40] r0 = .ok r1 → r1.length ≤ 1048576) := Lib.hid (fun r1 e => by have := want_one (by decide) e; omega)
        generalize wantP r.en [40] r0 = res4 at C4 HV4 HWL
        clear b4 HV3 hkd C9 HT3 M3 TY3
        go_wp2_with fail
        refine C4.out.mono ?_
        rintro e w5 ⟨m5, h5⟩
        have M5 := Lib.hid (M4.out.trans m5)
        have HC5 := Lib.hid (HCS4.out.mv m5)
        have TY5 : Hid (TBox 118 w5 w1.heap.size (.int .i64 (y.kind : Nat)) (.string (txt y.text)) (.int .i64 y.num) (.int .i64 (y.at_ : Nat))) := Lib.hid ((m5.block _ TY4.out.lt (by simp [one]; omega)).trans TY4.out)
        clear C4 HCS4 TY4 HT4 M4
        cases res4 with
        | error f =>
          subst h5
          refine ⟨rfl, ?_⟩
          unfold Turn
          rw [HV4.out]
          exact ⟨M5.out.toS HSB.out, rfl⟩
        | ok r1 =>
          obtain ⟨rfl, t5, h6⟩ := h5
          have hr1 := HWL.out _ rfl
          have HT5 := Lib.hid h6
          have HV5 : Hid (RES = conR r.en m y (partsP r.en m.names 0 (foundF (kindP kd)).1.shape { noCon with kind := kd } r1)) := Lib.hid HV4.out
          have CS := Lib.hid (shape_kind kd w5 (HP.out.px.mv M5.out h6).ent.unhide)
          have HLT := Lib.hid (shape_letters (kindP kd))
          have hsl := shape_short (kindP kd)
          generalize (foundF (kindP kd)).1.shape = sh at CS HV5 HLT hsl
          clear h6 m5 HV4 HWL
          go_wp2_with fail
          refine CS.out.mono ?_
          rintro e w6 ⟨rfl, b6⟩
          have M6 := Lib.hid (M5.out.trans (Mv.of_below b6))
          have HC6 := Lib.hid (HC5.out.mv (Mv.of_below b6))
          have TY6 := Lib.hid (TY5.out.below b6)
          have HT6 := Lib.hid (HT5.out.step b6)
          have hs6 : Hid (w3.heap.size < w6.heap.size) := Lib.hid (HC6.out.lt _ HC6.out.uG)
          clear b6 CS HC5 TY5 HT5 M5
          have esh : (⟨sh.toArray⟩ : ByteArray) = txt sh := rfl
          rw [esh]
          generalize hG : w3.heap.size = G at *
          generalize hY : w1.heap.size = Y at *
          generalize hPRES : partsP r.en m.names 0 sh { noCon with kind := kd } r1 = PRES at HV5
          have HPRES := Lib.hid hPRES
          clear hPRES hG hY
          go_wp2_with fail
          obtain ⟨it, hit⟩ : ∃ it, it = w6.heap.size := ⟨_, rfl⟩
          have H0 : Hid (InLoop S w.heap.size B r G it Y (txt sh) y w (w6.iter (txt sh) 0) 0 { noCon with kind := kd } r1) := Lib.hid (by
            have hb := below1 w6 (.stringIter (txt sh) 0)
            have hYl := TY6.out.lt
            refine ⟨⟨andG S G, v0, t5, HC6.out.mv (Mv.of_below hb), fun g hg => by simp [andG, hg], ?_, ?_, HT6.out.step hb⟩, by rw [hit]; exact World.iter_heap w6 _ 0, TY6.out.below hb, (M6.out.alloc _).lo (Nat.le_refl _), by simp [noCon]; exact hr1, by simp [noCon]; exact hr1⟩
            · cases e : andG S G it
              · rfl
              · simp only [andG, Bool.or_eq_true, beq_iff_eq] at e
                rcases e with e | e
                · have := HS0.out _ e; have := M6.out.size; omega
                · have := hs6.out; omega
            · cases e : andG S G Y
              · rfl
              · simp only [andG, Bool.or_eq_true, beq_iff_eq] at e
                rcases e with e | e
                · have := HS0.out _ e; omega
                · have := hs3.out; omega)
          have HIT : Hid (w.heap.size ≤ it) := Lib.hid (by rw [hit]; exact M6.out.size)
          rw [← hit]
          clear hit HC6 TY6 HT6 M6 hs6 hs3
          go_loopg [] sh.length (fun gf wx => ∃ (pos : Nat) (c : ConL) (ts' : List Tok), Hid (InLoop S w.heap.size B r G it Y (txt sh) y w wx pos c ts') ∧ pos ≤ sh.length ∧ sh.length ≤ pos + gf ∧ Hid (PRES = partsP r.en m.names pos (sh.drop pos) c ts'))
          case atStart => exact ⟨0, _, _, H0, by omega, by omega, Lib.hid (by rw [← HPRES.out]; rfl)⟩
          case round =>
            obtain ⟨pos, c, ts', HL, hle, hfu, HPR⟩ := hrel
            clear H0 HPRES
            obtain ⟨⟨U, v, t', hC, hSU, hUi, hUY, hT⟩, hIt, hW, hLo, hla, hlb⟩ := HL.out
            by_cases hps : pos < sh.length
            · obtain ⟨g', rfl⟩ : ∃ g', gk = g' + 1 := ⟨gk - 1, by omega⟩
              have hps' : pos < (txt sh).size := by rw [txt_size]; exact hps
              have hlet : (sh[pos]).toNat ∈ letters := HLT.out _ (List.getElem_mem hps)
              have hnx : ∀ ty, (Instr.next (.pointer (some ⟨it, 0, none⟩)) true ty).run Tryz.prog wr = .ok (.tuple #[.bool true, .int .i64 pos, .int .i32 (sh[pos]).toNat]) (wr.iterAt it (txt sh) (pos + 1)) := fun ty => by
                have := Lib.run_next_ascii_at (P := Tryz.prog) wr it (txt sh) pos ty hIt hps' (by rw [txt_get]; exact letters_small hlet)
                rw [txt_get] at this
                exact this
              have HPR2 : Hid (PRES = match (if 0 < pos then wantP r.en [44] ts' else .ok ts') with
                | .error f => .error f
                | .ok r2 =>
                  match partP r.en m.names (sh[pos]).toNat c r2 with
                  | .error f => .error f
                  | .ok (c2, r3) => partsP r.en m.names (pos + 1) (sh.drop (pos + 1)) c2 r3) := Lib.hid (by rw [HPR.out, List.drop_eq_getElem_cons hps]; rfl)
              generalize hlt : (sh[pos]).toNat = lt at hnx hlet HPR2
              have HLET := Lib.hid hlet
              obtain ⟨W, hWd⟩ : ∃ W, W = wr.iterAt it (txt sh) (pos + 1) := ⟨_, rfl⟩
              have HCW : Hid (ConSt w.heap.size B U W G v c) := Lib.hid (by rw [hWd]; exact hC.iter hIt (pos + 1))
              have HITW : Hid (W.heap[it]? = some (.stringIter (txt sh) (pos + 1))) := Lib.hid (by rw [hWd]; exact Lib.iterAt_heap wr it (txt sh) pos (pos + 1) hIt)
              have HYW : Hid (TBox 118 W Y (.int .i64 (y.kind : Nat)) (.string (txt y.text)) (.int .i64 y.num) (.int .i64 (y.at_ : Nat))) := Lib.hid (by rw [hWd]; exact (iter_heap_ne wr (txt sh) (pos + 1) (fun e => by unfold TBox at hW; rw [e, hIt] at hW; cases hW)).trans hW)
              have HTW : Hid (IsTk S W B r t' ts') := Lib.hid (by rw [hWd]; exact hT.keep fun g hg => iter_heap_ne wr (txt sh) (pos + 1) (by have := HS0.out g hg; have := HIT.out; omega))
              have HLW : Hid (Lo w.heap.size B w W) := Lib.hid (by rw [hWd]; exact lo_iter hLo HIT.out (txt sh) (pos + 1))
              have HSU := Lib.hid hSU
              have HUI := Lib.hid hUi
              have HUY := Lib.hid hUY
              have HLA := Lib.hid hla
              have HLB := Lib.hid hlb
              rw [← hWd] at hnx
              clear hC hIt hW hT hLo hSU hUi hUY hWd HPR HL hlt hlet hps' hla hlb
              -- behind the comma
              have STEP : Hid (∀ (W2 : World) (t2 : Sl) (ts2 : List Tok), Mv (one B) W W2 → IsTk S W2 B r t2 ts2 → c.A.length + ts2.length ≤ 1048576 → c.B.length + ts2.length ≤ 1048576 → Calls Tryz.prog 114 #[.pointer (some ⟨B, 0, none⟩), .pointer (some ⟨G, 0, none⟩), .int .i32 (lt : Nat)] W2 fun e w' => match partP r.en m.names lt c ts2 with
                | .error f => e = .panicked (fltV f) ∧ Lo w.heap.size B w w'
                | .ok (c2, r3) => e = .returned (.tuple #[]) ∧ InLoop S w.heap.size B r G it Y (txt sh) y w w' (pos + 1) c2 r3) := Lib.hid (fun W2 t2 ts2 hm ht hA hB2 => by
                have hpk : IsPk S W2 B r t2 ts2 m.names := by
                  obtain ⟨M, eM, hPl, hne, hS⟩ := HP.out.px.plc
                  exact ⟨ht, M, eM, hPl.keep ((HLW.out.trans (hm.lo (by have := HCW.out.hb; exact this))).block M hPl.lt hne), hne, hS⟩
                have hC2 := HCW.out.mv hm
                refine (part_any HLET.out W2 hpk hC2 HS0.out HSU.out (by omega) (by omega)).mono ?_
                rintro e w' ⟨hl, hmu, hr⟩
                have hlo : Lo w.heap.size B w w' := (HLW.out.trans (hm.lo (by have := HCW.out.hb; exact this))).trans hl
                cases hp : partP r.en m.names lt c ts2 with
                | error f => rw [hp] at hr; exact ⟨hr, hlo⟩
                | ok q =>
                  obtain ⟨c2, r3⟩ := q
                  rw [hp] at hr
                  obtain ⟨rfl, U', v', t3, h1, h2, h3, h4⟩ := hr
                  have hitl : it < W2.heap.size := Nat.lt_of_lt_of_le (lt_of_obj HITW.out) hm.size
                  have hYl : Y < W2.heap.size := Nat.lt_of_lt_of_le HYW.out.lt hm.size
                  have hit2 : W2.heap[it]? = some (.stringIter (txt sh) (pos + 1)) := (hm.block it (lt_of_obj HITW.out) (by have := HIT.out; simp [one]; omega)).trans HITW.out
                  have hY2 := (hm.block Y HYW.out.lt (by simp [one]; omega)).trans HYW.out
                  have hlen := part_len hp hA hB2
                  exact ⟨rfl, ⟨U', v', t3, h1, h2, (h3 it hitl).trans HUI.out, (h3 Y hYl).trans HUY.out, h4⟩, (hmu.block it hitl HUI.out).trans hit2, (hmu.block Y hYl HUY.out).trans hY2, hlo, hlen.1, hlen.2⟩)
              by_cases hp0 : pos = 0
              · have hlin : pos < 1 := by omega
                have HPR3 : Hid (PRES = match partP r.en m.names lt c ts' with
                  | .error f => .error f
                  | .ok (c2, r3) => partsP r.en m.names (pos + 1) (sh.drop (pos + 1)) c2 r3) := Lib.hid (by rw [HPR2.out, if_neg (by omega)])
                have CP := Lib.hid (STEP.out W t' ts' (Mv.refl _ _) HTW.out HLA.out HLB.out)
                generalize partP r.en m.names lt c ts' = res7 at CP HPR3
                clear hp0 STEP HPR2 HTW HCW HITW HYW
                go_wp2_with fail
                refine CP.out.mono ?_
                intro e w7 h7
                cases res7 with
                | error f =>
                  obtain ⟨rfl, hlo7⟩ := h7
                  refine ⟨rfl, ?_⟩
                  unfold Turn
                  rw [HV5.out, HPR3.out]
                  exact ⟨hlo7.mv.toS HSB.out, rfl⟩
                | ok q =>
                  obtain ⟨c2, r3⟩ := q
                  obtain ⟨rfl, hL7⟩ := h7
                  have HL7 := Lib.hid hL7
                  have HPR7 : Hid (PRES = partsP r.en m.names (pos + 1) (sh.drop (pos + 1)) c2 r3) := Lib.hid HPR3.out
                  clear hL7 CP HPR3
                  go_wp2_with fail
                  go_roundg g'
                  case measure => omega
                  case rel => exact ⟨pos + 1, c2, r3, HL7, by omega, by omega, HPR7⟩
              · have hlin : 1 ≤ pos := by omega
                have C6 := Lib.hid (want_any [44] (by decide) W HTW.out)
                have HPR3 : Hid (PRES = match wantP r.en [44] ts' with
                  | .error f => .error f
                  | .ok r2 =>
                    match partP r.en m.names lt c r2 with
                    | .error f => .error f
                    | .ok (c2, r3) => partsP r.en m.names (pos + 1) (sh.drop (pos + 1)) c2 r3) := Lib.hid (by rw [HPR2.out, if_pos (by omega)])
                have HWL2 : Hid (∀ r2, wantP r.en [44] ts' = .ok r2 → r2.length ≤ ts'.length) := Lib.hid (fun r2 e => by have := want_one (by decide) e; omega)
                generalize wantP r.en [44] ts' = res6 at C6 HPR3 HWL2
                clear hp0 HPR2 HTW HCW HITW HYW
                go_wp2_with fail
                refine C6.out.mono ?_
                rintro e w6' ⟨m6, h6⟩
                have L6 := Lib.hid (HLW.out.trans (m6.lo (b0 := w.heap.size) HLW.out.size))
                cases res6 with
                | error f =>
                  subst h6
                  refine ⟨rfl, ?_⟩
                  unfold Turn
                  rw [HV5.out, HPR3.out]
                  exact ⟨L6.out.mv.toS HSB.out, rfl⟩
                | ok r2 =>
                  obtain ⟨rfl, t6, h6'⟩ := h6
                  have hr2 := HWL2.out _ rfl
                  have HPR4 : Hid (PRES = match partP r.en m.names lt c r2 with
                    | .error f => .error f
                    | .ok (c2, r3) => partsP r.en m.names (pos + 1) (sh.drop (pos + 1)) c2 r3) := Lib.hid HPR3.out
                  have CP := Lib.hid (STEP.out w6' t6 r2 m6 h6' (by have := HLA.out; omega) (by have := HLB.out; omega))
                  generalize partP r.en m.names lt c r2 = res7 at CP HPR4
                  clear STEP HPR3 m6 h6' C6 HWL2
                  go_wp2_with fail
                  refine CP.out.mono ?_
                  intro e w7 h7
                  cases res7 with
                  | error f =>
                    obtain ⟨rfl, hlo7⟩ := h7
                    refine ⟨rfl, ?_⟩
                    unfold Turn
                    rw [HV5.out, HPR4.out]
                    exact ⟨hlo7.mv.toS HSB.out, rfl⟩
                  | ok q =>
                    obtain ⟨c2, r3⟩ := q
                    obtain ⟨rfl, hL7⟩ := h7
                    have HL7 := Lib.hid hL7
                    have HPR7 : Hid (PRES = partsP r.en m.names (pos + 1) (sh.drop (pos + 1)) c2 r3) := Lib.hid HPR4.out
                    clear hL7 CP HPR4
                    go_wp2_with fail
                    go_roundg g'
                    case measure => omega
                    case rel => exact ⟨pos + 1, c2, r3, HL7, by omega, by omega, HPR7⟩
            · have hpe : pos = sh.length := by omega
              have HPE : Hid (PRES = .ok (c, ts')) := Lib.hid (by rw [HPR.out, hpe, List.drop_length]; rfl)
              have hnx : ∀ ty, (Instr.next (.pointer (some ⟨it, 0, none⟩)) true ty).run Tryz.prog wr = .ok (.tuple #[.bool false]) wr := fun ty => Lib.run_next_end_at (P := Tryz.prog) wr it (txt sh) pos ty hIt (by rw [txt_size]; omega)
              have HV6 : Hid (RES = match wantP r.en [41] ts' with
                | .error f => .error f
                | .ok r3 =>
                  if rightE c (m.names.length : Nat) ≠ 0 then .error (y.at_, rightE c (m.names.length : Nat)) else
                  match wantP r.en [59] r3 with
                  | .error f => .error f
                  | .ok r4 => .ok ({ m with cons := m.cons ++ [c] }, r4)) := Lib.hid (by rw [HV5.out, HPE.out]; rfl)
              have C8 := Lib.hid (want_any [41] (by decide) wr hT)
              have HC8 := Lib.hid hC
              have HLO := Lib.hid hLo
              have HSU := Lib.hid hSU
              have HUY := Lib.hid hUY
              have HW8 := Lib.hid hW
              have HLA := Lib.hid hla
              have HLB := Lib.hid hlb
              generalize wantP r.en [41] ts' = res8 at C8 HV6
              clear hC hIt hW hT hLo hSU hUi hUY HPR HL hla hlb HPE HV5 hpe hps
              go_wp2_with fail
              refine C8.out.mono ?_
              rintro e w8 ⟨m8, h8⟩
              have L8 := Lib.hid (HLO.out.trans (m8.lo (b0 := w.heap.size) HLO.out.size))
              have HC9 := Lib.hid (HC8.out.mv m8)
              have HY9 : Hid (TBox 118 w8 Y (.int .i64 (y.kind : Nat)) (.string (txt y.text)) (.int .i64 y.num) (.int .i64 (y.at_ : Nat))) := Lib.hid ((m8.block Y HW8.out.lt (by simp [one]; omega)).trans HW8.out)
              clear m8 C8 HC8 HW8 HLO
              cases res8 with
              | error f =>
                subst h8
                refine ⟨rfl, ?_⟩
                unfold Turn
                rw [HV6.out]
                exact ⟨L8.out.mv.toS HSB.out, rfl⟩
              | ok r3 =>
                obtain ⟨rfl, t8, h8'⟩ := h8
                have HX8 := Lib.hid (HP.out.px.mv L8.out.mv h8')
                have HCI := Lib.hid (HC9.out.con HS0.out HSU.out (by have := HLA.out; omega) (by have := HLB.out; omega))
                have HV7 : Hid (RES = if rightE c (m.names.length : Nat) ≠ 0 then .error (y.at_, rightE c (m.names.length : Nat)) else
                  match wantP r.en [59] r3 with
                  | .error f => .error f
                  | .ok r4 => .ok ({ m with cons := m.cons ++ [c] }, r4)) := Lib.hid HV6.out
                have hnl : r.n.n = m.names.length := own_len HX8.out.n
                have CR := Lib.hid (right_any v c ((r.n.n : Nat) : Int) w8.drew (HX8.out.ent.unhide.below ((Below.refl _ w8).drew)) (HCI.out.unhide.below ((Below.refl _ w8).drew)))
                rw [← hnl] at HV7
                generalize hre : rightE c ((r.n.n : Nat) : Int) = er at CR HV7
                obtain ⟨-, -, -, c3, -⟩ := HX8.out.tk.cells
                have g0 := HC9.out.cells 0 _ rfl
                have g1 := HC9.out.cells 1 _ rfl
                have g2 := HC9.out.cells 2 _ rfl
                have g3 := HC9.out.cells 3 _ rfl
                have g4 := HC9.out.cells 4 _ rfl
                have g5 := HC9.out.cells 5 _ rfl
                have g6 := HC9.out.cells 6 _ rfl
                have g7 := HC9.out.cells 7 _ rfl
                clear h8' HV6 hnl hre
                go_upto_region 16 with fail
                go_still_tail 7, (by kernel_rfl)
                go_wp2_with fail
                refine CR.out.mono ?_
                rintro e w9 ⟨rfl, b9⟩
                have b89 : Below w8.heap.size w8 w9 := ⟨b9.os, b9.tape, b9.output, b9.size, b9.block⟩
                have L9 := Lib.hid (L8.out.trans (lo_below b89 L8.out.size))
                have HC10 := Lib.hid (HC9.out.mv (Mv.of_below b89))
                have HY10 := Lib.hid (HY9.out.below b89)
                have HX9 := Lib.hid (HX8.out.mv (Mv.of_below b89) (HX8.out.tk.step b89))
                have CTe := Lib.hid (throw_any y er)
                unfold ptokV at CTe
                clear b9 b89 CR c3 g0 g1 g2 g3 g4 g5 g6 g7 L8 HC9 HY9 HX8 HCI
                by_cases her : er = 0
                · have hne3 : (er != 0) = false := by simp [her]
                  have HV8 : Hid (RES = match wantP r.en [59] r3 with
                    | .error f => .error f
                    | .ok r4 => .ok ({ m with cons := m.cons ++ [c] }, r4)) := Lib.hid (by rw [HV7.out, if_neg (by simp [her])])
                  have C10 := Lib.hid (want_any [59] (by decide) w9 HX9.out.tk)
                  generalize wantP r.en [59] r3 = res10 at C10 HV8
                  clear her HV7 CTe HY10
                  go_wp2_with fail
                  refine C10.out.mono ?_
                  rintro e wa ⟨ma, ha⟩
                  have La := Lib.hid (L9.out.trans (ma.lo (b0 := w.heap.size) L9.out.size))
                  cases res10 with
                  | error f =>
                    subst ha
                    refine ⟨rfl, ?_⟩
                    unfold Turn
                    rw [HV8.out]
                    exact ⟨La.out.mv.toS HSB.out, rfl⟩
                  | ok r4 =>
                    obtain ⟨rfl, ta, ha'⟩ := ha
                    have HRES : Hid (RES = .ok ({ m with cons := m.cons ++ [c] }, r4)) := Lib.hid HV8.out
                    have hda : Mv (one B) wa wa.drew := Mv.drew (Mv.refl _ _)
                    have Ld := Lib.hid (La.out.trans (hda.lo (b0 := w.heap.size) La.out.size))
                    have HCd := Lib.hid ((HC10.out.mv ma).mv hda)
                    have HXd := Lib.hid ((HX9.out.mv ma ha').mv hda (ha'.keep fun _ _ => rfl))
                    have HCId := Lib.hid (HCd.out.con HS0.out HSU.out (by have := HLA.out; omega) (by have := HLB.out; omega))
                    clear ma ha' HV8 C10 L9 HC10 HX9 hda La
                    obtain ⟨wd, hwd⟩ : ∃ wd, wd = wa.drew := ⟨_, rfl⟩
                    rw [← hwd] at Ld HCd HXd HCId
                    obtain ⟨-, -, -, -, -, c5, -⟩ := HXd.out.tk.cells
                    have f5 := HXd.out.tk.free 5
                    obtain ⟨xs, hx0, hx1, hx2⟩ := HXd.out.c
                    have HOX := Lib.hid hx1
                    have HX2 := Lib.hid hx2
                    obtain ⟨i0, hi, hz0, hz1, hz2⟩ := info_parts infoCon
                    have HI := Lib.hid (And.intro hi (And.intro hz0 (And.intro hz1 hz2)))
                    have g0 := HCd.out.cells 0 _ rfl
                    have g1 := HCd.out.cells 1 _ rfl
                    have g2 := HCd.out.cells 2 _ rfl
                    have g3 := HCd.out.cells 3 _ rfl
                    have g4 := HCd.out.cells 4 _ rfl
                    have g5 := HCd.out.cells 5 _ rfl
                    have g6 := HCd.out.cells 6 _ rfl
                    have g7 := HCd.out.cells 7 _ rfl
                    have Z3 : Hid (m.cons.length + 1 ≤ maxLen) := Lib.hid (by unfold maxLen; omega)
                    have Z4 : Hid ((m.cons.length + 1) * 160 ≤ 140737488355328) := Lib.hid (by omega)
                    have HBd := Lib.hid (HXd.out.tk.lt B HSB.out)
                    have c5' : ∀ o, (wd.alloc o).cell? ⟨B, 5, none⟩ = some (.slice r.c.A r.c.n r.c.c) := fun o => ((below1 wd o).cell HBd.out).trans c5
                    have HGB : Hid (∀ wb, (wd.alloc (.cells (v.cells c.kind c.K) 37)).grownBy wb (Value.slice r.c.A r.c.n r.c.c).ownBlock → wb.heap[B]? = some (.cells (pcells ta r) 84 (0, 0))) := Lib.hid (fun wb hg => (hg.block B (by simp; exact Nat.lt_succ_of_lt HBd.out) (fun e => by
                      obtain ⟨c2, hc2⟩ := HXd.out.cT e.symm
                      exact ty_ne hc2 HXd.out.tk.box (by decide) rfl)).trans ((Below.heap_alloc _ _ _ HBd.out).trans HXd.out.tk.box))
                    have HCE := Lib.hid (cells8 v c.kind c.K)
                    have HW1 := Lib.hid (new8_cells wd v c.kind c.K)
                    clear hi hz0 hz1 hz2 hx1 hx2
                    go_upto_region 20 with fail
                    subst hwd
                    have c5w : ∀ o, (wa.alloc o).cell? ⟨B, 5, none⟩ = some (.slice r.c.A r.c.n r.c.c) := fun o => c5' o
                    go_region_law (first
                      | (refine step_append_old rfl (.tmp 72) (.tmp 74) 28 rfl 0 37 i0 (.agg #[.int .i64 0, .slice none 0 0, .slice none 0 0, .slice none 0 0, .slice none 0 0, .slice none 0 0, .int .i64 0, .slice none 0 0]) 8 160 Tryz.underlying28 HI.out.1 HI.out.2.1 HI.out.2.2.1 HI.out.2.2.2 rfl (by decide) (.slice r.c.A r.c.n r.c.c) m.cons.length _ rfl (HOX.out.alloc _) ⟨wa.drew.heap.size, 0, none⟩ 1 (v.cells c.kind c.K).toList rfl rfl HW1.out HCE.out Z3.out Z4.out (Nat.zero_le _) ?_; intro vb wb hownb hgb hnb; obtain ⟨Ab, kb, rfl⟩ := own_shape hownb; have HOb := Lib.hid (And.intro hownb (And.intro hgb hnb)); have hbb := HGB.out wb hgb; have cbb : wb.cell? ⟨B, 5, none⟩ = some (.slice r.c.A r.c.n r.c.c) := (by unfold World.cell?; rw [hbb]; rfl); have fbb : wb.frozen? ⟨B, 5, none⟩ = false := (by unfold World.frozen?; rw [hbb]; simp); have HBB := Lib.hid hbb; clear hownb hgb hnb hbb)
                      | fail)
                    all_goals
                      obtain ⟨hownb, hgb, hnb⟩ := HOb.out
                      have hG := grew_of (S := S) (w := wa.drew) (B := B) (e := 37) (u := .slice Ab (m.cons.length + 1) kb) (j := 5) HSB.out HXd.out.cS (fun g e => (own_lt hownb e).2) hgb (fun g e => (hnb g e).imp id (fun h => by simp at h ⊢; omega))
                      have hx := HXd.out.con (x := ⟨Ab, m.cons.length + 1, kb⟩) (y := v) (l := c) (xs := xs) hx0 HX2.out HCId.out hG (box_c (x := ⟨Ab, m.cons.length + 1, kb⟩) HBB.out) (own_same hownb fun g hg hl => Below.heap_setCell _ _ _ _ (fun e => by
                        obtain ⟨c2, hc2⟩ := own_typed hownb hg
                        exact ty_ne hc2 HBB.out (by decide) e))
                      have hml : m.cons.length < 1024 := by have := HCL.out; omega
                      have hF : IsP _ (wb.setCell ⟨B, 5, none⟩ (.slice Ab (m.cons.length + 1) kb)) B { r with c := ⟨Ab, m.cons.length + 1, kb⟩ } ta r4 { m with cons := m.cons ++ [c] } := ⟨hx, HP.out.goal, HP.out.obj, HP.out.len, HP.out.n256, by simp; omega, HP.out.brief, HP.out.short⟩
                      go_end0
                      unfold Turn
                      rw [HRES.out]
                      refine ⟨(Ld.out.mv.toS HSB.out).trans hG.mv, rfl, _, _, _, fun g hg => hG.same g (Nat.lt_of_lt_of_le hg Ld.out.size), ?_, hF⟩
                      exact ⟨rfl, rfl⟩
                · have hne3 : (er != 0) = true := by simpa using her
                  have HRES : Hid (RES = .error (y.at_, er)) := Lib.hid (by rw [HV7.out, if_pos her])
                  obtain ⟨y0, y1, y2, y3⟩ := HY10.out.cells
                  clear her HV7
                  go_wp2_with fail
                  refine (CTe.out _).mono ?_
                  rintro e wa ⟨rfl, ba⟩
                  refine ⟨rfl, ?_⟩
                  unfold Turn
                  rw [HRES.out]
                  exact ⟨(L9.out.trans (lo_below ba L9.out.size)).mv.toS HSB.out, rfl⟩
end Go.Proofs.YtgemgmdnnjaghaaGreatDoor

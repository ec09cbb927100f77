/- Contract: items. -/
import Derived.Test.YtmamgaaeeonfmaaGreatDoorPconx
namespace Go.Proofs.YtmamgaaeeonfmaaGreatDoor
open Go.RowKit Go.Sort Go.Maps

theorem take_nil (en : Nat) : takeP en 1 [] = .error (en, 6) := rfl
theorem want_le {en : Nat} {s : Bs} {ts r : List Tok} (h : wantP en s ts = .ok r) : r.length ≤ ts.length := by rw [(want_len h).1]; exact tail_le ts
theorem take_le {en k : Nat} {ts r : List Tok} {t : Tok} (h : takeP en k ts = .ok (t, r)) : r.length ≤ ts.length := by rw [(take_len h).1]; exact tail_le ts
theorem domP_eats (en : Nat) : Eats (domP en) := by
  intro ts x r h
  unfold domP at h
  split at h
  · cases h
  · next l e r' hr =>
    split at h
    · injection h with h; injection h with h1 h2; subst h2
      unfold rosP at hr
      split at hr
      · split at hr
        · cases hr
        · next xs r2 hx =>
          injection hr with hr; injection hr with h1 h2; subst h2
          exact listP_eats en _ _ (numP_eats en) _ _ _ hx
      · split at hr
        · cases hr
        · next t1 r1 e1 =>
          split at hr
          · cases hr
          · next r2 e2 =>
            split at hr
            · cases hr
            · next t3 r3 e3 =>
              injection hr with hr; injection hr with h1 h2; subst h2
              have := take_le e1; have := want_le e2; have := take_le e3
              omega
    · cases h
theorem varP_eats (en : Nat) (m : ModL) (x : Tok) : Eats (varP en m x) := by
  intro ts y r h
  unfold varP at h
  split at h
  · cases h
  · split at h
    · cases h
    · next d r0 e0 =>
      split at h
      · cases h
      · next r1 e1 =>
        split at h
        · cases h
        · next b r2 e2 =>
          split at h
          · cases h
          · next r3 e3 =>
            injection h with h; injection h with h1 h2; subst h2
            have a := domP_eats en _ _ _ e0
            have b := want_le e1
            have d := want_le e3
            have c : r2.length ≤ r1.length := by
              unfold newNameP at e2
              split at e2
              · cases e2
              · next t r' e4 =>
                split at e2
                · cases e2
                · split at e2
                  · cases e2
                  · injection e2 with e2; injection e2 with h1 h2; subst h2; exact take_le e4
            omega
theorem partP_eats (en : Nat) (names : List Bs) (k : Nat) (c : ConL) : Eats (partP en names k c) := by
  intro ts x r h
  unfold partP at h
  repeat' split at h
  all_goals first
    | (cases h; done)
    | (injection h with h; injection h with h1 h2; subst h2; first
        | exact Nat.le_refl _
        | (next e => exact placeP_eats en names _ _ _ e)
        | (next e => exact listP_eats en _ _ (placeP_eats en names) _ _ _ e)
        | (next e => exact rowP_eats en _ _ _ e)
        | (next e => exact numP_eats en _ _ _ e)
        | (next e => exact listP_eats en _ _ (rowP_eats en) _ _ _ e))
theorem partsP_eats (en : Nat) (names : List Bs) : ∀ (bs : List UInt8) (i : Nat) (c : ConL), Eats (partsP en names i bs c) := by
  intro bs
  induction bs with
  | nil =>
    intro i c ts x r h
    simp only [partsP] at h
    injection h with h; injection h with h1 h2; subst h2; exact Nat.le_refl _
  | cons b bs ih =>
    intro i c ts x r h
    simp only [partsP] at h
    split at h
    · cases h
    · next r1 e1 =>
      have a : r1.length ≤ ts.length := by
        split at e1
        · exact want_le e1
        · injection e1 with e1; subst e1; exact Nat.le_refl _
      split at h
      · cases h
      · next c2 r2 e2 =>
        have b := partP_eats en names _ _ _ _ _ e2
        have d := ih _ _ _ _ _ h
        omega
theorem conP_eats (en : Nat) (m : ModL) (x : Tok) : Eats (conP en m x) := by
  intro ts y r h
  unfold conP at h
  split at h
  · cases h
  · split at h
    · cases h
    · next t r0 e0 =>
      split at h
      · cases h
      · split at h
        · cases h
        · next r1 e1 =>
          split at h
          · cases h
          · next c r2 e2 =>
            split at h
            · cases h
            · next r3 e3 =>
              split at h
              · cases h
              · split at h
                · cases h
                · next r4 e4 =>
                  injection h with h; injection h with h1 h2; subst h2
                  have a := take_le e0; have b := want_le e1; have d := partsP_eats en _ _ _ _ _ _ _ e2
                  have e := want_le e3; have f := want_le e4
                  omega

/-- What all items leave. -/
def AllR (S : Nat → Bool) (B : Nat) (r : PRest) (w : World) (res : Except Flt ModL) (e : Ending) (w' : World) : Prop :=
  Mv S w w' ∧ match res with
  | .ok m' => e = .returned (.tuple #[]) ∧ ∃ S' r' t', (∀ g, g < w.heap.size → S' g = S g) ∧ (r'.en = r.en ∧ r'.kp = r.kp) ∧ IsP S' w' B r' t' [] m'
  | .error f => e = .panicked (fltV f)

set_option maxHeartbeats 4000000 in
set_option maxRecDepth 100000 in
theorem items_any {S : Nat → Bool} {B : Nat} {r : PRest} {t : Sl} {ts : List Tok} {m : ModL} (w : World) (h : IsP S w B r t ts m) (n : Nat) (hn : ts.length ≤ n) : Calls Tryz.prog 14 #[.pointer (some ⟨B, 0, none⟩)] w (AllR S B r w (itemsP r.en n m ts)) := by
  have HP := Lib.hid h
  have HN := Lib.hid hn
  obtain ⟨en, hen⟩ : ∃ en, en = r.en := ⟨_, rfl⟩
  have HEN := Lib.hid hen
  rw [← hen]
  generalize hres : itemsP en n m ts = RES
  have HRES := Lib.hid hres.symm
  clear h hn hen hres
  go_enter Tryz.func14, Tryz.ntmps14
  go_wp2_with fail
  go_loopw [] (fun wr => ∃ (S' : Nat → Bool) (r' : PRest) (t' : Sl) (ts' : List Tok) (m' : ModL) (n' : Nat), Hid (IsP S' wr B r' t' ts' m') ∧ Hid (∀ g, g < w.heap.size → S' g = S g) ∧ Hid (Mv S w wr) ∧ Hid (r'.en = en ∧ r'.kp = r.kp) ∧ Hid (RES = itemsP en n' m' ts') ∧ Hid (ts'.length ≤ n')) (fun wr => lenV (wr.cell? ⟨B, 0, none⟩))
  case atStart => exact ⟨S, r, t, ts, m, n, HP, Lib.hid (fun _ _ => rfl), Lib.hid (Mv.refl _ _), Lib.hid ⟨HEN.out.symm, rfl⟩, HRES, HN⟩
  case round =>
    obtain ⟨S', r', t', ts', m', n', HP1, HA, HM, HE, HR, HL⟩ := hrel
    clear HP HN HRES
    have C1 := Lib.hid (take_any 1 (by decide) wr HP1.out.px.tk)
    have hmeas : Hid (lenV (wr.cell? ⟨B, 0, none⟩) = ts'.length) := Lib.hid (by rw [HP1.out.px.tk.cells.1]; exact HP1.out.px.tk.tok.len)
    have HSB : Hid (S' B = true) := Lib.hid HP1.out.px.tk.hid
    have HERR : Hid (∀ f, takeP en 1 ts' = .error f → RES = .error f) := Lib.hid (fun f e => by
      rw [HR.out]
      cases n' with
      | zero =>
        have h0 : ts' = [] := List.length_eq_zero_iff.1 (Nat.le_zero.1 HL.out)
        subst h0
        have h6 := (take_nil en).symm.trans e
        injection h6 with h6
        rw [← h6]
        rfl
      | succ n' => simp only [itemsP]; rw [e])
    have HOK : Hid (∀ x r0, takeP en 1 ts' = .ok (x, r0) → r0.length + 1 ≤ ts'.length ∧ ∃ n2, n' = n2 + 1 ∧ RES = (if x.text = [118, 97, 114] then
        (match varP en m' x r0 with
        | .error f => .error f
        | .ok (m2, r2) => itemsP en n2 m2 r2)
      else if x.text = [99, 111, 110, 115, 116, 114, 97, 105, 110, 116] then
        (match conP en m' x r0 with
        | .error f => .error f
        | .ok (m2, r2) => itemsP en n2 m2 r2)
      else if x.text = [115, 111, 108, 118, 101] then
        (match goalP en m' r0 with
        | .error f => .error f
        | .ok (m2, r2) => if r2 = [] then .ok m2 else .error ((aheadT en r2).at_, 6))
      else .error (x.at_, 6))) := Lib.hid (fun x r0 e => by
      have h1 := take_one (by decide) e
      refine ⟨h1, ?_⟩
      cases n' with
      | zero => have := HL.out; omega
      | succ n2 => exact ⟨n2, rfl, by rw [HR.out]; simp only [itemsP]; rw [e]; rfl⟩)
    unfold After at C1
    rw [← HE.out.1] at HERR HOK
    generalize takeP r'.en 1 ts' = res1 at C1 HERR HOK
    go_wp2_with fail
    refine C1.out.mono ?_
    rintro e w1 ⟨m1, h1⟩
    have M1 : Hid (Mv S w w1) := Lib.hid (HM.out.trans2 (m1.toS HSB.out) (fun g hg hS => by rw [HA.out g hg]; exact hS))
    cases res1 with
    | error f =>
      subst h1
      refine ⟨rfl, ?_⟩
      unfold AllR
      rw [HERR.out f rfl]
      exact ⟨M1.out, rfl⟩
    | ok p =>
      obtain ⟨x, r0⟩ := p
      obtain ⟨⟨v, rfl, rfl⟩, t1, h2⟩ := h1
      obtain ⟨hr0', n2, hn2, hR2⟩ := HOK.out _ _ rfl
      have hr0 := Lib.hid hr0'
      have HL2 : Hid (r0.length ≤ n2) := Lib.hid (by have := HL.out; omega)
      rw [HE.out.1] at hR2
      have HR2 := Lib.hid hR2
      have b2 := below1 w1 (tokObj x)
      have T4 := TBox.new 63 w1 (.int .i64 (x.kind : Nat)) (.string (txt x.text)) (.int .i64 x.num) (.int .i64 (x.at_ : Nat))
      obtain ⟨y0, y1, y2, y3⟩ := T4.cells
      have HP2 : Hid (IsP S' (w1.alloc (tokObj x)) B r' t1 r0 m') := Lib.hid ⟨(HP1.out.px.mv m1 h2).mv (Mv.of_below b2) (h2.step b2), HP1.out.goal, HP1.out.obj, HP1.out.len, HP1.out.n256, HP1.out.c1024, HP1.out.brief, HP1.out.short⟩
      have M2 : Hid (Mv S w (w1.alloc (tokObj x))) := Lib.hid (M1.out.alloc _)
      have ht := txt_list x.text
      have ht1 : (⟨#[118, 97, 114]⟩ : ByteArray).toList = [118, 97, 114] := txt_list [118, 97, 114]
      have ht2 : (⟨#[99, 111, 110, 115, 116, 114, 97, 105, 110, 116]⟩ : ByteArray).toList = [99, 111, 110, 115, 116, 114, 97, 105, 110, 116] := txt_list [99, 111, 110, 115, 116, 114, 97, 105, 110, 116]
      have ht3 : (⟨#[115, 111, 108, 118, 101]⟩ : ByteArray).toList = [115, 111, 108, 118, 101] := txt_list [115, 111, 108, 118, 101]
      have CT := Lib.hid (throw_any x 6)
      unfold ptokV at CT ⊢
      clear m1 h2 hR2 hr0' b2 T4 HERR HOK HM HP1 M1 HR HL hn2 C1
      by_cases k1 : x.text = [118, 97, 114]
      · have q1 : (x.text == [118, 97, 114]) = true := by simpa using k1
        have C3 := Lib.hid (newVariable_any x (w1.alloc (tokObj x)) HP2.out)
        have HI : Hid (RES = match varP r'.en m' x r0 with
          | .error f => .error f
          | .ok (m2, r2) => itemsP en n2 m2 r2) := Lib.hid (by rw [HR2.out, if_pos k1, HE.out.1])
        have HLN : Hid (∀ m2 r2, varP r'.en m' x r0 = .ok (m2, r2) → r2.length ≤ r0.length) := Lib.hid (fun m2 r2 e => varP_eats r'.en m' x _ _ _ e)
        unfold Turn at C3
        unfold ptokV at C3
        generalize varP r'.en m' x r0 = res3 at C3 HI HLN
        clear k1 HR2
        go_wp2_with fail
        refine C3.out.mono ?_
        rintro e w3 ⟨m3, h3⟩
        have M3 : Hid (Mv S w w3) := Lib.hid (M2.out.trans2 m3 (fun g hg hS => by rw [HA.out g hg]; exact hS))
        cases res3 with
        | error f =>
          subst h3
          refine ⟨rfl, ?_⟩
          unfold AllR
          rw [HI.out]
          exact ⟨M3.out, rfl⟩
        | ok q =>
          obtain ⟨m2, r2⟩ := q
          obtain ⟨rfl, S2, r3, t3, hag, hen, hp3⟩ := h3
          have hl2 := HLN.out _ _ rfl
          have HI2 : Hid (RES = itemsP en n2 m2 r2) := Lib.hid HI.out
          have HP3 := Lib.hid hp3
          have HAG : Hid (∀ g, g < w.heap.size → S2 g = S g) := Lib.hid (fun g hg => (hag g (Nat.lt_of_lt_of_le hg M2.out.size)).trans (HA.out g hg))
          have HE3 : Hid (r3.en = en ∧ r3.kp = r.kp) := Lib.hid ⟨hen.1.trans HE.out.1, hen.2.trans HE.out.2⟩
          have hm3 : Hid (lenV (w3.cell? ⟨B, 0, none⟩) = r2.length) := Lib.hid (by rw [hp3.px.tk.cells.1]; exact hp3.px.tk.tok.len)
          clear m3 C3 HI HLN hag hen hp3 HA HP2 M2
          go_wp2_with fail
          go_roundw
          case rel => exact ⟨S2, r3, t3, r2, m2, n2, HP3, HAG, M3, HE3, HI2, Lib.hid (by have := HL2.out; omega)⟩
          case measure => rw [hm3.out, hmeas.out]; have := hr0.out; omega
      · have q1 : (x.text == [118, 97, 114]) = false := by simpa using k1
        by_cases k2 : x.text = [99, 111, 110, 115, 116, 114, 97, 105, 110, 116]
        · have q2 : (x.text == [99, 111, 110, 115, 116, 114, 97, 105, 110, 116]) = true := by simpa using k2
          have C3 := Lib.hid (constraint_any x (w1.alloc (tokObj x)) HP2.out)
          have HI : Hid (RES = match conP r'.en m' x r0 with
            | .error f => .error f
            | .ok (m2, r2) => itemsP en n2 m2 r2) := Lib.hid (by rw [HR2.out, if_neg k1, if_pos k2, HE.out.1])
          have HLN : Hid (∀ m2 r2, conP r'.en m' x r0 = .ok (m2, r2) → r2.length ≤ r0.length) := Lib.hid (fun m2 r2 e => conP_eats r'.en m' x _ _ _ e)
          unfold Turn at C3
          unfold ptokV at C3
          generalize conP r'.en m' x r0 = res3 at C3 HI HLN
          clear k1 k2 HR2
          go_wp2_with fail
          refine C3.out.mono ?_
          rintro e w3 ⟨m3, h3⟩
          have M3 : Hid (Mv S w w3) := Lib.hid (M2.out.trans2 m3 (fun g hg hS => by rw [HA.out g hg]; exact hS))
          cases res3 with
          | error f =>
            subst h3
            refine ⟨rfl, ?_⟩
            unfold AllR
            rw [HI.out]
            exact ⟨M3.out, rfl⟩
          | ok q =>
            obtain ⟨m2, r2⟩ := q
            obtain ⟨rfl, S2, r3, t3, hag, hen, hp3⟩ := h3
            have hl2 := HLN.out _ _ rfl
            have HI2 : Hid (RES = itemsP en n2 m2 r2) := Lib.hid HI.out
            have HP3 := Lib.hid hp3
            have HAG : Hid (∀ g, g < w.heap.size → S2 g = S g) := Lib.hid (fun g hg => (hag g (Nat.lt_of_lt_of_le hg M2.out.size)).trans (HA.out g hg))
            have HE3 : Hid (r3.en = en ∧ r3.kp = r.kp) := Lib.hid ⟨hen.1.trans HE.out.1, hen.2.trans HE.out.2⟩
            have hm3 : Hid (lenV (w3.cell? ⟨B, 0, none⟩) = r2.length) := Lib.hid (by rw [hp3.px.tk.cells.1]; exact hp3.px.tk.tok.len)
            clear m3 C3 HI HLN hag hen hp3 HA HP2 M2
            go_wp2_with fail
            go_roundw
            case rel => exact ⟨S2, r3, t3, r2, m2, n2, HP3, HAG, M3, HE3, HI2, Lib.hid (by have := HL2.out; omega)⟩
            case measure => rw [hm3.out, hmeas.out]; have := hr0.out; omega
        · have q2 : (x.text == [99, 111, 110, 115, 116, 114, 97, 105, 110, 116]) = false := by simpa using k2
          by_cases k3 : x.text = [115, 111, 108, 118, 101]
          · have q3 : (x.text == [115, 111, 108, 118, 101]) = true := by simpa using k3
            have C3 := Lib.hid (goal_any (w1.alloc (tokObj x)) HP2.out)
            have HI : Hid (RES = match goalP r'.en m' r0 with
              | .error f => .error f
              | .ok (m2, r2) => if r2 = [] then .ok m2 else .error ((aheadT en r2).at_, 6)) := Lib.hid (by rw [HR2.out, if_neg k1, if_neg k2, if_pos k3, HE.out.1])
            unfold Turn at C3
            generalize goalP r'.en m' r0 = res3 at C3 HI
            clear k1 k2 k3 HR2
            go_wp2_with fail
            refine C3.out.mono ?_
            rintro e w3 ⟨m3, h3⟩
            have M3 : Hid (Mv S w w3) := Lib.hid (M2.out.trans2 m3 (fun g hg hS => by rw [HA.out g hg]; exact hS))
            cases res3 with
            | error f =>
              subst h3
              refine ⟨rfl, ?_⟩
              unfold AllR
              rw [HI.out]
              exact ⟨M3.out, rfl⟩
            | ok q =>
              obtain ⟨m2, r2⟩ := q
              obtain ⟨rfl, S2, r3, t3, hag, hen, hp3⟩ := h3
              have HI2 : Hid (RES = if r2 = [] then .ok m2 else .error ((aheadT en r2).at_, 6)) := Lib.hid HI.out
              have HP3 := Lib.hid hp3
              have HAG : Hid (∀ g, g < w.heap.size → S2 g = S g) := Lib.hid (fun g hg => (hag g (Nat.lt_of_lt_of_le hg M2.out.size)).trans (HA.out g hg))
              have HE3 : Hid (r3.en = en ∧ r3.kp = r.kp) := Lib.hid ⟨hen.1.trans HE.out.1, hen.2.trans HE.out.2⟩
              have C4 := Lib.hid (nothing_any w3 hp3.px.tk)
              clear m3 C3 HI hag hen hp3 HA HP2 M2
              go_wp2_with fail
              refine C4.out.mono ?_
              rintro e w4 ⟨b4, h4⟩
              by_cases hr2 : r2 = []
              · rw [if_pos hr2] at h4
                subst h4
                have HI3 : Hid (RES = .ok m2) := Lib.hid (by rw [HI2.out, if_pos hr2])
                have HP4 : Hid (IsP S2 w4 B r3 t3 [] m2) := Lib.hid ⟨by rw [← hr2]; exact HP3.out.px.mv (Mv.of_below b4) (HP3.out.px.tk.step b4), HP3.out.goal, HP3.out.obj, HP3.out.len, HP3.out.n256, HP3.out.c1024, HP3.out.brief, HP3.out.short⟩
                have M4 := Lib.hid (M3.out.trans (Mv.of_below b4))
                clear b4 hr2 HI2
                go_wp2_with fail
                first | go_end0 | refine bodyPost_ret (results_none rfl _ _ _) rfl ?_
                unfold AllR
                rw [HI3.out]
                exact ⟨M4.out, rfl, S2, r3, t3, HAG.out, ⟨HE3.out.1.trans HEN.out, HE3.out.2⟩, HP4.out⟩
              · rw [if_neg hr2] at h4
                subst h4
                have HI3 : Hid (RES = .error ((aheadT en r2).at_, 6)) := Lib.hid (by rw [HI2.out, if_neg hr2])
                refine ⟨rfl, ?_⟩
                unfold AllR
                rw [HI3.out, HE3.out.1]
                exact ⟨M3.out.trans (Mv.of_below b4), rfl⟩
          · have q3 : (x.text == [115, 111, 108, 118, 101]) = false := by simpa using k3
            have HI3 : Hid (RES = .error (x.at_, 6)) := Lib.hid (by rw [HR2.out, if_neg k1, if_neg k2, if_neg k3])
            clear k1 k2 k3 HR2
            go_wp2_with fail
            refine (CT.out _).mono ?_
            rintro e w3 ⟨rfl, b3⟩
            refine ⟨rfl, ?_⟩
            unfold AllR
            rw [HI3.out]
            exact ⟨M2.out.trans (Mv.of_below b3), rfl⟩
end Go.Proofs.YtmamgaaeeonfmaaGreatDoor

/- Contract: items. -/
import Derived.Test.YtgemgmdnnjaghaaGreatDoorPconx
import Derived.Test.YtgemgmdnnjaghaaGreatDoorMequal
import Derived.Defers
import Derived.Recover
namespace Go.Proofs.YtgemgmdnnjaghaaGreatDoor
open Go.RowKit Go.Sort Go.Maps

theorem take_nil (en : Nat) : takeP en 1 [] = .error (en, 6) := rfl
theorem want_le {en : Nat} {s : Bs} {ts r : List Tok} (h : wantP en s ts = .ok r) : r.length ≤ ts.length := by rw [(want_len h).1]; exact tail_le ts
theorem take_le {en k : Nat} {ts r : List Tok} {t : Tok} (h : takeP en k ts = .ok (t, r)) : r.length ≤ ts.length := by rw [(take_len h).1]; exact tail_le ts
theorem domP_eats (en : Nat) : Eats (domP en) := by
  intro ts x r h
  unfold domP at h
  split at h
  · cases h
  · next l e r' hr =>
    split at h
    · injection h with h; injection h with h1 h2; subst h2
      unfold rosP at hr
      split at hr
      · split at hr
        · cases hr
        · next xs r2 hx =>
          injection hr with hr; injection hr with h1 h2; subst h2
          exact listP_eats en _ _ (numP_eats en) _ _ _ hx
      · split at hr
        · cases hr
        · next t1 r1 e1 =>
          split at hr
          · cases hr
          · next r2 e2 =>
            split at hr
            · cases hr
            · next t3 r3 e3 =>
              injection hr with hr; injection hr with h1 h2; subst h2
              have := take_le e1; have := want_le e2; have := take_le e3
              omega
    · cases h
theorem varP_eats (en : Nat) (m : ModL) (x : Tok) : Eats (varP en m x) := by
  intro ts y r h
  unfold varP at h
  split at h
  · cases h
  · split at h
    · cases h
    · next d r0 e0 =>
      split at h
      · cases h
      · next r1 e1 =>
        split at h
        · cases h
        · next b r2 e2 =>
          split at h
          · cases h
          · next r3 e3 =>
            injection h with h; injection h with h1 h2; subst h2
            have a := domP_eats en _ _ _ e0
            have b := want_le e1
            have d := want_le e3
            have c : r2.length ≤ r1.length := by
              unfold newNameP at e2
              split at e2
              · cases e2
              · next t r' e4 =>
                split at e2
                · cases e2
                · split at e2
                  · cases e2
                  · injection e2 with e2; injection e2 with h1 h2; subst h2; exact take_le e4
            omega
theorem partP_eats (en : Nat) (names : List Bs) (k : Nat) (c : ConL) : Eats (partP en names k c) := by
  intro ts x r h
  unfold partP at h
  repeat' split at h
  all_goals first
    | (cases h; done)
    | (injection h with h; injection h with h1 h2; subst h2; first
        | exact Nat.le_refl _
        | (next e => exact placeP_eats en names _ _ _ e)
        | (next e => exact listP_eats en _ _ (placeP_eats en names) _ _ _ e)
        | (next e => exact rowP_eats en _ _ _ e)
        | (next e => exact numP_eats en _ _ _ e)
        | (next e => exact listP_eats en _ _ (rowP_eats en) _ _ _ e))
theorem partsP_eats (en : Nat) (names : List Bs) : ∀ (bs : List UInt8) (i : Nat) (c : ConL), Eats (partsP en names i bs c) := by
  intro bs
  induction bs with
  | nil =>
    intro i c ts x r h
    simp only [partsP] at h
    injection h with h; injection h with h1 h2; subst h2; exact Nat.le_refl _
  | cons b bs ih =>
    intro i c ts x r h
    simp only [partsP] at h
    split at h
    · cases h
    · next r1 e1 =>
      have a : r1.length ≤ ts.length := by
        split at e1
        · exact want_le e1
        · injection e1 with e1; subst e1; exact Nat.le_refl _
      split at h
      · cases h
      · next c2 r2 e2 =>
        have b := partP_eats en names _ _ _ _ _ e2
        have d := ih _ _ _ _ _ h
        omega
theorem conP_eats (en : Nat) (m : ModL) (x : Tok) : Eats (conP en m x) := by
  intro ts y r h
  unfold conP at h
  split at h
  · cases h
  · split at h
    · cases h
    · next t r0 e0 =>
      split at h
      · cases h
      · split at h
        · cases h
        · next r1 e1 =>
          split at h
          · cases h
          · next c r2 e2 =>
            split at h
            · cases h
            · next r3 e3 =>
              split at h
              · cases h
              · split at h
                · cases h
                · next r4 e4 =>
                  injection h with h; injection h with h1 h2; subst h2
                  have a := take_le e0; have b := want_le e1; have d := partsP_eats en _ _ _ _ _ _ _ e2
                  have e := want_le e3; have f := want_le e4
                  omega

/-- What all items leave. -/
def AllR (S : Nat → Bool) (B : Nat) (r : PRest) (w : World) (res : Except Flt ModL) (e : Ending) (w' : World) : Prop :=
  Mv S w w' ∧ match res with
  | .ok m' => e = .returned (.tuple #[]) ∧ ∃ S' r' t', (∀ g, g < w.heap.size → S' g = S g) ∧ (r'.en = r.en ∧ r'.kp = r.kp) ∧ IsP S' w' B r' t' [] m'
  | .error f => e = .panicked (fltV f)

set_option maxHeartbeats 4000000 in
set_option maxRecDepth 100000 in
theorem items_any {S : Nat → Bool} {B : Nat} {r : PRest} {t : Sl} {ts : List Tok} {m : ModL} (w : World) (h : IsP S w B r t ts m) (n : Nat) (hn : ts.length ≤ n) : Calls Tryz.prog 39 #[.pointer (some ⟨B, 0, none⟩)] w (AllR S B r w (itemsP r.en n m ts)) := by
  have HP := Lib.hid h
  have HN := Lib.hid hn
  obtain ⟨en, hen⟩ : ∃ en, en = r.en := ⟨_, rfl⟩
  have HEN := Lib.hid hen
  rw [← hen]
  generalize hres : itemsP en n m ts = RES
  have HRES := Lib.hid hres.symm
  clear h hn hen hres
  go_enter Tryz.func39, Tryz.ntmps39
  go_wp2_with fail
  go_loopw [] (fun wr => ∃ (S' : Nat → Bool) (r' : PRest) (t' : Sl) (ts' : List Tok) (m' : ModL) (n' : Nat), Hid (IsP S' wr B r' t' ts' m') ∧ Hid (∀ g, g < w.heap.size → S' g = S g) ∧ Hid (Mv S w wr) ∧ Hid (r'.en = en ∧ r'.kp = r.kp) ∧ Hid (RES = itemsP en n' m' ts') ∧ Hid (ts'.length ≤ n')) (fun wr => lenV (wr.cell? ⟨B, 0, none⟩))
  case atStart => exact ⟨S, r, t, ts, m, n, HP, Lib.hid (fun _ _ => rfl), Lib.hid (Mv.refl _ _), Lib.hid ⟨HEN.out.symm, rfl⟩, HRES, HN⟩
  case round =>
    obtain ⟨S', r', t', ts', m', n', HP1, HA, HM, HE, HR, HL⟩ := hrel
    clear HP HN HRES
    have C1 := Lib.hid (take_any 1 (by decide) wr HP1.out.px.tk)
    have hmeas : Hid (lenV (wr.cell? ⟨B, 0, none⟩) = ts'.length) := Lib.hid (by rw [HP1.out.px.tk.cells.1]; exact HP1.out.px.tk.tok.len)
    have HSB : Hid (S' B = true) := Lib.hid HP1.out.px.tk.hid
    have HERR : Hid (∀ f, takeP en 1 ts' = .error f → RES = .error f) := Lib.hid (fun f e => by
      rw [HR.out]
      cases n' with
      | zero =>
        have h0 : ts' = [] := List.length_eq_zero_iff.1 (Nat.le_zero.1 HL.out)
        subst h0
        have h6 := (take_nil en).symm.trans e
        injection h6 with h6
        rw [← h6]
        rfl
      | succ n' => simp only [itemsP]; rw [e])
    have HOK : Hid (∀ x r0, takeP en 1 ts' = .ok (x, r0) → r0.length + 1 ≤ ts'.length ∧ ∃ n2, n' = n2 + 1 ∧ RES = (if x.text = [118, 97, 114] then
        (match varP en m' x r0 with
        | .error f => .error f
        | .ok (m2, r2) => itemsP en n2 m2 r2)
      else if x.text = [99, 111, 110, 115, 116, 114, 97, 105, 110, 116] then
        (match conP en m' x r0 with
        | .error f => .error f
        | .ok (m2, r2) => itemsP en n2 m2 r2)
      else if x.text = [115, 111, 108, 118, 101] then
        (match goalP en m' r0 with
        | .error f => .error f
        | .ok (m2, r2) => if r2 = [] then .ok m2 else .error ((aheadT en r2).at_, 6))
      else .error (x.at_, 6))) := Lib.hid (fun x r0 e => by
      have h1 := take_one (by decide) e
      refine ⟨h1, ?_⟩
      cases n' with
      | zero => have := HL.out; omega
      | succ n2 => exact ⟨n2, rfl, by rw [HR.out]; simp only [itemsP]; rw [e]; rfl⟩)
    unfold After at C1
    rw [← HE.out.1] at HERR HOK
    generalize takeP r'.en 1 ts' = res1 at C1 HERR HOK
    go_wp2_with fail
    refine C1.out.mono ?_
    rintro e w1 ⟨m1, h1⟩
    have M1 : Hid (Mv S w w1) := Lib.hid (HM.out.trans2 (m1.toS HSB.out) (fun g hg hS => by rw [HA.out g hg]; exact hS))
    cases res1 with
    | error f =>
      subst h1
      refine ⟨rfl, ?_⟩
      unfold AllR
      rw [HERR.out f rfl]
      exact ⟨M1.out, rfl⟩
    | ok p =>
      obtain ⟨x, r0⟩ := p
      obtain ⟨⟨v, rfl, rfl⟩, t1, h2⟩ := h1
      obtain ⟨hr0', n2, hn2, hR2⟩ := HOK.out _ _ rfl
      have hr0 := Lib.hid hr0'
      have HL2 : Hid (r0.length ≤ n2) := Lib.hid (by have := HL.out; omega)
      rw [HE.out.1] at hR2
      have HR2 := Lib.hid hR2
      have b2 := below1 w1 (tokObj x)
      have T4 := TBox.new 118 w1 (.int .i64 (x.kind : Nat)) (.string (txt x.text)) (.int .i64 x.num) (.int .i64 (x.at_ : Nat))
      obtain ⟨y0, y1, y2, y3⟩ := T4.cells
      have HP2 : Hid (IsP S' (w1.alloc (tokObj x)) B r' t1 r0 m') := Lib.hid ⟨(HP1.out.px.mv m1 h2).mv (Mv.of_below b2) (h2.step b2), HP1.out.goal, HP1.out.obj, HP1.out.len, HP1.out.n256, HP1.out.c1024, HP1.out.brief, HP1.out.short⟩
      have M2 : Hid (Mv S w (w1.alloc (tokObj x))) := Lib.hid (M1.out.alloc _)
      have ht := txt_list x.text
      have ht1 : (⟨#[118, 97, 114]⟩ : ByteArray).toList = [118, 97, 114] := txt_list [118, 97, 114]
      have ht2 : (⟨#[99, 111, 110, 115, 116, 114, 97, 105, 110, 116]⟩ : ByteArray).toList = [99, 111, 110, 115, 116, 114, 97, 105, 110, 116] := txt_list [99, 111, 110, 115, 116, 114, 97, 105, 110, 116]
      have ht3 : (⟨#[115, 111, 108, 118, 101]⟩ : ByteArray).toList = [115, 111, 108, 118, 101] := txt_list [115, 111, 108, 118, 101]
      have CT := Lib.hid (throw_any x 6)
      unfold ptokV at CT ⊢
      clear m1 h2 hR2 hr0' b2 T4 HERR HOK HM HP1 M1 HR HL hn2 C1
      by_cases k1 : x.text = [118, 97, 114]
      · have q1 : (x.text == [118, 97, 114]) = true := by simpa using k1
        have C3 := Lib.hid (newVariable_any x (w1.alloc (tokObj x)) HP2.out)
        have HI : Hid (RES = match varP r'.en m' x r0 with
          | .error f => .error f
          | .ok (m2, r2) => itemsP en n2 m2 r2) := Lib.hid (by rw [HR2.out, if_pos k1, HE.out.1])
        have HLN : Hid (∀ m2 r2, varP r'.en m' x r0 = .ok (m2, r2) → r2.length ≤ r0.length) := Lib.hid (fun m2 r2 e => varP_eats r'.en m' x _ _ _ e)
        unfold Turn at C3
        unfold ptokV at C3
        generalize varP r'.en m' x r0 = res3 at C3 HI HLN
        clear k1 HR2
        go_wp2_with fail
        refine C3.out.mono ?_
        rintro e w3 ⟨m3, h3⟩
        have M3 : Hid (Mv S w w3) := Lib.hid (M2.out.trans2 m3 (fun g hg hS => by rw [HA.out g hg]; exact hS))
        cases res3 with
        | error f =>
          subst h3
          refine ⟨rfl, ?_⟩
          unfold AllR
          rw [HI.out]
          exact ⟨M3.out, rfl⟩
        | ok q =>
          obtain ⟨m2, r2⟩ := q
          obtain ⟨rfl, S2, r3, t3, hag, hen, hp3⟩ := h3
          have hl2 := HLN.out _ _ rfl
          have HI2 : Hid (RES = itemsP en n2 m2 r2) := Lib.hid HI.out
          have HP3 := Lib.hid hp3
          have HAG : Hid (∀ g, g < w.heap.size → S2 g = S g) := Lib.hid (fun g hg => (hag g (Nat.lt_of_lt_of_le hg M2.out.size)).trans (HA.out g hg))
          have HE3 : Hid (r3.en = en ∧ r3.kp = r.kp) := Lib.hid ⟨hen.1.trans HE.out.1, hen.2.trans HE.out.2⟩
          have hm3 : Hid (lenV (w3.cell? ⟨B, 0, none⟩) = r2.length) := Lib.hid (by rw [hp3.px.tk.cells.1]; exact hp3.px.tk.tok.len)
          clear m3 C3 HI HLN hag hen hp3 HA HP2 M2
          go_wp2_with fail
          go_roundw
          case rel => exact ⟨S2, r3, t3, r2, m2, n2, HP3, HAG, M3, HE3, HI2, Lib.hid (by have := HL2.out; omega)⟩
          case measure => rw [hm3.out, hmeas.out]; have := hr0.out; omega
      · have q1 : (x.text == [118, 97, 114]) = false := by simpa using k1
        by_cases k2 : x.text = [99, 111, 110, 115, 116, 114, 97, 105, 110, 116]
        · have q2 : (x.text == [99, 111, 110, 115, 116, 114, 97, 105, 110, 116]) = true := by simpa using k2
          have C3 := Lib.hid (constraint_any x (w1.alloc (tokObj x)) HP2.out)
          have HI : Hid (RES = match conP r'.en m' x r0 with
            | .error f => .error f
            | .ok (m2, r2) => itemsP en n2 m2 r2) := Lib.hid (by rw [HR2.out, if_neg k1, if_pos k2, HE.out.1])
          have HLN : Hid (∀ m2 r2, conP r'.en m' x r0 = .ok (m2, r2) → r2.length ≤ r0.length) := Lib.hid (fun m2 r2 e => conP_eats r'.en m' x _ _ _ e)
          unfold Turn at C3
          unfold ptokV at C3
          generalize conP r'.en m' x r0 = res3 at C3 HI HLN
          clear k1 k2 HR2
          go_wp2_with fail
          refine C3.out.mono ?_
          rintro e w3 ⟨m3, h3⟩
          have M3 : Hid (Mv S w w3) := Lib.hid (M2.out.trans2 m3 (fun g hg hS => by rw [HA.out g hg]; exact hS))
          cases res3 with
          | error f =>
            subst h3
            refine ⟨rfl, ?_⟩
            unfold AllR
            rw [HI.out]
            exact ⟨M3.out, rfl⟩
          | ok q =>
            obtain ⟨m2, r2⟩ := q
            obtain ⟨rfl, S2, r3, t3, hag, hen, hp3⟩ := h3
            have hl2 := HLN.out _ _ rfl
            have HI2 : Hid (RES = itemsP en n2 m2 r2) := Lib.hid HI.out
            have HP3 := Lib.hid hp3
            have HAG : Hid (∀ g, g < w.heap.size → S2 g = S g) := Lib.hid (fun g hg => (hag g (Nat.lt_of_lt_of_le hg M2.out.size)).trans (HA.out g hg))
            have HE3 : Hid (r3.en = en ∧ r3.kp = r.kp) := Lib.hid ⟨hen.1.trans HE.out.1, hen.2.trans HE.out.2⟩
            have hm3 : Hid (lenV (w3.cell? ⟨B, 0, none⟩) = r2.length) := Lib.hid (by rw [hp3.px.tk.cells.1]; exact hp3.px.tk.tok.len)
            clear m3 C3 HI HLN hag hen hp3 HA HP2 M2
            go_wp2_with fail
            go_roundw
            case rel => exact ⟨S2, r3, t3, r2, m2, n2, HP3, HAG, M3, HE3, HI2, Lib.hid (by have := HL2.out; omega)⟩
            case measure => rw [hm3.out, hmeas.out]; have := hr0.out; omega
        · have q2 : (x.text == [99, 111, 110, 115, 116, 114, 97, 105, 110, 116]) = false := by simpa using k2
          by_cases k3 : x.text = [115, 111, 108, 118, 101]
          · have q3 : (x.text == [115, 111, 108, 118, 101]) = true := by simpa using k3
            have C3 := Lib.hid (goal_any (w1.alloc (tokObj x)) HP2.out)
            have HI : Hid (RES = match goalP r'.en m' r0 with
              | .error f => .error f
              | .ok (m2, r2) => if r2 = [] then .ok m2 else .error ((aheadT en r2).at_, 6)) := Lib.hid (by rw [HR2.out, if_neg k1, if_neg k2, if_pos k3, HE.out.1])
            unfold Turn at C3
            generalize goalP r'.en m' r0 = res3 at C3 HI
            clear k1 k2 k3 HR2
            go_wp2_with fail
            refine C3.out.mono ?_
            rintro e w3 ⟨m3, h3⟩
            have M3 : Hid (Mv S w w3) := Lib.hid (M2.out.trans2 m3 (fun g hg hS => by rw [HA.out g hg]; exact hS))
            cases res3 with
            | error f =>
              subst h3
              refine ⟨rfl, ?_⟩
              unfold AllR
              rw [HI.out]
              exact ⟨M3.out, rfl⟩
            | ok q =>
              obtain ⟨m2, r2⟩ := q
              obtain ⟨rfl, S2, r3, t3, hag, hen, hp3⟩ := h3
              have HI2 : Hid (RES = if r2 = [] then .ok m2 else .error ((aheadT en r2).at_, 6)) := Lib.hid HI.out
              have HP3 := Lib.hid hp3
              have HAG : Hid (∀ g, g < w.heap.size → S2 g = S g) := Lib.hid (fun g hg => (hag g (Nat.lt_of_lt_of_le hg M2.out.size)).trans (HA.out g hg))
              have HE3 : Hid (r3.en = en ∧ r3.kp = r.kp) := Lib.hid ⟨hen.1.trans HE.out.1, hen.2.trans HE.out.2⟩
              have C4 := Lib.hid (nothing_any w3 hp3.px.tk)
              clear m3 C3 HI hag hen hp3 HA HP2 M2
              go_wp2_with fail
              refine C4.out.mono ?_
              rintro e w4 ⟨b4, h4⟩
              by_cases hr2 : r2 = []
              · rw [if_pos hr2] at h4
                subst h4
                have HI3 : Hid (RES = .ok m2) := Lib.hid (by rw [HI2.out, if_pos hr2])
                have HP4 : Hid (IsP S2 w4 B r3 t3 [] m2) := Lib.hid ⟨by rw [← hr2]; exact HP3.out.px.mv (Mv.of_below b4) (HP3.out.px.tk.step b4), HP3.out.goal, HP3.out.obj, HP3.out.len, HP3.out.n256, HP3.out.c1024, HP3.out.brief, HP3.out.short⟩
                have M4 := Lib.hid (M3.out.trans (Mv.of_below b4))
                clear b4 hr2 HI2
                go_wp2_with fail
                first | go_end0 | refine bodyPost_ret (results_none rfl _ _ _) rfl ?_
                unfold AllR
                rw [HI3.out]
                exact ⟨M4.out, rfl, S2, r3, t3, HAG.out, ⟨HE3.out.1.trans HEN.out, HE3.out.2⟩, HP4.out⟩
              · rw [if_neg hr2] at h4
                subst h4
                have HI3 : Hid (RES = .error ((aheadT en r2).at_, 6)) := Lib.hid (by rw [HI2.out, if_neg hr2])
                refine ⟨rfl, ?_⟩
                unfold AllR
                rw [HI3.out, HE3.out.1]
                exact ⟨M3.out.trans (Mv.of_below b4), rfl⟩
          · have q3 : (x.text == [115, 111, 108, 118, 101]) = false := by simpa using k3
            have HI3 : Hid (RES = .error (x.at_, 6)) := Lib.hid (by rw [HR2.out, if_neg k1, if_neg k2, if_neg k3])
            clear k1 k2 k3 HR2
            go_wp2_with fail
            refine (CT.out _).mono ?_
            rintro e w3 ⟨rfl, b3⟩
            refine ⟨rfl, ?_⟩
            unfold AllR
            rw [HI3.out]
            exact ⟨M2.out.trans (Mv.of_below b3), rfl⟩
end Go.Proofs.YtgemgmdnnjaghaaGreatDoor

/- What is parsed may be: pure. -/
namespace Go.Proofs.YtgemgmdnnjaghaaGreatDoor
open Go.RowKit Go.Sort Go.Maps

/-- More variables make no constraint wrong. -/
theorem rightE_more {c : ConL} {n n' : Int} (h : rightE c n = 0) (hn : n ≤ n') : rightE c n' = 0 := by
  unfold rightE at h ⊢
  split at h
  · cases h
  · next h1 =>
    rw [if_neg h1]
    split at h
    · cases h
    · next h2 =>
      rw [if_neg h2]
      split at h
      · cases h
      · next h3 =>
        have key : ∀ l : List Int, l.any (outV n') = true → l.any (outV n) = true := fun l hl => by
          rw [List.any_eq_true] at hl ⊢
          obtain ⟨z, hz, ho⟩ := hl
          refine ⟨z, hz, ?_⟩
          unfold outV at ho ⊢
          simp only [Bool.or_eq_true, decide_eq_true_eq] at ho ⊢
          omega
        rw [if_neg (fun e => h3 (by
          simp only [Bool.or_eq_true] at e ⊢
          exact e.imp (key _) (key _)))]
        exact h
theorem ofErr_same {l l' : List Int} (h : ofErr l = 0) (hm : ∀ u, u ∈ l' ↔ u ∈ l) : ofErr l' = 0 := by
  unfold ofErr at h ⊢
  split at h
  · cases h
  · next h1 =>
    split at h
    · cases h
    · next h2 =>
      split at h
      · cases h
      · next h3 =>
        have hne : l'.length ≠ 0 := fun e => by
          have he : l' = [] := List.length_eq_zero_iff.1 e
          cases l with
          | nil => exact h1 rfl
          | cons a l => have := (hm a).2 (by simp); rw [he] at this; cases this
        rw [if_neg hne, if_neg (fun e => h2 (by
          rw [List.any_eq_true] at e ⊢
          obtain ⟨z, hz, ho⟩ := e
          exact ⟨z, (hm z).1 hz, ho⟩)), if_neg (fun e => h3 (by
          rw [List.any_eq_true] at e ⊢
          obtain ⟨a, ha, e2⟩ := e
          rw [List.any_eq_true] at e2
          obtain ⟨b, hb, ho⟩ := e2
          exact ⟨a, (hm a).1 ha, by rw [List.any_eq_true]; exact ⟨b, (hm b).1 hb, ho⟩⟩))]
/-- A rising list. -/
theorem rise_of_pair {l : List Int} (h : l.Pairwise (· < ·)) : riseTo l l.length := by
  intro i h1 hi
  rw [List.getD_eq_getElem?_getD, List.getD_eq_getElem?_getD, List.getElem?_eq_getElem hi, List.getElem?_eq_getElem (by omega : i - 1 < l.length)]
  exact List.pairwise_iff_getElem.1 h (i - 1) i (by omega) hi (by omega)
theorem mayList_of {l : List Int} (h : l.Pairwise (· < ·)) (he : ofErr l = 0) : mayListB l = true := by
  unfold mayListB
  rw [rise_yes (rise_of_pair h), he]
  rfl
theorem range_err {lo hi : Int} (h : rangeErr lo hi = 0) : ofErr (rangeL lo hi) = 0 := by
  unfold rangeErr at h
  split at h
  · next hm =>
    split at h
    · cases h
    · split at h
      · cases h
      · have h1 := (mayB_iff lo).1 hm.1
        have h2 := (mayB_iff hi).1 hm.2
        unfold ofErr
        rw [if_neg (by rw [len_rangeL]; omega), if_neg (fun e => by
          rw [List.any_eq_true] at e
          obtain ⟨z, hz, ho⟩ := e
          have := (mem_rangeL lo hi z).1 hz
          have hmz : mayB z = true := (mayB_iff z).2 (by omega)
          rw [hmz] at ho
          cases ho), if_neg (fun e => by
          rw [List.any_eq_true] at e
          obtain ⟨a, ha, e2⟩ := e
          rw [List.any_eq_true] at e2
          obtain ⟨b, hb, ho⟩ := e2
          have := (mem_rangeL lo hi a).1 ha
          have := (mem_rangeL lo hi b).1 hb
          simp only [decide_eq_true_eq] at ho
          omega)]
  · cases h
/-- A domain that is read is one. -/
theorem domP_may {en : Nat} {ts rs : List Tok} {l : List Int} (h : domP en ts = .ok (l, rs)) : mayListB l = true := by
  unfold domP at h
  split at h
  · cases h
  · next l' e r' hr =>
    split at h
    · next he =>
      injection h with h; injection h with h1 h2; subst h1; subst h2
      unfold rosP at hr
      split at hr
      · split at hr
        · cases hr
        · next xs r2 hx =>
          injection hr with hr; injection hr with h1 h2; injection h1 with h1 h3
          subst h1; subst h3
          rw [ofL_ok xs he]
          exact mayList_of (rising_setOf xs) (ofErr_same he (mem_setOf xs))
      · split at hr
        · cases hr
        · split at hr
          · cases hr
          · split at hr
            · cases hr
            · injection hr with hr; injection hr with h1 h2; injection h1 with h1 h3
              subst h1; subst h3
              rw [if_pos he]
              exact mayList_of (rising_rangeL _ _) (range_err he)
    · cases h

/-- A model that may be, so far. -/
structure Good (m : ModL) : Prop where
  len : m.names.length = m.doms.length
  n256 : m.names.length ≤ 256
  c1024 : m.cons.length ≤ 1024
  vars : ∀ k, k < m.names.length → varE m k = 0
  cons : ∀ c ∈ m.cons, rightE c (m.names.length : Nat) = 0
  goal : m.goal = 0
  obj : m.obj = 0
theorem getD_old {α : Type} {l : List α} {x d : α} {k : Nat} (h : k < l.length) : (l ++ [x]).getD k d = l.getD k d := by
  rw [List.getD_eq_getElem?_getD, List.getD_eq_getElem?_getD, List.getElem?_append_left h]
theorem getD_new {α : Type} {l : List α} {x d : α} : (l ++ [x]).getD l.length d = x := by
  rw [List.getD_eq_getElem?_getD, List.getElem?_append_right (Nat.le_refl _)]
  simp
theorem Good.var {en : Nat} {m m' : ModL} {x : Tok} {ts rs : List Tok} (h : Good m) (hv : varP en m x ts = .ok (m', rs)) : Good m' := by
  unfold varP at hv
  split at hv
  · cases hv
  · next hfull =>
    split at hv
    · cases hv
    · next d r0 e0 =>
      split at hv
      · cases hv
      · next r1 e1 =>
        split at hv
        · cases hv
        · next b r2 e2 =>
          split at hv
          · cases hv
          · next r3 e3 =>
            injection hv with hv; injection hv with h1 h2; subst h1
            have hb : mayNameB b = true ∧ b ∉ m.names := by
              unfold newNameP at e2
              split at e2
              · cases e2
              · split at e2
                · cases e2
                · next hm =>
                  split at e2
                  · cases e2
                  · next hn =>
                    injection e2 with e2; injection e2 with h1 h2; subst h1
                    exact ⟨by simpa using hm, hn⟩
            have n256 := h.n256
            refine ⟨by simp [h.len], by simp; omega, h.c1024, fun k hk => ?_, fun c hc => rightE_more (h.cons c hc) (by simp; omega), h.goal, h.obj⟩
            by_cases hkl : k < m.names.length
            · have := h.vars k hkl
              unfold varE at this ⊢
              simp only
              rw [getD_old hkl, getD_old (by rw [← h.len]; exact hkl), List.take_append_of_le_length (by omega)]
              exact this
            · have hk2 : k = m.names.length := by simp at hk; omega
              subst hk2
              unfold varE
              simp only
              rw [getD_new, h.len, getD_new, ← h.len, List.take_left', if_neg (by rw [hb.1]; decide), if_neg (fun e => by
                rw [List.any_eq_true] at e
                obtain ⟨z, hz, ho⟩ := e
                have hzb : z = b := by simpa using ho
                rw [hzb] at hz
                exact hb.2 hz), if_neg (by rw [domP_may e0]; decide)]
              rfl
theorem Good.con {en : Nat} {m m' : ModL} {x : Tok} {ts rs : List Tok} (h : Good m) (hv : conP en m x ts = .ok (m', rs)) : Good m' := by
  unfold conP at hv
  split at hv
  · cases hv
  · next hfull =>
    split at hv
    · cases hv
    · split at hv
      · cases hv
      · split at hv
        · cases hv
        · split at hv
          · cases hv
          · next c r2 e2 =>
            split at hv
            · cases hv
            · split at hv
              · cases hv
              · next hr =>
                split at hv
                · cases hv
                · injection hv with hv; injection hv with h1 h2; subst h1
                  have c1024 := h.c1024
                  refine ⟨h.len, h.n256, by simp; omega, h.vars, fun c' hc' => ?_, h.goal, h.obj⟩
                  rcases List.mem_append.1 hc' with e | e
                  · exact h.cons c' e
                  · rw [List.mem_singleton.1 e]
                    simpa using hr
theorem placeP_lt {en : Nat} {names : List Bs} {ts rs : List Tok} {x : Int} (h : placeP en names ts = .ok (x, rs)) : 0 ≤ x ∧ x < (names.length : Nat) := by
  unfold placeP at h
  split at h
  · cases h
  · split at h
    · next hm =>
      injection h with h; injection h with h1 h2; subst h1
      have := List.idxOf_lt_length_of_mem hm
      omega
    · cases h
/-- All but the goal may be. -/
theorem Good.check {m : ModL} (h : Good m) (g o : Int) (hg : goalB { m with goal := g, obj := o } = true) : checkE { m with goal := g, obj := o } = (-1, 0) := by
  rw [checkE_end (m := { m with goal := g, obj := o }) h.len h.n256 h.c1024 (firstE_no fun j hj => h.vars j hj) (fun j hj => ?_), if_neg (by rw [hg]; decide)]
  unfold conE
  simp only at hj ⊢
  rw [List.getD_eq_getElem?_getD, List.getElem?_eq_getElem hj]
  exact h.cons _ (List.getElem_mem hj)
theorem goal_check {en : Nat} {m m' : ModL} {ts rs : List Tok} (h : Good m) (hv : goalP en m ts = .ok (m', rs)) : checkE m' = (-1, 0) := by
  unfold goalP at hv
  split at hv
  · cases hv
  · next t r0 e0 =>
    split at hv
    · cases hv
    · next m2 r2 e2 =>
      split at hv
      · cases hv
      · injection hv with hv; injection hv with h1 h2; subst h1
        split at e2
        · injection e2 with e2; injection e2 with h1 h2; subst h1
          have := h.check 0 m.obj (by unfold goalB; simp [h.obj])
          exact this
        · split at e2
          · split at e2
            · cases e2
            · next x r3 e3 =>
              injection e2 with e2; injection e2 with h1 h2; subst h1
              have hp := placeP_lt e3
              exact h.check 1 x (by unfold goalB; simp; omega)
          · split at e2
            · split at e2
              · cases e2
              · next x r3 e3 =>
                injection e2 with e2; injection e2 with h1 h2; subst h1
                have hp := placeP_lt e3
                exact h.check 2 x (by unfold goalB; simp; omega)
            · cases e2
/-- What is parsed may be. -/
theorem items_check {en : Nat} : ∀ (n : Nat) (m m' : ModL) (ts : List Tok), Good m → itemsP en n m ts = .ok m' → checkE m' = (-1, 0) := by
  intro n
  induction n with
  | zero => intro m m' ts hg h; simp only [itemsP] at h; cases h
  | succ n ih =>
    intro m m' ts hg h
    simp only [itemsP] at h
    split at h
    · cases h
    · split at h
      · split at h
        · cases h
        · next m2 r2 e2 => exact ih _ _ _ (hg.var e2) h
      · split at h
        · split at h
          · cases h
          · next m2 r2 e2 => exact ih _ _ _ (hg.con e2) h
        · split at h
          · split at h
            · cases h
            · next m2 r2 e2 =>
              split at h
              · injection h with h; subst h; exact goal_check hg e2
              · cases h
          · cases h
theorem noMod_good : Good noMod := ⟨rfl, by simp [noMod], by simp [noMod], fun k hk => absurd hk (by simp [noMod]), fun c hc => absurd hc (by simp [noMod]), rfl, rfl⟩
end Go.Proofs.YtgemgmdnnjaghaaGreatDoor

/- Contracts of the function that Parse defers. -/
namespace Go.Proofs.YtgemgmdnnjaghaaGreatDoor
open Go.RowKit Go.Sort Go.Maps

theorem tmps21 (a b c v : Value) : #[a, b, c] ++ ((Array.replicate 18 undef).setIfInBounds 3 v).setIfInBounds 0 v = #[a, b, c, v, undef, undef, v, undef, undef, undef, undef, undef, undef, undef, undef, undef, undef, undef, undef, undef, undef] := by kernel_rfl
theorem assert_flt (a b : Int) (W : World) : (Instr.typeAssert (.iface 80 (.agg #[.int .i64 a, .int .i64 b])) 20 80 true).run Tryz.prog W = .ok (.tuple #[.agg #[.int .i64 a, .int .i64 b], .bool true]) W := by kernel_rfl
theorem assert_nil (W : World) : (Instr.typeAssert .nilIface 20 80 true).run Tryz.prog W = .ok (.tuple #[.agg #[.int .i64 0, .int .i64 0], .bool false]) W := by kernel_rfl

set_option maxHeartbeats 2000000 in
set_option maxRecDepth 100000 in
theorem catch_idle (a b c : Addr) (w : World) :
    CallsD Tryz.prog 38 #[.pointer (some a), .pointer (some b), .pointer (some c)] .returning w fun e u' w' => e = .returned (.tuple #[]) ∧ u' = .returning ∧ Below w.heap.size w w' := by
  have ha := assert_nil
  refine callsD_of_wpS Tryz.func38 rfl fun c₀ cs hu => ?_
  apply wpS_seq
  apply wpS_region
  generalize hQ : (Exit.thenS (Code.wpS _ _ _) _) = Q
  simp [wpOpsS, go_sem, recoverD, hu, Tryz.ntmps38]
  rw [tmps21]
  rw [← hQ]
  clear hQ
  show Code.wpS _ _ _ _ _ _
  refine wpS_of_wp ?_
  go_wp2
  refine ⟨rfl, .returning, ?_, .tuple #[], by simp [results, Tryz.results38], rfl, rfl, below1 _ _⟩
  cases c₀
  simp at hu
  subst hu
  rfl

end Go.Proofs.YtgemgmdnnjaghaaGreatDoor

/- The function that Parse defers, at a fault. -/
namespace Go.Proofs.YtgemgmdnnjaghaaGreatDoor
open Go.RowKit Go.Sort Go.Maps

/-- The three results' boxes. -/
structure Boxes3 (w : World) (P : Nat) (mc : Array Value) (av ev : Value) : Prop where
  m : w.heap[P]? = some (.cells mc 30 (0, 0))
  a : w.heap[P + 1]? = some (.cells #[av] 3 (0, 0))
  e : w.heap[P + 2]? = some (.cells #[ev] 32 (0, 0))

/-- All results are written. -/
abbrev set7 (w : World) (P : Nat) (a b c d e av ev : Value) : World := ((((((w.setCell ⟨P, 0, none⟩ a).setCell ⟨P, 1, none⟩ b).setCell ⟨P, 2, none⟩ c).setCell ⟨P, 3, none⟩ d).setCell ⟨P, 4, none⟩ e).setCell ⟨P + 1, 0, none⟩ av).setCell ⟨P + 2, 0, none⟩ ev
theorem Boxes3.set7 {w : World} {P : Nat} {x0 x1 x2 x3 x4 av ev : Value} (h : Boxes3 w P #[x0, x1, x2, x3, x4] av ev) (a b c d e av' ev' : Value) : Boxes3 (Go.Proofs.YtgemgmdnnjaghaaGreatDoor.set7 w P a b c d e av' ev') P #[a, b, c, d, e] av' ev' := by
  refine ⟨?_, ?_, ?_⟩
  · simp [Go.Proofs.YtgemgmdnnjaghaaGreatDoor.set7, World.setCell, Array.getElem?_modify, h.m]
  · simp [Go.Proofs.YtgemgmdnnjaghaaGreatDoor.set7, World.setCell, Array.getElem?_modify, h.a]
  · simp [Go.Proofs.YtgemgmdnnjaghaaGreatDoor.set7, World.setCell, Array.getElem?_modify, h.e]
theorem below_set7 {w0 w : World} {P Q : Nat} (h : Below P w0 w) (hQ : P ≤ Q) (a b c d e av ev : Value) : Below P w0 (set7 w Q a b c d e av ev) :=
  ((((((h.setCell (p := ⟨Q, 0, none⟩) hQ a).setCell (p := ⟨Q, 1, none⟩) hQ b).setCell (p := ⟨Q, 2, none⟩) hQ c).setCell (p := ⟨Q, 3, none⟩) hQ d).setCell (p := ⟨Q, 4, none⟩) hQ e).setCell (p := ⟨Q + 1, 0, none⟩) (by simp only; omega) av).setCell (p := ⟨Q + 2, 0, none⟩) (by simp only; omega) ev
theorem Boxes3.below {w w' : World} {P : Nat} {mc : Array Value} {av ev : Value} (h : Boxes3 w P mc av ev) (hb : Below w.heap.size w w') : Boxes3 w' P mc av ev :=
  ⟨(hb.block P (lt_of_obj h.m)).trans h.m, (hb.block _ (lt_of_obj h.a)).trans h.a, (hb.block _ (lt_of_obj h.e)).trans h.e⟩

theorem Boxes3.drew {w : World} {P : Nat} {mc : Array Value} {av ev : Value} (h : Boxes3 w P mc av ev) : Boxes3 w.drew P mc av ev := ⟨h.m, h.a, h.e⟩
theorem fault_end {w : World} {P : Nat} {x0 x1 x2 x3 x4 av ev : Value} {o : Obj} (h : Boxes3 w P #[x0, x1, x2, x3, x4] av ev) (a b c d e av' ev' : Value) : Boxes3 (Go.Proofs.YtgemgmdnnjaghaaGreatDoor.set7 (w.alloc o) P a b c d e av' ev').drew P #[a, b, c, d, e] av' ev' ∧ Below P w (Go.Proofs.YtgemgmdnnjaghaaGreatDoor.set7 (w.alloc o) P a b c d e av' ev').drew :=
  ⟨((h.below (below1 w o)).set7 a b c d e av' ev').drew, (below_set7 ((below1 w o).mono (Nat.le_of_lt (lt_of_obj h.m))) (Nat.le_refl P) a b c d e av' ev').drew⟩

set_option maxHeartbeats 2000000 in
set_option maxRecDepth 100000 in
theorem catch_fault (P : Nat) (x0 x1 x2 x3 x4 av ev : Value) (f : Flt) (w : World) (hb : Boxes3 w P #[x0, x1, x2, x3, x4] av ev) :
    CallsD Tryz.prog 38 #[.pointer (some ⟨P, 0, none⟩), .pointer (some ⟨P + 1, 0, none⟩), .pointer (some ⟨P + 2, 0, none⟩)] (.panicking (fltV f)) w fun e u' w' => e = .returned (.tuple #[]) ∧ u' = .panicking [{ v := .iface 80 (.agg #[.int .i64 (f.1 : Nat), .int .i64 f.2]), recovered := true }] ∧ Boxes3 w' P #[.slice none 0 0, .slice none 0 0, .slice none 0 0, .int .i64 0, .int .i64 0] (.int .i64 (f.1 : Nat)) (.int .i64 f.2) ∧ Below P w w' := by
  unfold fltV
  have ha := assert_flt (f.1 : Nat) f.2
  refine callsD_of_wpS Tryz.func38 rfl fun c₀ cs hu => ?_
  apply wpS_seq
  apply wpS_region
  generalize hQ : (Exit.thenS (Code.wpS _ _ _) _) = Q
  simp [wpOpsS, go_sem, recoverD, hu, Tryz.ntmps38]
  rw [tmps21]
  rw [← hQ]
  clear hQ
  show Code.wpS _ _ _ _ _ _
  refine wpS_of_wp ?_
  have hcell : ∀ (g j : Nat) (cur : Array Value) (ty : TypeId) (u : Value), w.heap[g]? = some (.cells cur ty (0, 0)) → cur[j]? = some u → (w.alloc (.cells #[.int .i64 (f.1 : Nat), .int .i64 f.2] 80)).cell? ⟨g, j, none⟩ = some u ∧ (w.alloc (.cells #[.int .i64 (f.1 : Nat), .int .i64 f.2] 80)).frozen? ⟨g, j, none⟩ = false := fun g j cur ty u h1 h2 => by
    have h3 := (Below.heap_alloc w (.cells #[.int .i64 (f.1 : Nat), .int .i64 f.2] 80) g (lt_of_obj h1)).trans h1
    exact ⟨by unfold World.cell?; rw [h3]; exact h2, by unfold World.frozen?; rw [h3]; simp⟩
  obtain ⟨m0, n0⟩ := hcell _ 0 _ _ _ hb.m rfl
  obtain ⟨m1, n1⟩ := hcell _ 1 _ _ _ hb.m rfl
  obtain ⟨m2, n2⟩ := hcell _ 2 _ _ _ hb.m rfl
  obtain ⟨m3, n3⟩ := hcell _ 3 _ _ _ hb.m rfl
  obtain ⟨m4, n4⟩ := hcell _ 4 _ _ _ hb.m rfl
  obtain ⟨a0, b0⟩ := hcell _ 0 _ _ _ hb.a rfl
  obtain ⟨e0, g0⟩ := hcell _ 0 _ _ _ hb.e rfl
  have hP : P + 2 < w.heap.size := lt_of_obj hb.e
  have HB := Lib.hid hb
  clear hcell hb
  have k1 : w.heap.size ≠ P := by omega
  have k2 : w.heap.size ≠ P + 1 := by omega
  have k3 : w.heap.size ≠ P + 2 := by omega
  go_wp2
  go_region
  have HX := Lib.hid (fault_end (o := .cells #[.int .i64 (f.1 : Nat), .int .i64 f.2] 80) HB.out (.slice none 0 0) (.slice none 0 0) (.slice none 0 0) (.int .i64 0) (.int .i64 0) (.int .i64 (f.1 : Nat)) (.int .i64 f.2))
  clear m0 m1 m2 m3 m4 a0 e0 n0 n1 n2 n3 n4 b0 g0 k1 k2 k3 hP HB ha
  go_wp2_with fail
  refine ⟨rfl, .panicking [{ v := .iface 80 (.agg #[.int .i64 (f.1 : Nat), .int .i64 f.2]), recovered := true }], rfl, .tuple #[], ?_, rfl, rfl, HX.out.1, HX.out.2⟩
  simp [results, Tryz.results38]
end Go.Proofs.YtgemgmdnnjaghaaGreatDoor

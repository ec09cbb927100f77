/- Contracts: number, list, ints, rows, row. -/
import Derived.Test.YtgemgmdnnjaghaaGreatDoorPbox
import Derived.OwnWalk
namespace Go.Proofs.YtgemgmdnnjaghaaGreatDoor
open Go.RowKit

/-- How long the slice in a cell is. -/
def lenV : Option Value → Nat
  | some (.slice _ n _) => n
  | _ => 0
theorem infoIf : (Tryz.prog.info? 20).map (fun i => (i.zero, i.size, i.bytes)) = some (some .nilIface, 1, 16) := by kernel_rfl
theorem infoSl : (Tryz.prog.info? 35).map (fun i => (i.zero, i.size, i.bytes)) = some (some (.slice none 0 0), 1, 24) := by kernel_rfl

theorem pnumber_any {S : Nat → Bool} {B : Nat} {r : PRest} {t : Sl} {ts : List Tok} (w : World) (h : IsTk S w B r t ts) : Calls Tryz.prog 147 #[.pointer (some ⟨B, 0, none⟩)] w (After S B r w (numP r.en ts) fun x _ v => v = .iface 3 (.int .i64 x)) := by
  have C := Lib.hid (take_any 2 (by decide) w h)
  have HN : Hid (numP r.en ts = match takeP r.en 2 ts with | .error f => .error f | .ok (t, r) => .ok (t.num, r)) := Lib.hid rfl
  unfold After at C
  generalize numP r.en ts = RES at HN ⊢
  generalize takeP r.en 2 ts = res at C HN
  clear h
  go_enter Tryz.func147, Tryz.ntmps147
  go_wp2_with fail
  refine C.out.mono ?_
  rintro e w1 ⟨m1, h1⟩
  cases res with
  | error f =>
    subst h1
    refine ⟨rfl, ?_⟩
    unfold After
    rw [HN.out]
    exact ⟨m1, rfl⟩
  | ok p =>
    obtain ⟨x, rs⟩ := p
    obtain ⟨⟨v, rfl, rfl⟩, h2⟩ := h1
    have H2 := Lib.hid h2
    have M1 := Lib.hid m1
    have hf := field2 (x.kind : Nat) x.num (x.at_ : Nat) (txt x.text)
    unfold ptokV
    clear h2 m1
    go_wp2
    go_ret
    unfold After
    rw [HN.out]
    exact ⟨M1.out, ⟨_, rfl, rfl⟩, H2.out⟩

/-- What was read, ahead of what is read. -/
def preP {α : Type} (acc : List α) : PR (List α) → PR (List α)
  | .ok (xs, r) => .ok (acc ++ xs, r)
  | .error f => .error f
theorem preP_step {α : Type} (en : Nat) (last : Bs) (el : List Tok → PR α) (acc : List α) (n : Nat) (ts : List Tok) (h : (aheadT en ts).text ≠ last) :
    preP acc (tailP en last el (n + 1) ts) = match wantP en [44] ts with
    | .error f => .error f
    | .ok r => match el r with
      | .error f => .error f
      | .ok (x, r2) => preP (acc ++ [x]) (tailP en last el n r2) := by
  simp only [tailP, if_neg h]
  cases wantP en [44] ts with
  | error f => rfl
  | ok r =>
    simp only
    cases el r with
    | error f => rfl
    | ok p =>
      obtain ⟨x, r2⟩ := p
      simp only
      cases tailP en last el n r2 with
      | error f => rfl
      | ok q => obtain ⟨xs, r3⟩ := q; simp [preP]
theorem tail_zero {α : Type} (en : Nat) (last : Bs) (el : List Tok → PR α) (ts : List Tok) (h : ts.length = 0) (hne : (aheadT en ts).text ≠ last) : tailP en last el 0 ts = match wantP en [44] ts with | .error f => .error f | .ok _ => .ok ([], []) := by
  cases ts with
  | nil => simp only [tailP, if_neg hne]; simp [wantP, aheadT]
  | cons t ts => simp at h

/-- A list of read elements. -/
def IsEls {α : Type} (R : World → Value → α → Prop) (base : Nat) (w : World) (v : Value) (xs : List α) : Prop := ∃ vs : List Value, w.ownsRow base 20 1 v xs.length vs ∧ ∀ (k : Nat) (u : Value) (x : α), vs[k]? = some u → xs[k]? = some x → R w u x
theorem IsEls.mv {α : Type} {R : World → Value → α → Prop} {B base : Nat} {w w' : World} {v : Value} {xs : List α} (h : IsEls R base w v xs) (hm : Mv (one B) w w') (hB : B < base) (hR : ∀ (W W' : World) (u : Value) (x : α), Mv (one B) W W' → R W u x → R W' u x) : IsEls R base w' v xs := by
  obtain ⟨vs, h1, h2⟩ := h
  refine ⟨vs, own_same h1 fun g hg hlt => hm.block g hlt ?_, fun k u x a b => hR _ _ _ _ hm (h2 k u x a b)⟩
  have := own_ge h1 g hg
  simp [one]; omega

theorem own_typed {w : World} {base : Nat} {e : TypeId} {size n : Nat} {v : Value} {xs : List Value} (h : w.ownsRow base e size v n xs) {k : Nat} (hk : v.ownBlock = some k) : ∃ cur, w.heap[k]? = some (.cells cur e (0, 0)) := by
  rcases h.2 with ⟨rfl, _⟩ | ⟨g, cap, cur, rfl, hb, hh, _⟩
  · cases hk
  · cases hk; exact ⟨cur, hh⟩
theorem own_new (w : World) (v : Value) {b : Nat} (hb : b ≤ w.heap.size) : (w.alloc (.cells #[v] 20)).ownsRow b 20 1 (.slice (some ⟨w.heap.size, 0, none⟩) 1 1) 1 [v] :=
  ⟨rfl, .inr ⟨w.heap.size, 1, #[v], rfl, hb, heap_alloc_new w _, Nat.le_refl _, by unfold maxLen; omega, rfl, rfl⟩⟩

set_option maxHeartbeats 2000000 in
set_option maxRecDepth 100000 in
theorem list_any {α : Type} {S : Nat → Bool} {B : Nat} {r : PRest} {t : Sl} {ts : List Tok} (el : List Tok → PR α) (R : World → Value → α → Prop) (J : World → Prop) (g : Nat) (first last : Bs) (hf : first ≠ []) (hl : last ≠ [])
    (eg : ∀ args w, (callFunc g args).run Tryz.prog w = .ok (.enter g args) w) (w : World) (h : IsTk S w B r t ts) (hJ : J w)
    (hEl : ∀ W t ts, IsTk S W B r t ts → J W → Calls Tryz.prog g #[.pointer (some ⟨B, 0, none⟩)] W (After S B r W (el ts) fun x w' v => R w' v x))
    (hR : ∀ (W W' : World) (u : Value) (x : α), Mv (one B) W W' → R W u x → R W' u x) (hJs : ∀ (W W' : World), Mv (one B) W W' → J W → J W') (h1c : ∀ (W : World) (u : Value) (x : α), R W u x → ∃ ty y, u = .iface ty y) (hE : Eats el)
    (hRg : ∀ (W W' : World) (o : Obj) (row : Option Nat) (u : Value) (x : α), w.heap.size ≤ W.heap.size → (W.alloc o).grownBy W' row → (∀ k, row = some k → w.heap.size ≤ k ∧ ∃ cur, W.heap[k]? = some (.cells cur 20 (0, 0))) → R W u x → R W' u x) :
    Calls Tryz.prog 145 #[.pointer (some ⟨B, 0, none⟩), .string (txt first), .string (txt last), .func (.func g) #[.pointer (some ⟨B, 0, none⟩)] #[]] w (After S B r w (listP r.en first last el ts) fun xs w' v => IsEls R w.heap.size w' v xs) := by
  have hB : B < w.heap.size := h.lt B h.hid
  have hbig : ts.length ≤ 1048576 := by have := h.tok.len; have := h.tok.big; omega
  have CW := Lib.hid (want_any first hf w h)
  have HL : Hid (listP r.en first last el ts = match wantP r.en first ts with
    | .error f => .error f
    | .ok rs =>
      if (aheadT r.en rs).text = last then .ok ([], rs.tail) else
      match el rs with
      | .error f => .error f
      | .ok (x, r2) => preP [x] (tailP r.en last el r2.length r2)) := Lib.hid (by
    unfold listP preP
    cases wantP r.en first ts with
    | error f => rfl
    | ok rs =>
      simp only
      split
      · rfl
      · cases el rs with
        | error f => rfl
        | ok p => obtain ⟨x, r2⟩ := p; simp only; cases tailP r.en last el r2.length r2 with | error f => rfl | ok q => rfl)
  have HWL : Hid (∀ rs, wantP r.en first ts = .ok rs → rs.length ≤ ts.length) := Lib.hid (fun rs e => by rw [(want_len e).1]; exact tail_le ts)
  obtain ⟨i0, hi', hz0, hz1, hz2⟩ := info_parts infoIf
  have HI := Lib.hid (And.intro hi' (And.intro hz0 (And.intro hz1 hz2)))
  have CF := Lib.hid (fun (W : World) (t : Sl) (ts : List Tok) (hW : IsTk S W B r t ts) => found_any last hl W hW)
  have CC := Lib.hid (fun (W : World) (t : Sl) (ts : List Tok) (hW : IsTk S W B r t ts) => want_any [44] (by decide) W hW)
  have HEl := Lib.hid hEl
  have HRs := Lib.hid hR
  have HJs := Lib.hid hJs
  have H1 := Lib.hid h1c
  have HE := Lib.hid hE
  have HJ := Lib.hid hJ
  have HRg := Lib.hid hRg
  have HS0 := Lib.hid h.lt
  have h44 : (⟨#[44]⟩ : ByteArray) = txt [44] := rfl
  generalize listP r.en first last el ts = RES at HL ⊢
  generalize wantP r.en first ts = res at CW HL HWL
  clear hEl hR hJs h1c hE hJ hRg h hi' hz0 hz1 hz2
  go_enter Tryz.func145, Tryz.ntmps145
  go_wp2_with fail
  refine CW.out.mono ?_
  rintro e w1 ⟨m1, h1⟩
  cases res with
  | error f =>
    subst h1
    refine ⟨rfl, ?_⟩
    unfold After
    rw [HL.out]
    exact ⟨m1, rfl⟩
  | ok rs =>
    obtain ⟨rfl, t1, h2⟩ := h1
    have hrl := HWL.out rs rfl
    have M1 := Lib.hid m1
    have CF1 := Lib.hid (CF.out _ _ _ h2)
    clear m1 CW HWL
    go_wp2_with fail
    refine CF1.out.mono ?_
    rintro e w2 ⟨m2, h3⟩
    have M2 := Lib.hid (M1.out.trans m2)
    clear m2 CF1 M1 h2
    by_cases hlast : (aheadT r.en rs).text = last
    · rw [if_pos hlast] at h3
      have HL2 : Hid (RES = .ok ([], rs.tail)) := Lib.hid (by rw [HL.out]; simp only [if_pos hlast])
      obtain ⟨rfl, h4⟩ := h3
      have H4 := Lib.hid h4
      clear h4 hlast HL
      go_wp2_with fail
      go_ret
      unfold After
      rw [HL2.out]
      exact ⟨M2.out, ⟨_, rfl, [], World.ownsRow_nil _ _ _ _, fun k u x a => by simp at a⟩, H4.out⟩
    · rw [if_neg hlast] at h3
      have HL2 : Hid (RES = match el rs with
        | .error f => .error f
        | .ok (x, r2) => preP [x] (tailP r.en last el r2.length r2)) := Lib.hid (by rw [HL.out]; simp only [if_neg hlast])
      obtain ⟨rfl, h4⟩ := h3
      have CE := Lib.hid (HEl.out w2 _ _ h4 (HJs.out _ _ M2.out HJ.out))
      have HEL : Hid (∀ x r2, el rs = .ok (x, r2) → r2.length ≤ rs.length) := Lib.hid (fun x r2 e => HE.out _ _ _ e)
      unfold After at CE
      generalize el rs = res2 at CE HL2 HEL
      clear hlast HL h4
      go_wp2_with fail
      refine CE.out.mono ?_
      rintro e w3 ⟨m3, h5⟩
      have M3 := Lib.hid (M2.out.trans m3)
      clear m3 CE M2
      cases res2 with
      | error f =>
        subst h5
        refine ⟨rfl, ?_⟩
        unfold After
        rw [HL2.out]
        exact ⟨M3.out, rfl⟩
      | ok p =>
        obtain ⟨x, r2⟩ := p
        obtain ⟨⟨v, rfl, hv⟩, t3, h6⟩ := h5
        obtain ⟨ty0, y0, rfl⟩ := H1.out _ _ _ hv
        have HV := Lib.hid hv
        have H6 := Lib.hid h6
        have hr2 := HEL.out _ _ rfl
        clear hv h6 HEL
        go_wp2_with fail
        go_loopw [9] (fun v wr => ∃ (acc : List α) (ts' : List Tok) (t' : Sl) (n : Nat), Hid (IsEls R w.heap.size wr v acc) ∧ Hid (IsTk S wr B r t' ts') ∧ Hid (Mv (one B) w wr) ∧ Hid (RES = preP acc (tailP r.en last el n ts')) ∧ Hid (ts'.length ≤ n) ∧ acc.length + ts'.length ≤ 1048577) (fun _ wr => lenV (wr.cell? ⟨B, 0, none⟩))
        case atStart =>
          have hb := below1 w3 (.cells #[.iface ty0 y0] 20)
          refine ⟨[x], r2, t3, r2.length, Lib.hid ⟨[.iface ty0 y0], ?_, ?_⟩, Lib.hid (H6.out.step hb), Lib.hid (M3.out.alloc _), HL2, Lib.hid (Nat.le_refl _), by simp; omega⟩
          · exact own_new w3 _ (by have := M3.out.size; omega)
          · intro k u y hk hy
            match k, hk, hy with
            | 0, hk, hy => simp at hk hy; subst hk; subst hy; exact HRs.out _ _ _ _ (Mv.of_below hb) HV.out
            | k + 1, hk, hy => simp at hk
        case round =>
          obtain ⟨acc, ts', t', n, HO, HT, HM, HR, HN, hle⟩ := hrel
          have CF1 := Lib.hid (CF.out _ _ _ HT.out)
          have hmeas : Hid (lenV (wr.cell? ⟨B, 0, none⟩) = ts'.length) := Lib.hid (by rw [HT.out.cells.1]; exact HT.out.tok.len)
          clear HL2 HV H6 M3
          go_wp2_with fail
          refine CF1.out.mono ?_
          rintro e w4 ⟨m4, h7⟩
          have M4 := Lib.hid (HM.out.trans m4)
          have HO4 := Lib.hid (HO.out.mv m4 hB HRs.out)
          clear m4 CF1 HM HO
          by_cases hlast : (aheadT r.en ts').text = last
          · rw [if_pos hlast] at h7
            have HR2 : Hid (RES = .ok (acc, ts'.tail)) := Lib.hid (by rw [HR.out]; cases n <;> simp [tailP, hlast, preP])
            obtain ⟨rfl, h8⟩ := h7
            have H8 := Lib.hid h8
            clear h8 hlast HR
            go_wp2_with fail
            go_ret
            unfold After
            rw [HR2.out]
            exact ⟨M4.out, ⟨_, rfl, HO4.out⟩, H8.out⟩
          · rw [if_neg hlast] at h7
            obtain ⟨rfl, h8⟩ := h7
            have CC1 := Lib.hid (CC.out _ _ _ h8)
            have HWT : Hid (∀ rs, wantP r.en [44] ts' = .ok rs → rs.length + 1 ≤ ts'.length) := Lib.hid (fun rs e => by
              have := want_len e
              cases ts' with
              | nil => simp [wantP, aheadT] at e
              | cons y ts' => rw [this.1]; simp)
            have HR2 : Hid (∃ n', RES = (match wantP r.en [44] ts' with
              | .error f => .error f
              | .ok rs => match el rs with
                | .error f => .error f
                | .ok (x, r2) => preP (acc ++ [x]) (tailP r.en last el n' r2)) ∧ n = n' + 1 ∨ ts' = []) := Lib.hid (by
              cases n with
              | zero => exact ⟨0, .inr (List.length_eq_zero_iff.1 (Nat.le_zero.1 HN.out))⟩
              | succ n' => exact ⟨n', .inl ⟨by rw [HR.out, preP_step _ _ _ _ _ _ hlast], rfl⟩⟩)
            have HER : Hid (∀ f, wantP r.en [44] ts' = .error f → RES = .error f) := Lib.hid (fun f e => by
              obtain ⟨n', h1 | h1⟩ := HR2.out
              · rw [h1.1, e]
              · have hn := HN.out
                rw [HR.out]
                subst h1
                cases n with
                | zero => simp only [tailP, if_neg hlast, preP]; simp [wantP, aheadT] at e; rw [← e]; rfl
                | succ n => rw [preP_step _ _ _ _ _ _ hlast, e])
            generalize wantP r.en [44] ts' = res4 at CC1 HR2 HER HWT
            clear h8 hlast HR
            go_wp2_with fail
            refine CC1.out.mono ?_
            rintro e w5 ⟨m5, h9⟩
            have M5 := Lib.hid (M4.out.trans m5)
            have HO5 := Lib.hid (HO4.out.mv m5 hB HRs.out)
            clear m5 CC1 M4 HO4
            cases res4 with
            | error f =>
              subst h9
              refine ⟨rfl, ?_⟩
              unfold After
              rw [HER.out f rfl]
              exact ⟨M5.out, rfl⟩
            | ok rs5 =>
              obtain ⟨rfl, t5, h10⟩ := h9
              have hrs := HWT.out _ rfl
              have CE := Lib.hid (HEl.out w5 _ _ h10 (HJs.out _ _ M5.out HJ.out))
              have HEL : Hid (∀ x r2, el rs5 = .ok (x, r2) → r2.length ≤ rs5.length) := Lib.hid (fun x r2 e => HE.out _ _ _ e)
              obtain ⟨n', hn' | hn'⟩ := HR2.out
              · have HR5 : Hid (RES = match el rs5 with
                  | .error f => .error f
                  | .ok (x, r2) => preP (acc ++ [x]) (tailP r.en last el n' r2)) := Lib.hid hn'.1
                have HN5 := Lib.hid hn'.2
                unfold After at CE
                generalize el rs5 = res5 at CE HEL HR5
                clear h10 HWT HER HR2 hn'
                go_wp2_with fail
                refine CE.out.mono ?_
                rintro e w6 ⟨m6, h11⟩
                have M6 := Lib.hid (M5.out.trans m6)
                have HO6 := Lib.hid (HO5.out.mv m6 hB HRs.out)
                clear m6 CE M5 HO5
                cases res5 with
                | error f =>
                  subst h11
                  refine ⟨rfl, ?_⟩
                  unfold After
                  have hres : RES = .error f := HR5.out
                  rw [hres]
                  exact ⟨M6.out, rfl⟩
                | ok p =>
                  obtain ⟨x5, r5⟩ := p
                  obtain ⟨⟨v5, rfl, hv5⟩, t6, h12⟩ := h11
                  have hr5 := HEL.out _ _ rfl
                  obtain ⟨vs, ho, hvs⟩ := HO6.out
                  have HOV := Lib.hid ho
                  have HVS := Lib.hid hvs
                  obtain ⟨ty5, y5, rfl⟩ := H1.out _ _ _ hv5
                  have HV5 := Lib.hid hv5
                  have H12 := Lib.hid h12
                  have Z5 : Hid (w.heap.size ≤ w6.heap.size) := Lib.hid M6.out.size
                  clear ho hvs hv5 h12 HEL HO6
                  go_wp2_with (at_builtin; refine wpList_append_own _ rfl _ _ 171 rfl w.heap.size 20 i0 .nilIface 1 16 Tryz.underlying171 HI.out.1 HI.out.2.1 HI.out.2.2.1 HI.out.2.2.2 rfl (by decide) _ _ _ rfl (HOV.out.alloc _) ⟨_, 0, none⟩ 1 1 [.iface ty5 y5] rfl rfl ?c1 ?c2 ?c3 ?c4 ?c5 ?_)
                  case c1 => intro j u hj; match j, hj with | 0, hj => simp at hj; subst hj; simp [Addr.add]
                  case c2 => intro u hu; simp at hu; subst hu; rfl
                  case c3 => unfold maxLen; omega
                  case c4 => omega
                  case c5 => have := Z5.out; simp; omega
                  intro v' w7 hown' hgrow _
                  have hge := own_ge HOV.out
                  have hm7 : Mv (one B) w w7 := (M6.out.alloc _).grownFrom hgrow hge
                  have hk7 : ∀ g, g < w6.heap.size → g < w.heap.size → w7.heap[g]? = w6.heap[g]? := fun g hg hg0 => (hgrow.block g (by simp; omega) (fun e => by have := hge g e.symm; omega)).trans (Below.heap_alloc _ _ _ hg)
                  have ht7 : IsTk S w7 B r t6 r5 := H12.out.keep fun g hg => hk7 g (H12.out.lt g hg) (HS0.out g hg)
                  have hr7 : ∀ u x, R w6 u x → R w7 u x := fun u x hu => HRg.out _ _ _ _ _ _ Z5.out hgrow (fun k hk => ⟨hge k hk, own_typed HOV.out hk⟩) hu
                  have hl7 : acc.length + 1 = (acc ++ [x5]).length := by simp
                  rw [hl7] at hown'
                  have HN7 : Hid (IsEls R w.heap.size w7 v' (acc ++ [x5])) := Lib.hid ⟨_, hown', fun k u x hk hx => by
                    have hvl : vs.length = acc.length := by have := HOV.out.1; omega
                    by_cases hka : k < acc.length
                    · rw [List.getElem?_append_left (by omega)] at hk hx
                      exact hr7 _ _ (HVS.out k u x hk hx)
                    · rw [List.getElem?_append_right (by omega)] at hk hx
                      have h0 : k - vs.length = 0 := by
                        have := (List.getElem?_eq_some_iff.1 hk).1
                        simp at this; omega
                      rw [h0] at hk
                      rw [show k - acc.length = 0 by omega] at hx
                      simp at hk hx
                      subst hk; subst hx
                      exact hr7 _ _ HV5.out⟩
                  have HT7 := Lib.hid ht7
                  have HM7 := Lib.hid hm7
                  have HR7 : Hid (RES = preP (acc ++ [x5]) (tailP r.en last el n' r5)) := Lib.hid (HR5.out)
                  have hlen7 : Hid (lenV (w7.cell? ⟨B, 0, none⟩) = r5.length) := Lib.hid (by rw [ht7.cells.1]; exact ht7.tok.len)
                  clear hown' hgrow hge hm7 hk7 ht7 hr7 HOV HVS HV5 H12 HR5 M6
                  go_wp2_with fail
                  go_roundw
                  case rel => exact ⟨acc ++ [x5], r5, t6, n', HN7, HT7, HM7, HR7, Lib.hid (by have := HN.out; have := HN5.out; omega), by simp; omega⟩
                  case measure => rw [hlen7.out, hmeas.out]; omega
              · exfalso; subst hn'; simp at hrs

/-- Numbers, as a list's elements. -/
def RInt (_ : World) (v : Value) (x : Int) : Prop := v = .iface 3 (.int .i64 x)
theorem els_cell {α : Type} {R : World → Value → α → Prop} {base : Nat} {w : World} {v : Value} {xs : List α} (h : IsEls R base w v xs) : ∃ A c, v = .slice A xs.length c ∧ ∀ k (hk : k < xs.length), ∃ g u, A = some ⟨g, 0, none⟩ ∧ g < w.heap.size ∧ w.cell? ⟨g, k, none⟩ = some u ∧ R w u xs[k] := by
  obtain ⟨vs, h1, h2⟩ := h
  rcases h1.2 with ⟨rfl, h0⟩ | ⟨g, cap, cur, rfl, hb, hg, hn, hm, hs, ht⟩
  · exact ⟨none, 0, by rw [h0], fun k hk => absurd hk (by omega)⟩
  · refine ⟨some ⟨g, 0, none⟩, cap, rfl, fun k hk => ?_⟩
    have hvl : vs.length = xs.length := by have := h1.1; omega
    have hv : vs[k]? = some (vs[k]'(by omega)) := List.getElem?_eq_getElem (by omega)
    refine ⟨g, _, rfl, lt_of_block hg, ?_, h2 k _ _ hv (List.getElem?_eq_getElem hk)⟩
    have := h1.cellAt k (by omega)
    rw [this, hv]

theorem assert_int (x : Int) (W : World) : (Instr.typeAssert (.iface 3 (.int .i64 x)) 20 3 false).run Tryz.prog W = .ok (.int .i64 x) W := by kernel_rfl
theorem assert_row (A : Option Addr) (n c : Nat) (W : World) : (Instr.typeAssert (.iface 35 (.slice A n c)) 20 35 false).run Tryz.prog W = .ok (.slice A n c) W := by kernel_rfl
/-- Rows, as a list's elements. -/
def RRow (b : Nat) (w : World) (v : Value) (l : List Int) : Prop := ∃ A c, v = .iface 35 (.slice A l.length c) ∧ w.ownsRow b 3 1 (.slice A l.length c) l.length (I l)
/-- A row's value. -/
def IRow (b : Nat) (w : World) (v : Value) (l : List Int) : Prop := ∃ A c, v = .slice A l.length c ∧ w.ownsRow b 3 1 (.slice A l.length c) l.length (I l)
/-- Rows that were read. -/
def RowsO (b b' : Nat) (w : World) (v : Value) (xs : List (List Int)) : Prop := ∃ vs : List Value, w.ownsRow b' 35 1 v xs.length vs ∧ ∀ (k : Nat) (u : Value) (l : List Int), vs[k]? = some u → xs[k]? = some l → IRow b w u l

set_option maxHeartbeats 1000000 in
set_option maxRecDepth 100000 in
theorem ints_any {base : Nat} (v : Value) (xs : List Int) (w : World) (h : IsEls RInt base w v xs) (hbig : xs.length ≤ 1048577) : Calls Tryz.prog 144 #[v] w (GivesInts w xs) := by
  obtain ⟨A, c, rfl, hc⟩ := els_cell h
  have HC := Lib.hid hc
  obtain ⟨i0, hi, hz0, hz1, hz2⟩ := info_parts Tryz.info3
  have HI := Lib.hid (And.intro hi (And.intro hz0 (And.intro hz1 hz2)))
  obtain ⟨n, hn⟩ : ∃ n, n = xs.length := ⟨_, rfl⟩
  have HN := Lib.hid hn
  rw [← hn] at hbig
  rw [← hn]
  clear h hc hn hi hz0 hz1 hz2
  go_enter Tryz.func144, Tryz.ntmps144
  go_wp2_with (at_make; refine wpList_make_own _ rfl _ _ 35 rfl w.heap.size 3 i0 (.int .i64 0) 1 Tryz.underlying35 HI.out.1 HI.out.2.1 HI.out.2.2.1 _ _ _ n rfl rfl rfl ?b2 ?b3 (by simp) ?_)
  case b2 => rw [HI.out.2.2.2]; omega
  case b3 => unfold maxLen; omega
  intro w1 hown1 hg1
  have hb1 : Below w.heap.size w w1 := (Below.refl _ _).grown hg1 (by simp) (by intro k hk; cases hk)
  go_wp2_with fail
  go_loopw [3, 11] (fun v i wr => ∃ k : Nat, k ≤ n ∧ i = .int .i64 (k : Nat) ∧ Hid (wr.ownsRow w.heap.size 3 1 v k (I (xs.take k))) ∧ Hid (Below w.heap.size w wr)) (fun _ i _ => n - (intOf i).toNat)
  case atStart => exact ⟨0, Nat.zero_le _, rfl, hown1, hb1⟩
  case round =>
    obtain ⟨k, hk, rfl, HO, HB⟩ := hrel
    clear hown1 hg1 hb1
    by_cases hlt : k < n
    · obtain ⟨g, u, hA, hg, hcu, hu⟩ := HC.out k (by rw [← HN.out]; exact hlt)
      have ck : wr.cell? ⟨g, k, none⟩ = some u := (HB.out.cell hg).trans hcu
      rw [hA]
      rw [show u = .iface 3 (.int .i64 (xs[k]'(by rw [← HN.out]; exact hlt))) from hu] at ck
      have HTK : Hid (I (xs.take (k + 1)) = I (xs.take k) ++ [.int .i64 (xs[k]'(by rw [← HN.out]; exact hlt))]) := Lib.hid (by rw [List.take_add_one, List.getElem?_eq_getElem (by rw [← HN.out]; exact hlt), I_append]; rfl)
      generalize xs[k]'(by rw [← HN.out]; exact hlt) = x at ck HTK
      have has := assert_int x
      have Z5 := Lib.hid HB.out.size
      clear hA hcu hu hg
      go_wp2_with (at_builtin; refine wpList_append_own _ rfl _ _ 35 rfl w.heap.size 3 i0 (.int .i64 0) 1 8 Tryz.underlying35 HI.out.1 HI.out.2.1 HI.out.2.2.1 HI.out.2.2.2 rfl (by decide) _ _ _ rfl (HO.out.alloc _) ⟨_, 0, none⟩ 1 1 [.int .i64 x] rfl rfl ?c1 ?c2 ?c3 ?c4 ?c5 ?_)
      case c1 => intro j u hj; match j, hj with | 0, hj => simp at hj; subst hj; simp [Addr.add]
      case c2 => intro u hu; simp at hu; subst hu; rfl
      case c3 => unfold maxLen; omega
      case c4 => omega
      case c5 => have := Z5.out; simp; omega
      intro v' w7 hown' hgrow _
      have HB7 := Lib.hid ((HB.out.alloc HB.out.size _).grown hgrow (by have := HB.out.size; simp; omega) (own_ge HO.out))
      rw [← HTK.out] at hown'
      have HO7 := Lib.hid hown'
      clear hown' hgrow HO HB
      go_wp2_with fail
      go_roundw
      case rel => exact ⟨k + 1, by omega, by go_num, HO7, HB7⟩
      case measure => simp [intOf]; omega
    · have hkn : k = n := by omega
      have HO2 : Hid (wr.ownsRow w.heap.size 3 1 u3 xs.length (I xs)) := Lib.hid (by have := HO.out; rw [hkn, HN.out, List.take_length] at this; exact this)
      clear hkn HO
      go_wp2_with fail
      go_ret
      exact ⟨_, rfl, HO2.out, HB.out⟩

theorem RRow.below {b : Nat} {w w' : World} {v : Value} {l : List Int} (h : RRow b w v l) (hb : Below w.heap.size w w') : RRow b w' v l := by
  obtain ⟨A, c, e, h1⟩ := h
  exact ⟨A, c, e, own_below h1 hb⟩

set_option maxHeartbeats 1000000 in
set_option maxRecDepth 100000 in
theorem rows_any {base b : Nat} (v : Value) (xs : List (List Int)) (w : World) (h : IsEls (RRow b) base w v xs) (hbig : xs.length ≤ 1048577) : Calls Tryz.prog 148 #[v] w fun e w' => ∃ v', e = .returned v' ∧ RowsO b w.heap.size w' v' xs ∧ Below w.heap.size w w' := by
  obtain ⟨A, c, rfl, hc⟩ := els_cell h
  have HC := Lib.hid hc
  obtain ⟨i0, hi, hz0, hz1, hz2⟩ := info_parts infoSl
  have HI := Lib.hid (And.intro hi (And.intro hz0 (And.intro hz1 hz2)))
  obtain ⟨n, hn⟩ : ∃ n, n = xs.length := ⟨_, rfl⟩
  have HN := Lib.hid hn
  rw [← hn] at hbig
  rw [← hn]
  clear h hc hn hi hz0 hz1 hz2
  go_enter Tryz.func148, Tryz.ntmps148
  go_wp2_with (at_make; refine wpList_make_own _ rfl _ _ 27 rfl w.heap.size 35 i0 (.slice none 0 0) 1 Tryz.underlying27 HI.out.1 HI.out.2.1 HI.out.2.2.1 _ _ _ n rfl rfl rfl ?b2 ?b3 (by simp) ?_)
  case b2 => rw [HI.out.2.2.2]; omega
  case b3 => unfold maxLen; omega
  intro w1 hown1 hg1
  have hb1 : Below w.heap.size w w1 := (Below.refl _ _).grown hg1 (by simp) (by intro k hk; cases hk)
  go_wp2_with fail
  go_loopw [3, 11] (fun v i wr => ∃ (k : Nat) (vs : List Value), k ≤ n ∧ i = .int .i64 (k : Nat) ∧ Hid (wr.ownsRow w.heap.size 35 1 v k vs) ∧ Hid (∀ (j : Nat) (u : Value) (l : List Int), vs[j]? = some u → xs[j]? = some l → IRow b w u l) ∧ Hid (Below w.heap.size w wr)) (fun _ i _ => n - (intOf i).toNat)
  case atStart => exact ⟨0, [], Nat.zero_le _, rfl, hown1, Lib.hid (fun j u l hj => by simp at hj), hb1⟩
  case round =>
    obtain ⟨k, vs, hk, rfl, HO, HV, HB⟩ := hrel
    clear hown1 hg1 hb1
    by_cases hlt : k < n
    · obtain ⟨g, u, hA, hg, hcu, A2, c2, hu, hR⟩ := HC.out k (by rw [← HN.out]; exact hlt)
      have ck : wr.cell? ⟨g, k, none⟩ = some u := (HB.out.cell hg).trans hcu
      rw [hA]
      rw [hu] at ck
      have HX : Hid (xs[k]? = some (xs[k]'(by rw [← HN.out]; exact hlt))) := Lib.hid (List.getElem?_eq_getElem _)
      generalize xs[k]'(by rw [← HN.out]; exact hlt) = x at ck hR HX
      have HR := Lib.hid hR
      generalize hxl : x.length = m at ck
      have HXL := Lib.hid hxl
      have has := assert_row A2 m c2
      have Z5 := Lib.hid HB.out.size
      clear hA hcu hu hg hR hxl
      go_wp2_with (at_builtin; refine wpList_append_own _ rfl _ _ 27 rfl w.heap.size 35 i0 (.slice none 0 0) 1 24 Tryz.underlying27 HI.out.1 HI.out.2.1 HI.out.2.2.1 HI.out.2.2.2 rfl (by decide) _ _ _ rfl (HO.out.alloc _) ⟨_, 0, none⟩ 1 1 [.slice A2 m c2] rfl rfl ?c1 ?c2 ?c3 ?c4 ?c5 ?_)
      case c1 => intro j u hj; match j, hj with | 0, hj => simp at hj; subst hj; simp [Addr.add]
      case c2 => intro u hu; simp at hu; subst hu; rfl
      case c3 => unfold maxLen; omega
      case c4 => omega
      case c5 => have := Z5.out; simp; omega
      intro v' w7 hown' hgrow _
      have HB7 := Lib.hid ((HB.out.alloc HB.out.size _).grown hgrow (by have := HB.out.size; simp; omega) (own_ge HO.out))
      have HV7 : Hid (∀ (j : Nat) (u : Value) (l : List Int), (vs ++ [.slice A2 m c2])[j]? = some u → xs[j]? = some l → IRow b w u l) := Lib.hid (fun j u l hj hl => by
        have hvl : vs.length = k := by have := HO.out.1; omega
        by_cases hjk : j < k
        · rw [List.getElem?_append_left (by omega)] at hj
          exact HV.out j u l hj hl
        · rw [List.getElem?_append_right (by omega)] at hj
          have h0 : j - vs.length = 0 := by
            have := (List.getElem?_eq_some_iff.1 hj).1
            simp at this; omega
          rw [h0] at hj
          simp at hj
          rw [show j = k by omega, HX.out] at hl
          cases hl
          subst hj
          have := HR.out
          rw [← HXL.out]
          exact ⟨A2, c2, rfl, this⟩)
      have HO7 := Lib.hid hown'
      clear hown' hgrow HO HB HV
      go_wp2_with fail
      go_roundw
      case rel => exact ⟨k + 1, _, by omega, by go_num, HO7, HV7, HB7⟩
      case measure => simp [intOf]; omega
    · have hkn : k = n := by omega
      have HO2 : Hid (wr.ownsRow w.heap.size 35 1 u3 xs.length vs) := Lib.hid (by have := HO.out; rw [hkn, HN.out] at this; exact this)
      clear hkn HO
      go_wp2_with fail
      go_ret
      exact ⟨_, rfl, ⟨vs, HO2.out, fun j u l hj hl => by obtain ⟨A, c, e, h1⟩ := HV.out j u l hj hl; exact ⟨A, c, e, own_below h1 HB.out⟩⟩, HB.out⟩

theorem eNumber : ∀ args w, (callFunc 147 args).run Tryz.prog w = .ok (.enter 147 args) w := enters_of Tryz.func147 (by kernel_rfl) rfl
/-- A list of numbers is read. -/
theorem list_num {S : Nat → Bool} {B : Nat} {r : PRest} {t : Sl} {ts : List Tok} (first last : Bs) (hf : first ≠ []) (hl : last ≠ []) (w : World) (h : IsTk S w B r t ts) :
    Calls Tryz.prog 145 #[.pointer (some ⟨B, 0, none⟩), .string (txt first), .string (txt last), .func (.func 147) #[.pointer (some ⟨B, 0, none⟩)] #[]] w (After S B r w (listP r.en first last (numP r.en) ts) fun xs w' v => IsEls RInt w.heap.size w' v xs) :=
  list_any (numP r.en) RInt (fun _ => True) 147 first last hf hl eNumber w h trivial (fun W _ _ hW _ => pnumber_any W hW) (fun _ _ _ _ _ h => h) (fun _ _ _ _ => trivial) (fun _ _ _ h => ⟨_, _, h⟩) (numP_eats r.en) (fun _ _ _ _ _ _ _ _ _ h => h)
end Go.Proofs.YtgemgmdnnjaghaaGreatDoor

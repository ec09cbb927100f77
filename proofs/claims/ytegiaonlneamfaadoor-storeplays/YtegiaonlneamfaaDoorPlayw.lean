/- The walk of StorePlays. -/
import Derived.Test.YtegiaonlneamfaaDoorPl5
import Derived.Test.YtegiaonlneamfaaDoorBackw
namespace Go.Proofs.YtegiaonlneamfaaDoor
open Go.RowKit Go.Sort

/-- One cell set above, nothing changed below. -/
theorem one_set_below {w w0 : World} {rb B i : Nat} {a : Value} (h : Below B w0 w) (hB : B ≤ rb) : Below B w0 (w.setCell ⟨rb, i, none⟩ a) := by
  refine ⟨h.os, h.tape, h.output, by simpa [World.setCell] using h.size, fun k hk => ?_⟩
  have hne : k ≠ rb := by omega
  rw [← h.block k hk]
  exact heap_setCell_other _ _ k a hne

/-- What the law asks behind each step. -/
theorem Pl.now_at {w wr : World} {base S gr n k : Nat} {st : Sto} {H : List (List (List Int))} {lv ev : Value} (h : Pl w wr base S gr n k st H lv ev) : ∃ g c X cx, lv = .slice (some ⟨g, 0, none⟩) (st.lev + 1) c ∧ wr.cell? ⟨g, st.lev, none⟩ = some (.slice X n cx) ∧ RowsT wr (.slice X n cx) (st.vs.map Vr.L) := by
  obtain ⟨g, c, x, e, hc, hR⟩ := h.levs.get h.hist.now
  obtain ⟨X, cx, rfl, -⟩ := hR.shape
  rw [List.length_map, h.vars] at hc hR
  rw [h.hist.len] at e
  exact ⟨g, c, X, cx, e, hc, hR⟩

set_option maxHeartbeats 4000000 in
set_option maxRecDepth 100000 in
theorem plays_walk (A O : Option Addr) (zss : List (List Int)) (n c no co mo : Nat) (w : World) (hT : Tab w) (hn : n = zss.length) (hnc : n ≤ c) (h : ListsIn w A zss)
    (ho : ActsIn w O no) (hoc : no ≤ co) (hmo : min (no : Int) 40 = (mo : Int)) (hO : no = 0 ∨ ∃ ad, O = some ad) :
    Calls Tryd.prog 3 #[.slice A n c, .slice O no co] w fun e w' => e = .returned (.bool true) ∧ Below w.heap.size w w' := by
  have HLs := Lib.hid (lists_any A zss n c w hn hnc h)
  have Ho := Lib.hid ho
  have HLn : Hid (((zss.take 6).map smallL).length ≤ 6) := Lib.hid (by simp; omega)
  have HLb : Hid (∀ L ∈ (zss.take 6).map smallL, L.length ≤ 8) := Lib.hid (by
    intro L hL
    rw [List.mem_map] at hL
    obtain ⟨zs, -, rfl⟩ := hL
    exact small_len zs)
  generalize (zss.take 6).map smallL = LL at *
  have hmo1 : mo ≤ no := by omega
  have hmo2 : mo ≤ 40 := by omega
  clear h ho hn hnc
  go_enter Tryd.func3, Tryd.ntmps3
  go_wp2_with fail
  refine HLs.out.mono ?_
  rintro e w2 ⟨va, vb, ds, rfl, hRa, hds, hRb, hsame, hzero, hb2⟩
  have HB2 := Lib.hid hb2
  have hdl : ds.length = LL.length := by rw [← hsame]; simp
  obtain ⟨Aa, ca, ea, hDA⟩ := (OwnDoms.mk hRa.1 hds).at
  subst ea
  have HNew := Lib.hid (new_store Aa ds ds.length ca w2 rfl hDA hzero (by have := HLn.out; omega))
  have Hz := Lib.hid hzero
  have Hsl : Hid (∀ LL' ∈ ([LL] : List (List (List Int))), ∀ L ∈ LL', L.length ≤ 8) := Lib.hid fun LL' h' L hL => HLb.out L (by rw [List.mem_singleton.1 h'] at hL; exact hL)
  have Hdl : Hid (ds.length ≤ 6) := Lib.hid (by rw [hdl]; exact HLn.out)
  have HRb := Lib.hid hRb
  have Hsame := Lib.hid hsame
  clear hRa hds hRb hsame hzero hb2 hDA HLs hdl
  go_wp2_with fail
  refine HNew.out.mono ?_
  rintro e w3 ⟨S, V, rfl, hS, hb3⟩
  have HS3 := Lib.hid hS
  have HB3 := Lib.hid (HB2.out.trans (hb3.mono HB2.out.size))
  have HRb3 := Lib.hid (HRb.out.below hb3)
  obtain ⟨Ab, cb, hvb, -⟩ := HRb3.out.shape
  subst hvb
  have HRN := Lib.hid (refnew_any _ LL w3 HRb3.out)
  have Hat := Lib.hid HB2.out.size
  clear hS hb3 HNew HB2 HRb
  go_wp2_with fail
  refine HRN.out.mono ?_
  rintro e w4 ⟨lv, rfl, hlv, hb4⟩
  obtain ⟨Al, cl, hl, -⟩ := hlv.shape
  subst hl
  have K5 := below1 w4 (.cells #[.slice Al ([LL] : List (List (List Int))).length cl, .slice none 0 0] 32)
  have k5 := hb4.trans (K5.mono hb4.size)
  have HP : Hid (Pl w (w4.alloc (.cells #[.slice Al ([LL] : List (List (List Int))).length cl, .slice none 0 0] 32)) w2.heap.size S w4.heap.size ds.length 0 (newSto V ds) [LL] (.slice Al ([LL] : List (List (List Int))).length cl) (.slice none 0 0)) := Lib.hid
    ⟨HS3.out.below k5, by rw [← Hsame.out]; exact Hist.new ds Hz.out, hlv.below K5, EvT.nil _, Blk.new w4 _ 32, rfl, Nat.le_refl _, Nat.le_refl _, Nat.le_refl _, Hsl.out, HB3.out.trans (k5.mono HB3.out.size), Hat.out, Nat.le_trans HB3.out.size hb4.size⟩
  obtain ⟨nv, hnv⟩ : ∃ nv, nv = ds.length := ⟨_, rfl⟩
  rw [← hnv] at HP Hdl
  have hnv6 : nv ≤ 6 := Hdl.out
  clear hnv hlv hb4 K5 k5 HRN HS3 HB3 HRb3 Hat Hsl Hz Hsame HLn HLb
  go_upto_region 3 with fail
  go_cut [37, 38, 39] (fun a b i wx => a = .slice O mo co ∧ b = .int .i64 (mo : Nat) ∧ i = .int .i64 0 ∧ wx = w4.alloc (.cells #[.slice Al ([LL] : List (List (List Int))).length cl, .slice none 0 0] 32))
  case first =>
    cases O
    all_goals
      go_wp2_with fail
      go_meet
      case rel => exact ⟨rfl, rfl, rfl, rfl⟩
  case rest =>
    obtain ⟨rfl, rfl, rfl, rfl⟩ := hcut
    generalize w4.alloc (.cells #[.slice Al ([LL] : List (List (List Int))).length cl, .slice none 0 0] 32) = wc at *
    go_wp2_with fail
    go_loopw [39] (fun i wr => ∃ k : Nat, k ≤ mo ∧ i = .int .i64 (k : Nat) ∧ Hid (∃ st H lv ev, Pl w wr w2.heap.size S w4.heap.size nv k st H lv ev)) (fun i _ => mo - (intOf i).toNat)
    case atStart => exact ⟨0, Nat.zero_le _, rfl, Lib.hid ⟨_, _, _, _, HP.out⟩⟩
    case round =>
      clear HP
      obtain ⟨wo, rfl⟩ : ∃ wo, wo = wr := ⟨_, rfl⟩
      obtain ⟨k, hk, rfl, HH⟩ := hrel
      obtain ⟨st, H, lv, ev, hP⟩ := HH.out
      have HP := Lib.hid hP
      clear hP HH
      by_cases hlt : k < mo
      · obtain ⟨ad, rfl⟩ : ∃ ad, O = some ad := by
          rcases hO with h0 | h0
          · omega
          · exact h0
        obtain ⟨kd, v, N, Z, nz, cz, zs, y0, y1, y2, y3, hA⟩ := Ho.out.at HP.out.low (k := k) (by omega)
        have HA := Lib.hid hA
        have hkd0 := hA.k0
        have hkd1 := hA.k1
        have hki : (k : Int) < (mo : Nat) := by omega
        have K1 := below1 wo (.cells #[.int .u8 kd, .int .i64 v, .int .i64 N, .slice Z nz cz] 36)
        have HP1 := Lib.hid (HP.out.below K1)
        have HX1 := Lib.hid (Blk.new wo #[.int .u8 kd, .int .i64 v, .int .i64 N, .slice Z nz cz] 36)
        clear hA K1 HP
        by_cases d3 : kd % 6 = 3
        · have q3 : (kd % 6 == 3) = true := by simp [d3]
          clear d3
          go_wp2_with fail
          refine (push_store HP1.out.store (by have := HP1.out.lev; omega)).mono ?_
          rintro e w5 ⟨rfl, hS5, hF5⟩
          obtain ⟨Ae, ne, ce, hev⟩ := HP1.out.evShape
          subst hev
          obtain ⟨Alv, clv, hlv, -⟩ := HP1.out.levs.shape
          subst hlv
          have HS5 := Lib.hid hS5
          have HB5 := Lib.hid (HP1.out.box.fr (by decide) hF5)
          have HL5 := Lib.hid (HP1.out.levs.fr hF5)
          have HE5 := Lib.hid (HP1.out.evs.fr hF5)
          have HW5 := Lib.hid (HP1.out.low.trans (hF5.below.mono HP1.out.atb))
          have b0 : w5.cell? ⟨w4.heap.size, 0, none⟩ = some (.slice Alv H.length clv) := HB5.out.cell 0
          have b1 : w5.cell? ⟨w4.heap.size, 1, none⟩ = some (.slice Ae ne ce) := HB5.out.cell 1
          have HRP := Lib.hid (refpush_any (.slice Alv H.length clv) (.slice Ae ne ce) H (st.vs.map Vr.L) w5 HL5.out HP1.out.now ⟨_, _, _, rfl⟩ (by rw [HP1.out.hist.len]; have := HP1.out.lev; omega))
          clear hS5 hF5 y0 y1 y2 y3 HX1
          go_wp2_with fail
          refine HRP.out.mono ?_
          rintro e w6 ⟨lv6, rfl, hl6, hb6⟩
          obtain ⟨A6, c6, hlv6, -⟩ := hl6.shape
          generalize (H ++ [st.vs.map Vr.L]).length = q6 at hlv6
          subst hlv6
          have HB6 := Lib.hid (HB5.out.below hb6)
          have r0 : w6.cell? ⟨w4.heap.size, 0, none⟩ = some (.slice Alv H.length clv) := HB6.out.cell 0
          have r1 : w6.cell? ⟨w4.heap.size, 1, none⟩ = some (.slice Ae ne ce) := HB6.out.cell 1
          have f0 := HB6.out.free 0
          have f1 := HB6.out.free 1
          obtain ⟨hS7, hL7, hE7, hB7⟩ := box_write (HS5.out.below hb6) HB6.out (plain_slice _ _ _) (plain_slice _ _ _) hl6 (HE5.out.below hb6)
          have HP7 := Lib.hid (show Pl w _ w2.heap.size S w4.heap.size nv (k + 1) { st with lev := st.lev + 1 } (H ++ [st.vs.map Vr.L]) _ _ from ⟨hS7, HP1.out.hist.push, hL7, hE7, hB7, HP1.out.vars, by have := HP1.out.bs; show st.bs.length ≤ _; omega, by have := HP1.out.es; show st.es.length ≤ _; omega, Nat.succ_le_succ HP1.out.lev, fun LL' h' => (List.mem_append.1 h').elim (HP1.out.small LL') fun h'' => by rw [List.mem_singleton.1 h'']; exact HP1.out.small _ (List.mem_of_getElem? HP1.out.hist.now), (two_set HB6.out _ _).2.2 (HW5.out.trans (hb6.mono HW5.out.size)) HP1.out.atr, HP1.out.atb, HP1.out.atr⟩)
          clear hl6 hb6 hS7 hL7 hE7 hB7 b0 b1 HB5 HL5 HE5 HW5 HS5 HRP HP1 HB6
          go_upto_region 35 with fail
          obtain ⟨W7, hW7⟩ : ∃ W7, W7 = ((w6.setCell ⟨w4.heap.size, 0, none⟩ (.slice A6 q6 c6)).setCell ⟨w4.heap.size, 1, none⟩ (.slice Ae ne ce)) := ⟨_, rfl⟩
          rw [← hW7] at HP7
          change Code.wp _ _ _ _ ((w6.setCell ⟨w4.heap.size, 0, none⟩ (.slice A6 q6 c6)).setCell ⟨w4.heap.size, 1, none⟩ (.slice Ae ne ce))
          rw [← hW7]
          clear hW7 r0 r1 f0 f1
          obtain ⟨st7, hst7⟩ : ∃ st7 : Sto, st7 = { st with lev := st.lev + 1 } := ⟨_, rfl⟩
          rw [← hst7] at HP7
          clear hst7
          obtain ⟨H8, lv8, ev8, HP7⟩ : ∃ H8 lv8 ev8, Hid (Pl w W7 w2.heap.size S w4.heap.size nv (k + 1) st7 H8 lv8 ev8) := ⟨_, _, _, HP7⟩
          obtain ⟨g5, c5, X5, cx5, hlv5, y5, hR5⟩ := HP7.out.now_at
          obtain ⟨A5, n5, e5, hev5⟩ := HP7.out.evShape
          subst hlv5
          subst hev5
          have HR5 := Lib.hid hR5
          have Hy5 := Lib.hid y5
          obtain ⟨q5, hq5⟩ : ∃ q5, q5 = st7.lev + 1 := ⟨_, rfl⟩
          have Hq5 := Lib.hid hq5
          have hlb5 : st7.lev ≤ 41 := by have := HP7.out.lev; omega
          have w15 : IntKind.i64.wrap ((q5 : Int) - 1) = (st7.lev : Int) := by rw [IntWalk.i64_in _ (by omega)]; omega
          have hne5 : (((st7.lev : Nat) : Int) != ((st7.lev : Nat) : Int)) = false := by simp
          have b5 : W7.cell? ⟨w4.heap.size, 0, none⟩ = some (.slice (some ⟨g5, 0, none⟩) q5 c5) := by rw [hq5]; exact HP7.out.box.cell 0
          have b6 : W7.cell? ⟨w4.heap.size, 1, none⟩ = some (.slice A5 n5 e5) := HP7.out.box.cell 1
          have HPl := Lib.hid fun (V : World) (hV : Below (W7).heap.size W7 V) => HP7.out.below hV
          have C1 : Hid (∀ q os, Calls Tryd.prog 19 #[ptr S] (grow (redrawn W7 q) os) fun e w'' => e = .returned (.int .i64 (st7.lev : Nat)) ∧ ∃ p : Regrown, w'' = grow (redrawn W7 p.d) p.os) := Lib.hid fun q os => Calls.regrown_of ((level_store (HPl.out _ (below_regrown _ q os)).store).mono fun _ _ h => ⟨h.1, h.2 ▸ Below.refl _ _⟩)
          have C2 : Hid (∀ q os, Calls Tryd.prog 21 #[.agg #[.slice (some ⟨g5, 0, none⟩) q5 c5, .slice A5 n5 e5]] (grow (redrawn W7 q) os) fun e w'' => e = .returned (.slice X5 nv cx5) ∧ ∃ p : Regrown, w'' = grow (redrawn W7 p.d) p.os) := Lib.hid fun q os => Calls.regrown_of (now_fix g5 c5 n5 e5 st7.lev q5 A5 X5 nv cx5 _ Hq5.out (by have := Hq5.out; omega) (cell_regrown Hy5.out q os))
          have C3 : Hid (∀ q os, Calls Tryd.prog 20 #[ptr S, .slice X5 nv cx5] (grow (redrawn W7 q) os) fun e w'' => e = .returned (.bool true) ∧ ∃ p : Regrown, w'' = grow (redrawn W7 p.d) p.os) := Lib.hid fun q os => Calls.regrown_of (same3_true (HPl.out _ (below_regrown _ q os)).store (hT.below (HPl.out _ (below_regrown _ q os)).low) X5 nv cx5 (st7.vs.map Vr.L) (by rw [List.length_map, HP7.out.vars]) (HR5.out.below (below_regrown _ q os)) rfl (by omega) (by
            intro L hL
            rw [List.mem_map] at hL
            obtain ⟨v, hv, rfl⟩ := hL
            have := HP7.out.smallv v hv
            omega))
          have B5 := cell_regrown b5
          have B6 := cell_regrown b6
          have HPf := HP7
          clear b5 b6 hq5 hR5 y5 HP7 hlb5
          refine wp_region_quiet_below (by kernel_rfl) (by kernel_rfl) ?_
          repeat (first | go_big_quiet_step ((first | (go_at_call 19; exact C1.out _ _) | (go_at_call 21; exact C2.out _ _) | (go_at_call 20; exact C3.out _ _))) | quiet_step ((first | (go_at_call 19; exact C1.out _ _) | (go_at_call 21; exact C2.out _ _) | (go_at_call 20; exact C3.out _ _))))
          refine wpQuiet_nil ?_
          intro _ hw'
          obtain ⟨⟨dq, osq⟩, hw''⟩ := hw'
          subst hw''
          have HN5 := Lib.hid (HPl.out _ (below_regrown W7 dq osq))
          generalize grow (redrawn W7 dq) osq = W6 at *
          clear B5 B6 C1 C2 C3 HPl
          go_wp2_with fail
          go_roundw
          case rel => exact ⟨k + 1, by omega, by go_num, Lib.hid ⟨_, _, _, _, HN5.out⟩⟩
          case measure => simp [intOf]; omega
        · by_cases d5 : kd % 6 = 5
          · have q3 : (kd % 6 == 3) = false := by simp; omega
            have q4 : (kd % 6 == 4) = false := by simp; omega
            have q5 : (kd % 6 == 5) = true := by simp [d5]
            clear d3 d5
            obtain ⟨Ae, ne, ce, hev⟩ := HP1.out.evShape
            subst hev
            obtain ⟨Alv, clv, hlv, -⟩ := HP1.out.levs.shape
            generalize H.length = qh at hlv
            subst hlv
            have HPd := Lib.hid (HP1.out.below ((Below.refl _ (wo.alloc (.cells #[.int .u8 kd, .int .i64 v, .int .i64 N, .slice Z nz cz] 36))).drew))
            have b1 : (wo.alloc (.cells #[.int .u8 kd, .int .i64 v, .int .i64 N, .slice Z nz cz] 36)).cell? ⟨w4.heap.size, 1, none⟩ = some (.slice Ae ne ce) := HP1.out.box.cell 1
            have HEv := Lib.hid (events_k77 HPd.out.store)
            go_upto_region 32 with fail
            clear y0 y1 y2 y3
            go_region_with (first
              | (go_at_call 14; refine HEv.out.mono ?_; rintro e w5 ⟨rfl, hS5, hF5, hE5⟩; have HS5 := Lib.hid hS5; have HB5 := Lib.hid (HPd.out.box.fr (by decide) hF5); have HL5 := Lib.hid (HPd.out.levs.fr hF5); have HE5 := Lib.hid (HPd.out.evs.fr hF5); have HW5 := Lib.hid (HPd.out.low.trans (hF5.below.mono HPd.out.atb)); have HR5 := Lib.hid (own_keep HPd.out.store.events.1 fun g cs hB => (hE5 g cs hB).trans (Eq.symm hB)); have c1 : w5.cell? ⟨w4.heap.size, 1, none⟩ = some (.slice Ae ne ce) := HB5.out.cell 1; clear hS5 hF5 hE5)
              | (go_at_call 13; refine (sameEv_true st.ev (.slice Ae ne ce) st.es w2.heap.size w5 HR5.out HE5.out (by have := HPd.out.es; omega)).mono ?_; rintro e w6 ⟨rfl, hb6⟩))
            all_goals
              have HB6 := Lib.hid (HB5.out.below hb6)
              have f1 := HB6.out.free 1
              have r1 : w6.cell? ⟨w4.heap.size, 1, none⟩ = some (.slice Ae ne ce) := HB6.out.cell 1
              obtain ⟨hS7, hL7, hB7⟩ := box_nil (HS5.out.below hb6) HB6.out (HL5.out.below hb6)
              have HP7 := Lib.hid (show Pl w _ w2.heap.size S w4.heap.size nv (k + 1) { st with ev := .slice none 0 0, es := [] } H _ _ from ⟨hS7, HPd.out.hist, hL7, EvT.nil _, hB7, HPd.out.vars, by have := HPd.out.bs; show st.bs.length ≤ _; omega, Nat.zero_le _, Nat.le_succ_of_le HPd.out.lev, HPd.out.small, one_set_below (HW5.out.trans (hb6.mono HW5.out.size)) HPd.out.atr, HPd.out.atb, HPd.out.atr⟩)
              clear hS7 hL7 hB7 hb6 c1 b1 HB5 HL5 HE5 HW5 HS5 HR5 HEv HPd HP1 HB6
              go_upto_region 35 with fail
              obtain ⟨W7, hW7⟩ : ∃ W7, W7 = w6.setCell ⟨w4.heap.size, 1, none⟩ (.slice none 0 0) := ⟨_, rfl⟩
              rw [← hW7] at HP7
              change Code.wp _ _ _ _ (w6.setCell ⟨w4.heap.size, 1, none⟩ (.slice none 0 0))
              rw [← hW7]
              clear hW7 r1 f1
              obtain ⟨st7, hst7⟩ : ∃ st7 : Sto, st7 = { st with ev := .slice none 0 0, es := [] } := ⟨_, rfl⟩
              rw [← hst7] at HP7
              clear hst7
              obtain ⟨H8, lv8, ev8, HP7⟩ : ∃ H8 lv8 ev8, Hid (Pl w W7 w2.heap.size S w4.heap.size nv (k + 1) st7 H8 lv8 ev8) := ⟨_, _, _, HP7⟩
              obtain ⟨g5, c5, X5, cx5, hlv5, y5, hR5⟩ := HP7.out.now_at
              obtain ⟨A5, n5, e5, hev5⟩ := HP7.out.evShape
              subst hlv5
              subst hev5
              have HR5 := Lib.hid hR5
              have Hy5 := Lib.hid y5
              obtain ⟨q5, hq5⟩ : ∃ q5, q5 = st7.lev + 1 := ⟨_, rfl⟩
              have Hq5 := Lib.hid hq5
              have hlb5 : st7.lev ≤ 41 := by have := HP7.out.lev; omega
              have w15 : IntKind.i64.wrap ((q5 : Int) - 1) = (st7.lev : Int) := by rw [IntWalk.i64_in _ (by omega)]; omega
              have hne5 : (((st7.lev : Nat) : Int) != ((st7.lev : Nat) : Int)) = false := by simp
              have b5 : W7.cell? ⟨w4.heap.size, 0, none⟩ = some (.slice (some ⟨g5, 0, none⟩) q5 c5) := by rw [hq5]; exact HP7.out.box.cell 0
              have b6 : W7.cell? ⟨w4.heap.size, 1, none⟩ = some (.slice A5 n5 e5) := HP7.out.box.cell 1
              have HPl := Lib.hid fun (V : World) (hV : Below (W7).heap.size W7 V) => HP7.out.below hV
              have C1 : Hid (∀ q os, Calls Tryd.prog 19 #[ptr S] (grow (redrawn W7 q) os) fun e w'' => e = .returned (.int .i64 (st7.lev : Nat)) ∧ ∃ p : Regrown, w'' = grow (redrawn W7 p.d) p.os) := Lib.hid fun q os => Calls.regrown_of ((level_store (HPl.out _ (below_regrown _ q os)).store).mono fun _ _ h => ⟨h.1, h.2 ▸ Below.refl _ _⟩)
              have C2 : Hid (∀ q os, Calls Tryd.prog 21 #[.agg #[.slice (some ⟨g5, 0, none⟩) q5 c5, .slice A5 n5 e5]] (grow (redrawn W7 q) os) fun e w'' => e = .returned (.slice X5 nv cx5) ∧ ∃ p : Regrown, w'' = grow (redrawn W7 p.d) p.os) := Lib.hid fun q os => Calls.regrown_of (now_fix g5 c5 n5 e5 st7.lev q5 A5 X5 nv cx5 _ Hq5.out (by have := Hq5.out; omega) (cell_regrown Hy5.out q os))
              have C3 : Hid (∀ q os, Calls Tryd.prog 20 #[ptr S, .slice X5 nv cx5] (grow (redrawn W7 q) os) fun e w'' => e = .returned (.bool true) ∧ ∃ p : Regrown, w'' = grow (redrawn W7 p.d) p.os) := Lib.hid fun q os => Calls.regrown_of (same3_true (HPl.out _ (below_regrown _ q os)).store (hT.below (HPl.out _ (below_regrown _ q os)).low) X5 nv cx5 (st7.vs.map Vr.L) (by rw [List.length_map, HP7.out.vars]) (HR5.out.below (below_regrown _ q os)) rfl (by omega) (by
                intro L hL
                rw [List.mem_map] at hL
                obtain ⟨v, hv, rfl⟩ := hL
                have := HP7.out.smallv v hv
                omega))
              have B5 := cell_regrown b5
              have B6 := cell_regrown b6
              have HPf := HP7
              clear b5 b6 hq5 hR5 y5 HP7 hlb5
              refine wp_region_quiet_below (by kernel_rfl) (by kernel_rfl) ?_
              repeat (first | go_big_quiet_step ((first | (go_at_call 19; exact C1.out _ _) | (go_at_call 21; exact C2.out _ _) | (go_at_call 20; exact C3.out _ _))) | quiet_step ((first | (go_at_call 19; exact C1.out _ _) | (go_at_call 21; exact C2.out _ _) | (go_at_call 20; exact C3.out _ _))))
              refine wpQuiet_nil ?_
              intro _ hw'
              obtain ⟨⟨dq, osq⟩, hw''⟩ := hw'
              subst hw''
              have HN5 := Lib.hid (HPl.out _ (below_regrown W7 dq osq))
              generalize grow (redrawn W7 dq) osq = W6 at *
              clear B5 B6 C1 C2 C3 HPl
              go_wp2_with fail
              go_roundw
              case rel => exact ⟨k + 1, by omega, by go_num, Lib.hid ⟨_, _, _, _, HN5.out⟩⟩
              case measure => simp [intOf]; omega
          · by_cases d4 : kd % 6 = 4
            · have q3 : (kd % 6 == 3) = false := by simp; omega
              have q4 : (kd % 6 == 4) = true := by simp [d4]
              clear d3 d5 d4
              go_wp2_with fail
              have HP2 := Lib.hid (HP1.out.below (below1 _ (.cells #[.int .i64 N, .int .i64 (max 0 N % 4)] 3)))
              have HX2 := Lib.hid (Blk.new (wo.alloc (.cells #[.int .u8 kd, .int .i64 v, .int .i64 N, .slice Z nz cz] 36)) #[.int .i64 N, .int .i64 (max 0 N % 4)] 3)
              rw [show (wo.alloc (.cells #[.int .u8 kd, .int .i64 v, .int .i64 N, .slice Z nz cz] 36)).heap.size = wo.heap.size + 1 by simp] at HX2
              clear HP1 HX1 y0 y1 y2 y3
              go_loopw [98] (fun i wr => ∃ j : Nat, j ≤ 2 ∧ i = .int .i64 (j : Nat) ∧ Hid (Blk wr (wo.heap.size + 1) #[.int .i64 N, .int .i64 (max 0 N % 4)] 3 ∧ ∃ st H lv ev, Pl w wr w2.heap.size S w4.heap.size nv k st H lv ev)) (fun i _ => 2 - (intOf i).toNat)
              case atStart => exact ⟨0, by omega, rfl, Lib.hid ⟨HX2.out, _, _, _, _, HP2.out⟩⟩
              case round =>
                clear HP2 HX2
                obtain ⟨wb, rfl⟩ : ∃ wb, wb = wr := ⟨_, rfl⟩
                obtain ⟨j, hj, rfl, HH⟩ := hrel
                obtain ⟨hX, st3, H3, lv3, ev3, hP3⟩ := HH.out
                have HP3 := Lib.hid hP3
                have HX3 := Lib.hid hX
                clear hP3 hX HH
                by_cases hj2 : j < 2
                · obtain ⟨m, hm⟩ : ∃ m : Int, wb.cell? ⟨wo.heap.size + 1, j, none⟩ = some (.int .i64 m) := by
                    match j, hj2 with
                    | 0, _ => exact ⟨_, HX3.out.cell 0⟩
                    | 1, _ => exact ⟨_, HX3.out.cell 1⟩
                  have hji : (j : Int) < 2 := by omega
                  go_wp2_with fail
                  refine (back_any HP3.out.store m (by have := HP3.out.bs; omega)).mono ?_
                  rintro e w5 ⟨er, st5, rfl, hS5, hB5, hF5⟩
                  obtain ⟨Ae, ne, ce, hev⟩ := HP3.out.evShape
                  subst hev
                  obtain ⟨Alv, clv, hlv, -⟩ := HP3.out.levs.shape
                  generalize H3.length = qh at hlv
                  subst hlv
                  have HB := Lib.hid hB5
                  have HS5 := Lib.hid hS5
                  have HX5 := Lib.hid (HX3.out.fr (by decide) hF5)
                  have Hbx5 := Lib.hid (HP3.out.box.fr (by decide) hF5)
                  have HW5 := Lib.hid (HP3.out.low.trans (hF5.below.mono HP3.out.atb))
                  have HRB := Lib.hid (refback_any hB5 (.slice Alv qh clv) (.slice Ae ne ce) H3 w5 HP3.out.hist (HP3.out.levs.fr hF5) (HP3.out.evs.fr hF5) (by have := HP3.out.lev; omega))
                  have b0 : w5.cell? ⟨w4.heap.size, 0, none⟩ = some (.slice Alv qh clv) := Hbx5.out.cell 0
                  have b1 : w5.cell? ⟨w4.heap.size, 1, none⟩ = some (.slice Ae ne ce) := Hbx5.out.cell 1
                  have hne : (er != er) = false := by simp
                  clear hS5 hB5 hF5 hm HX3
                  go_wp2_with fail
                  refine HRB.out.mono ?_
                  rintro e w6 ⟨A1, n1, c1, A2, n2, c2, rfl, hl6, he6, hb6⟩
                  have K7 := below1 w6 (.cells #[.slice A1 n1 c1, .slice A2 n2 c2] 32)
                  have k7 := hb6.trans (K7.mono hb6.size)
                  have HB7 := Lib.hid (Hbx5.out.below k7)
                  have HX7 := Lib.hid (HX5.out.below k7)
                  have r0 : (w6.alloc (.cells #[.slice A1 n1 c1, .slice A2 n2 c2] 32)).cell? ⟨w4.heap.size, 0, none⟩ = some (.slice Alv qh clv) := HB7.out.cell 0
                  have r1 : (w6.alloc (.cells #[.slice A1 n1 c1, .slice A2 n2 c2] 32)).cell? ⟨w4.heap.size, 1, none⟩ = some (.slice Ae ne ce) := HB7.out.cell 1
                  have f0 := HB7.out.free 0
                  have f1 := HB7.out.free 1
                  obtain ⟨hS8, hL8, hE8, hB8⟩ := box_write (HS5.out.below k7) HB7.out (plain_slice _ _ _) (plain_slice _ _ _) (hl6.below K7) (he6.below K7)
                  have HP8 := Lib.hid (HP3.out.back_any HB.out hS8 hL8 hE8 hB8 ((two_set HB7.out _ _).2.2 (HW5.out.trans (k7.mono HW5.out.size)) HP3.out.atr))
                  have HX8 := Lib.hid (((two_set HB7.out (.slice A1 n1 c1) (.slice A2 n2 c2)).2.1 3 _ _ (by decide) HX7.out).trans HX7.out)
                  clear hS8 hL8 hE8 hB8 hl6 he6 hb6 K7 k7 b0 b1 Hbx5 HX5 HW5 HRB HS5 HP3
                  go_wp2_with fail
                  go_roundw
                  case rel => exact ⟨j + 1, by omega, by go_num, Lib.hid ⟨HX8.out, _, _, _, _, HP8.out⟩⟩
                  case measure => simp [intOf]; omega
                · have hji : ¬ ((j : Int) < 2) := by omega
                  go_upto_region 35 with fail
                  have HP7 := Lib.hid (HP3.out.more (Nat.le_succ k))
                  clear HP3 HX3
                  obtain ⟨H8, lv8, ev8, HP7⟩ : ∃ H8 lv8 ev8, Hid (Pl w wb w2.heap.size S w4.heap.size nv (k + 1) st3 H8 lv8 ev8) := ⟨_, _, _, HP7⟩
                  obtain ⟨g5, c5, X5, cx5, hlv5, y5, hR5⟩ := HP7.out.now_at
                  obtain ⟨A5, n5, e5, hev5⟩ := HP7.out.evShape
                  subst hlv5
                  subst hev5
                  have HR5 := Lib.hid hR5
                  have Hy5 := Lib.hid y5
                  obtain ⟨q5, hq5⟩ : ∃ q5, q5 = st3.lev + 1 := ⟨_, rfl⟩
                  have Hq5 := Lib.hid hq5
                  have hlb5 : st3.lev ≤ 41 := by have := HP7.out.lev; omega
                  have w15 : IntKind.i64.wrap ((q5 : Int) - 1) = (st3.lev : Int) := by rw [IntWalk.i64_in _ (by omega)]; omega
                  have hne5 : (((st3.lev : Nat) : Int) != ((st3.lev : Nat) : Int)) = false := by simp
                  have b5 : wb.cell? ⟨w4.heap.size, 0, none⟩ = some (.slice (some ⟨g5, 0, none⟩) q5 c5) := by rw [hq5]; exact HP7.out.box.cell 0
                  have b6 : wb.cell? ⟨w4.heap.size, 1, none⟩ = some (.slice A5 n5 e5) := HP7.out.box.cell 1
                  have HPl := Lib.hid fun (V : World) (hV : Below (wb).heap.size wb V) => HP7.out.below hV
                  have C1 : Hid (∀ q os, Calls Tryd.prog 19 #[ptr S] (grow (redrawn wb q) os) fun e w'' => e = .returned (.int .i64 (st3.lev : Nat)) ∧ ∃ p : Regrown, w'' = grow (redrawn wb p.d) p.os) := Lib.hid fun q os => Calls.regrown_of ((level_store (HPl.out _ (below_regrown _ q os)).store).mono fun _ _ h => ⟨h.1, h.2 ▸ Below.refl _ _⟩)
                  have C2 : Hid (∀ q os, Calls Tryd.prog 21 #[.agg #[.slice (some ⟨g5, 0, none⟩) q5 c5, .slice A5 n5 e5]] (grow (redrawn wb q) os) fun e w'' => e = .returned (.slice X5 nv cx5) ∧ ∃ p : Regrown, w'' = grow (redrawn wb p.d) p.os) := Lib.hid fun q os => Calls.regrown_of (now_fix g5 c5 n5 e5 st3.lev q5 A5 X5 nv cx5 _ Hq5.out (by have := Hq5.out; omega) (cell_regrown Hy5.out q os))
                  have C3 : Hid (∀ q os, Calls Tryd.prog 20 #[ptr S, .slice X5 nv cx5] (grow (redrawn wb q) os) fun e w'' => e = .returned (.bool true) ∧ ∃ p : Regrown, w'' = grow (redrawn wb p.d) p.os) := Lib.hid fun q os => Calls.regrown_of (same3_true (HPl.out _ (below_regrown _ q os)).store (hT.below (HPl.out _ (below_regrown _ q os)).low) X5 nv cx5 (st3.vs.map Vr.L) (by rw [List.length_map, HP7.out.vars]) (HR5.out.below (below_regrown _ q os)) rfl (by omega) (by
                    intro L hL
                    rw [List.mem_map] at hL
                    obtain ⟨v, hv, rfl⟩ := hL
                    have := HP7.out.smallv v hv
                    omega))
                  have B5 := cell_regrown b5
                  have B6 := cell_regrown b6
                  have HPf := HP7
                  clear b5 b6 hq5 hR5 y5 HP7 hlb5
                  refine wp_region_quiet_below (by kernel_rfl) (by kernel_rfl) ?_
                  repeat (first | go_big_quiet_step ((first | (go_at_call 19; exact C1.out _ _) | (go_at_call 21; exact C2.out _ _) | (go_at_call 20; exact C3.out _ _))) | quiet_step ((first | (go_at_call 19; exact C1.out _ _) | (go_at_call 21; exact C2.out _ _) | (go_at_call 20; exact C3.out _ _))))
                  refine wpQuiet_nil ?_
                  intro _ hw'
                  obtain ⟨⟨dq, osq⟩, hw''⟩ := hw'
                  subst hw''
                  have HN5 := Lib.hid (HPl.out _ (below_regrown wb dq osq))
                  generalize grow (redrawn wb dq) osq = W6 at *
                  clear B5 B6 C1 C2 C3 HPl
                  go_wp2_with fail
                  go_roundw
                  case rel => exact ⟨k + 1, by omega, by go_num, Lib.hid ⟨_, _, _, _, HN5.out⟩⟩
                  case measure => simp [intOf]; omega
            · have q3 : (kd % 6 == 3) = false := by simp; omega
              have q4 : (kd % 6 == 4) = false := by simp; omega
              have q5 : (kd % 6 == 5) = false := by simp; omega
              clear d3 d5 d4
              go_wp2_with fail
              have hsl := small_len zs
              have Hself := Lib.hid (small_self zs)
              have HSm := Lib.hid (small_any Z zs nz cz _ HA.out.len (HA.out.lies.below HP1.out.low))
              have HsL := Lib.hid hsl
              generalize smallL zs = L at *
              refine HSm.out.mono ?_
              rintro e w5 ⟨v5, rfl, ho5, hb5⟩
              have hI5 : IntsT w5 v5 L := own_base ho5 (Nat.zero_le _)
              obtain ⟨A5, k5, rfl, hl5, -⟩ := hI5.lies
              have HP5 := Lib.hid (HP1.out.below hb5)
              have HX5 := Lib.hid (HX1.out.below hb5)
              have HI5 := Lib.hid hI5
              have HO := Lib.hid ((of_dom A5 L k5 w5 hl5 (by omega)).mono fun _ _ => GivesDom.parts)
              rw [Hself.out] at HO
              clear ho5 hb5 hI5 hl5 HSm HX1 HP1 Hself y0 y1 y2 y3
              go_wp2_with fail
              refine HO.out.mono ?_
              rintro e w6 ⟨s6, A6, n6, c6, rfl, hd6, hb6⟩
              have K6 := below1 w6 (.cells #[.int .i64 s6, .slice A6 n6 c6, .int .i64 (L.length : Nat)] 48)
              have k6 := hb6.trans (K6.mono hb6.size)
              have HP6 := Lib.hid (HP5.out.below k6)
              have HX6 := Lib.hid (HX5.out.below k6)
              have HI6 := Lib.hid (HI5.out.below k6)
              have HD6 := Lib.hid (hd6.below K6)
              have HY6 := Lib.hid (Blk.new w6 #[.int .i64 s6, .slice A6 n6 c6, .int .i64 (L.length : Nat)] 48)
              have x1 : (w6.alloc (.cells #[.int .i64 s6, .slice A6 n6 c6, .int .i64 (L.length : Nat)] 48)).cell? ⟨wo.heap.size, 1, none⟩ = some (.int .i64 v) := HX6.out.cell 1
              clear hd6 hb6 K6 k6 HO HX5 HP5 HI5 hsl
              go_wp2_with fail
              have K7 := below1 (w6.alloc (.cells #[.int .i64 s6, .slice A6 n6 c6, .int .i64 (L.length : Nat)] 48)) (.cells #[.int .i64 v, .int .i64 (max 0 v % 6)] 3)
              have HP7 := Lib.hid (HP6.out.below K7)
              have HI7 := Lib.hid (HI6.out.below K7)
              have HD7 := Lib.hid (HD6.out.below K7)
              have HY7 := Lib.hid (HY6.out.below K7)
              have HX7 := Lib.hid (Blk.new (w6.alloc (.cells #[.int .i64 s6, .slice A6 n6 c6, .int .i64 (L.length : Nat)] 48)) #[.int .i64 v, .int .i64 (max 0 v % 6)] 3)
              rw [show (w6.alloc (.cells #[.int .i64 s6, .slice A6 n6 c6, .int .i64 (L.length : Nat)] 48)).heap.size = w6.heap.size + 1 by simp] at HX7
              clear x1 K7 HP6 HI6 HD6 HY6 HX6
              go_loopw [62] (fun i wr => ∃ j : Nat, j ≤ 2 ∧ i = .int .i64 (j : Nat) ∧ Hid (Blk wr (w6.heap.size + 1) #[.int .i64 v, .int .i64 (max 0 v % 6)] 3 ∧ Blk wr w6.heap.size #[.int .i64 s6, .slice A6 n6 c6, .int .i64 (L.length : Nat)] 48 ∧ IsDom wr (.agg #[.int .i64 s6, .slice A6 n6 c6, .int .i64 (L.length : Nat)]) L ∧ IntsT wr (.slice A5 L.length k5) L ∧ ∃ st H lv ev, Pl w wr w2.heap.size S w4.heap.size nv (k + 1) st H lv ev ∧ st.bs.length ≤ k * 2 + j ∧ st.es.length ≤ k * 2 + j)) (fun i _ => 2 - (intOf i).toNat)
              case atStart => exact ⟨0, by omega, rfl, Lib.hid ⟨HX7.out, HY7.out, HD7.out, HI7.out, _, _, _, _, HP7.out.more (Nat.le_succ k), HP7.out.bs, HP7.out.es⟩⟩
              case round =>
                clear HP7 HX7 HY7 HD7 HI7
                obtain ⟨wb, rfl⟩ : ∃ wb, wb = wr := ⟨_, rfl⟩
                obtain ⟨j, hj, rfl, HH⟩ := hrel
                obtain ⟨hX, hY, hD, hI, st3, H3, lv3, ev3, hP3, hbs, hes⟩ := HH.out
                have HP3 := Lib.hid hP3
                have HX3 := Lib.hid hX
                have HY3 := Lib.hid hY
                have HD3 := Lib.hid hD
                have HI3 := Lib.hid hI
                have Hbs := Lib.hid (And.intro hbs hes)
                clear hP3 hX hY hD hI HH hbs hes
                by_cases hj2 : j < 2
                · obtain ⟨m, hm⟩ : ∃ m : Int, wb.cell? ⟨w6.heap.size + 1, j, none⟩ = some (.int .i64 m) := by
                    match j, hj2 with
                    | 0, _ => exact ⟨_, HX3.out.cell 0⟩
                    | 1, _ => exact ⟨_, HX3.out.cell 1⟩
                  have hji : (j : Int) < 2 := by omega
                  have d0 : wb.cell? ⟨w6.heap.size, 0, none⟩ = some (.int .i64 s6) := HY3.out.cell 0
                  have d1 : wb.cell? ⟨w6.heap.size, 1, none⟩ = some (.slice A6 n6 c6) := HY3.out.cell 1
                  have d2 : wb.cell? ⟨w6.heap.size, 2, none⟩ = some (.int .i64 (L.length : Nat)) := HY3.out.cell 2
                  go_wp2_with fail
                  refine (narrow_any HP3.out.store (hT.below HP3.out.low) m s6 A6 n6 c6 L HD3.out (by have := HP3.out.bs; omega) (by have := HP3.out.es; omega)).mono ?_
                  rintro e w7 ⟨ch, st7, rfl, hS7, hN7, hF7⟩
                  obtain ⟨Ae, ne, ce, hev⟩ := HP3.out.evShape
                  subst hev
                  obtain ⟨Alv, clv, hlv, -⟩ := HP3.out.levs.shape
                  generalize H3.length = qh at hlv
                  subst hlv
                  have HN := Lib.hid hN7
                  have HS7 := Lib.hid hS7
                  have HX7 := Lib.hid (HX3.out.fr (by decide) hF7)
                  have HY7 := Lib.hid (HY3.out.fr (by decide) hF7)
                  have HD7 := Lib.hid (HD3.out.fr hF7)
                  have HI7 := Lib.hid (HI3.out.fr hF7)
                  have Hbx7 := Lib.hid (HP3.out.box.fr (by decide) hF7)
                  have HW7 := Lib.hid (HP3.out.low.trans (hF7.below.mono HP3.out.atb))
                  have HRN := Lib.hid (refnarrow_for hN7 (.slice Alv qh clv) (.slice Ae ne ce) (.slice A5 L.length k5) H3 w7 HP3.out.hist (HP3.out.levs.fr hF7) (HP3.out.evs.fr hF7) HI7.out HP3.out.smallv HsL.out (by have := HP3.out.lev; omega) (by have := HP3.out.es; omega) (by rw [HP3.out.vars]; omega))
                  have b0 : w7.cell? ⟨w4.heap.size, 0, none⟩ = some (.slice Alv qh clv) := Hbx7.out.cell 0
                  have b1 : w7.cell? ⟨w4.heap.size, 1, none⟩ = some (.slice Ae ne ce) := Hbx7.out.cell 1
                  have hne : (ch != ch) = false := by simp
                  clear hS7 hN7 hF7 hm d0 d1 d2 HX3 HY3 HD3 HI3
                  go_wp2_with fail
                  refine HRN.out.mono ?_
                  rintro e w8 ⟨lv8, ev8, rfl, hl8, he8, hb8⟩
                  obtain ⟨A1, c1, hlv8, -⟩ := hl8.shape
                  obtain ⟨A2, c2, hev8⟩ := slice_row he8
                  generalize (H3.set st3.lev (st7.vs.map Vr.L)).length = q1 at hlv8
                  generalize st7.es.length = q2 at hev8
                  subst hlv8
                  subst hev8
                  have K8 := below1 w8 (.cells #[.slice A1 q1 c1, .slice A2 q2 c2] 32)
                  have k8 := hb8.trans (K8.mono hb8.size)
                  have HB8 := Lib.hid (Hbx7.out.below k8)
                  have HX8 := Lib.hid (HX7.out.below k8)
                  have HY8 := Lib.hid (HY7.out.below k8)
                  have HD8 := Lib.hid (HD7.out.below k8)
                  have HI8 := Lib.hid (HI7.out.below k8)
                  have r0 : (w8.alloc (.cells #[.slice A1 q1 c1, .slice A2 q2 c2] 32)).cell? ⟨w4.heap.size, 0, none⟩ = some (.slice Alv qh clv) := HB8.out.cell 0
                  have r1 : (w8.alloc (.cells #[.slice A1 q1 c1, .slice A2 q2 c2] 32)).cell? ⟨w4.heap.size, 1, none⟩ = some (.slice Ae ne ce) := HB8.out.cell 1
                  have f0 := HB8.out.free 0
                  have f1 := HB8.out.free 1
                  obtain ⟨hS9, hL9, hE9, hB9⟩ := box_write (HS7.out.below k8) HB8.out (plain_slice _ _ _) (plain_slice _ _ _) (hl8.below K8) (he8.below K8)
                  have Hbs9 : Hid (st7.bs.length ≤ k * 2 + (j + 1) ∧ st7.es.length ≤ k * 2 + (j + 1)) := Lib.hid (by obtain ⟨-, -, a3, a4⟩ := HN.out.len; have := Hbs.out; omega)
                  have HP9 := Lib.hid (HP3.out.narrow HN.out hS9 hL9 hE9 hB9 ((two_set HB8.out _ _).2.2 (HW7.out.trans (k8.mono HW7.out.size)) HP3.out.atr) (by have := Hbs9.out; omega) (by have := Hbs9.out; omega))
                  have HX9 := Lib.hid (((two_set HB8.out (.slice A1 q1 c1) (.slice A2 q2 c2)).2.1 3 _ _ (by decide) HX8.out).trans HX8.out)
                  have HY9 := Lib.hid (((two_set HB8.out (.slice A1 q1 c1) (.slice A2 q2 c2)).2.1 48 _ _ (by decide) HY8.out).trans HY8.out)
                  have HI9 : Hid (IntsT ((((w8.alloc (.cells #[.slice A1 q1 c1, .slice A2 q2 c2] 32)).setCell ⟨w4.heap.size, 0, none⟩ (.slice A1 q1 c1))).setCell ⟨w4.heap.size, 1, none⟩ (.slice A2 q2 c2)) (.slice A5 L.length k5) L) := Lib.hid (own_keep HI8.out fun g cs hB => (two_set HB8.out (.slice A1 q1 c1) (.slice A2 q2 c2)).2.1 3 g cs (by decide) hB)
                  have HD9 : Hid (IsDom ((((w8.alloc (.cells #[.slice A1 q1 c1, .slice A2 q2 c2] 32)).setCell ⟨w4.heap.size, 0, none⟩ (.slice A1 q1 c1))).setCell ⟨w4.heap.size, 1, none⟩ (.slice A2 q2 c2)) (.agg #[.int .i64 s6, .slice A6 n6 c6, .int .i64 (L.length : Nat)]) L) := Lib.hid (dom_two HD8.out HB8.out _)
                  clear hS9 hL9 hE9 hB9 hl8 he8 hb8 K8 k8 b0 b1 Hbx7 HX7 HX8 HY7 HY8 HD7 HD8 HI7 HI8 HW7 HRN HS7 HP3 Hbs
                  go_wp2_with fail
                  go_roundw
                  case rel => exact ⟨j + 1, by omega, by go_num, Lib.hid ⟨HX9.out, HY9.out, HD9.out, HI9.out, _, _, _, _, HP9.out, Hbs9.out⟩⟩
                  case measure => simp [intOf]; omega
                · have hji : ¬ ((j : Int) < 2) := by omega
                  go_upto_region 35 with fail
                  have HP7 := HP3
                  clear HP3 HX3 HY3 HD3 HI3 Hbs
                  obtain ⟨H8, lv8, ev8, HP7⟩ : ∃ H8 lv8 ev8, Hid (Pl w wb w2.heap.size S w4.heap.size nv (k + 1) st3 H8 lv8 ev8) := ⟨_, _, _, HP7⟩
                  obtain ⟨g5, c5, X5, cx5, hlv5, y5, hR5⟩ := HP7.out.now_at
                  obtain ⟨A5, n5, e5, hev5⟩ := HP7.out.evShape
                  subst hlv5
                  subst hev5
                  have HR5 := Lib.hid hR5
                  have Hy5 := Lib.hid y5
                  obtain ⟨q5, hq5⟩ : ∃ q5, q5 = st3.lev + 1 := ⟨_, rfl⟩
                  have Hq5 := Lib.hid hq5
                  have hlb5 : st3.lev ≤ 41 := by have := HP7.out.lev; omega
                  have w15 : IntKind.i64.wrap ((q5 : Int) - 1) = (st3.lev : Int) := by rw [IntWalk.i64_in _ (by omega)]; omega
                  have hne5 : (((st3.lev : Nat) : Int) != ((st3.lev : Nat) : Int)) = false := by simp
                  have b5 : wb.cell? ⟨w4.heap.size, 0, none⟩ = some (.slice (some ⟨g5, 0, none⟩) q5 c5) := by rw [hq5]; exact HP7.out.box.cell 0
                  have b6 : wb.cell? ⟨w4.heap.size, 1, none⟩ = some (.slice A5 n5 e5) := HP7.out.box.cell 1
                  have HPl := Lib.hid fun (V : World) (hV : Below (wb).heap.size wb V) => HP7.out.below hV
                  have C1 : Hid (∀ q os, Calls Tryd.prog 19 #[ptr S] (grow (redrawn wb q) os) fun e w'' => e = .returned (.int .i64 (st3.lev : Nat)) ∧ ∃ p : Regrown, w'' = grow (redrawn wb p.d) p.os) := Lib.hid fun q os => Calls.regrown_of ((level_store (HPl.out _ (below_regrown _ q os)).store).mono fun _ _ h => ⟨h.1, h.2 ▸ Below.refl _ _⟩)
                  have C2 : Hid (∀ q os, Calls Tryd.prog 21 #[.agg #[.slice (some ⟨g5, 0, none⟩) q5 c5, .slice A5 n5 e5]] (grow (redrawn wb q) os) fun e w'' => e = .returned (.slice X5 nv cx5) ∧ ∃ p : Regrown, w'' = grow (redrawn wb p.d) p.os) := Lib.hid fun q os => Calls.regrown_of (now_fix g5 c5 n5 e5 st3.lev q5 A5 X5 nv cx5 _ Hq5.out (by have := Hq5.out; omega) (cell_regrown Hy5.out q os))
                  have C3 : Hid (∀ q os, Calls Tryd.prog 20 #[ptr S, .slice X5 nv cx5] (grow (redrawn wb q) os) fun e w'' => e = .returned (.bool true) ∧ ∃ p : Regrown, w'' = grow (redrawn wb p.d) p.os) := Lib.hid fun q os => Calls.regrown_of (same3_true (HPl.out _ (below_regrown _ q os)).store (hT.below (HPl.out _ (below_regrown _ q os)).low) X5 nv cx5 (st3.vs.map Vr.L) (by rw [List.length_map, HP7.out.vars]) (HR5.out.below (below_regrown _ q os)) rfl (by omega) (by
                    intro L hL
                    rw [List.mem_map] at hL
                    obtain ⟨v, hv, rfl⟩ := hL
                    have := HP7.out.smallv v hv
                    omega))
                  have B5 := cell_regrown b5
                  have B6 := cell_regrown b6
                  have HPf := HP7
                  clear b5 b6 hq5 hR5 y5 HP7 hlb5
                  refine wp_region_quiet_below (by kernel_rfl) (by kernel_rfl) ?_
                  repeat (first | go_big_quiet_step ((first | (go_at_call 19; exact C1.out _ _) | (go_at_call 21; exact C2.out _ _) | (go_at_call 20; exact C3.out _ _))) | quiet_step ((first | (go_at_call 19; exact C1.out _ _) | (go_at_call 21; exact C2.out _ _) | (go_at_call 20; exact C3.out _ _))))
                  refine wpQuiet_nil ?_
                  intro _ hw'
                  obtain ⟨⟨dq, osq⟩, hw''⟩ := hw'
                  subst hw''
                  have HN5 := Lib.hid (HPl.out _ (below_regrown wb dq osq))
                  generalize grow (redrawn wb dq) osq = W6 at *
                  clear B5 B6 C1 C2 C3 HPl
                  go_wp2_with fail
                  go_roundw
                  case rel => exact ⟨k + 1, by omega, by go_num, Lib.hid ⟨_, _, _, _, HN5.out⟩⟩
                  case measure => simp [intOf]; omega
      · obtain ⟨Ae, ne, ce, hev⟩ := HP.out.evShape
        subst hev
        obtain ⟨g5, c5, X5, cx5, hlv5, y5, hR5⟩ := HP.out.now_at
        subst hlv5
        obtain ⟨q5, hq5⟩ : ∃ q5, q5 = st.lev + 1 := ⟨_, rfl⟩
        have Hq5 := Lib.hid hq5
        have HR5 := Lib.hid hR5
        have Hy5 := Lib.hid y5
        have Hlb : Hid (st.lev ≤ 41) := Lib.hid (by have := HP.out.lev; omega)
        clear hR5 y5
        go_wp2_with fail
        refine (wakes3 _ (hT.below HP.out.low)).mono ?_
        rintro e w5 ⟨rfl, hb5⟩
        have HP5 := Lib.hid (HP.out.below hb5)
        have HR6 := Lib.hid (HR5.out.below hb5)
        have y6 : w5.cell? ⟨g5, st.lev, none⟩ = some (.slice X5 nv cx5) := (hb5.cell (World.block_lt_of_cell? wo ⟨g5, st.lev, none⟩ Hy5.out)).trans Hy5.out
        have Hy6 := Lib.hid y6
        have b0 : w5.cell? ⟨w4.heap.size, 0, none⟩ = some (.slice (some ⟨g5, 0, none⟩) q5 c5) := by rw [hq5]; exact HP5.out.box.cell 0
        have b1 : w5.cell? ⟨w4.heap.size, 1, none⟩ = some (.slice Ae ne ce) := HP5.out.box.cell 1
        clear hb5 y6 hq5 HP HR5 Hy5
        go_wp2_with fail
        refine (now_fix g5 c5 ne ce st.lev q5 Ae X5 nv cx5 w5 Hq5.out (by have := Hq5.out; have := Hlb.out; omega) Hy6.out).mono ?_
        rintro e w6 ⟨rfl, hb6⟩
        have HP6 := Lib.hid (HP5.out.below hb6)
        have HR7 := Lib.hid (HR6.out.below hb6)
        clear hb6 b0 b1 HP5 HR6 Hy6
        go_wp2_with fail
        refine (same3_true HP6.out.store (hT.below HP6.out.low) X5 nv cx5 (st.vs.map Vr.L) (by rw [List.length_map, HP6.out.vars]) HR7.out rfl (by omega) (by
          intro L hL
          rw [List.mem_map] at hL
          obtain ⟨v, hv, rfl⟩ := hL
          have := HP6.out.smallv v hv
          omega)).mono ?_
        rintro e w7 ⟨rfl, hb7⟩
        have HP7 := Lib.hid (HP6.out.below hb7)
        clear hb7 HP6 HR7
        go_wp2_with fail
        refine (get_out HP7.out.store (-1) (.inl (by omega))).mono ?_
        rintro e w8 ⟨rfl, hb8⟩
        have HP8 := Lib.hid (HP7.out.below hb8)
        clear hb8 HP7
        go_wp2_with fail
        refine (size_any _ _ _ _ _ _).mono ?_
        rintro e w9 ⟨rfl, hb9⟩
        have HP9 := Lib.hid (HP8.out.below hb9)
        clear hb9 HP8
        go_wp2_with fail
        refine (get_out HP9.out.store 99 (.inr (by rw [HP9.out.vars]; omega))).mono ?_
        rintro e w10 ⟨rfl, hb10⟩
        have HP10 := Lib.hid (HP9.out.below hb10)
        clear hb10 HP9
        go_wp2_with fail
        refine (size_any _ _ _ _ _ _).mono ?_
        rintro e w11 ⟨rfl, hb11⟩
        have HP11 := Lib.hid (HP10.out.below hb11)
        clear hb11 HP10
        go_wp2_with fail
        go_ret
        exact ⟨rfl, HP11.out.low⟩
end Go.Proofs.YtegiaonlneamfaaDoor

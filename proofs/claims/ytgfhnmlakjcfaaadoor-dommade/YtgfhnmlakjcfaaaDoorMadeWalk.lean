/- The walk of the law DomMade: it returns true. -/
import Derived.Test.YtgfhnmlakjcfaaaDoorSamel
import Derived.Deep.RegionWith
import Derived.Deep.DeepCutAuto
namespace Go.Proofs.YtgfhnmlakjcfaaaDoor
open Go.RowKit Go.Sort

/-- Two rows of numbers, side by side. -/
def Rows2 (W : World) (g : Nat) : Prop := g < W.heap.size ∧ ∀ k, k < 2 → ∃ R n c zs, W.cell? ⟨g, k, none⟩ = some (.slice R n c) ∧ n = zs.length ∧ n ≤ 40 ∧ Lies W R n (i64f zs)
theorem Rows2.below {W W' : World} {g : Nat} (h : Rows2 W g) (hb : Below W.heap.size W W') : Rows2 W' g := by
  refine ⟨Nat.lt_of_lt_of_le h.1 hb.size, fun k hk => ?_⟩
  obtain ⟨R, n, c, zs, h1, h2, h3, h4⟩ := h.2 k hk
  exact ⟨R, n, c, zs, (hb.cell h.1).trans h1, h2, h3, h4.below hb⟩
theorem Rows2.new {W : World} {R R' : Option Addr} {n n' c c' : Nat} {zs zs' : List Int} (h1 : n = zs.length) (h2 : n ≤ 40) (h3 : Lies W R n (i64f zs)) (h1' : n' = zs'.length) (h2' : n' ≤ 40) (h3' : Lies W R' n' (i64f zs')) :
    Rows2 (W.alloc (.cells #[.slice R n c, .slice R' n' c'] 22)) W.heap.size := by
  refine ⟨by simp, fun k hk => ?_⟩
  match k, hk with
  | 0, _ => exact ⟨R, n, c, zs, by simp, h1, h2, h3.below (below1 _ _)⟩
  | 1, _ => exact ⟨R', n', c', zs', by simp, h1', h2', h3'.below (below1 _ _)⟩

/-- Two pairs of numbers, side by side. -/
def Pairs (W : World) (g : Nat) : Prop := g < W.heap.size ∧ ∀ k, k < 2 → ∃ lo hi : Int, W.cell? ⟨g, k * 2, none⟩ = some (.int .i64 lo) ∧ W.cell? ⟨g, k * 2 + 1, none⟩ = some (.int .i64 hi) ∧ -9223372036854775808 ≤ lo ∧ lo ≤ 9223372036854775807 ∧ -9223372036854775808 ≤ hi ∧ hi ≤ 9223372036854775807
theorem Pairs.below {W W' : World} {g : Nat} (h : Pairs W g) (hb : Below W.heap.size W W') : Pairs W' g := by
  refine ⟨Nat.lt_of_lt_of_le h.1 hb.size, fun k hk => ?_⟩
  obtain ⟨lo, hi, h1, h2, h3⟩ := h.2 k hk
  exact ⟨lo, hi, (hb.cell h.1).trans h1, (hb.cell h.1).trans h2, h3⟩
theorem Pairs.new {W : World} {a b c d : Int} (ha : -9223372036854775808 ≤ a ∧ a ≤ 9223372036854775807) (hb : -9223372036854775808 ≤ b ∧ b ≤ 9223372036854775807) (hc : -9223372036854775808 ≤ c ∧ c ≤ 9223372036854775807) (hd : -9223372036854775808 ≤ d ∧ d ≤ 9223372036854775807) :
    Pairs (W.alloc (.cells #[.int .i64 a, .int .i64 b, .int .i64 c, .int .i64 d] 34)) W.heap.size := by
  refine ⟨by simp, fun k hk => ?_⟩
  match k, hk with
  | 0, _ => exact ⟨a, b, by simp, by simp, ha.1, ha.2, hb.1, hb.2⟩
  | 1, _ => exact ⟨c, d, by simp, by simp, hc.1, hc.2, hd.1, hd.2⟩
theorem tmod300 (z : Int) : -9223372036854775808 ≤ z.tmod 300 ∧ z.tmod 300 ≤ 9223372036854775807 := by
  have : (z.tmod 300).natAbs = z.natAbs % 300 := Int.natAbs_tmod z 300
  omega

/-- A pair in a box. -/
def At2 (W : World) (g : Nat) (a b : Value) : Prop := g < W.heap.size ∧ W.cell? ⟨g, 0, none⟩ = some a ∧ W.cell? ⟨g, 1, none⟩ = some b
theorem At2.below {W W' : World} {g : Nat} {a b : Value} (h : At2 W g a b) (hb : Below W.heap.size W W') : At2 W' g a b :=
  ⟨Nat.lt_of_lt_of_le h.1 hb.size, (hb.cell h.1).trans h.2.1, (hb.cell h.1).trans h.2.2⟩
theorem At2.new (W : World) (a b : Value) (t : TypeId) : At2 (W.alloc (.cells #[a, b] t)) W.heap.size a b := ⟨by simp, by simp, by simp⟩

/-- What Range gives, of the lists. -/
theorem range_facts (lo hi : Int) (h : rangeErr lo hi = 0) : -1000000 ≤ lo ∧ lo ≤ hi ∧ hi ≤ 1000000 ∧ (rangeL lo hi).head?.getD 0 = lo ∧ (rangeL lo hi).getLast?.getD 0 = hi ∧ (((rangeL lo hi).length : Nat) : Int) = hi - lo + 1 ∧
    decide ((lo + hi).tdiv 2 ∈ rangeL lo hi) = true ∧ decide (lo - 1 ∈ rangeL lo hi) = false ∧ decide (hi + 1 ∈ rangeL lo hi) = false := by
  have hk : (mayB lo = true ∧ mayB hi = true) ∧ ¬ hi < lo := by
    unfold rangeErr at h
    by_cases hm : mayB lo = true ∧ mayB hi = true
    · rw [if_pos hm] at h
      refine ⟨hm, fun q => ?_⟩
      rw [if_pos q] at h
      cases h
    · rw [if_neg hm] at h
      cases h
  have a := (mayB_iff lo).1 hk.1.1
  have b := (mayB_iff hi).1 hk.1.2
  have hle := hk.2
  have hne : rangeL lo hi ≠ [] := by
    intro e
    have : lo ∈ rangeL lo hi := (mem_rangeL lo hi lo).2 ⟨by omega, by omega⟩
    rw [e] at this; cases this
  obtain ⟨mx, hmx⟩ : ∃ mx, (rangeL lo hi).getLast? = some mx := ⟨_, List.getLast?_eq_some_getLast hne⟩
  obtain ⟨mn, hmn⟩ : ∃ mn, (rangeL lo hi).head? = some mn := ⟨_, List.head?_eq_some_head hne⟩
  obtain ⟨x1, x2⟩ := le_last _ _ (rising_rangeL lo hi) hmx
  obtain ⟨n1, n2⟩ := head_le _ _ (rising_rangeL lo hi) hmn
  have y1 := x2 hi ((mem_rangeL lo hi hi).2 ⟨by omega, by omega⟩)
  have y2 := n2 lo ((mem_rangeL lo hi lo).2 ⟨by omega, by omega⟩)
  have y3 := (mem_rangeL lo hi mx).1 x1
  have y4 := (mem_rangeL lo hi mn).1 n1
  refine ⟨a.1, by omega, b.2, ?_, ?_, ?_, ?_, ?_, ?_⟩
  · rw [hmn]; simp; omega
  · rw [hmx]; simp; omega
  · rw [len_rangeL]; omega
  · rw [decide_eq_true_eq, mem_rangeL]
    have t1 : ((lo + hi).tdiv 2).natAbs = (lo + hi).natAbs / 2 := Int.natAbs_tdiv (lo + hi) 2
    have t2 : ((lo + hi).tmod 2).natAbs = (lo + hi).natAbs % 2 := Int.natAbs_tmod (lo + hi) 2
    have t3 := Int.tmod_add_mul_tdiv (lo + hi) 2
    omega
  · rw [decide_eq_false_iff_not, mem_rangeL]; omega
  · rw [decide_eq_false_iff_not, mem_rangeL]; omega

theorem lies_take {W : World} {A : Option Addr} {n m : Nat} {zs : List Int} (h : Lies W A n (i64f zs)) (hm : m ≤ n) (hm40 : m ≤ 40) (hn : n = zs.length) (h40 : m = min n 40) : m = (zs.take 40).length ∧ Lies W A m (i64f (zs.take 40)) := by
  refine ⟨by rw [List.length_take]; omega, fun hp => ?_⟩
  obtain ⟨ad, hA, hb, hc⟩ := h (by omega)
  refine ⟨ad, hA, hb, fun j hj => ?_⟩
  rw [hc j (by omega)]
  unfold i64f
  rw [List.getD_eq_getElem?_getD, List.getD_eq_getElem?_getD, List.getElem?_take, if_pos (by omega)]

/-- Of of a row of numbers. -/
theorem of_row (A : Option Addr) (zs : List Int) (n c : Nat) (w : World) (hn : n = zs.length) (h40 : n ≤ 40) (h : Lies w A n (i64f zs)) : Calls Tryd.prog 8 #[.slice A n c] w (GivesParts w (ofL zs) (ofErr zs)) := by
  subst hn
  exact (of_dom A zs c w h (by omega)).mono fun _ _ => GivesDom.parts

/-- What the first region leaves. -/
def Fst (w : World) (a b c : Value) (W : World) : Prop := ∃ g, a = .slice (some ⟨g, 0, none⟩) 2 2 ∧ b = .int .i64 2 ∧ c = .int .i64 0 ∧ Rows2 W g ∧ Below w.heap.size w W

set_option maxHeartbeats 4000000 in
set_option maxRecDepth 100000 in
theorem made_walk (X : Option Addr) (xs : List Int) (cx nx m : Nat) (p q : Int) (w : World) (hT : Tab w) (hnx : nx = xs.length) (hX : Lies w X nx (i64f xs)) (hm : min (nx : Int) 40 = (m : Int)) (hcx : nx ≤ cx)
    (hp1 : -9223372036854775808 ≤ p) (hp2 : p ≤ 9223372036854775807) (hq1 : -9223372036854775808 ≤ q) (hq2 : q ≤ 9223372036854775807) :
    Calls Tryd.prog 3 #[.slice X nx cx, .int .i64 p, .int .i64 q] w fun e w' => e = .returned (.bool true) ∧ Below w.heap.size w w' := by
  have hmn : m ≤ nx := by omega
  have HN := Lib.hid fun W (hW : Below w.heap.size w W) => (near_any X xs cx W (by rw [← hnx]; exact hX.below hW) (by rw [← hnx]; exact hcx)).mono fun _ _ => GivesInts.slice
  rw [← hnx] at HN
  have HF := Lib.hid (fun W (hW : Below w.heap.size w W) => lies_take (hX.below hW) hmn (by omega) hnx (by omega))
  have hnl : (nearL xs).length ≤ 40 := by rw [near_len]; omega
  have m40 : m ≤ 40 := by omega
  clear hX hnx
  go_enter Tryd.func3, Tryd.ntmps3
  go_upto_region 1 with fail
  go_cut [24, 25, 26] (Fst w)
  case first =>
    cases X
    all_goals
      go_region_with (go_at_call 7; refine (HN.out _ (by first | exact Below.refl _ _ | exact (Below.refl _ _).drew | exact below_drewN (Below.refl _ _) _)).mono ?_; rintro e w1 ⟨A1, k1, rfl, hl1, hk1, hb1⟩)
    all_goals
      have hb1' : Below w.heap.size w w1 := (Below.refl _ w).drew.trans hb1
      have hf := HF.out w1 hb1'
      have h2 := Rows2.new (R := _) (c := cx) (c' := k1) hf.1 m40 hf.2 rfl hnl hl1
      have hb2 : ∀ o, Below w.heap.size w (w1.alloc o) := fun o => hb1'.trans ((below1 w1 o).mono hb1'.size)
      go_wp2_with fail
      go_meet
      case rel => exact ⟨_, rfl, rfl, rfl, h2, hb2 _⟩
  case rest =>
    obtain ⟨g, rfl, rfl, rfl, h2, hb⟩ := hcut
    have H2 := Lib.hid h2
    have HB := Lib.hid hb
    clear h2 hb hm hmn hnl m40 HN HF
    go_wp2_with fail
    go_loopw [26] (fun i wr => ∃ k : Nat, k ≤ 2 ∧ i = .int .i64 (k : Nat) ∧ Below wc.heap.size wc wr) (fun i _ => 2 - (intOf i).toNat)
    case atStart => exact ⟨0, by omega, rfl, Below.refl _ _⟩
    case round =>
      obtain ⟨k, hk, rfl, hbr⟩ := hrel
      by_cases hlt : k < 2
      · obtain ⟨hgs, hr⟩ := H2.out.below hbr
        obtain ⟨R, n, c, zs, hcell, hnz, hn40, hlz⟩ := hr k hlt
        have O1 := of_row R zs n c wr hnz hn40 hlz
        have O2 := fun W (hW : Below wr.heap.size wr W) => refof_any R zs n c W hnz (hlz.below hW) (by omega)
        obtain ⟨L, hL⟩ : ∃ L, ofL zs = L := ⟨_, rfl⟩
        obtain ⟨er, her⟩ : ∃ er, ofErr zs = er := ⟨_, rfl⟩
        rw [hL, her] at O1 O2
        have HO1 := Lib.hid O1
        have HO2 := Lib.hid O2
        have HB1 := Lib.hid (HB.out.trans (hbr.mono HB.out.size))
        have Hr := Lib.hid hbr
        clear O1 O2 hr hlz hL her hnz hbr
        go_wp2_with fail
        refine HO1.out.mono ?_
        rintro e w2 ⟨s1, B1, m1, d1, rfl, hd1, hb2⟩
        have X1 := Box.new hd1
        have o2 := below1 w2 (.cells #[.int .i64 s1, .slice B1 m1 d1, .int .i64 (L.length : Nat)] 27)
        have b2 := hb2.trans (o2.mono hb2.size)
        have HX1 := Lib.hid X1
        have HB2 := Lib.hid b2
        clear hb2 b2 o2 X1 hd1 HO1
        go_wp2_with fail
        refine (HO2.out _ HB2.out).mono ?_
        rintro e w3 ⟨v3, rfl, ho3, hb3⟩
        obtain ⟨A3, c3, rfl, hl3, -⟩ := own_lies ho3
        have HX2 := Lib.hid (HX1.out.below hb3)
        have HL3 := Lib.hid hl3
        have HB3 := Lib.hid (HB2.out.trans (hb3.mono HB2.out.size))
        have HBw := Lib.hid (HB1.out.trans (HB3.out.mono HB1.out.size))
        clear ho3 hl3 hb3 HX1 HB2 HO2 hcell
        obtain ⟨-, x0, x1, x2⟩ := HX2.out.at3
        go_wp2_with fail
        refine (same_true _ _ _ _ _ _ L _ _ HX2.out.dom HL3.out (hT.below HBw.out) hp1 hp2).mono ?_
        rintro e w4 ⟨rfl, hb4⟩
        have HX3 := Lib.hid (HX2.out.below hb4)
        have HL4 := Lib.hid (HL3.out.below hb4)
        have HB4 := Lib.hid (HB3.out.trans (hb4.mono HB3.out.size))
        have HBx := Lib.hid (HBw.out.trans (hb4.mono HBw.out.size))
        clear hb4 HX2 HL3 HB3 HBw x0 x1 x2
        obtain ⟨-, x0, x1, x2⟩ := HX3.out.at3
        have ht := tmod_small q
        go_wp2_with fail
        refine (same_true _ _ _ _ _ _ L _ _ HX3.out.dom HL4.out (hT.below HBx.out) (by omega) (by omega)).mono ?_
        rintro e w5 ⟨rfl, hb5⟩
        have HB5 := Lib.hid (HB4.out.trans (hb5.mono HB4.out.size))
        clear hb5 HX3 HL4 HB4 HBx x0 x1 x2 ht
        go_wp2_with fail
        go_roundw
        case rel => exact ⟨k + 1, by omega, by go_num, Hr.out.trans (HB5.out.mono Hr.out.size)⟩
        case measure => simp [intOf]; omega
      · obtain ⟨wo, rfl⟩ : ∃ wo, wo = wr := ⟨_, rfl⟩
        have HP := Lib.hid (Pairs.new (W := wo) ⟨hp1, hp2⟩ ⟨hq1, hq2⟩ (tmod300 p) (tmod300 q))
        have b0 := HB.out.trans (hbr.mono HB.out.size)
        have HB1 := Lib.hid (b0.trans ((below1 wo (.cells #[.int .i64 p, .int .i64 q, .int .i64 (p.tmod 300), .int .i64 (q.tmod 300)] 34)).mono b0.size))
        clear hbr HB H2 b0
        go_wp2_with fail
        go_loopw [69] (fun i wr => ∃ k : Nat, k ≤ 2 ∧ i = .int .i64 (k : Nat) ∧ Hid (Pairs wr wo.heap.size) ∧ Hid (Below w.heap.size w wr)) (fun i _ => 2 - (intOf i).toNat)
        case atStart => exact ⟨0, by omega, rfl, HP, HB1⟩
        case round =>
          clear hlt hk HP HB1
          obtain ⟨k, hk, rfl, HP, HB1⟩ := hrel
          by_cases hlt : k < 2
          · obtain ⟨hgs, hr⟩ := HP.out
            obtain ⟨lo, hi, c0, c1, l1, l2, h1, h2⟩ := hr k hlt
            have hf := range_facts lo hi
            have HR0 := range_dom lo hi
            have HQ0 := refrange_any lo hi
            obtain ⟨er, her⟩ : ∃ er, rangeErr lo hi = er := ⟨_, rfl⟩
            obtain ⟨R, hR⟩ : ∃ R, (if er = 0 then rangeL lo hi else []) = R := ⟨_, rfl⟩
            rw [her] at HR0 HQ0 hf
            rw [hR] at HR0
            have HR := Lib.hid HR0
            have HQ := Lib.hid HQ0
            have Hf := Lib.hid hf
            have HA := Lib.hid (At2.new wr (.int .i64 lo) (.int .i64 hi) 34)
            have o1 := below1 wr (.cells #[.int .i64 lo, .int .i64 hi] 34)
            have HRe := Lib.hid hR
            clear hr HR0 HQ0 hf her hR
            go_wp2_with fail
            refine (HR.out _).mono ?_
            intro e w2 h2'
            obtain ⟨s1, B1, m1, d1, rfl, hd1, hb2⟩ := h2'.parts
            have X1 := Box.new hd1
            have o2 := below1 w2 (.cells #[.int .i64 s1, .slice B1 m1 d1, .int .i64 (R.length : Nat)] 27)
            have b2 := hb2.trans (o2.mono hb2.size)
            have b3 := o1.trans (b2.mono o1.size)
            have HX1 := Lib.hid X1
            have HB2 := Lib.hid (HB1.out.trans (b3.mono HB1.out.size))
            have HP2 := Lib.hid (HP.out.below b3)
            have HA2 := Lib.hid (HA.out.below b2)
            obtain ⟨-, a0, a1⟩ := HA2.out
            clear h2' hb2 b2 o2 X1 hd1 HR b3 o1 HB1 HP HA c0 c1
            go_wp2_with fail
            refine (HQ.out _).mono ?_
            rintro e w3 ⟨rfl, rfl⟩
            obtain ⟨-, x0, x1, x2⟩ := HX1.out.at3
            by_cases he : er = 0
            · rw [if_pos he] at HRe
              obtain ⟨f1, f2, f3, f4, f5, f6, f7, f8, f9⟩ := Hf.out he
              have he' : (er != 0) = false := by simp [he]
              clear Hf
              rw [HRe.out] at f4 f5 f6 f7 f8 f9
              clear HRe he
              have F6 := Lib.hid f6
              have hne : (((R.length : Nat) : Int) != hi - lo + 1) = false := by simp [f6]
              clear f6
              go_wp2_with fail
              generalize hW : w2.alloc (.cells #[.int .i64 s1, .slice B1 m1 d1, .int .i64 (R.length : Nat)] 27) = W at HX1 HB2 HP2 HA2 x0 x1 x2 a0 a1 ⊢
              clear hW
              obtain ⟨mid, hmid⟩ : ∃ z, (lo + hi).tdiv 2 = z := ⟨_, rfl⟩
              obtain ⟨lo1, hlo1⟩ : ∃ z, lo - 1 = z := ⟨_, rfl⟩
              obtain ⟨hi1, hhi1⟩ : ∃ z, hi + 1 = z := ⟨_, rfl⟩
              rw [hmid] at f7
              rw [hlo1] at f8
              rw [hhi1] at f9
              have hmb : -9223372036854775808 ≤ mid ∧ mid ≤ 9223372036854775807 := by
                rw [← hmid]
                have t1 : ((lo + hi).tdiv 2).natAbs = (lo + hi).natAbs / 2 := Int.natAbs_tdiv (lo + hi) 2
                omega
              have C1 : Hid (∀ d os, Calls Tryd.prog 14 #[(Value.agg #[.int .i64 s1, .slice B1 m1 d1, .int .i64 (R.length : Nat)])] (grow (redrawn W d) os) fun e w'' => e = .returned (.int .i64 lo) ∧ ∃ p : Regrown, w'' = grow (redrawn W p.d) p.os) := fun d os => Calls.regrown_of (by have := min_dom _ R _ (HX1.out.dom.below (below_regrown W d os)) ((hT.below HB2.out).below (below_regrown W d os)); rwa [f4] at this)
              have C2 : Hid (∀ d os, Calls Tryd.prog 15 #[(Value.agg #[.int .i64 s1, .slice B1 m1 d1, .int .i64 (R.length : Nat)])] (grow (redrawn W d) os) fun e w'' => e = .returned (.int .i64 hi) ∧ ∃ p : Regrown, w'' = grow (redrawn W p.d) p.os) := fun d os => Calls.regrown_of (by have := max_dom _ R _ (HX1.out.dom.below (below_regrown W d os)); rwa [f5] at this)
              have C3 : Hid (∀ d os, Calls Tryd.prog 13 #[(Value.agg #[.int .i64 s1, .slice B1 m1 d1, .int .i64 (R.length : Nat)])] (grow (redrawn W d) os) fun e w'' => e = .returned (.int .i64 (R.length : Nat)) ∧ ∃ p : Regrown, w'' = grow (redrawn W p.d) p.os) := fun d os => Calls.regrown_of (size_dom _ R _ (HX1.out.dom.below (below_regrown W d os)))
              have C4 : Hid (∀ d os, Calls Tryd.prog 16 #[(Value.agg #[.int .i64 s1, .slice B1 m1 d1, .int .i64 (R.length : Nat)]), .int .i64 mid] (grow (redrawn W d) os) fun e w'' => e = .returned (.bool true) ∧ ∃ p : Regrown, w'' = grow (redrawn W p.d) p.os) := fun d os => Calls.regrown_of (has_parts R _ mid true _ (HX1.out.dom.below (below_regrown W d os)) f7 hmb.1 hmb.2)
              have C5 : Hid (∀ d os, Calls Tryd.prog 16 #[(Value.agg #[.int .i64 s1, .slice B1 m1 d1, .int .i64 (R.length : Nat)]), .int .i64 lo1] (grow (redrawn W d) os) fun e w'' => e = .returned (.bool false) ∧ ∃ p : Regrown, w'' = grow (redrawn W p.d) p.os) := fun d os => Calls.regrown_of (has_parts R _ lo1 false _ (HX1.out.dom.below (below_regrown W d os)) f8 (by omega) (by omega))
              have C6 : Hid (∀ d os, Calls Tryd.prog 16 #[(Value.agg #[.int .i64 s1, .slice B1 m1 d1, .int .i64 (R.length : Nat)]), .int .i64 hi1] (grow (redrawn W d) os) fun e w'' => e = .returned (.bool false) ∧ ∃ p : Regrown, w'' = grow (redrawn W p.d) p.os) := fun d os => Calls.regrown_of (has_parts R _ hi1 false _ (HX1.out.dom.below (below_regrown W d os)) f9 (by omega) (by omega))
              have X0 := cell_regrown x0
              have X1 := cell_regrown x1
              have X2 := cell_regrown x2
              have A0 := cell_regrown a0
              have A1 := cell_regrown a1
              have e1 : IntKind.i64.wrap (hi - lo) = hi - lo := IntWalk.i64_in _ (by omega)
              have e2 : IntKind.i64.wrap (hi - lo + 1) = hi - lo + 1 := IntWalk.i64_in _ (by omega)
              have e3 : IntKind.i64.wrap (lo + hi) = lo + hi := IntWalk.i64_in _ (by omega)
              have e4 : IntKind.i64.wrap ((lo + hi).tdiv 2) = mid := by rw [hmid]; exact IntWalk.i64_in _ (by omega)
              have e4' : IntKind.i64.wrap mid = mid := IntWalk.i64_in _ (by omega)
              have e5 : IntKind.i64.wrap (lo - 1) = lo1 := by rw [hlo1]; exact IntWalk.i64_in _ (by omega)
              have e6 : IntKind.i64.wrap (hi + 1) = hi1 := by rw [hhi1]; exact IntWalk.i64_in _ (by omega)
              clear f1 f2 f3 f4 f5 f7 f8 f9 hmb x0 x1 x2 a0 a1 hlo1 hhi1 HX1 HA2 l1 l2 h1 h2
              refine wp_region_quiet_below (by kernel_rfl) (by kernel_rfl) ?_
              repeat (first | go_big_quiet_step ((first | (go_at_call 14; exact C1.out _ _) | (go_at_call 15; exact C2.out _ _) | (go_at_call 13; exact C3.out _ _) | (go_at_call_of 16 (Value.int .i64 mid); exact C4.out _ _) | (go_at_call_of 16 (Value.int .i64 lo1); exact C5.out _ _) | (go_at_call_of 16 (Value.int .i64 hi1); exact C6.out _ _))) | quiet_step ((first | (go_at_call 14; exact C1.out _ _) | (go_at_call 15; exact C2.out _ _) | (go_at_call 13; exact C3.out _ _) | (go_at_call_of 16 (Value.int .i64 mid); exact C4.out _ _) | (go_at_call_of 16 (Value.int .i64 lo1); exact C5.out _ _) | (go_at_call_of 16 (Value.int .i64 hi1); exact C6.out _ _))))
              refine wpQuiet_nil ?_
              intro _ hw'
              obtain ⟨⟨dq, osq⟩, hw''⟩ := hw'
              subst hw''
              have hbq := below_regrown W dq osq
              have HB4 := Lib.hid (HB2.out.trans (hbq.mono HB2.out.size))
              have HP4 := Lib.hid (HP2.out.below hbq)
              generalize grow (redrawn W dq) osq = wq at HB4 HP4 ⊢
              clear X0 X1 X2 A0 A1 hbq C1 C2 C3 C4 C5 C6 HB2 HP2
              go_wp2_with fail
              go_roundw
              case rel => exact ⟨k + 1, by omega, by go_num, HP4, HB4⟩
              case measure => simp [intOf]; omega
            · rw [if_neg he] at HRe
              have he' : (er != 0) = true := by simpa using he
              have hR0 : (((R.length : Nat) : Int) != 0) = false := by rw [← HRe.out]; rfl
              clear Hf HRe he
              go_wp2_with fail
              refine (size_dom _ R _ HX1.out.dom).mono ?_
              rintro e w4 ⟨rfl, hb4⟩
              have HB4 := Lib.hid (HB2.out.trans (hb4.mono HB2.out.size))
              have HP4 := Lib.hid (HP2.out.below hb4)
              clear hb4 HB2 HP2 HX1 HA2 x0 x1 x2 a0 a1
              go_wp2_with fail
              go_roundw
              case rel => exact ⟨k + 1, by omega, by go_num, HP4, HB4⟩
              case measure => simp [intOf]; omega
          · go_wp2_with fail
            refine (wakes_true _ (hT.below HB1.out)).mono ?_
            rintro e w9 ⟨rfl, hb9⟩
            have HB9 := Lib.hid (HB1.out.trans (hb9.mono HB1.out.size))
            clear hb9 HB1 HP
            go_wp2_with fail
            go_ret
            exact ⟨rfl, HB9.out⟩
end Go.Proofs.YtgfhnmlakjcfaaaDoor

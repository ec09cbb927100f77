/- Contract of less: what is left of a domain's words, by whatever closure tells it. -/
import Derived.Test.YtegiaonlneamfaaDoorCutm
namespace Go.Proofs.YtegiaonlneamfaaDoor
open Go.RowKit

set_option maxHeartbeats 4000000 in
set_option maxRecDepth 100000 in
theorem less_some (s : Int) (ad : Addr) (n c : Nat) (ws ys : List Nat) (f : Int → Nat → Nat) (kf : FuncId) (ptr : Value) (w : World) (hn : n = ws.length) (hF : Form s ws)
    (hen : ∀ (args : Array Value) (w : World), (callFunc kf args).run Tryd.prog w = .ok (.enter kf args) w)
    (hL : Left s ws ys f) (hC : Cuts kf ptr w f) (hl : ad.block < w.heap.size) (hc : ∀ j, j < n → w.cell? (ad.add j) = some (u64f ws j)) (hT : Tab w)
    (hsame : (listOf s ys).length = (listOf s ws).length → listOf s ys = listOf s ws) :
    Calls Tryd.prog 46 #[.agg #[.int .i64 s, .slice (some ad) n c, .int .i64 ((listOf s ws).length : Nat)], .func (.func kf) #[] #[ptr]] w (GivesDom w (listOf s ys) (chg (listOf s ws) (listOf s ys))) := by
  have hn2 := hF.len
  have h1 := hF.lo
  have h2 := hF.hi
  rw [← hn] at hn2 h2
  have hdom : IsDom w (.agg #[.int .i64 s, .slice (some ad) n c, .int .i64 ((listOf s ws).length : Nat)]) (listOf s ws) := ⟨s, some ad, ws, c, by rw [hn], by rw [← hn]; exact fun _ => ⟨ad, rfl, hl, hc⟩, hF, rfl⟩
  obtain ⟨z, hz⟩ : ∃ z, z = (listOf s ws).length := ⟨_, rfl⟩
  rw [← hz] at hdom ⊢
  have hzl : z ≤ 64 * n := by rw [hz, hn]; exact len_le_listOf ws s
  have Hn := Lib.hid hn
  have HF := Lib.hid hF
  have HL := Lib.hid hL
  have Hc := Lib.hid hc
  have Hsame := Lib.hid hsame
  have Hz := Lib.hid hz
  have hb0 : Below (w.heap.size + 2) (boxed2 w s z (some ad) n c) (boxed2 w s z (some ad) n c) := Below.refl _ _
  obtain ⟨i0, hi, hz0, hz1, hz2⟩ := info_parts Tryd.info85
  clear hn hF hL hc hsame hz
  go_enter Tryd.func46, Tryd.ntmps46
  go_wp2
  go_loopw [6, 7, 8, 18] (fun a b d i wr => ∃ k sz fi la : Nat, k ≤ n ∧ a = .int .i64 (sz : Nat) ∧ b = .int .i64 (fi : Nat) ∧ d = .int .i64 (la : Nat) ∧ i = .int .i64 (k : Nat) ∧ Hid (Scan s ys k sz fi la) ∧
      Below (w.heap.size + 2) (boxed2 w s z (some ad) n c) wr) (fun _ _ _ i _ => n - (intOf i).toNat)
  case atStart => exact ⟨0, 0, 0, 0, Nat.zero_le _, rfl, rfl, rfl, rfl, Scan.start s ys, hb0⟩
  case round =>
    obtain ⟨k, sz, fi, la, hk, rfl, rfl, rfl, rfl, HS, hbr⟩ := hrel
    clear hb0
    obtain ⟨c0, c1, c2⟩ := boxed2_cells hbr
    have hsz : sz ≤ 64 * n := by have := HS.out.small; rw [HL.out.len, ← Hn.out] at this; exact this
    by_cases hlt : k < n
    · have hck : wr.cell? (ad.add k) = some (.int .u64 ((ws.getD k 0 : Nat) : Int)) := ((boxed2_of hbr).cell (by rw [add_block]; exact hl)).trans (Hc.out k hlt)
      have hyk : f (s + k) (ws.getD k 0) = ys.getD k 0 := HL.out.is k (by rw [← Hn.out]; exact hlt)
      have hyl : ys.getD k 0 < 18446744073709551616 := HL.out.lt k
      have hkl : k < ys.length := by rw [HL.out.len, ← Hn.out]; exact hlt
      have C := fun W hW => hC.on W (s + k) (ws.getD k 0) hW (HF.out.words k) (by omega) (by omega)
      rw [hyk] at C
      generalize ws.getD k 0 = x at *
      obtain ⟨y, hy⟩ : ∃ y, ys.getD k 0 = y := ⟨_, rfl⟩
      rw [hy] at C hyl
      have Hy := Lib.hid hy
      have HC := Lib.hid C
      clear hyk hy C
      by_cases h0 : y = 0
      · have h0' : ((y : Int) == 0) = true := by simp [h0]
        have HS2 := Lib.hid (HS.out.skip hkl (Hy.out.trans h0))
        clear hyl h0
        go_wp2_with (go_at_fn kf; with_reducible refine (HC.out _ (boxed2_of hbr)).mono ?_; rintro e w1 ⟨rfl, hb1⟩; have hb1' := boxed2_more hbr hb1)
        go_roundw
        case rel => exact ⟨k + 1, sz, fi, la, by omega, rfl, rfl, rfl, by go_num, HS2, hb1'⟩
        case measure => simp [intOf]; omega
      · have h0' : ((y : Int) == 0) = false := by simpa using h0
        have ho := ones_le y
        have O := fun W => ones_any y W hyl
        have HO := Lib.hid O
        by_cases hs0 : sz = 0
        · have hs0' : ((sz : Int) == 0) = true := by simp [hs0]
          have HS1 := HS.out.one hs0 hkl (by rw [Hy.out]; exact h0) (by rw [Hy.out]; exact hyl)
          rw [Hy.out] at HS1
          have HS2 := Lib.hid HS1
          clear hyl h0 O HS1 hs0
          go_wp2_with (first
            | (go_at_fn kf; with_reducible refine (HC.out _ (boxed2_of hbr)).mono ?_; rintro e w1 ⟨rfl, hb1⟩; have hb1' := boxed2_more hbr hb1)
            | (go_at_call 40; with_reducible refine (HO.out _).mono ?_; rintro e w' ⟨rfl, rfl⟩))
          go_roundw
          case rel => exact ⟨k + 1, sz + ones y, k, k, by omega, by go_num, rfl, rfl, by go_num, HS2, hb1'⟩
          case measure => simp [intOf]; omega
        · have hs0' : ((sz : Int) == 0) = false := by simpa using hs0
          have HS1 := HS.out.next hs0 hkl (by rw [Hy.out]; exact h0)
          rw [Hy.out] at HS1
          have HS2 := Lib.hid HS1
          clear hyl h0 O HS1 hs0
          go_wp2_with (first
            | (go_at_fn kf; with_reducible refine (HC.out _ (boxed2_of hbr)).mono ?_; rintro e w1 ⟨rfl, hb1⟩; have hb1' := boxed2_more hbr hb1)
            | (go_at_call 40; with_reducible refine (HO.out _).mono ?_; rintro e w' ⟨rfl, rfl⟩))
          go_roundw
          case rel => exact ⟨k + 1, sz + ones y, fi, k, by omega, by go_num, rfl, rfl, by go_num, HS2, hb1'⟩
          case measure => simp [intOf]; omega
    · have hkn : k = ys.length := by rw [HL.out.len, ← Hn.out]; omega
      have hall : (listOf s (ys.take k)).length = (listOf s ys).length := by rw [hkn, List.take_length]
      have hszl : sz = (listOf s ys).length := HS.out.sum.trans hall
      obtain ⟨o0, o1, o2, f0, f1, f2⟩ := boxed2_out hbr
      by_cases hcase : sz = z
      · have hcase' : ((sz : Int) == (z : Int)) = true := by simp [hcase]
        have hRL := Hsame.out (by rw [← hszl, hcase]; exact Hz.out)
        have Hfin : Hid (chg (listOf s ws) (listOf s ys) = 0) := by
          unfold Hid chg; rw [hRL]; simp
        have HRL := Lib.hid hRL
        have hd' := hdom.below (boxed2_of hbr)
        clear hkn hall hszl hcase hRL
        go_wp2
        obtain ⟨q0, q1, q2⟩ := out_cells wr (w.heap.size + 1) _ _ _ (.int .i64 s) (.slice (some ad) n c) (.int .i64 (z : Nat)) o0 o1 o2
        have hbo := out_below (boxed2_of hbr) (w.heap.size + 1) (by omega) (.int .i64 s) (.slice (some ad) n c) (.int .i64 (z : Nat))
        refine bodyPost_ret (v := .tuple #[.agg #[.int .i64 s, .slice (some ad) n c, .int .i64 (z : Nat)], .int .i64 0]) (by simp [results, Tryd.results46, go_sem, q0, q1, q2]) rfl ⟨_, by rw [Hfin.out], ?_, hbo⟩
        rw [HRL.out]
        exact hdom.below hbo
      · have hcase' : ((sz : Int) == (z : Int)) = false := by simp; omega
        have hne : ¬ (listOf s ys).length = (listOf s ws).length := by rw [← hszl, ← Hz.out]; exact hcase
        by_cases h0 : sz = 0
        · have h0' : ((sz : Int) == 0) = true := by simp [h0]
          have hR : listOf s ys = [] := List.eq_nil_of_length_eq_zero (by rw [← hszl]; exact h0)
          have Hfin : Hid (chg (listOf s ws) (listOf s ys) = 4) := by
            unfold Hid chg; rw [if_neg hne, hR]; rfl
          have HR := Lib.hid hR
          clear hkn hall hszl hcase hR hne h0
          go_wp2
          obtain ⟨q0, q1, q2⟩ := out_cells wr (w.heap.size + 1) _ _ _ (.int .i64 0) (.slice none 0 0) (.int .i64 0) o0 o1 o2
          have hbo := out_below (boxed2_of hbr) (w.heap.size + 1) (by omega) (.int .i64 0) (.slice none 0 0) (.int .i64 0)
          refine bodyPost_ret (v := .tuple #[.agg #[.int .i64 0, .slice none 0 0, .int .i64 0], .int .i64 4]) (by simp [results, Tryd.results46, go_sem, q0, q1, q2]) rfl ⟨_, by rw [Hfin.out], ?_, hbo⟩
          rw [HR.out]
          exact none_dom _
        · have h0' : ((sz : Int) == 0) = false := by simpa using h0
          have hS2 := HS.out
          rw [hkn, hszl] at hS2
          obtain ⟨zs, g1, g2, g3, g4, g5, g6⟩ := cut_form s ws ys f fi la HF.out HL.out hS2 (by rw [← hszl]; exact h0)
          have hfl : la < n := by rw [Hn.out, ← HL.out.len]; exact g6
          have Hfin : Hid (chg (listOf s ws) (listOf s ys) = bec (listOf s ws) (listOf s ys)) := by
            unfold Hid chg; rw [if_neg hne, if_neg (by rw [← hszl]; exact h0)]
          have hdom2 := hdom.below (boxed2_of hbr)
          obtain ⟨m, hm⟩ : ∃ m, la - fi + 1 = m := ⟨_, rfl⟩
          rw [hm] at g1 g2
          have Hm := Lib.hid hm
          have hmi : (la : Int) - (fi : Int) + 1 = (m : Int) := by omega
          have hmn : fi + m ≤ n := by omega
          have G2 := Lib.hid g2
          have G1 := Lib.hid g1
          have G4 := Lib.hid g4
          have Hszl := Lib.hid hszl
          clear hkn hall hszl hcase hne h0 hm g2 g4 hS2 HS g1
          go_wp2_with (at_make; refine wpList_make_full _ rfl _ _ 46 rfl (w.heap.size + 2) 85 i0 (.int .u64 0) 1 Tryd.underlying46 hi hz0 hz1 _ _ _ _ m rfl rfl (by omega) (by omega) (by rw [hz2]; omega) (by unfold maxLen; omega) (boxed2_le hbr) ?_; intro w1 hown1 hg1; have hb1 := hbr.grown hg1 (boxed2_le hbr) (by intro k hk; cases hk); obtain ⟨c0, c1, c2⟩ := boxed2_cells hb1)
          rw [fillTo_zero zs m] at hown1
          have hgle := boxed2_le hbr
          obtain ⟨g, hg⟩ : ∃ g, wr.heap.size = g := ⟨_, rfl⟩
          rw [hg] at hown1 hgle
          have Hg := Lib.hid hg
          rw [hg]
          clear hg
          go_loopw [60] (fun i wr2 => ∃ k2 : Nat, k2 ≤ m ∧ i = .int .i64 (k2 : Nat) ∧ wr2.ownsRow (w.heap.size + 2) 85 1 (.slice (some ⟨g, 0, none⟩) m m) m (U (fillTo zs m k2)) ∧ Below (w.heap.size + 2) (boxed2 w s z (some ad) n c) wr2) (fun i _ => m - (intOf i).toNat)
          case atStart => exact ⟨0, Nat.zero_le _, rfl, hown1, hb1⟩
          case round =>
            obtain ⟨k2, hk2, rfl, hown, hb2⟩ := hrel
            clear hown1 hg1 hb1 c0 c1 c2 o0 o1 o2 f0 f1 f2
            obtain ⟨c0, c1, c2⟩ := boxed2_cells hb2
            by_cases hlt2 : k2 < m
            · obtain ⟨j, hj⟩ : ∃ j : Nat, (fi : Int) + (k2 : Int) = (j : Int) := ⟨fi + k2, by omega⟩
              have hjn : j < n := by omega
              have hcj : _root_.Go.World.cell? _ (ad.add j) = some (.int .u64 ((ws.getD j 0 : Nat) : Int)) := ((boxed2_of hb2).cell (by rw [add_block]; exact hl)).trans (Hc.out j hjn)
              have hyj : f (s + j) (ws.getD j 0) = zs.getD k2 0 := by
                rw [HL.out.is j (by rw [← Hn.out]; exact hjn), G2.out k2 (by omega), show j = fi + k2 by omega]
              have C := fun W hW => hC.on W (s + j) (ws.getD j 0) hW (HF.out.words j) (by omega) (by omega)
              rw [hyj, show s + (j : Int) = s + (fi : Int) + (k2 : Int) by omega] at C
              generalize ws.getD j 0 = x at *
              have hset := fillTo_set zs m k2 G1.out hlt2
              have hfl2 := fillTo_len zs m k2 G1.out hk2
              generalize zs.getD k2 0 = y at *
              have HC := Lib.hid C
              have Hset := Lib.hid hset
              have Hfl2 := Lib.hid hfl2
              clear hyj C hset hfl2
              go_wp2_with (go_at_fn kf; with_reducible refine (HC.out _ (boxed2_of hb2)).mono ?_; rintro e w3 ⟨rfl, hb3⟩; have hb3' := boxed2_more hb2 hb3; have hown3 := own_below hown hb3; obtain ⟨uu, hcell3⟩ := own_cell hown3 Hfl2.out hlt2; have hfr3 := hown3.frozenAt k2)
              have hst := hown3.stored k2 (.int .u64 (y : Nat))
              rw [Hset.out] at hst
              go_roundw
              case rel => exact ⟨k2 + 1, by omega, by go_num, hst.1, hb3'.setCell hgle _⟩
              case measure => simp [intOf]; omega
            · have hkm : k2 = m := by omega
              rw [hkm, fillTo_all zs m G1.out] at hown
              clear hkm
              have hdE := own_dom hown G1.out g3 G4.out
              rw [← Hszl.out] at hdE
              have hdD := hdom.below (boxed2_of hb2)
              have hTT := hT.below (boxed2_of hb2)
              have HB := Lib.hid fun W (hW : Below wr.heap.size wr W) => became_dom _ _ _ _ W (hdD.below hW) (hdE.below hW) (hTT.below hW)
              have hlb := fun W => last_box (W := W) (x0 := .int .i64 (s + (fi : Int))) (x1 := .slice (some ⟨g, 0, none⟩) m m) (x2 := .int .i64 (sz : Nat)) hb2
              obtain ⟨b0, p0, p1, p2, p3, p4, p5, -⟩ := hlb _ (box_refl wr _).drew
              have HS0 := Lib.hid (And.intro p0 (And.intro p1 (And.intro p2 (And.intro p3 (And.intro p4 p5)))))
              have n1 : w.heap.size + 1 ≠ wr.heap.size := by have := boxed2_le hb2; omega
              have n2 : w.heap.size + 1 ≠ w.heap.size := by omega
              have HLB := Lib.hid hlb
              have HN := Lib.hid (And.intro n1 n2)
              have Hown := Lib.hid hown
              clear hlb p0 p1 p2 p3 p4 p5 HF HL Hc Hsame Hz G2 hi hz0 hz1 hz2 hdD hdE hTT hown n1 n2
              go_wp2
              go_region_held3 (fun W => W.cell? ⟨wr.heap.size, 0, none⟩ = some (.int .i64 (s + (fi : Int))) ∧ W.cell? ⟨wr.heap.size, 1, none⟩ = some (.slice (some ⟨g, 0, none⟩) m m) ∧ W.cell? ⟨wr.heap.size, 2, none⟩ = some (.int .i64 (sz : Nat)) ∧ W.cell? ⟨w.heap.size, 0, none⟩ = some (.int .i64 s) ∧ W.cell? ⟨w.heap.size, 1, none⟩ = some (.slice (some ad) n c) ∧ W.cell? ⟨w.heap.size, 2, none⟩ = some (.int .i64 (z : Nat))) (first | exact HS0.out | exact hS4 | exact six_stored HN.out.1 HN.out.2 hS4)
                (first | (go_at_call 55; refine (HB.out _ b0).mono ?_; rintro e w4 ⟨rfl, hb4⟩; have hW4 := (box_refl wr _).drew.trans (hb4.mono (by simp)); obtain ⟨b4, p0, p1, p2, p3, p4, p5, o0, o1, o2, f0, f1, f2⟩ := HLB.out _ hW4; have hS4 := And.intro p0 (And.intro p1 (And.intro p2 (And.intro p3 (And.intro p4 p5))))))
              have hown4 := own_below Hown.out b4
              have hbo := out_below ((boxed2_of hb2).trans (b4.mono (boxed2_of hb2).size)) (w.heap.size + 1) (by omega) (.int .i64 (s + (fi : Int))) (.slice (some ⟨g, 0, none⟩) m m) (.int .i64 (sz : Nat))
              have hown5 := ownsRow_setCell_below (ownsRow_setCell_below (ownsRow_setCell_below hown4 (a := ⟨w.heap.size + 1, 0, none⟩) (by simp) (.int .i64 (s + (fi : Int)))) (a := ⟨w.heap.size + 1, 1, none⟩) (by simp) (.slice (some ⟨g, 0, none⟩) m m)) (a := ⟨w.heap.size + 1, 2, none⟩) (by simp) (.int .i64 (sz : Nat))
              have hdE := own_dom hown5 G1.out g3 G4.out
              rw [← Hszl.out] at hdE
              obtain ⟨q0, q1, q2⟩ := out_cells w4 (w.heap.size + 1) _ _ _ (.int .i64 (s + (fi : Int))) (.slice (some ⟨g, 0, none⟩) m m) (.int .i64 (sz : Nat)) o0 o1 o2
              have HE := Lib.hid hdE
              have HO := Lib.hid hown4
              clear hdE hown4 hown5 hS4 p0 p1 p2 p3 p4 p5 o0 o1 o2 f0 f1 f2
              go_wp2
              exact bodyPost_ret (v := .tuple #[.agg #[.int .i64 (s + (fi : Int)), .slice (some ⟨g, 0, none⟩) m m, .int .i64 (sz : Nat)], .int .i64 (bec (listOf s ws) (listOf s ys))]) (by simp [results, Tryd.results46, go_sem, q0, q1, q2]) rfl ⟨_, by rw [Hfin.out], HE.out, hbo⟩

set_option maxRecDepth 100000 in
theorem less_none (s : Int) (A : Option Addr) (c : Nat) (g : Value) (w : World) (hs : s = 0) :
    Calls Tryd.prog 46 #[.agg #[.int .i64 s, .slice A 0 c, .int .i64 0], g] w (GivesDom w [] 0) := by
  have hd : IsDom w (.agg #[.int .i64 s, .slice A 0 c, .int .i64 0]) [] :=
    ⟨s, A, [], c, rfl, Lies.none _ _ _, ⟨fun j => by simp, fun h => absurd h (by simp), fun h => absurd h (by simp), fun _ => hs, by omega, by simp; omega⟩, rfl⟩
  clear hs
  go_enter Tryd.func46, Tryd.ntmps46
  go_wp2
  refine wp_loop_rounds 1 ?_
  rw [rounds_succ]
  go_wp2
  refine bodyPost_ret (v := .tuple #[.agg #[.int .i64 s, .slice A 0 c, .int .i64 0], .int .i64 0]) (by simp [results, Tryd.results46, go_sem]) rfl ⟨_, rfl, ?_, ?_⟩
  · exact hd.below (below2 _ _ _)
  · exact below2 _ _ _

/-- A closure that leaves of each word the bits of those numbers of which p holds. -/
structure Filters (f : Int → Nat → Nat) (p : Int → Bool) : Prop where
  lt : ∀ pl x, x < 18446744073709551616 → f pl x < 18446744073709551616
  bit : ∀ pl x j, x < 18446744073709551616 → j < 64 → (f pl x).testBit j = (x.testBit j && p (pl * 64 + (j : Int)))

theorem filter_listOf (f : Int → Nat → Nat) (p : Int → Bool) (hf : Filters f p) (s : Int) (ws : List Nat) (hw : ∀ j, ws.getD j 0 < 18446744073709551616) :
    ∃ ys, Left s ws ys f ∧ listOf s ys = (listOf s ws).filter p := by
  have hget : ∀ i, i < ws.length → (ws.mapIdx fun (i : Nat) x => f (s + (i : Int)) x).getD i 0 = f (s + i) (ws.getD i 0) := by
    intro i hi
    simp [List.getD_eq_getElem?_getD, List.getElem?_mapIdx, List.getElem?_eq_getElem hi]
  refine ⟨ws.mapIdx fun (i : Nat) x => f (s + (i : Int)) x, ⟨by simp, fun i hi => (hget i hi).symm, fun i => ?_⟩, ?_⟩
  · by_cases hi : i < ws.length
    · rw [hget i hi]; exact hf.lt _ _ (hw i)
    · rw [getD_over _ _ (by simp; omega)]; decide
  · apply eq_of_rising _ _ (rising_listOf _ _) ((rising_listOf ws s).filter _)
    intro v
    rw [List.mem_filter, mem_listOf, mem_listOf]
    unfold hasB
    by_cases hs : s ≤ v / 64
    · by_cases hi : (v / 64 - s).toNat < ws.length
      · rw [hget _ hi, show s + (((v / 64 - s).toNat : Nat) : Int) = v / 64 by omega, hf.bit _ _ _ (hw _) (by omega), show v / 64 * 64 + (((v % 64).toNat : Nat) : Int) = v by omega]
        simp [hs]
      · rw [getD_over _ _ (by simp; omega), getD_over ws _ (by omega)]
        simp
    · simp [hs]

theorem less_dom (d : Value) (L : List Int) (f : Int → Nat → Nat) (p : Int → Bool) (kf : FuncId) (ptr : Value) (w : World) (h : IsDom w d L)
    (hen : ∀ (args : Array Value) (w : World), (callFunc kf args).run Tryd.prog w = .ok (.enter kf args) w) (hf : Filters f p) (hC : Cuts kf ptr w f) (hT : Tab w) :
    Calls Tryd.prog 46 #[d, .func (.func kf) #[] #[ptr]] w (GivesDom w (L.filter p) (chg L (L.filter p))) := by
  obtain ⟨s, A, ws, c, rfl, hl, hF, rfl⟩ := h
  by_cases hp : 0 < ws.length
  · obtain ⟨ad, rfl, hb, hc⟩ := hl hp
    obtain ⟨ys, hL, e⟩ := filter_listOf f p hf s ws hF.words
    rw [← e]
    refine less_some s ad ws.length c ws ys f kf ptr w rfl hF hen hL hC hb hc hT ?_
    intro hlen
    rw [e] at hlen ⊢
    rw [List.length_filter_eq_length_iff] at hlen
    exact List.filter_eq_self.2 hlen
  · have hz := hF.zero (by omega)
    have : ws = [] := List.eq_nil_of_length_eq_zero (by omega)
    subst this
    exact less_none s A c _ w hz
end Go.Proofs.YtegiaonlneamfaaDoor

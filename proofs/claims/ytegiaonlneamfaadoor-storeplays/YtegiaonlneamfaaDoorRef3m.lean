/- Contract of the reference's Narrow (layer 3), where something goes. -/
import Derived.Test.YtegiaonlneamfaaDoorRef3n
namespace Go.Proofs.YtegiaonlneamfaaDoor
open Go.RowKit

/-- Half-way through: the box that is written, its two rows so far. -/
structure Cp (w wr : World) (tb : Nat) (a b : Value) (ka : Nat) (xs : List Value) (kb : Nat) (ys : List Value) : Prop where
  dst : Blk wr tb #[a, b] 32
  rowa : wr.ownsRow w.heap.size 22 1 a ka xs
  rowb : wr.ownsRow w.heap.size 79 2 b kb ys
  low : Below w.heap.size w wr
  atb : w.heap.size ≤ tb

theorem Cp.below {w wr w' : World} {tb : Nat} {a b : Value} {ka kb : Nat} {xs ys : List Value} (h : Cp w wr tb a b ka xs kb ys) (hb : Below wr.heap.size wr w') : Cp w w' tb a b ka xs kb ys :=
  ⟨h.dst.below hb, own_below h.rowa hb, own_below h.rowb hb, h.low.trans (hb.mono h.low.size), h.atb⟩

theorem Cp.stepA {w wr w' : World} {tb : Nat} {a b a' : Value} {ka kb ka' : Nat} {xs ys xs' : List Value} (h : Cp w wr tb a b ka xs kb ys) (hR : w'.ownsRow w.heap.size 22 1 a' ka' xs') (hG : wr.grownBy w' a.ownBlock) :
    Blk w' tb #[a, b] 32 ∧ Cp w (w'.setCell ⟨tb, 0, none⟩ a') tb a' b ka' xs' kb ys := by
  have hd : Blk w' tb #[a, b] 32 := (hG.block tb h.dst.lt (own_ne h.rowa h.dst (by decide))).trans h.dst
  have hb : w'.ownsRow w.heap.size 79 2 b kb ys := own_keep h.rowb fun g _ hB => hG.block g hB.lt (own_ne h.rowa hB (by decide))
  have hl := h.low.grown hG h.low.size fun g hg => own_ge h.rowa g hg
  refine ⟨hd, hd.set 0 a', own_keep hR fun g _ hB => heap_setCell_other w' _ g a' (hB.ne hd (by decide)), own_keep hb fun g _ hB => heap_setCell_other w' _ g a' (hB.ne hd (by decide)), ?_, h.atb⟩
  exact hl.grown (grown_set w' ⟨tb, 0, none⟩ a') hl.size fun g hg => by simp only [Option.some.injEq] at hg; have := h.atb; omega

theorem Cp.stepB {w wr w' : World} {tb : Nat} {a b b' : Value} {ka kb kb' : Nat} {xs ys ys' : List Value} (h : Cp w wr tb a b ka xs kb ys) (hR : w'.ownsRow w.heap.size 79 2 b' kb' ys') (hG : wr.grownBy w' b.ownBlock) :
    Blk w' tb #[a, b] 32 ∧ Cp w (w'.setCell ⟨tb, 1, none⟩ b') tb a b' ka xs kb' ys' := by
  have hd : Blk w' tb #[a, b] 32 := (hG.block tb h.dst.lt (own_ne h.rowb h.dst (by decide))).trans h.dst
  have ha : w'.ownsRow w.heap.size 22 1 a ka xs := own_keep h.rowa fun g _ hB => hG.block g hB.lt (own_ne h.rowb hB (by decide))
  have hl := h.low.grown hG h.low.size fun g hg => own_ge h.rowb g hg
  refine ⟨hd, hd.set 1 b', own_keep ha fun g _ hB => heap_setCell_other w' _ g b' (hB.ne hd (by decide)), own_keep hR fun g _ hB => heap_setCell_other w' _ g b' (hB.ne hd (by decide)), ?_, h.atb⟩
  exact hl.grown (grown_set w' ⟨tb, 1, none⟩ b') hl.size fun g hg => by simp only [Option.some.injEq] at hg; have := h.atb; omega

/-- What stands in a row of slices. -/
theorem row_at {w : World} {base n : Nat} {e : TypeId} {A : Option Addr} {c : Nat} {xs : List Value} {k : Nat} {x : Value} (h : w.ownsRow base e 1 (.slice A n c) n xs) (hx : xs[k]? = some x) : ∃ g, A = some ⟨g, 0, none⟩ ∧ w.cell? ⟨g, k, none⟩ = some x := by
  have hlt : k < xs.length := (List.getElem?_eq_some_iff.1 hx).1
  have hl := h.1
  rcases h.2 with ⟨e', h0⟩ | ⟨g, cap, cu, e', hb, hg, hn', hm, hs, ht⟩
  · omega
  · refine ⟨g, (Value.slice.inj e').1, ?_⟩
    rw [Blk.cell (show Blk w g cu e from hg), ← Array.getElem?_toList, ← hx, ← ht, List.getElem?_take_of_lt (by omega)]

/-- What stands in a row of events. -/
theorem EvT.at {w : World} {A : Option Addr} {c : Nat} {es : List (Int × Int)} (h : EvT w (.slice A es.length c) es) {k : Nat} {p : Int × Int} (hp : es[k]? = some p) : ∃ g, A = some ⟨g, 0, none⟩ ∧ w.cell? ⟨g, k * 2, none⟩ = some (.int .i64 p.1) ∧ w.cell? ⟨g, k * 2 + 1, none⟩ = some (.int .i64 p.2) := by
  have hlt : k < es.length := (List.getElem?_eq_some_iff.1 hp).1
  rcases h.2 with ⟨e', h0⟩ | ⟨g, cap, cu, e', hb, hg, hn', hm, hs, ht⟩
  · omega
  · exact ⟨g, (Value.slice.inj e').1, ev_cell (cap := es.length) (show Blk w g cu 79 from hg) ht hp (Nat.le_refl _)⟩

theorem take_es {es : List (Int × Int)} {k : Nat} {p : Int × Int} (h : es[k]? = some p) : (es.take (k + 1)).flatMap evCells = (es.take k).flatMap evCells ++ evCells p := by
  obtain ⟨hj, e⟩ := List.getElem?_eq_some_iff.1 h
  rw [List.take_succ_eq_append_getElem hj, e]
  simp

set_option maxHeartbeats 4000000 in
set_option maxRecDepth 100000 in
theorem refnarrow_less (lv ev dv : Value) (H : List (List (List Int))) (LL : List (List Int)) (es : List (Int × Int)) (i : Nat) (L M P : List Int) (ch : Int) (w : World) (h : LevT w lv H) (hH : H[H.length - 1]? = some LL) (he : EvT w ev es) (hbig : H.length ≤ 100) (hbe : es.length ≤ 1000) (hbl : LL.length ≤ 100) (hi : LL[i]? = some L) (hdv : IntsT w dv M) (hL : L.length ≤ 1000) (hM : M.length ≤ 1000)
    (hP : (L.filter fun u => decide (u ∈ M)) = P) (hch : chg L P = ch) (hne : (ch == 0) = false) :
    Calls Tryd.prog 18 #[.agg #[lv, ev], .int .i64 (i : Nat), dv] w fun e w' => ∃ lv' ev', e = .returned (.tuple #[.agg #[lv', ev'], .int .i64 ch]) ∧ LevT w' lv' (H.set (H.length - 1) (LL.set i P)) ∧ EvT w' ev' (es ++ [((i : Int), ch)]) ∧ Below w.heap.size w w' := by
  have hev : ∃ A n c, ev = .slice A n c := by obtain ⟨A, c, e⟩ := slice_row he; exact ⟨A, _, c, e⟩
  have HNow := Lib.hid fun (W : World) (hW : Below w.heap.size w W) => now_any lv ev H LL W (h.below hW) hH hev (by omega)
  have HKe := Lib.hid fun (x : Value) (W : World) (hW : Below w.heap.size w W) (hx : IntsT W x L) => refkeep_in x dv L M W hx (hdv.below hW) hL hM
  rw [hP, hch] at HKe
  have HLev := Lib.hid h
  have HEv := Lib.hid he
  obtain ⟨vs, hrow, hrs⟩ := h
  have hvl : vs.length = H.length := by have := hrow.1; omega
  have HRow := Lib.hid hrow
  have HRs := Lib.hid hrs
  obtain ⟨A1, c1, rfl⟩ := slice_row hrow
  obtain ⟨A2, c2, rfl⟩ := slice_row he
  obtain ⟨A3, c3, rfl, -, -⟩ := hdv.lies
  obtain ⟨n, hn⟩ : ∃ n, n = H.length := ⟨_, rfl⟩
  obtain ⟨ne, hne'⟩ : ∃ ne, ne = es.length := ⟨_, rfl⟩
  obtain ⟨m, hm⟩ : ∃ m, m = LL.length := ⟨_, rfl⟩
  have hnp : 0 < n := by have := (List.getElem?_eq_some_iff.1 hH).1; omega
  have hil : i < m := by have := (List.getElem?_eq_some_iff.1 hi).1; omega
  have Hn := Lib.hid hn
  have Hne := Lib.hid hne'
  have Hm := Lib.hid hm
  have Hvl := Lib.hid hvl
  have Hi := Lib.hid hi
  rw [← hn] at HNow HRow hbig ⊢
  rw [← hne'] at HNow hbe ⊢
  rw [← hm] at hbl
  have HK := Lib.hid (below2 w (.cells #[.slice A1 n c1, .slice A2 ne c2] 32) (.cells #[.slice none 0 0, .slice none 0 0] 32))
  have b1 := Blk.new w #[.slice A1 n c1, .slice A2 ne c2] 32
  have b2 := Blk.new (w.alloc (.cells #[.slice A1 n c1, .slice A2 ne c2] 32)) #[.slice none 0 0, .slice none 0 0] 32
  rw [show (w.alloc (.cells #[.slice A1 n c1, .slice A2 ne c2] 32)).heap.size = w.heap.size + 1 by simp] at b2
  have HB1 := Lib.hid (b1.below (below1 _ (.cells #[.slice none 0 0, .slice none 0 0] 32)))
  have HB2 := Lib.hid b2
  clear hH hn hne' hm hvl b1 b2 hdv hi hch hL hM he hev hrow hrs hP
  go_enter Tryd.func18, Tryd.ntmps18
  go_wp2_with fail
  refine (HNow.out _ HK.out).mono ?_
  rintro e w1 ⟨x, rfl, hx, hb1⟩
  have HRx := Lib.hid hx
  obtain ⟨xs, hxo, hxi⟩ := hx
  obtain ⟨A4, c4, rfl⟩ := slice_row hxo
  obtain ⟨g, cx, X, dx, eX, y0, hI, -⟩ := HRx.out.get Hi.out
  rw [← Hm.out] at hxo eX ⊢
  have HXo := Lib.hid hxo
  have HXi := Lib.hid hxi
  have eA := (Value.slice.inj eX).1
  subst eA
  have HB3 := Lib.hid (HB1.out.below hb1)
  have HB4 := Lib.hid (HB2.out.below hb1)
  have HK4 := Lib.hid (HK.out.trans (hb1.mono HK.out.size))
  have HI := Lib.hid hI
  have hii : (i : Int) < (m : Nat) := by omega
  have h2 : decide ((m : Int) ≤ (i : Int)) = false := by simp; omega
  have h2' : decide (m ≤ i) = false := by simp; omega
  clear hxo hxi hb1 HB1 HB2 HK hI eX
  go_wp2_with fail
  refine (HKe.out _ w1 HK4.out HI.out).mono ?_
  rintro e w2 ⟨v2, rfl, ho2, hb2⟩
  have HI2 : Hid (IntsT w2 v2 P) := Lib.hid (own_base ho2 (Nat.zero_le _))
  obtain ⟨A5, c5, hv2, -, -⟩ := HI2.out.lies
  subst hv2
  have HB5 := Lib.hid (HB3.out.below hb2)
  have HB6 := Lib.hid (HB4.out.below hb2)
  have HK6 := Lib.hid (HK4.out.trans (hb2.mono HK4.out.size))
  have HX6 := Lib.hid (own_below HXo.out hb2)
  have HX7 := Lib.hid fun (k : Nat) (x : Value) (L : List Int) (a : xs[k]? = some x) (b : LL[k]? = some L) => (HXi.out k x L a b).below hb2
  clear ho2 hb2 y0 HB3 HB4 HK4 HI HXo HXi HRx HKe
  go_wp2_with fail
  obtain ⟨i2, hi2, hy0, hy1, hy2⟩ := info_parts info34
  have hxl : xs.length = m := by have := HX6.out.1; omega
  have Hxl := Lib.hid hxl
  clear hxl
  go_loopw [11, 12] (fun a j wr => ∃ k : Nat, k ≤ m ∧ j = .int .i64 (k : Nat) ∧ Hid (wr.ownsRow w2.heap.size 34 1 a k ((xs.set i (.slice A5 P.length c5)).take k) ∧ Below w2.heap.size w2 wr)) (fun _ j _ => m - (intOf j).toNat)
  case atStart => exact ⟨0, Nat.zero_le _, rfl, Lib.hid ⟨World.ownsRow_nil _ _ _ _, Below.refl _ _⟩⟩
  case round =>
    obtain ⟨wo, rfl⟩ : ∃ wo, wo = wr := ⟨_, rfl⟩
    obtain ⟨k, hk, rfl, HH⟩ := hrel
    obtain ⟨Cu, cc, rfl⟩ := slice_row HH.out.1
    have HO := Lib.hid HH.out.1
    have HKo := Lib.hid HH.out.2
    clear HH
    by_cases hlt : k < m
    · have hki : (k : Int) < (m : Nat) := by omega
      by_cases hki' : k = i
      · have q1 : (((k : Nat) : Int) == ((i : Nat) : Int)) = true := by simp [hki']
        have q2 : (k == i) = true := by simp [hki']
        have Hst : Hid ((xs.set i (.slice A5 P.length c5)).take (k + 1) = (xs.set i (.slice A5 P.length c5)).take k ++ [.slice A5 P.length c5]) := Lib.hid (take_vs (by rw [hki', List.getElem?_set, if_pos rfl, if_pos (by rw [Hxl.out]; exact hil)]))
        clear hki'
        have K6 := below1 wo (.cells #[.slice A5 P.length c5] 34)
        have HO6 := Lib.hid (own_below HO.out K6)
        have HK7 := Lib.hid (HKo.out.trans (K6.mono HKo.out.size))
        have C6 := Lib.hid (cells_new wo [.slice A5 P.length c5] 34)
        have Z2 : Hid (∀ u ∈ [Value.slice A5 P.length c5], u.oneCell' = true) := Lib.hid (by intro u hu; simp at hu; subst hu; rfl)
        have Z3 : Hid (k + 1 ≤ maxLen) := Lib.hid (by simp only [maxLen]; omega)
        have Z4 : Hid ((k + 1) * 24 ≤ 140737488355328) := Lib.hid (by omega)
        have Z5 : Hid (w2.heap.size ≤ (wo.alloc (.cells #[.slice A5 P.length c5] 34)).heap.size) := Lib.hid HK7.out.size
        clear K6 HO HKo
        go_wp2_with (at_builtin; refine wpList_append_own _ rfl _ _ 22 rfl w2.heap.size 34 i2 (.slice none 0 0) 1 24 Tryd.underlying22 hi2 hy0 hy1 hy2 rfl (by decide) _ _ _ rfl HO6.out ⟨wo.heap.size, 0, none⟩ 1 1 [.slice A5 P.length c5] rfl rfl C6.out Z2.out Z3.out Z4.out Z5.out ?_; intro v6 w6 R6 G6 _; have HN : Hid (w6.ownsRow w2.heap.size 34 1 v6 (k + 1) ((xs.set i (.slice A5 P.length c5)).take (k + 1)) ∧ Below w2.heap.size w2 w6) := Lib.hid ⟨by rw [Hst.out]; exact R6, HK7.out.grown G6 HK7.out.size fun g hg => own_ge HO6.out g hg⟩; clear R6 G6)
        go_roundw
        case rel => exact ⟨k + 1, by omega, by go_num, HN⟩
        case measure => simp [intOf]; omega
      · have q1 : (((k : Nat) : Int) == ((i : Nat) : Int)) = false := by simp; omega
        have q2 : (k == i) = false := by simp; omega
        obtain ⟨xk, hxk⟩ : ∃ xk, xs[k]? = some xk := ⟨_, List.getElem?_eq_getElem (by rw [Hxl.out]; exact hlt)⟩
        obtain ⟨Lk, hLk⟩ : ∃ Lk, LL[k]? = some Lk := ⟨_, List.getElem?_eq_getElem (by rw [← Hm.out]; exact hlt)⟩
        obtain ⟨Xk, dk, hX, -, -⟩ := (HX7.out k xk Lk hxk hLk).lies
        obtain ⟨g', eg, y1⟩ := row_at HX6.out hxk
        cases eg
        have y1 : wo.cell? ⟨g, k, none⟩ = some xk := (HKo.out.cell (World.block_lt_of_cell? w2 ⟨g, k, none⟩ y1)).trans y1
        have Hst : Hid ((xs.set i (.slice A5 P.length c5)).take (k + 1) = (xs.set i (.slice A5 P.length c5)).take k ++ [xk]) := Lib.hid (take_vs (by rw [List.getElem?_set, if_neg (by omega)]; exact hxk))
        subst hX
        clear hki' hxk hLk
        have K6 := below1 wo (.cells #[.slice Xk Lk.length dk] 34)
        have HO6 := Lib.hid (own_below HO.out K6)
        have HK7 := Lib.hid (HKo.out.trans (K6.mono HKo.out.size))
        have C6 := Lib.hid (cells_new wo [.slice Xk Lk.length dk] 34)
        have Z2 : Hid (∀ u ∈ [Value.slice Xk Lk.length dk], u.oneCell' = true) := Lib.hid (by intro u hu; simp at hu; subst hu; rfl)
        have Z3 : Hid (k + 1 ≤ maxLen) := Lib.hid (by simp only [maxLen]; omega)
        have Z4 : Hid ((k + 1) * 24 ≤ 140737488355328) := Lib.hid (by omega)
        have Z5 : Hid (w2.heap.size ≤ (wo.alloc (.cells #[.slice Xk Lk.length dk] 34)).heap.size) := Lib.hid HK7.out.size
        clear K6 HO HKo
        go_wp2_with (at_builtin; refine wpList_append_own _ rfl _ _ 22 rfl w2.heap.size 34 i2 (.slice none 0 0) 1 24 Tryd.underlying22 hi2 hy0 hy1 hy2 rfl (by decide) _ _ _ rfl HO6.out ⟨wo.heap.size, 0, none⟩ 1 1 [.slice Xk Lk.length dk] rfl rfl C6.out Z2.out Z3.out Z4.out Z5.out ?_; intro v6 w6 R6 G6 _; have HN : Hid (w6.ownsRow w2.heap.size 34 1 v6 (k + 1) ((xs.set i (.slice A5 P.length c5)).take (k + 1)) ∧ Below w2.heap.size w2 w6) := Lib.hid ⟨by rw [Hst.out]; exact R6, HK7.out.grown G6 HK7.out.size fun g hg => own_ge HO6.out g hg⟩; clear R6 G6)
        go_roundw
        case rel => exact ⟨k + 1, by omega, by go_num, HN⟩
        case measure => simp [intOf]; omega
    · have hkm : k = m := by omega
      have HRn : Hid (RowsT wo (.slice Cu k cc) (LL.set i P)) := Lib.hid (by
        have hO := HO.out
        rw [List.take_of_length_le (by rw [List.length_set, Hxl.out]; omega)] at hO
        refine ⟨xs.set i (.slice A5 P.length c5), by rw [List.length_set, ← Hm.out, ← hkm]; exact own_base hO (Nat.zero_le _), fun j y N hy hN => ?_⟩
        rw [List.getElem?_set] at hy hN
        by_cases hj : i = j
        · rw [if_pos hj, if_pos (by rw [Hxl.out]; exact hil)] at hy
          rw [if_pos hj, if_pos (by rw [← Hm.out]; exact hil)] at hN
          cases hy
          cases hN
          exact HI2.out.below HKo.out
        · rw [if_neg hj] at hy hN
          exact (HX7.out j y N hy hN).below HKo.out)
      have HB7 := Lib.hid (HB5.out.below HKo.out)
      have HB8 := Lib.hid (HB6.out.below HKo.out)
      have HK8 := Lib.hid (HK6.out.trans (HKo.out.mono HK6.out.size))
      have HC0 : Hid (Cp wo (wo.alloc (.cells #[.slice none 0 0, .slice none 0 0] 32)) wo.heap.size (.slice none 0 0) (.slice none 0 0) 0 (vs.take 0) 0 ((es.take 0).flatMap evCells)) := Lib.hid ⟨Blk.new wo _ 32, World.ownsRow_nil _ _ _ _, World.ownsRow_nil _ _ _ _, below1 _ _, Nat.le_refl _⟩
      obtain ⟨l, hl⟩ : ∃ l, n = l + 1 := ⟨n - 1, by omega⟩
      have w9 : IntKind.i64.wrap ((n : Int) - 1) = (l : Int) := by rw [IntWalk.i64_in _ (by omega)]; omega
      have Hl := Lib.hid hl
      have hlb : l ≤ 100 := by omega
      obtain ⟨i1, hi1, hz0, hz1, hz2⟩ := info_parts info22
      clear hl
      go_wp2_with fail
      clear HO HKo HX6 HX7 hlt hk hkm HB5 HB6 HK6 HI2
      go_loopw [14] (fun j wr => ∃ k : Nat, k ≤ l ∧ j = .int .i64 (k : Nat) ∧ Hid (∃ a, Cp wo wr wo.heap.size a (.slice none 0 0) k (vs.take k) 0 ((es.take 0).flatMap evCells))) (fun j _ => l - (intOf j).toNat)
      case atStart => exact ⟨0, Nat.zero_le _, rfl, Lib.hid ⟨_, HC0.out⟩⟩
      case round =>
        clear HC0
        obtain ⟨wp, rfl⟩ : ∃ wp, wp = wr := ⟨_, rfl⟩
        obtain ⟨k2, hk2, rfl, HH⟩ := hrel
        obtain ⟨a, hC⟩ := HH.out
        obtain ⟨Ca, ca, rfl⟩ := slice_row hC.rowa
        have HC := Lib.hid hC
        clear hC HH
        have s0 : wp.cell? ⟨w.heap.size, 0, none⟩ = some (.slice A1 n c1) := (HB7.out.below HC.out.low).cell 0
        have t0 : wp.cell? ⟨wo.heap.size, 0, none⟩ = some (.slice Ca k2 ca) := HC.out.dst.cell 0
        by_cases hlt : k2 < l
        · obtain ⟨x, hx⟩ : ∃ x, vs[k2]? = some x := ⟨_, List.getElem?_eq_getElem (by rw [Hvl.out, ← Hn.out, Hl.out]; omega)⟩
          obtain ⟨LLk, hLk⟩ : ∃ LLk, H[k2]? = some LLk := ⟨_, List.getElem?_eq_getElem (by rw [← Hn.out, Hl.out]; omega)⟩
          obtain ⟨X2, cx2, hX, -⟩ := (HRs.out k2 x LLk hx hLk).shape
          obtain ⟨g2, eA, hcx⟩ := row_at HRow.out hx
          subst eA
          have y0 : wp.cell? ⟨g2, k2, none⟩ = some x := by
            have hb := HK8.out.trans (HC.out.low.mono HK8.out.size)
            exact (hb.cell (World.block_lt_of_cell? w ⟨g2, k2, none⟩ hcx)).trans hcx
          have Hst := Lib.hid (take_vs hx)
          subst hX
          have K6 := below1 wp (.cells #[.slice X2 LLk.length cx2] 22)
          have HC6 := Lib.hid (HC.out.below K6.drew)
          have t1 : (wp.alloc (.cells #[.slice X2 LLk.length cx2] 22)).cell? ⟨wo.heap.size, 0, none⟩ = some (.slice Ca k2 ca) := (HC.out.below K6).dst.cell 0
          have C6 := Lib.hid (cells_new wp [.slice X2 LLk.length cx2] 22)
          have Z2 : Hid (∀ u ∈ [Value.slice X2 LLk.length cx2], u.oneCell' = true) := Lib.hid (by intro u hu; simp at hu; subst hu; rfl)
          have Z3 : Hid (k2 + 1 ≤ maxLen) := Lib.hid (by simp only [maxLen]; omega)
          have Z4 : Hid ((k2 + 1) * 24 ≤ 140737488355328) := Lib.hid (by omega)
          have Z5 : Hid (wo.heap.size ≤ (wp.alloc (.cells #[.slice X2 LLk.length cx2] 22)).drew.heap.size) := Lib.hid HC6.out.low.size
          have hki : (k2 : Int) < (l : Int) := by omega
          have hkn : (k2 : Int) < (n : Nat) := by have := Hl.out; omega
          clear hx hcx hLk K6 HC
          go_wp2_with fail
          go_region_law (refine step_append_own rfl (.tmp 69) (.tmp 75) 29 rfl wo.heap.size 22 i1 (.slice none 0 0) 1 24 Tryd.underlying29 hi1 hz0 hz1 hz2 rfl (by decide) (.slice Ca k2 ca) k2 _ rfl HC6.out.rowa ⟨wp.heap.size, 0, none⟩ 1 [.slice X2 LLk.length cx2] rfl rfl C6.out Z2.out Z3.out Z4.out Z5.out ?_; intro v6 w6 R6 G6; obtain ⟨X6, k6, rfl⟩ := slice_row R6; have HS := Lib.hid (HC6.out.stepA R6 G6); have f7 := HS.out.1.free 0; have c7 : w6.cell? ⟨wo.heap.size, 0, none⟩ = some (.slice Ca k2 ca) := HS.out.1.cell 0; clear R6 G6)
          all_goals
            have HN : Hid (∃ a, Cp wo (w6.setCell ⟨wo.heap.size, 0, none⟩ (.slice X6 (k2 + 1) k6)) wo.heap.size a (.slice none 0 0) (k2 + 1) (vs.take (k2 + 1)) 0 ((es.take 0).flatMap evCells)) := Lib.hid ⟨_, by rw [Hst.out]; exact HS.out.2⟩
            clear s0 t0 t1 y0 HC6 C6 Z2 Z3 Z4 Z5 HS f7 c7
            go_wp2_with fail
            go_roundw
            case rel => exact ⟨k2 + 1, by omega, by go_num, HN⟩
            case measure => simp [intOf]; omega
        · have hkl : Hid (k2 = l) := Lib.hid (by omega)
          have K6 := below1 wp (.cells #[.slice Cu k cc] 22)
          have HC6 := Lib.hid (HC.out.below K6)
          have C6 := Lib.hid (cells_new wp [.slice Cu k cc] 22)
          have Z2 : Hid (∀ u ∈ [Value.slice Cu k cc], u.oneCell' = true) := Lib.hid (by intro u hu; simp at hu; subst hu; rfl)
          have Z3 : Hid (k2 + 1 ≤ maxLen) := Lib.hid (by simp only [maxLen]; omega)
          have Z4 : Hid ((k2 + 1) * 24 ≤ 140737488355328) := Lib.hid (by omega)
          have Z5 : Hid (wo.heap.size ≤ (wp.alloc (.cells #[.slice Cu k cc] 22)).heap.size) := Lib.hid HC6.out.low.size
          clear K6 HC
          go_wp2_with (at_builtin; refine wpList_append_own _ rfl _ _ 29 rfl wo.heap.size 22 i1 (.slice none 0 0) 1 24 Tryd.underlying29 hi1 hz0 hz1 hz2 rfl (by decide) _ _ _ rfl HC6.out.rowa ⟨wp.heap.size, 0, none⟩ 1 1 [.slice Cu k cc] rfl rfl C6.out Z2.out Z3.out Z4.out Z5.out ?_; intro v6 w6 R6 G6 _; obtain ⟨X6, k6, rfl⟩ := slice_row R6; have HS := Lib.hid (HC6.out.stepA R6 G6); have f7 := HS.out.1.free 0; have c7 : w6.cell? ⟨wo.heap.size, 0, none⟩ = some (.slice Ca k2 ca) := HS.out.1.cell 0; clear R6 G6)
          have HC7 : Hid (Cp wo (w6.setCell ⟨wo.heap.size, 0, none⟩ (.slice X6 (k2 + 1) k6)) wo.heap.size (.slice X6 (k2 + 1) k6) (.slice none 0 0) (k2 + 1) (vs.take k2 ++ [.slice Cu k cc]) 0 ((es.take 0).flatMap evCells)) := Lib.hid HS.out.2
          clear s0 t0 HC6 C6 Z2 Z3 Z4 Z5 HS f7 c7 hlt hk2
          obtain ⟨j1, hj1, hv0, hv1, hv2⟩ := info_parts info79
          go_loopw [15] (fun j wr => ∃ q : Nat, q ≤ ne ∧ j = .int .i64 (q : Nat) ∧ Hid (∃ b, Cp wo wr wo.heap.size (.slice X6 (k2 + 1) k6) b (k2 + 1) (vs.take k2 ++ [.slice Cu k cc]) q ((es.take q).flatMap evCells))) (fun j _ => ne - (intOf j).toNat)
          case atStart => exact ⟨0, Nat.zero_le _, rfl, Lib.hid ⟨_, HC7.out⟩⟩
          case round =>
            clear HC7
            obtain ⟨wq, rfl⟩ : ∃ wq, wq = wr := ⟨_, rfl⟩
            obtain ⟨k3, hk3, rfl, HH⟩ := hrel
            obtain ⟨b, hC⟩ := HH.out
            obtain ⟨Cb, cb, rfl⟩ := slice_row hC.rowb
            have HC := Lib.hid hC
            clear hC HH
            have s1 : wq.cell? ⟨w.heap.size, 1, none⟩ = some (.slice A2 ne c2) := (HB7.out.below HC.out.low).cell 1
            have t1 : wq.cell? ⟨wo.heap.size, 1, none⟩ = some (.slice Cb k3 cb) := HC.out.dst.cell 1
            by_cases hlt : k3 < ne
            · obtain ⟨p, hp⟩ : ∃ p, es[k3]? = some p := ⟨_, List.getElem?_eq_getElem (by rw [← Hne.out]; exact hlt)⟩
              obtain ⟨ge, eA, z0, z1⟩ := EvT.at HEv.out hp
              subst eA
              have hb9 := HK8.out.trans (HC.out.low.mono HK8.out.size)
              have z0 := (hb9.cell (World.block_lt_of_cell? w ⟨ge, k3 * 2, none⟩ z0)).trans z0
              have z1 := (hb9.cell (World.block_lt_of_cell? w ⟨ge, k3 * 2 + 1, none⟩ z1)).trans z1
              have Hst := Lib.hid (take_es hp)
              obtain ⟨p1, p2⟩ := p
              simp only at z0 z1
              have K6 := below1 wq (.cells #[.int .i64 p1, .int .i64 p2] 79)
              have HC6 := Lib.hid (HC.out.below K6.drew)
              have t2 : (wq.alloc (.cells #[.int .i64 p1, .int .i64 p2] 79)).cell? ⟨wo.heap.size, 1, none⟩ = some (.slice Cb k3 cb) := (HC.out.below K6).dst.cell 1
              have C6 := Lib.hid (cells_new wq (evCells (p1, p2)) 79)
              have Z2 : Hid (∀ u ∈ evCells (p1, p2), u.oneCell' = true) := Lib.hid (by intro u hu; simp [evCells] at hu; rcases hu with rfl | rfl <;> rfl)
              have Z3 : Hid (k3 + 1 ≤ maxLen) := Lib.hid (by simp only [maxLen]; omega)
              have Z4 : Hid ((k3 + 1) * 16 ≤ 140737488355328) := Lib.hid (by omega)
              have Z5 : Hid (wo.heap.size ≤ (wq.alloc (.cells #[.int .i64 p1, .int .i64 p2] 79)).drew.heap.size) := Lib.hid HC6.out.low.size
              have hki : (k3 : Int) < (ne : Nat) := by omega
              clear hp K6 HC hb9
              go_wp2_with fail
              go_region_law (refine step_append_own rfl (.tmp 92) (.tmp 98) 30 rfl wo.heap.size 79 j1 (.agg #[.int .i64 0, .int .i64 0]) 2 16 Tryd.underlying30 hj1 hv0 hv1 hv2 rfl (by decide) (.slice Cb k3 cb) k3 _ rfl HC6.out.rowb ⟨wq.heap.size, 0, none⟩ 1 (evCells (p1, p2)) rfl rfl C6.out Z2.out Z3.out Z4.out Z5.out ?_; intro v8 w8 R8 G8; obtain ⟨X8, k8, rfl⟩ := slice_row R8; have HS := Lib.hid (HC6.out.stepB R8 G8); have f7 := HS.out.1.free 1; have c7 : w8.cell? ⟨wo.heap.size, 1, none⟩ = some (.slice Cb k3 cb) := HS.out.1.cell 1; clear R8 G8)
              all_goals
                have HN : Hid (∃ b, Cp wo (w8.setCell ⟨wo.heap.size, 1, none⟩ (.slice X8 (k3 + 1) k8)) wo.heap.size (.slice X6 (k2 + 1) k6) b (k2 + 1) (vs.take k2 ++ [.slice Cu k cc]) (k3 + 1) ((es.take (k3 + 1)).flatMap evCells)) := Lib.hid ⟨_, by rw [Hst.out]; exact HS.out.2⟩
                clear s1 t1 t2 z0 z1 HC6 C6 Z2 Z3 Z4 Z5 HS f7 c7
                go_wp2_with fail
                go_roundw
                case rel => exact ⟨k3 + 1, by omega, by go_num, HN⟩
                case measure => simp [intOf]; omega
            · have hk3e : Hid (k3 = ne) := Lib.hid (by omega)
              have K6 := below1 wq (.cells #[.int .i64 (i : Nat), .int .i64 ch] 79)
              have HC6 := Lib.hid (HC.out.below K6)
              have C6 := Lib.hid (cells_new wq (evCells (((i : Nat) : Int), ch)) 79)
              have Z2 : Hid (∀ u ∈ evCells (((i : Nat) : Int), ch), u.oneCell' = true) := Lib.hid (by intro u hu; simp [evCells] at hu; rcases hu with rfl | rfl <;> rfl)
              have Z3 : Hid (k3 + 1 ≤ maxLen) := Lib.hid (by simp only [maxLen]; omega)
              have Z4 : Hid ((k3 + 1) * 16 ≤ 140737488355328) := Lib.hid (by omega)
              have Z5 : Hid (wo.heap.size ≤ (wq.alloc (.cells #[.int .i64 (i : Nat), .int .i64 ch] 79)).heap.size) := Lib.hid HC6.out.low.size
              have Hrb6 := Lib.hid (HB8.out.below HC6.out.low)
              have hrbne : w.heap.size + 1 ≠ wo.heap.size := by have := HB8.out.lt; omega
              clear K6 HC
              go_wp2_with (at_builtin; refine wpList_append_own _ rfl _ _ 30 rfl wo.heap.size 79 j1 (.agg #[.int .i64 0, .int .i64 0]) 2 16 Tryd.underlying30 hj1 hv0 hv1 hv2 rfl (by decide) _ _ _ rfl HC6.out.rowb ⟨wq.heap.size, 0, none⟩ 1 1 (evCells (((i : Nat) : Int), ch)) rfl rfl C6.out Z2.out Z3.out Z4.out Z5.out ?_; intro v8 w8 R8 G8 _; obtain ⟨X8, k8, rfl⟩ := slice_row R8; have HS := Lib.hid (HC6.out.stepB R8 G8); have f7 := HS.out.1.free 1; have c7 : w8.cell? ⟨wo.heap.size, 1, none⟩ = some (.slice Cb k3 cb) := HS.out.1.cell 1; have Hrb7 := Lib.hid (HB8.out.below HS.out.2.low); have d0 : (w8.setCell ⟨wo.heap.size, 1, none⟩ (.slice X8 (k3 + 1) k8)).cell? ⟨wo.heap.size, 0, none⟩ = some (.slice X6 (k2 + 1) k6) := HS.out.2.dst.cell 0; have d1 : (w8.setCell ⟨wo.heap.size, 1, none⟩ (.slice X8 (k3 + 1) k8)).cell? ⟨wo.heap.size, 1, none⟩ = some (.slice X8 (k3 + 1) k8) := HS.out.2.dst.cell 1; have r0 : (w8.setCell ⟨wo.heap.size, 1, none⟩ (.slice X8 (k3 + 1) k8)).cell? ⟨w.heap.size + 1, 0, none⟩ = some (.slice none 0 0) := Hrb7.out.cell 0; have r1 : (w8.setCell ⟨wo.heap.size, 1, none⟩ (.slice X8 (k3 + 1) k8)).cell? ⟨w.heap.size + 1, 1, none⟩ = some (.slice none 0 0) := Hrb7.out.cell 1; have g0 := Hrb7.out.free 0; have g1 := Hrb7.out.free 1; clear R8 G8)
              obtain ⟨hq, hkeep, hlow⟩ := two_set Hrb7.out (.slice X6 (k2 + 1) k6) (.slice X8 (k3 + 1) k8)
              have q0 : (((w8.setCell ⟨wo.heap.size, 1, none⟩ (.slice X8 (k3 + 1) k8)).setCell ⟨w.heap.size + 1, 0, none⟩ (.slice X6 (k2 + 1) k6)).setCell ⟨w.heap.size + 1, 1, none⟩ (.slice X8 (k3 + 1) k8)).cell? ⟨w.heap.size + 1, 0, none⟩ = some (.slice X6 (k2 + 1) k6) := hq.cell 0
              have q1 : (((w8.setCell ⟨wo.heap.size, 1, none⟩ (.slice X8 (k3 + 1) k8)).setCell ⟨w.heap.size + 1, 0, none⟩ (.slice X6 (k2 + 1) k6)).setCell ⟨w.heap.size + 1, 1, none⟩ (.slice X8 (k3 + 1) k8)).cell? ⟨w.heap.size + 1, 1, none⟩ = some (.slice X8 (k3 + 1) k8) := hq.cell 1
              have hL9 := hlow (HK8.out.trans (HS.out.2.low.mono HK8.out.size)) (by omega)
              have hk2H : k2 + 1 = H.length := by rw [← Hn.out, Hl.out, hkl.out]
              have hk3H : k3 = es.length := by rw [hk3e.out, Hne.out]
              have hvt : (vs.take k2).length = k2 := by rw [List.length_take, Hvl.out]; omega
              refine bodyPost_ret (v := .tuple #[.agg #[.slice X6 (k2 + 1) k6, .slice X8 (k3 + 1) k8], .int .i64 ch]) (by simp [results, Tryd.results18, go_sem, q0, q1]) rfl ⟨_, _, rfl, ⟨vs.take k2 ++ [.slice Cu k cc], ?_, fun j y N hy hN => ?_⟩, ?_, hL9⟩
              · rw [List.length_set, ← hk2H]
                exact own_base (own_keep HS.out.2.rowa fun g c hb => hkeep 22 g c (by decide) hb) (Nat.zero_le _)
              · by_cases hj : j < k2
                · rw [List.getElem?_append_left (by omega), List.getElem?_take_of_lt hj] at hy
                  rw [List.getElem?_set, if_neg (by have := Hl.out; have := hkl.out; omega)] at hN
                  exact (HRs.out j y N hy hN).below hL9
                · have ej : j = k2 := by
                    have := (List.getElem?_eq_some_iff.1 hy).1
                    rw [List.length_append, hvt] at this
                    simp at this
                    omega
                  subst ej
                  rw [List.getElem?_append_right (by omega), hvt, Nat.sub_self] at hy
                  rw [List.getElem?_set, if_pos (by have := Hl.out; have := hkl.out; omega), if_pos (by have := Hl.out; have := Hn.out; omega)] at hN
                  simp at hy hN
                  subst hy hN
                  exact (HRn.out.below HS.out.2.low).keep (fun g c hb => hkeep 34 g c (by decide) hb) fun g c hb => hkeep 3 g c (by decide) hb
              · have hr := own_keep HS.out.2.rowb fun g c hb => hkeep 79 g c (by decide) hb
                rw [List.take_of_length_le (by omega)] at hr
                show World.ownsRow _ 0 79 2 _ (es ++ [(((i : Nat) : Int), ch)]).length ((es ++ [(((i : Nat) : Int), ch)]).flatMap evCells)
                rw [List.length_append, List.flatMap_append, ← hk3H]
                simpa using own_base hr (Nat.zero_le _)
end Go.Proofs.YtegiaonlneamfaaDoor

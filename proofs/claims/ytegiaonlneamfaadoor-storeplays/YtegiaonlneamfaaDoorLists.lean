/- Contract of the law's lists. -/
import Derived.Test.YtegiaonlneamfaaDoorRowp
namespace Go.Proofs.YtegiaonlneamfaaDoor
open Go.RowKit

/-- Lists that came in. -/
def ListsIn (w : World) (A : Option Addr) (zss : List (List Int)) : Prop :=
  0 < zss.length → ∃ ad, A = some ad ∧ ad.block < w.heap.size ∧ ∀ (k : Nat) (zs : List Int), zss[k]? = some zs → ∃ R c, w.cell? (ad.add k) = some (.slice R zs.length c) ∧ Lies w R zs.length (i64f zs)

/-- What lists gives: domains, and rows of the same numbers. -/
def GivesLists (w : World) (LL : List (List Int)) (e : Ending) (w' : World) : Prop :=
  ∃ (va vb : Value) (ds : List Vr), e = .returned (.tuple #[va, vb]) ∧ Row w.heap.size w' 48 3 va ds.length (ds.flatMap dcells) ∧ (∀ d ∈ ds, IsDom w' d.dom d.L) ∧ RowsT w' vb LL ∧ ds.map Vr.L = LL ∧ (∀ d ∈ ds, d.since = 0) ∧ Below w.heap.size w w'

/-- Half-way through. -/
structure Half (w : World) (LL : List (List Int)) (va vb : Value) (ds : List Vr) (vs : List Value) (wr : World) : Prop where
  rowa : Row w.heap.size wr 48 3 va ds.length (ds.flatMap dcells)
  doms : ∀ d ∈ ds, IsDom wr d.dom d.L
  rowb : Row w.heap.size wr 34 1 vb LL.length vs
  ints : ∀ (k : Nat) (x : Value) (L : List Int), vs[k]? = some x → LL[k]? = some L → IntsT wr x L
  same : ds.map Vr.L = LL
  zero : ∀ d ∈ ds, d.since = 0
  low : Below w.heap.size w wr

theorem Half.below {w wr wr' : World} {LL : List (List Int)} {va vb : Value} {ds : List Vr} {vs : List Value} (h : Half w LL va vb ds vs wr) (hb : Below wr.heap.size wr wr') : Half w LL va vb ds vs wr' :=
  ⟨h.rowa.below hb, fun d hd => (h.doms d hd).below hb, h.rowb.below hb, fun k x L a b => (h.ints k x L a b).below hb, h.same, h.zero, h.low.trans (hb.mono h.low.size)⟩

/-- One domain more. -/
theorem Half.step1 {w wr w' : World} {LL : List (List Int)} {va vb va' : Value} {ds : List Vr} {vs : List Value} (h : Half w LL va vb ds vs wr) (d : Vr) (hd : IsDom wr d.dom d.L) (hR : Row w.heap.size w' 48 3 va' (ds.length + 1) (ds.flatMap dcells ++ dcells d)) (hG : wr.grownBy w' va.ownBlock) :
    Row w.heap.size w' 48 3 va' (ds ++ [d]).length ((ds ++ [d]).flatMap dcells) ∧ (∀ x ∈ ds ++ [d], IsDom w' x.dom x.L) ∧ Row w.heap.size w' 34 1 vb LL.length vs ∧ (∀ (k : Nat) (x : Value) (L : List Int), vs[k]? = some x → LL[k]? = some L → IntsT w' x L) ∧ Below w.heap.size w w' := by
  refine ⟨by simpa using hR, ?_, h.rowb.grown h.rowa hG (by decide), fun k x L a b => (h.ints k x L a b).grown h.rowa hG (by decide), h.low.grown hG h.low.size fun g hg => own_ge h.rowa.1 g hg⟩
  intro x hx
  rcases List.mem_append.1 hx with hx | hx
  · exact (h.doms x hx).grown h.rowa hG
  · rw [List.mem_singleton.1 hx]; exact hd.grown h.rowa hG

theorem mem_snoc_get {LL : List (List Int)} {vs : List Value} {x : Value} {L : List Int} {w : World} (hl : vs.length = LL.length) (h2 : ∀ (k : Nat) (x : Value) (L : List Int), vs[k]? = some x → LL[k]? = some L → IntsT w x L) (hx : IntsT w x L) :
    ∀ (k : Nat) (y : Value) (M : List Int), (vs ++ [x])[k]? = some y → (LL ++ [L])[k]? = some M → IntsT w y M := by
  intro k y M hy hM
  by_cases hk : k < LL.length
  · rw [List.getElem?_append_left (by omega)] at hy hM
    exact h2 k y M hy hM
  · have e : k = LL.length := by
      have := (List.getElem?_eq_some_iff.1 hM).1
      simp at this
      omega
    subst e
    rw [List.getElem?_append_right (by omega), hl] at hy
    rw [List.getElem?_append_right (by omega)] at hM
    simp at hy hM
    subst hy hM
    exact hx

theorem take_map_succ {zss : List (List Int)} {k : Nat} {zs : List Int} (h : zss[k]? = some zs) : (zss.take (k + 1)).map smallL = (zss.take k).map smallL ++ [smallL zs] := by
  obtain ⟨hk, e⟩ := List.getElem?_eq_some_iff.1 h
  rw [List.take_succ_eq_append_getElem hk, List.map_append, e]
  rfl

set_option maxHeartbeats 4000000 in
set_option maxRecDepth 100000 in
theorem lists_some (ad : Addr) (zss : List (List Int)) (n m c : Nat) (w : World) (hn : n = zss.length) (hp : 0 < n) (hnc : n ≤ c) (hm : min (n : Int) 6 = (m : Int)) (h : ListsIn w (some ad) zss) :
    Calls Tryd.prog 6 #[.slice (some ad) n c] w (GivesLists w ((zss.take 6).map smallL)) := by
  obtain ⟨i1, hi1, hz0, hz1, hz2⟩ := info_parts info48
  obtain ⟨i2, hi2, hy0, hy1, hy2⟩ := info_parts info34
  have hmn : m ≤ n := by omega
  have hm6 : m ≤ 6 := by omega
  have hmp : 0 < m := by omega
  have Hn := Lib.hid hn
  have H := Lib.hid h
  have Hfin : Hid (zss.take m = zss.take 6) := Lib.hid (by
    by_cases h6 : n ≤ 6
    · rw [List.take_of_length_le (by omega), List.take_of_length_le (by omega)]
    · rw [show m = 6 by omega])
  clear hn h
  go_enter Tryd.func6, Tryd.ntmps6
  go_wp2_with fail
  go_loopw [4, 5, 17] (fun a b i wr => ∃ k : Nat, k ≤ m ∧ i = .int .i64 (k : Nat) ∧ Hid (∃ ds vs, Half w ((zss.take k).map smallL) a b ds vs wr)) (fun _ _ i _ => m - (intOf i).toNat)
  case atStart => exact ⟨0, Nat.zero_le _, rfl, Lib.hid ⟨[], [], Row.nil _ _ _ _, fun d hd => absurd hd List.not_mem_nil, Row.nil _ _ _ _, fun k x L h _ => by simp at h, rfl, fun d hd => absurd hd List.not_mem_nil, Below.refl _ _⟩⟩
  case round =>
    obtain ⟨wo, rfl⟩ : ∃ wo, wo = wr := ⟨_, rfl⟩
    obtain ⟨k, hk, rfl, HH⟩ := hrel
    obtain ⟨ds, vs, hH⟩ := HH.out
    have HH := Lib.hid hH
    clear hH
    by_cases hlt : k < m
    · obtain ⟨ad', e, hab, hcl⟩ := H.out (by rw [← Hn.out]; omega)
      cases e
      obtain ⟨zs, hzs⟩ : ∃ zs, zss[k]? = some zs := ⟨_, List.getElem?_eq_getElem (by rw [← Hn.out]; omega)⟩
      obtain ⟨R, d, y0, hl⟩ := hcl k zs hzs
      have hbw : Below w.heap.size w wo := HH.out.low
      have y0 := (hbw.cell (by rw [add_block]; exact hab)).trans y0
      have HSm := Lib.hid (small_any R zs zs.length d wo rfl (hl.below hbw))
      have Hstep := Lib.hid (take_map_succ hzs)
      have hsl := small_len zs
      have Hself := Lib.hid (small_self zs)
      have HBw := Lib.hid hbw
      generalize smallL zs = L at *
      generalize zs.length = nz at *
      clear hab hcl hzs hl hbw
      go_wp2_with fail
      refine HSm.out.mono ?_
      rintro e w1 ⟨v1, rfl, ho1, hb1⟩
      obtain ⟨A1, k1, rfl, hl1, -⟩ := own_lies ho1
      have HI1 : Hid (IntsT w1 (.slice A1 L.length k1) L) := Lib.hid (own_base ho1 (Nat.zero_le _))
      have HH1 := Lib.hid (HH.out.below hb1)
      have HO := Lib.hid ((of_dom A1 L k1 w1 hl1 (by omega)).mono fun _ _ => GivesDom.parts)
      rw [Hself.out] at HO
      clear ho1 hb1 hl1 HH HSm
      go_wp2_with fail
      refine HO.out.mono ?_
      rintro e w2 ⟨s2, A2, n2, c2, rfl, hd2, hb2⟩
      have K2 := below1 w2 (.cells #[.int .i64 s2, .slice A2 n2 c2, .int .i64 (L.length : Nat)] 48)
      have k2 := hb2.trans (K2.mono hb2.size)
      have HI2 := Lib.hid (HI1.out.below k2)
      have HH2 := Lib.hid (HH1.out.below k2)
      have HD2 := Lib.hid (hd2.below K2)
      have HB2 := Lib.hid (Blk.new w2 #[.int .i64 s2, .slice A2 n2 c2, .int .i64 (L.length : Nat)] 48)
      clear hd2 hb2 K2 k2 HI1 HH1 HO
      have hdl : ds.length ≤ 6 := by
        have := congrArg List.length HH2.out.same
        simp at this
        omega
      have hll : ((zss.take k).map smallL).length ≤ 6 := by simp; omega
      have hdd : ds.length = ((zss.take k).map smallL).length := by
        have := congrArg List.length HH2.out.same
        simpa using this
      generalize (zss.take k).map smallL = LL at *
      have hs3 : (w2.alloc (.cells #[.int .i64 s2, .slice A2 n2 c2, .int .i64 (L.length : Nat)] 48)).heap.size = w2.heap.size + 1 := by simp
      have K3 := below1 (w2.alloc (.cells #[.int .i64 s2, .slice A2 n2 c2, .int .i64 (L.length : Nat)] 48)) (.cells #[.int .i64 s2, .slice A2 n2 c2, .int .i64 (L.length : Nat)] 48)
      have HH3 := Lib.hid (HH2.out.below K3)
      have HI3 := Lib.hid (HI2.out.below K3)
      have HD3 := Lib.hid (HD2.out.below K3)
      have C3 := Lib.hid (cells_new (w2.alloc (.cells #[.int .i64 s2, .slice A2 n2 c2, .int .i64 (L.length : Nat)] 48)) (dcells ⟨s2, A2, n2, c2, L, 0⟩) 48)
      rw [hs3] at C3
      have Z1 : Hid (∀ u ∈ (Value.agg #[.int .i64 0, .slice none 0 0, .int .i64 0]).cells, plainV u) := Lib.hid (by intro u hu x e; subst e; simp [Value.cells] at hu)
      have Z2 : Hid (∀ u ∈ dcells ⟨s2, A2, n2, c2, L, 0⟩, u.oneCell' = true) := Lib.hid (by intro u hu; simp [dcells] at hu; rcases hu with rfl | rfl | rfl <;> rfl)
      have P3 : Hid (∀ u ∈ dcells ⟨s2, A2, n2, c2, L, 0⟩, plainV u) := Lib.hid (by intro u hu x e; subst e; simp [dcells] at hu)
      have Y1 : Hid (∀ u ∈ (Value.slice none 0 0).cells, plainV u) := Lib.hid (by intro u hu x e; subst e; simp [Value.cells] at hu)
      have Y2 : Hid (∀ u ∈ [Value.slice A1 L.length k1], u.oneCell' = true) := Lib.hid (by intro u hu; simp at hu; subst hu; rfl)
      have Y3 : Hid (∀ u ∈ [Value.slice A1 L.length k1], plainV u) := Lib.hid (by intro u hu x e; subst e; simp at hu)
      have Z3 : Hid (ds.length + 1 ≤ maxLen) := Lib.hid (by simp only [maxLen]; omega)
      have Z4 : Hid ((ds.length + 1) * 40 ≤ 140737488355328) := Lib.hid (by omega)
      have Z5 : Hid (w.heap.size ≤ ((w2.alloc (.cells #[.int .i64 s2, .slice A2 n2 c2, .int .i64 (L.length : Nat)] 48)).alloc (.cells #[.int .i64 s2, .slice A2 n2 c2, .int .i64 (L.length : Nat)] 48)).heap.size) := Lib.hid HH3.out.low.size
      have V3 : Hid (LL.length + 1 ≤ maxLen) := Lib.hid (by simp only [maxLen]; omega)
      have V4 : Hid ((LL.length + 1) * 24 ≤ 140737488355328) := Lib.hid (by omega)
      clear K3 hs3 hdl hll HH2 HI2 HD2 HB2
      go_wp2_with (first
        | (at_builtin; refine wpList_append_rowp _ rfl _ _ 24 rfl w.heap.size 48 i1 (.agg #[.int .i64 0, .slice none 0 0, .int .i64 0]) 3 40 Tryd.underlying24 hi1 hz0 hz1 hz2 rfl (by decide) Z1.out _ _ _ rfl HH3.out.rowa ⟨w2.heap.size + 1, 0, none⟩ 1 (dcells ⟨s2, A2, n2, c2, L, 0⟩) rfl rfl C3.out Z2.out P3.out Z3.out Z4.out Z5.out ?_; intro va' w4 R4 G4; have H4 := Lib.hid (HH3.out.step1 ⟨s2, A2, n2, c2, L, 0⟩ HD3.out R4 G4); have HI4 := Lib.hid (HI3.out.grown HH3.out.rowa G4 (by decide)); clear R4 G4; have R5 := Lib.hid (H4.out.2.2.1.below (below1 w4 (.cells #[.slice A1 L.length k1] 34))); have Z6 := Lib.hid (Nat.le_trans H4.out.2.2.2.2.size (below1 w4 (.cells #[.slice A1 L.length k1] 34)).size); have C5 := Lib.hid (cells_new w4 [.slice A1 L.length k1] 34))
        | (at_builtin; refine wpList_append_rowp _ rfl _ _ 22 rfl w.heap.size 34 i2 (.slice none 0 0) 1 24 Tryd.underlying22 hi2 hy0 hy1 hy2 rfl (by decide) Y1.out _ _ _ rfl R5.out ⟨w4.heap.size, 0, none⟩ 1 [.slice A1 L.length k1] rfl rfl C5.out Y2.out Y3.out V3.out V4.out Z6.out ?_; intro vb' w6 R6 G6))
      have K5 := below1 w4 (.cells #[.slice A1 L.length k1] 34)
      have hvl : vs.length = LL.length := by have := R5.out.1.1; omega
      have HN : Hid (Half w (LL ++ [L]) va' vb' (ds ++ [⟨s2, A2, n2, c2, L, 0⟩]) (vs ++ [.slice A1 L.length k1]) w6) := Lib.hid
        ⟨(H4.out.1.below K5).grown R5.out G6 (by decide), fun d hd => ((H4.out.2.1 d hd).below K5).grown R5.out G6, by simpa using R6,
         mem_snoc_get hvl (fun k x M a b => ((H4.out.2.2.2.1 k x M a b).below K5).grown R5.out G6 (by decide)) ((HI4.out.below K5).grown R5.out G6 (by decide)),
         by rw [List.map_append, HH3.out.same]; rfl, fun d hd => by
           rcases List.mem_append.1 hd with hd | hd
           · exact HH3.out.zero d hd
           · rw [List.mem_singleton.1 hd],
         (H4.out.2.2.2.2.trans (K5.mono H4.out.2.2.2.2.size)).grown G6 (Nat.le_trans H4.out.2.2.2.2.size K5.size) fun g hg => own_ge R5.out.1 g hg⟩
      go_roundw
      case rel => exact ⟨k + 1, by omega, by go_num, Lib.hid ⟨_, _, by rw [Hstep.out]; exact HN.out⟩⟩
      case measure => simp [intOf]; omega
    · have hkm : k = m := by omega
      have HE : Hid (GivesLists w ((zss.take 6).map smallL) (.returned (.tuple #[u4, u5])) wo) := Lib.hid (by
        have h := HH.out
        rw [hkm, Hfin.out] at h
        refine ⟨u4, u5, ds, rfl, h.rowa, h.doms, ⟨vs, own_base h.rowb.1 (Nat.zero_le _), h.ints⟩, h.same, h.zero, h.low⟩)
      clear hkm HH
      go_wp2_with fail
      go_ret2
      exact HE.out

theorem lists_none (A : Option Addr) (c : Nat) (w : World) : Calls Tryd.prog 6 #[.slice A 0 c] w (GivesLists w []) := by
  cases A
  all_goals
    go_enter Tryd.func6, Tryd.ntmps6
    go_wp2_with fail
    refine wp_loop_rounds 1 ?_
    rw [rounds_succ]
    go_wp2_with fail
    go_ret2
    exact ⟨_, _, [], rfl, Row.nil _ _ _ _, fun d hd => absurd hd List.not_mem_nil, RowsT.nil _, rfl, fun d hd => absurd hd List.not_mem_nil, Below.refl _ _⟩

theorem lists_any (A : Option Addr) (zss : List (List Int)) (n c : Nat) (w : World) (hn : n = zss.length) (hnc : n ≤ c) (h : ListsIn w A zss) : Calls Tryd.prog 6 #[.slice A n c] w (GivesLists w ((zss.take 6).map smallL)) := by
  by_cases hp : 0 < n
  · obtain ⟨ad, rfl, hr⟩ := h (by omega)
    exact lists_some ad zss n (min n 6) c w hn hp hnc (by omega) fun _ => ⟨ad, rfl, hr⟩
  · have h0 : n = 0 := by omega
    have : zss = [] := List.eq_nil_of_length_eq_zero (by omega)
    subst this
    subst h0
    exact lists_none A c w
end Go.Proofs.YtegiaonlneamfaaDoor

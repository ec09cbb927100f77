/- The walk of StoreBack. -/
import Derived.Test.YtegiaonlneamfaaDoorAct3
import Derived.Test.YtegiaonlneamfaaDoorLists
import Derived.Test.YtegiaonlneamfaaDoorWake3
namespace Go.Proofs.YtegiaonlneamfaaDoor
open Go.RowKit Go.Sort

theorem add_next4 (a : Addr) (n j : Nat) (hj : 0 < j) : ({ block := (a.add n).block, off := (a.add n).off + j } : Addr) = a.add (n + j) := by
  unfold Addr.add
  rw [if_neg (show ¬ n + j = 0 by omega)]
  split
  · next h => subst h; simp
  · simp [Nat.add_assoc]

/-- Steps that came in. -/
def ActsIn (w : World) (A : Option Addr) (n : Nat) : Prop :=
  0 < n → ∃ ad, A = some ad ∧ ad.block < w.heap.size ∧ ∀ k, k < n → ∃ kd v N Z nz cz zs, w.cell? (ad.add (k * 4)) = some (.int .u8 kd) ∧ w.cell? (ad.add (k * 4 + 1)) = some (.int .i64 v) ∧ w.cell? (ad.add (k * 4 + 2)) = some (.int .i64 N) ∧ w.cell? (ad.add (k * 4 + 3)) = some (.slice Z nz cz) ∧ ActIn w kd v Z nz cz zs

/-- One of them, met later. -/
theorem ActsIn.at {w W : World} {ad : Addr} {n : Nat} (h : ActsIn w (some ad) n) (hW : Below w.heap.size w W) {k : Nat} (hk : k < n) : ∃ kd v N Z nz cz zs, W.cell? (ad.add (k * 4)) = some (.int .u8 kd) ∧ W.cell? ⟨(ad.add (k * 4)).block, (ad.add (k * 4)).off + 1, none⟩ = some (.int .i64 v) ∧ W.cell? ⟨(ad.add (k * 4)).block, (ad.add (k * 4)).off + 2, none⟩ = some (.int .i64 N) ∧ W.cell? ⟨(ad.add (k * 4)).block, (ad.add (k * 4)).off + 3, none⟩ = some (.slice Z nz cz) ∧ ActIn w kd v Z nz cz zs := by
  obtain ⟨ad', e, hb, hr⟩ := h (by omega)
  cases e
  obtain ⟨kd, v, N, Z, nz, cz, zs, c0, c1, c2, c3, hA⟩ := hr k hk
  refine ⟨kd, v, N, Z, nz, cz, zs, (hW.cell (by rw [add_block]; exact hb)).trans c0, ?_, ?_, ?_, hA⟩
  · rw [add_next4 _ _ _ (by omega)]; exact (hW.cell (by rw [add_block]; exact hb)).trans c1
  · rw [add_next4 _ _ _ (by omega)]; exact (hW.cell (by rw [add_block]; exact hb)).trans c2
  · rw [add_next4 _ _ _ (by omega)]; exact (hW.cell (by rw [add_block]; exact hb)).trans c3

/-- A store in the midst of the law: how many variables, steps at most, its level, the domains of all levels. -/
structure Mid3 (base : Nat) (w wr : World) (S gb n k : Nat) (st : Sto) (H : List (List (List Int))) : Prop where
  store : IsStore base wr S st
  hist : Hist st.vs st.bs st.lev H
  vars : st.vs.length = n
  bs : st.bs.length ≤ k
  es : st.es.length ≤ k
  lev : st.lev ≤ k
  box : Blk wr gb #[ptr S] 27
  low : Below w.heap.size w wr
  atb : w.heap.size ≤ base

theorem Mid3.below {base : Nat} {w wr w' : World} {S gb n k : Nat} {st : Sto} {H : List (List (List Int))} (h : Mid3 base w wr S gb n k st H) (hb : Below wr.heap.size wr w') : Mid3 base w w' S gb n k st H :=
  ⟨h.store.below hb, h.hist, h.vars, h.bs, h.es, h.lev, h.box.below hb, h.low.trans (hb.mono h.low.size), h.atb⟩

theorem Mid3.push {base : Nat} {w wr w' : World} {S gb n k : Nat} {st : Sto} {H : List (List (List Int))} (h : Mid3 base w wr S gb n k st H) (hS : IsStore base w' S { st with lev := st.lev + 1 }) (hF : Fr base wr w') : Mid3 base w w' S gb n (k + 1) { st with lev := st.lev + 1 } (H ++ [st.vs.map Vr.L]) :=
  ⟨hS, h.hist.push, h.vars, Nat.le_succ_of_le h.bs, Nat.le_succ_of_le h.es, Nat.succ_le_succ h.lev, h.box.fr (by decide) hF, h.low.trans (hF.below.mono h.atb), h.atb⟩

theorem Mid3.act {base : Nat} {w wr w' : World} {S gb n k : Nat} {st st' : Sto} {H : List (List (List Int))} {i ch : Int} {M : List Int} (h : Mid3 base w wr S gb n k st H) (hS : IsStore base w' S st') (hN : NarS st i M ch st') (hF : Fr base wr w') : Mid3 base w w' S gb n (k + 1) st' (H.set st.lev (st'.vs.map Vr.L)) := by
  obtain ⟨h1, h2, h3, h4⟩ := hN.len
  exact ⟨hS, hN.hist h.hist, by rw [h1]; exact h.vars, Nat.le_trans h3 (Nat.succ_le_succ h.bs), Nat.le_trans h4 (Nat.succ_le_succ h.es), by rw [h2]; exact Nat.le_succ_of_le h.lev, h.box.fr (by decide) hF, h.low.trans (hF.below.mono h.atb), h.atb⟩

theorem Mid3.more {base : Nat} {w wr : World} {S gb n k k' : Nat} {st : Sto} {H : List (List (List Int))} (h : Mid3 base w wr S gb n k st H) (hk : k ≤ k') : Mid3 base w wr S gb n k' st H :=
  ⟨h.store, h.hist, h.vars, Nat.le_trans h.bs hk, Nat.le_trans h.es hk, Nat.le_trans h.lev hk, h.box, h.low, h.atb⟩

theorem IsStore.grown48 {base b S : Nat} {w w' : World} {st : Sto} {v : Value} {n : Nat} {xs : List Value} (h : IsStore base w S st) (hR : Row b w 48 3 v n xs) (hG : w.grownBy w' v.ownBlock) : IsStore base w' S st :=
  ⟨(hG.block S h.head.lt (hR.ne h.head (by decide))).trans h.head, (hG.block st.V h.vars.lt (hR.ne h.vars (by decide))).trans h.vars, h.before.keep fun g _ hB => hG.block g hB.lt (hR.ne hB (by decide)), h.events.keep fun g _ hB => hG.block g hB.lt (hR.ne hB (by decide)),
   h.atS, h.atV, fun u hu => (h.doms u hu).grown hR hG, fun e he => (h.was e he).grown hR hG, h.places⟩

theorem Mid3.grown {base : Nat} {w wr w' : World} {S gb n k : Nat} {st : Sto} {H : List (List (List Int))} {v : Value} {nn : Nat} {xs : List Value} (h : Mid3 base w wr S gb n k st H) (hR : Row w.heap.size wr 48 3 v nn xs) (hG : wr.grownBy w' v.ownBlock) : Mid3 base w w' S gb n k st H :=
  ⟨h.store.grown48 hR hG, h.hist, h.vars, h.bs, h.es, h.lev, (hG.block gb h.box.lt (hR.ne h.box (by decide))).trans h.box, h.low.grown hG h.low.size fun g hg => own_ge hR.1 g hg, h.atb⟩

theorem take_flat {vs : List Vr} {j : Nat} {v : Vr} (h : vs[j]? = some v) : (vs.take (j + 1)).flatMap dcells = (vs.take j).flatMap dcells ++ dcells v ∧ (vs.take (j + 1)).length = (vs.take j).length + 1 := by
  obtain ⟨hj, e⟩ := List.getElem?_eq_some_iff.1 h
  rw [List.take_succ_eq_append_getElem hj, e]
  simp

/-- A store in the second half of the law: k levels above the one that is gone back to. -/
structure Two (w wr : World) (base S gb nv : Nat) (st0 : Sto) (B : Option Addr) (cB k : Nat) (st1 : Sto) (H1 : List (List (List Int))) : Prop where
  mid : Mid3 base w wr S gb nv (20 + k * 2) st1 H1
  lev : st1.lev = st0.lev + k
  hist : H1[st0.lev]? = some (st0.vs.map Vr.L)
  less : ∀ (i : Nat) (v1 : Vr), st1.vs[i]? = some v1 → ∃ v, st0.vs[i]? = some v ∧ ∀ u ∈ v1.L, u ∈ v.L
  row : wr.ownsRow w.heap.size 48 3 (.slice B nv cB) nv (st0.vs.flatMap dcells)
  doms : ∀ d ∈ st0.vs, IsDom wr d.dom d.L
  vars : st0.vs.length = nv

theorem Two.below {w wr w' : World} {base S gb nv : Nat} {st0 : Sto} {B : Option Addr} {cB k : Nat} {st1 : Sto} {H1 : List (List (List Int))} (h : Two w wr base S gb nv st0 B cB k st1 H1) (hb : Below wr.heap.size wr w') : Two w w' base S gb nv st0 B cB k st1 H1 :=
  ⟨h.mid.below hb, h.lev, h.hist, h.less, own_below h.row hb, fun d hd => (h.doms d hd).below hb, h.vars⟩

/-- A level more, and a step at it. -/
theorem Two.step {w wr w1 w2 : World} {base S gb nv : Nat} {st0 : Sto} {B : Option Addr} {cB k : Nat} {st1 st2 : Sto} {H1 : List (List (List Int))} {i ch : Int} {M : List Int} (h : Two w wr base S gb nv st0 B cB k st1 H1)
    (hS1 : IsStore base w1 S { st1 with lev := st1.lev + 1 }) (hF1 : Fr base wr w1) (hS2 : IsStore base w2 S st2) (hN : NarS { st1 with lev := st1.lev + 1 } i M ch st2) (hF2 : Fr base w1 w2) : ∃ H2, Two w w2 base S gb nv st0 B cB (k + 1) st2 H2 := by
  have m1 := h.mid.push hS1 hF1
  have m2 := m1.act hS2 hN hF2
  have hF := hF1.trans hF2
  have hl : st1.lev = st0.lev + k := h.lev
  refine ⟨_, m2.more (by omega), by rw [hN.len.2.1]; show st1.lev + 1 = _; omega, ?_, fun j v hv => ?_, own_fr h.row (by decide) hF, fun d hd => (h.doms d hd).fr hF, h.vars⟩
  · rw [List.getElem?_set, if_neg (by show ¬ st1.lev + 1 = st0.lev; omega)]
    have hlt : st0.lev < H1.length := (List.getElem?_eq_some_iff.1 h.hist).1
    rw [List.getElem?_append_left hlt]
    exact h.hist
  · obtain ⟨v1, hv1, hs1⟩ := hN.less j v hv
    obtain ⟨v0, hv0, hs0⟩ := h.less j v1 hv1
    exact ⟨v0, hv0, fun u hu => hs0 u (hs1 u hu)⟩

/-- A domain of the row. -/
theorem Two.at {w wr : World} {base S gb nv : Nat} {st0 : Sto} {B : Option Addr} {cB k : Nat} {st1 : Sto} {H1 : List (List (List Int))} (h : Two w wr base S gb nv st0 B cB k st1 H1) {j : Nat} {d : Vr} (hd : st0.vs[j]? = some d) :
    ∃ g, B = some ⟨g, 0, none⟩ ∧ wr.cell? ⟨g, j * 3, none⟩ = some (.int .i64 d.s) ∧ wr.cell? ⟨g, j * 3 + 1, none⟩ = some (.slice d.A d.n d.c) ∧ wr.cell? ⟨g, j * 3 + 2, none⟩ = some (.int .i64 (d.L.length : Nat)) := by
  have hlt : j < st0.vs.length := (List.getElem?_eq_some_iff.1 hd).1
  have hv := h.vars
  rcases h.row.2 with ⟨e, h0⟩ | ⟨g, cap, cur, e, hb, hg, hn, hm, hs, ht⟩
  · omega
  · have hB : Blk wr g cur 48 := hg
    rw [← hv] at ht
    exact ⟨g, (Value.slice.inj e).1, row_cell d_len hB ht hd 0 (by omega), row_cell d_len hB ht hd 1 (by omega), row_cell d_len hB ht hd 2 (by omega)⟩

theorem row48_at {wr : World} {b nv : Nat} {B : Option Addr} {cB : Nat} {vs : List Vr} (h : wr.ownsRow b 48 3 (.slice B nv cB) nv (vs.flatMap dcells)) (hv : vs.length = nv) {j : Nat} {d : Vr} (hd : vs[j]? = some d) :
    ∃ g, B = some ⟨g, 0, none⟩ ∧ wr.cell? ⟨g, j * 3, none⟩ = some (.int .i64 d.s) ∧ wr.cell? ⟨g, j * 3 + 1, none⟩ = some (.slice d.A d.n d.c) ∧ wr.cell? ⟨g, j * 3 + 2, none⟩ = some (.int .i64 (d.L.length : Nat)) := by
  have hlt : j < vs.length := (List.getElem?_eq_some_iff.1 hd).1
  rcases h.2 with ⟨e, h0⟩ | ⟨g, cap, cur, e, hb, hg, hn, hm, hs, ht⟩
  · omega
  · have hB : Blk wr g cur 48 := hg
    rw [← hv] at ht
    exact ⟨g, (Value.slice.inj e).1, row_cell d_len hB ht hd 0 (by omega), row_cell d_len hB ht hd 1 (by omega), row_cell d_len hB ht hd 2 (by omega)⟩

/-- What a variable has beside a domain. -/
def left2 (v d : Vr) : List Int := v.L.filter fun u => decide (u ∉ d.L)

set_option maxHeartbeats 4000000 in
set_option maxRecDepth 100000 in
theorem back_walk (A O T : Option Addr) (zss : List (List Int)) (n c no co mo nt ct mt : Nat) (w : World) (hT : Tab w) (hn : n = zss.length) (hnc : n ≤ c) (h : ListsIn w A zss)
    (ho : ActsIn w O no) (hoc : no ≤ co) (hmo : min (no : Int) 10 = (mo : Int)) (ht : ActsIn w T nt) (htc : nt ≤ ct) (hmt : min (nt : Int) 10 = (mt : Int)) (hO : no = 0 ∨ ∃ ad, O = some ad) (hTT : nt = 0 ∨ ∃ ad, T = some ad) :
    Calls Tryd.prog 4 #[.slice A n c, .slice O no co, .slice T nt ct] w fun e w' => e = .returned (.bool true) ∧ Below w.heap.size w w' := by
  have HLs := Lib.hid (lists_any A zss n c w hn hnc h)
  have Ho := Lib.hid ho
  have Ht := Lib.hid ht
  have HLn : Hid (((zss.take 6).map smallL).length ≤ 6) := Lib.hid (by simp; omega)
  generalize (zss.take 6).map smallL = LL at *
  have hmo1 : mo ≤ no := by omega
  have hmo2 : mo ≤ 10 := by omega
  have hmt1 : mt ≤ nt := by omega
  have hmt2 : mt ≤ 10 := by omega
  clear h ho ht hn hnc
  go_enter Tryd.func4, Tryd.ntmps4
  go_wp2_with fail
  refine HLs.out.mono ?_
  rintro e w2 ⟨va, vb, ds, rfl, hRa, hds, hRb, hsame, hzero, hb2⟩
  have HB2 := Lib.hid hb2
  have hdl : ds.length = LL.length := by rw [← hsame]; simp
  obtain ⟨Aa, ca, ea, hDA⟩ := (OwnDoms.mk hRa.1 hds).at
  subst ea
  have HNew := Lib.hid (new_store Aa ds ds.length ca w2 rfl hDA hzero (by have := HLn.out; omega))
  have Hz := Lib.hid hzero
  have Hdl : Hid (ds.length ≤ 6) := Lib.hid (by rw [hdl]; exact HLn.out)
  clear hRa hds hRb hsame hzero hb2 hDA HLs hdl
  go_wp2_with fail
  refine HNew.out.mono ?_
  rintro e w3 ⟨S, V, rfl, hS, hb3⟩
  have K3 := below1 w3 (.cells #[ptr S] 27)
  have k3 := HB2.out.trans (hb3.mono HB2.out.size)
  have HM : Hid (Mid3 w2.heap.size w (w3.alloc (.cells #[ptr S] 27)) S w3.heap.size ds.length 0 (newSto V ds) [ds.map Vr.L]) := Lib.hid
    ⟨hS.below K3, Hist.new ds Hz.out, rfl, Nat.le_refl _, Nat.le_refl _, Nat.le_refl _, Blk.new w3 _ 27, k3.trans (K3.mono k3.size), HB2.out.size⟩
  clear hS hb3 HNew K3 k3 HB2 Hz
  obtain ⟨nv, hnv⟩ : ∃ nv, nv = ds.length := ⟨_, rfl⟩
  rw [← hnv] at HM Hdl
  have hnv6 : nv ≤ 6 := Hdl.out
  clear hnv
  go_upto_region 4 with fail
  go_cut [36, 37, 38] (fun a b i wx => a = .slice O mo co ∧ b = .int .i64 (mo : Nat) ∧ i = .int .i64 0 ∧ wx = w3.alloc (.cells #[ptr S] 27))
  case first =>
    cases O
    all_goals
      go_wp2_with fail
      go_meet
      case rel => exact ⟨rfl, rfl, rfl, rfl⟩
  case rest =>
    obtain ⟨rfl, rfl, rfl, rfl⟩ := hcut
    generalize w3.alloc (.cells #[ptr S] 27) = wc at *
    go_wp2_with fail
    go_loopw [38] (fun i wr => ∃ k : Nat, k ≤ mo ∧ i = .int .i64 (k : Nat) ∧ Hid (∃ st H, Mid3 w2.heap.size w wr S w3.heap.size nv (k * 2) st H)) (fun i _ => mo - (intOf i).toNat)
    case atStart => exact ⟨0, Nat.zero_le _, rfl, Lib.hid ⟨_, _, HM.out⟩⟩
    case round =>
      clear HM
      obtain ⟨wo, rfl⟩ : ∃ wo, wo = wr := ⟨_, rfl⟩
      obtain ⟨k, hk, rfl, HH⟩ := hrel
      obtain ⟨st, H, hM⟩ := HH.out
      have HM := Lib.hid hM
      clear hM HH
      by_cases hlt : k < mo
      · obtain ⟨ad, rfl⟩ : ∃ ad, O = some ad := by
          rcases hO with h0 | h0
          · omega
          · exact h0
        obtain ⟨kd, v, N, Z, nz, cz, zs, y0, y1, y2, y3, hA⟩ := Ho.out.at HM.out.low (k := k) (by omega)
        have HA := Lib.hid hA
        have hkd0 := hA.k0
        have hkd1 := hA.k1
        have hki : (k : Int) < (mo : Nat) := by omega
        have K1 := below1 wo (.cells #[.int .u8 kd, .int .i64 v, .int .i64 N, .slice Z nz cz] 36)
        have HM1 := Lib.hid (HM.out.below K1)
        have HX1 := Lib.hid (Blk.new wo #[.int .u8 kd, .int .i64 v, .int .i64 N, .slice Z nz cz] 36)
        have b0 : (wo.alloc (.cells #[.int .u8 kd, .int .i64 v, .int .i64 N, .slice Z nz cz] 36)).cell? ⟨w3.heap.size, 0, none⟩ = some (ptr S) := HM1.out.box.cell 0
        clear hA K1 HM
        rcases hq : (kd % 6 == 3) with _ | _
        · go_wp2_with fail
          refine (act_store HM1.out.store (hT.below HM1.out.low) HM1.out.box kd v N Z nz cz zs (HA.out.below HM1.out.low) (by have := HM1.out.bs; omega) (by have := HM1.out.es; omega)).mono ?_
          rintro e w6 ⟨rfl, ch, st', hS', hN, hF'⟩
          have HM2 := Lib.hid (HM1.out.act hS' hN hF')
          clear hS' hN hF' y0 y1 y2 y3 b0 HM1 HX1
          go_wp2_with fail
          go_roundw
          case rel => exact ⟨k + 1, by omega, by go_num, Lib.hid ⟨_, _, HM2.out.more (by omega)⟩⟩
          case measure => simp [intOf]; omega
        · go_wp2_with fail
          refine (push_store HM1.out.store (by have := HM1.out.lev; omega)).mono ?_
          rintro e w5 ⟨rfl, hS, hF⟩
          have HM2 := Lib.hid (HM1.out.push hS hF)
          have HX2 := Lib.hid (HX1.out.fr (by decide) hF)
          clear hS hF y0 y1 y2 y3 b0 HM1 HX1
          have x0 : w5.cell? ⟨wo.heap.size, 0, none⟩ = some (.int .u8 kd) := HX2.out.cell 0
          have x1 : w5.cell? ⟨wo.heap.size, 1, none⟩ = some (.int .i64 v) := HX2.out.cell 1
          have x2 : w5.cell? ⟨wo.heap.size, 2, none⟩ = some (.int .i64 N) := HX2.out.cell 2
          have x3 : w5.cell? ⟨wo.heap.size, 3, none⟩ = some (.slice Z nz cz) := HX2.out.cell 3
          go_wp2_with fail
          refine (act_store HM2.out.store (hT.below HM2.out.low) HM2.out.box kd v N Z nz cz zs (HA.out.below HM2.out.low) (by have := HM2.out.bs; omega) (by have := HM2.out.es; omega)).mono ?_
          rintro e w6 ⟨rfl, ch, st', hS', hN, hF'⟩
          have HM3 := Lib.hid (HM2.out.act hS' hN hF')
          clear hS' hN hF' x0 x1 x2 x3 HM2 HX2
          go_wp2_with fail
          go_roundw
          case rel => exact ⟨k + 1, by omega, by go_num, Lib.hid ⟨_, _, HM3.out.more (by omega)⟩⟩
          case measure => simp [intOf]; omega
      · have hk20 : k * 2 ≤ 20 := by omega
        have HM20 := Lib.hid (HM.out.more hk20)
        have b0 : wo.cell? ⟨w3.heap.size, 0, none⟩ = some (ptr S) := HM20.out.box.cell 0
        clear HM hk20 Ho
        go_wp2_with fail
        clear hlt hk
        refine (level_store HM20.out.store).mono ?_
        rintro e w' ⟨rfl, rfl⟩
        go_wp2_with fail
        refine (len_store HM20.out.store).mono ?_
        rintro e w' ⟨rfl, rfl⟩
        rw [HM20.out.vars]
        go_wp2_with fail
        go_loopw [14, 56] (fun a i wr => ∃ k : Nat, k ≤ nv ∧ i = .int .i64 (k : Nat) ∧ Hid (Mid3 w2.heap.size w wr S w3.heap.size nv 20 st H ∧ Row w.heap.size wr 48 3 a (st.vs.take k).length ((st.vs.take k).flatMap dcells))) (fun _ i _ => nv - (intOf i).toNat)
        case atStart => exact ⟨0, Nat.zero_le _, rfl, Lib.hid ⟨HM20.out, Row.nil _ _ _ _⟩⟩
        case round =>
          clear HM20 b0
          obtain ⟨wi, rfl⟩ : ∃ wi, wi = wr := ⟨_, rfl⟩
          obtain ⟨j, hj, rfl, HH⟩ := hrel
          by_cases hlt : j < nv
          · obtain ⟨v, hv⟩ : ∃ v, st.vs[j]? = some v := ⟨_, List.getElem?_eq_getElem (by rw [HH.out.1.vars]; exact hlt)⟩
            have HG := Lib.hid (get_store HH.out.1.store j v hv)
            have b0 : wi.cell? ⟨w3.heap.size, 0, none⟩ = some (ptr S) := HH.out.1.box.cell 0
            have hji : (j : Int) < (nv : Nat) := by omega
            have Hjn : Hid (j < nv) := Lib.hid hlt
            have Hst := Lib.hid (take_flat hv)
            have htl : (st.vs.take j).length ≤ 6 := by have := Hdl.out; rw [List.length_take, HH.out.1.vars]; omega
            obtain ⟨i1, hi1, hz0, hz1, hz2⟩ := info_parts info48
            clear hv
            go_wp2_with fail
            refine HG.out.mono ?_
            rintro e w5 ⟨rfl, hb5⟩
            unfold Vr.dom
            have K5 := below1 w5 (.cells #[.int .i64 v.s, .slice v.A v.n v.c, .int .i64 (v.L.length : Nat)] 48)
            have k5 := hb5.trans (K5.mono hb5.size)
            have HM5 := Lib.hid (HH.out.1.below k5)
            have HR5 := Lib.hid (HH.out.2.below k5)
            have C5 := Lib.hid (cells_new w5 (dcells v) 48)
            have Z1 : Hid (∀ u ∈ (Value.agg #[.int .i64 0, .slice none 0 0, .int .i64 0]).cells, plainV u) := Lib.hid (by intro u hu x e; subst e; simp [Value.cells] at hu)
            have Z2 : Hid (∀ u ∈ dcells v, u.oneCell' = true) := Lib.hid (by intro u hu; simp [dcells] at hu; rcases hu with rfl | rfl | rfl <;> rfl)
            have P3 : Hid (∀ u ∈ dcells v, plainV u) := Lib.hid (by intro u hu x e; subst e; simp [dcells] at hu)
            have Z3 : Hid ((st.vs.take j).length + 1 ≤ maxLen) := Lib.hid (by simp only [maxLen]; omega)
            have Z4 : Hid (((st.vs.take j).length + 1) * 40 ≤ 140737488355328) := Lib.hid (by omega)
            have Z5 : Hid (w.heap.size ≤ (w5.alloc (.cells #[.int .i64 v.s, .slice v.A v.n v.c, .int .i64 (v.L.length : Nat)] 48)).heap.size) := Lib.hid HM5.out.low.size
            clear hb5 K5 k5 HH b0 HG htl
            go_wp2_with (at_builtin; refine wpList_append_rowp _ rfl _ _ 24 rfl w.heap.size 48 i1 (.agg #[.int .i64 0, .slice none 0 0, .int .i64 0]) 3 40 Tryd.underlying24 hi1 hz0 hz1 hz2 rfl (by decide) Z1.out _ _ _ rfl HR5.out ⟨w5.heap.size, 0, none⟩ 1 (dcells v) rfl rfl C5.out Z2.out P3.out Z3.out Z4.out Z5.out ?_; intro va' w6 R6 G6; have HM6 := Lib.hid (HM5.out.grown HR5.out G6); have HR6 := Lib.hid R6; clear R6 G6)
            rw [← Hst.out.1, ← Hst.out.2] at HR6
            have hjn' := Hjn.out
            go_roundw
            case rel => exact ⟨j + 1, hjn', by go_num, Lib.hid ⟨HM6.out, HR6.out⟩⟩
            case measure => simp [intOf]; omega
          · have hjn : j = nv := by omega
            have HM7 := Lib.hid HH.out.1
            have HR7 : Hid (Row w.heap.size wi 48 3 u14 st.vs.length (st.vs.flatMap dcells)) := Lib.hid (by
              have := HH.out.2
              rwa [hjn, List.take_of_length_le (by rw [HH.out.1.vars]; exact Nat.le_refl _)] at this)
            obtain ⟨B, cB, rfl⟩ := HR7.out.shape
            rw [HM7.out.vars] at HR7
            clear HH hjn
            rw [HM7.out.vars]
            have HT0 : Hid (Two w wi w2.heap.size S w3.heap.size nv st B cB 0 st H) := Lib.hid ⟨HM7.out, rfl, HM7.out.hist.now, fun i v h => ⟨v, h, fun u hu => hu⟩, HR7.out.1, HM7.out.store.doms, HM7.out.vars⟩
            clear HM7 HR7
            go_upto_region 18 with fail
            clear hlt hj
            go_cut [70, 71, 72] (fun a b i wx => a = .slice T mt ct ∧ b = .int .i64 (mt : Nat) ∧ i = .int .i64 0 ∧ wx = wi)
            case first =>
              cases T
              all_goals
                go_wp2_with fail
                go_meet
                case rel => exact ⟨rfl, rfl, rfl, rfl⟩
            case rest =>
              obtain ⟨rfl, rfl, rfl, rfl⟩ := hcut
              go_wp2_with fail
              go_loopw [72] (fun i wr => ∃ k : Nat, k ≤ mt ∧ i = .int .i64 (k : Nat) ∧ Hid (∃ st1 H1, Two w wr w2.heap.size S w3.heap.size nv st B cB k st1 H1)) (fun i _ => mt - (intOf i).toNat)
              case atStart => exact ⟨0, Nat.zero_le _, rfl, Lib.hid ⟨_, _, HT0.out⟩⟩
              case round =>
                clear HT0
                obtain ⟨wj, rfl⟩ : ∃ wj, wj = wr := ⟨_, rfl⟩
                obtain ⟨k2, hk2, rfl, HH⟩ := hrel
                obtain ⟨st1, H1, hTw⟩ := HH.out
                have HTw := Lib.hid hTw
                clear hTw HH
                by_cases hlt : k2 < mt
                · obtain ⟨ad, rfl⟩ : ∃ ad, T = some ad := by
                    rcases hTT with h0 | h0
                    · omega
                    · exact h0
                  obtain ⟨kd, v, N, Z, nz, cz, zs, y0, y1, y2, y3, hA⟩ := Ht.out.at HTw.out.mid.low (k := k2) (by omega)
                  have HA := Lib.hid hA
                  have hki : (k2 : Int) < (mt : Nat) := by omega
                  have K1 := below1 wj (.cells #[.int .u8 kd, .int .i64 v, .int .i64 N, .slice Z nz cz] 36)
                  have HT1 := Lib.hid (HTw.out.below K1)
                  have HX1 := Lib.hid (Blk.new wj #[.int .u8 kd, .int .i64 v, .int .i64 N, .slice Z nz cz] 36)
                  have b0 : (wj.alloc (.cells #[.int .u8 kd, .int .i64 v, .int .i64 N, .slice Z nz cz] 36)).cell? ⟨w3.heap.size, 0, none⟩ = some (ptr S) := HT1.out.mid.box.cell 0
                  clear hA K1 HTw
                  go_wp2_with fail
                  refine (push_store HT1.out.mid.store (by have := HT1.out.mid.lev; omega)).mono ?_
                  rintro e w5 ⟨rfl, hS1, hF1⟩
                  have HM2 := Lib.hid (HT1.out.mid.push hS1 hF1)
                  have HX2 := Lib.hid (HX1.out.fr (by decide) hF1)
                  have HP1 := Lib.hid (And.intro hS1 hF1)
                  clear hS1 hF1 y0 y1 y2 y3 b0 HX1
                  have x0 : w5.cell? ⟨wj.heap.size, 0, none⟩ = some (.int .u8 kd) := HX2.out.cell 0
                  have x1 : w5.cell? ⟨wj.heap.size, 1, none⟩ = some (.int .i64 v) := HX2.out.cell 1
                  have x2 : w5.cell? ⟨wj.heap.size, 2, none⟩ = some (.int .i64 N) := HX2.out.cell 2
                  have x3 : w5.cell? ⟨wj.heap.size, 3, none⟩ = some (.slice Z nz cz) := HX2.out.cell 3
                  go_wp2_with fail
                  refine (act_store HM2.out.store (hT.below HM2.out.low) HM2.out.box kd v N Z nz cz zs (HA.out.below HM2.out.low) (by have := HM2.out.bs; omega) (by have := HM2.out.es; omega)).mono ?_
                  rintro e w6 ⟨rfl, ch, st2, hS', hN, hF'⟩
                  obtain ⟨H2, hT2⟩ := HT1.out.step HP1.out.1 HP1.out.2 hS' hN hF'
                  have HT2 := Lib.hid hT2
                  clear hS' hN hF' x0 x1 x2 x3 HM2 HX2 HP1 hT2 HT1
                  go_wp2_with fail
                  go_loopw [83] (fun i wr => ∃ k : Nat, k ≤ nv ∧ i = .int .i64 (k : Nat) ∧ Hid (Two w wr w2.heap.size S w3.heap.size nv st B cB (k2 + 1) st2 H2)) (fun i _ => nv - (intOf i).toNat)
                  case atStart => exact ⟨0, Nat.zero_le _, rfl, HT2⟩
                  case round =>
                    clear HT2
                    obtain ⟨wk, rfl⟩ : ∃ wk, wk = wr := ⟨_, rfl⟩
                    obtain ⟨j2, hj2, rfl, HT2⟩ := hrel
                    by_cases hlt2 : j2 < nv
                    · obtain ⟨d, hd⟩ : ∃ d, st.vs[j2]? = some d := ⟨_, List.getElem?_eq_getElem (by rw [HT2.out.vars]; exact hlt2)⟩
                      obtain ⟨v2, hv2⟩ : ∃ v2, st2.vs[j2]? = some v2 := ⟨_, List.getElem?_eq_getElem (by rw [HT2.out.mid.vars]; exact hlt2)⟩
                      obtain ⟨g, eB, y0, y1, y2⟩ := HT2.out.at hd
                      subst eB
                      have K1 := below1 wk (.cells #[.int .i64 d.s, .slice d.A d.n d.c, .int .i64 (d.L.length : Nat)] 48)
                      have HT3 := Lib.hid (HT2.out.below K1)
                      have HX3 := Lib.hid (Blk.new wk #[.int .i64 d.s, .slice d.A d.n d.c, .int .i64 (d.L.length : Nat)] 48)
                      have Hsub : Hid (left2 v2 d = []) := Lib.hid (by
                        obtain ⟨v0, h0, hs⟩ := HT2.out.less j2 v2 hv2
                        rw [hd] at h0
                        cases h0
                        unfold left2
                        rw [List.filter_eq_nil_iff]
                        intro u hu
                        simpa using hs u hu)
                      have hji2 : (j2 : Int) < (nv : Nat) := by omega
                      clear HT2 K1
                      go_upto_region 26 with fail
                      clear y0 y1 y2
                      have HG := Lib.hid fun (W : World) (hW : Below (wk.alloc (.cells #[.int .i64 d.s, .slice d.A d.n d.c, .int .i64 (d.L.length : Nat)] 48)).heap.size (wk.alloc (.cells #[.int .i64 d.s, .slice d.A d.n d.c, .int .i64 (d.L.length : Nat)] 48)) W) => get_store (HT3.out.mid.store.below hW) j2 v2 hv2
                      have HMi := Lib.hid fun (W : World) (hW : Below (wk.alloc (.cells #[.int .i64 d.s, .slice d.A d.n d.c, .int .i64 (d.L.length : Nat)] 48)).heap.size (wk.alloc (.cells #[.int .i64 d.s, .slice d.A d.n d.c, .int .i64 (d.L.length : Nat)] 48)) W) => minus_parts v2.L d.L [] (chg v2.L []) Hsub.out rfl v2.dom d.dom W ((HT3.out.mid.store.doms v2 (List.mem_of_getElem? hv2)).below hW) ((HT3.out.doms d (List.mem_of_getElem? hd)).below hW) (hT.below (HT3.out.mid.low.trans (hW.mono HT3.out.mid.low.size)))
                      unfold Vr.dom at HG HMi
                      have Hv2 := Lib.hid hv2
                      have hgx : wk.heap.size < (wk.alloc (.cells #[.int .i64 d.s, .slice d.A d.n d.c, .int .i64 (d.L.length : Nat)] 48)).heap.size := HX3.out.lt
                      have hgb : w3.heap.size < (wk.alloc (.cells #[.int .i64 d.s, .slice d.A d.n d.c, .int .i64 (d.L.length : Nat)] 48)).heap.size := HT3.out.mid.box.lt
                      generalize wk.alloc (.cells #[.int .i64 d.s, .slice d.A d.n d.c, .int .i64 (d.L.length : Nat)] 48) = W3 at *
                      have b0 : W3.cell? ⟨w3.heap.size, 0, none⟩ = some (ptr S) := HT3.out.mid.box.cell 0
                      have x0 : W3.cell? ⟨wk.heap.size, 0, none⟩ = some (.int .i64 d.s) := HX3.out.cell 0
                      have x1 : W3.cell? ⟨wk.heap.size, 1, none⟩ = some (.slice d.A d.n d.c) := HX3.out.cell 1
                      have x2 : W3.cell? ⟨wk.heap.size, 2, none⟩ = some (.int .i64 (d.L.length : Nat)) := HX3.out.cell 2
                      have HCl := Lib.hid fun (W : World) (hW : Below W3.heap.size W3 W) => And.intro ((hW.cell (p := ⟨w3.heap.size, 0, none⟩) hgb).trans b0) (And.intro ((hW.cell (p := ⟨wk.heap.size, 0, none⟩) hgx).trans x0) (And.intro ((hW.cell (p := ⟨wk.heap.size, 1, none⟩) hgx).trans x1) ((hW.cell (p := ⟨wk.heap.size, 2, none⟩) hgx).trans x2)))
                      obtain ⟨b1, x3, x4, x5⟩ := HCl.out (W3.alloc (.cells #[.int .i64 0, .slice none 0 0, .int .i64 0] 48)) (below1 _ _)
                      clear hgx hgb hd hv2
                      go_cut [20, 21] (fun _ b wx => b = .int .i64 (chg v2.L []) ∧ Hid (Below W3.heap.size W3 wx))
                      case first =>
                        go_region_with (first
                          | (go_at_call 23; refine (HG.out _ ?hg).mono ?_; (case hg => first | exact (Below.refl _ _).drew | exact (below1 _ _).drew); rintro e w7 ⟨rfl, hb7⟩; have hbG : Below W3.heap.size W3 w7 := (by first | exact (Below.refl _ _).drew.trans hb7 | exact (below1 W3 _).drew.trans (hb7.mono (below1 W3 _).size)); obtain ⟨c0, c1, c2, c3⟩ := HCl.out w7 hbG; obtain ⟨c4, c5, c6, c7⟩ := HCl.out (w7.alloc (.cells #[.int .i64 0, .slice none 0 0, .int .i64 0] 48)) (hbG.trans ((below1 _ _).mono hbG.size)); (try (have z7 : Blk w7 W3.heap.size #[.int .i64 0, .slice none 0 0, .int .i64 0] 48 := Blk.below (w := (W3.alloc (.cells #[.int .i64 0, .slice none 0 0, .int .i64 0] 48)).drew) (Blk.new W3 _ 48) hb7)); clear hb7)
                          | (go_at_call 27; refine (HMi.out _ ?hm).mono ?_; (case hm => first | exact hbG | exact hbG.trans ((below1 _ _).mono hbG.size)); rintro e w8 ⟨s8, A8, n8, c8, rfl, hd8, hb8⟩; have HbM : Hid (Below W3.heap.size W3 w8) := (by first | exact Lib.hid (hbG.trans (hb8.mono hbG.size)) | exact Lib.hid ((hbG.trans ((below1 _ _).mono hbG.size)).trans (hb8.mono (Nat.le_trans hbG.size (below1 _ _).size)))); (first | (have z8 : Blk w8 W3.heap.size #[.int .i64 0, .slice none 0 0, .int .i64 0] 48 := z7.below hb8; have zf0 := z8.free 0; have zf1 := z8.free 1; have zf2 := z8.free 2; have zc0 : w8.cell? ⟨_, 0, none⟩ = some (.int .i64 0) := z8.cell 0; have zc1 : w8.cell? ⟨_, 1, none⟩ = some (.slice none 0 0) := z8.cell 1; have zc2 : w8.cell? ⟨_, 2, none⟩ = some (.int .i64 0) := z8.cell 2) | (have z8 : Blk w8 w7.heap.size #[.int .i64 0, .slice none 0 0, .int .i64 0] 48 := Blk.below (w := w7.alloc (.cells #[.int .i64 0, .slice none 0 0, .int .i64 0] 48)) (Blk.new w7 _ 48) hb8; have zf0 := z8.free 0; have zf1 := z8.free 1; have zf2 := z8.free 2; have zc0 : w8.cell? ⟨_, 0, none⟩ = some (.int .i64 0) := z8.cell 0; have zc1 : w8.cell? ⟨_, 1, none⟩ = some (.slice none 0 0) := z8.cell 1; have zc2 : w8.cell? ⟨_, 2, none⟩ = some (.int .i64 0) := z8.cell 2) | skip)))
                        all_goals
                          go_wp2_with fail
                          go_meet
                          case rel =>
                            refine ⟨rfl, Lib.hid ?_⟩
                            first
                              | exact out_below HbM.out _ (Nat.le_refl _) _ _ _
                              | exact out_below HbM.out _ hbG.size _ _ _
                              | exact HbM.out.trans ((below1 _ _).mono HbM.out.size)
                      case rest =>
                        obtain ⟨rfl, HBc⟩ := hcut
                        have HT4 := Lib.hid (HT3.out.below HBc.out)
                        have HG4 := Lib.hid (HG.out wc HBc.out)
                        have b2 : wc.cell? ⟨w3.heap.size, 0, none⟩ = some (ptr S) := HT4.out.mid.box.cell 0
                        clear b0 b1 x0 x1 x2 x3 x4 x5 HCl HMi HG HT3 HX3 HBc
                        by_cases hz : v2.L.length = 0
                        · have hc : chg v2.L [] = 0 := by unfold chg; rw [if_pos (by rw [hz]; rfl)]
                          rw [hc]
                          have hzi : ((v2.L.length : Nat) : Int) = 0 := by omega
                          rw [hzi] at HG4
                          clear hc hz hzi
                          go_wp2_with fail
                          refine HG4.out.mono ?_
                          rintro e w9 ⟨rfl, hb9⟩
                          have HT5 := Lib.hid (HT4.out.below hb9)
                          clear hb9 HG4 HT4 b2
                          go_wp2_with fail
                          refine (size_any _ _ _ _ _ _).mono ?_
                          rintro e w10 ⟨rfl, hb10⟩
                          have HT6 := Lib.hid (HT5.out.below hb10)
                          clear hb10 HT5
                          go_wp2_with fail
                          go_roundw
                          case rel => exact ⟨j2 + 1, by omega, by go_num, HT6⟩
                          case measure => simp [intOf]; omega
                        · have hc : chg v2.L [] = 4 := by unfold chg; rw [if_neg (by simp only [List.length_nil]; omega), if_pos (show ([] : List Int).length = 0 from rfl)]
                          rw [hc]
                          clear hc hz HG4 b2
                          go_wp2_with fail
                          go_roundw
                          case rel => exact ⟨j2 + 1, by omega, by go_num, HT4⟩
                          case measure => simp [intOf]; omega
                    · go_wp2_with fail
                      go_roundw
                      case rel => exact ⟨k2 + 1, by omega, by go_num, Lib.hid ⟨_, _, HT2.out⟩⟩
                      case measure => simp [intOf]; omega
                · have hk2m : k2 = mt := by omega
                  have b0 : wj.cell? ⟨w3.heap.size, 0, none⟩ = some (ptr S) := HTw.out.mid.box.cell 0
                  have hlev : (((st1.lev : Nat) : Int) != ((st.lev : Nat) : Int) + (mt : Nat)) = false := by
                    have := HTw.out.lev
                    simp
                    omega
                  have hlb : st1.lev ≤ 40 := by have := HTw.out.mid.lev; omega
                  have hlb2 : st.lev ≤ 40 := by have := HTw.out.lev; omega
                  have hlle : st.lev ≤ st1.lev := by have := HTw.out.lev; omega
                  clear hk2m
                  go_wp2_with fail
                  refine (level_store HTw.out.mid.store).mono ?_
                  rintro e w' ⟨rfl, rfl⟩
                  go_wp2_with fail
                  refine (back_store HTw.out.mid.store st.lev hlle (by have := HTw.out.mid.bs; omega)).mono ?_
                  rintro e w7 ⟨rfl, st9, hS9, ⟨hu9, hl9, he9⟩, hF9, -⟩
                  have HS9 := Lib.hid hS9
                  have HV9 : Hid (st9.vs.map Vr.L = st.vs.map Vr.L) := Lib.hid (by
                    have h1 := (HTw.out.mid.hist.back st.lev hlle hu9).now
                    rw [List.getElem?_take_of_lt (by omega), HTw.out.hist] at h1
                    exact (Option.some.inj h1).symm)
                  have HL9 : Hid (st9.lev = st.lev ∧ st9.es = []) := Lib.hid ⟨hl9, he9⟩
                  have HB9 := Lib.hid (HTw.out.mid.box.fr (by decide) hF9)
                  have HW9 := Lib.hid (HTw.out.mid.low.trans (hF9.below.mono HTw.out.mid.atb))
                  have HR9 := Lib.hid (own_fr HTw.out.row (by decide) hF9)
                  have HD9 := Lib.hid fun d (hd : d ∈ st.vs) => (HTw.out.doms d hd).fr hF9
                  have Hat := Lib.hid HTw.out.mid.atb
                  have Hvn := Lib.hid HTw.out.vars
                  clear hS9 hu9 hl9 he9 hF9 b0 HTw hlev
                  have b1 : w7.cell? ⟨w3.heap.size, 0, none⟩ = some (ptr S) := HB9.out.cell 0
                  go_wp2_with fail
                  refine (events_store HS9.out).mono ?_
                  rintro e w8 ⟨rfl, hS10, hF10⟩
                  obtain ⟨XE, cE, hE⟩ := HS9.out.events.shape
                  rw [HL9.out.2] at hE
                  rw [hE]
                  have HS10 := Lib.hid hS10
                  have HB10 := Lib.hid (HB9.out.fr (by decide) hF10)
                  have HW10 := Lib.hid (HW9.out.trans (hF10.below.mono Hat.out))
                  have HR10 := Lib.hid (own_fr HR9.out (by decide) hF10)
                  have HD10 := Lib.hid fun d (hd : d ∈ st.vs) => (HD9.out d hd).fr hF10
                  clear hS10 hF10 hE HS9 HB9 HW9 HR9 HD9 b1
                  go_wp2_with fail
                  go_loopw [129] (fun i wr => ∃ k : Nat, k ≤ nv ∧ i = .int .i64 (k : Nat) ∧ Hid (Below w8.heap.size w8 wr)) (fun i _ => nv - (intOf i).toNat)
                  case atStart => exact ⟨0, Nat.zero_le _, rfl, Lib.hid (Below.refl _ _)⟩
                  case round =>
                    obtain ⟨wk, rfl⟩ : ∃ wk, wk = wr := ⟨_, rfl⟩
                    obtain ⟨j5, hj5, rfl, HB5⟩ := hrel
                    by_cases hlt5 : j5 < nv
                    · obtain ⟨d, hd⟩ : ∃ d, st.vs[j5]? = some d := ⟨_, List.getElem?_eq_getElem (by rw [Hvn.out]; exact hlt5)⟩
                      obtain ⟨v9, hv9, hvd⟩ : ∃ v9, st9.vs[j5]? = some v9 ∧ v9.L = d.L := by
                        have h1 := congrArg (fun l => l[j5]?) HV9.out
                        simp only [List.getElem?_map, hd, Option.map_some] at h1
                        obtain ⟨v9, hv, e⟩ := Option.map_eq_some_iff.1 h1
                        exact ⟨v9, hv, e⟩
                      obtain ⟨g, eB, y0, y1, y2⟩ := row48_at (own_below HR10.out HB5.out) Hvn.out hd
                      subst eB
                      have K1 := below1 wk (.cells #[.int .i64 d.s, .slice d.A d.n d.c, .int .i64 (d.L.length : Nat)] 48)
                      have k1 := HB5.out.trans (K1.mono HB5.out.size)
                      have HK1 := Lib.hid k1
                      have x0 : (wk.alloc (.cells #[.int .i64 d.s, .slice d.A d.n d.c, .int .i64 (d.L.length : Nat)] 48)).cell? ⟨wk.heap.size, 0, none⟩ = some (.int .i64 d.s) := (Blk.new wk _ 48).cell 0
                      have x1 : (wk.alloc (.cells #[.int .i64 d.s, .slice d.A d.n d.c, .int .i64 (d.L.length : Nat)] 48)).cell? ⟨wk.heap.size, 1, none⟩ = some (.slice d.A d.n d.c) := (Blk.new wk _ 48).cell 1
                      have x2 : (wk.alloc (.cells #[.int .i64 d.s, .slice d.A d.n d.c, .int .i64 (d.L.length : Nat)] 48)).cell? ⟨wk.heap.size, 2, none⟩ = some (.int .i64 (d.L.length : Nat)) := (Blk.new wk _ 48).cell 2
                      have b5 : (wk.alloc (.cells #[.int .i64 d.s, .slice d.A d.n d.c, .int .i64 (d.L.length : Nat)] 48)).cell? ⟨w3.heap.size, 0, none⟩ = some (ptr S) := (HB10.out.below k1).cell 0
                      have HG5 := Lib.hid fun (W : World) (hW : Below w8.heap.size w8 W) => get_store (HS10.out.below hW) j5 v9 hv9
                      have HE5 := Lib.hid fun (W : World) (hW : Below w8.heap.size w8 W) => equal_parts v9.L d.L v9.dom d.dom true W ((HS10.out.doms v9 (List.mem_of_getElem? hv9)).below hW) ((HD10.out d (List.mem_of_getElem? hd)).below hW) (by simpa using hvd)
                      unfold Vr.dom at HG5 HE5
                      have hji5 : (j5 : Int) < (nv : Nat) := by omega
                      clear K1 k1 hvd hd hv9
                      go_upto_region 36 with fail
                      clear y0 y1 y2
                      generalize wk.alloc (.cells #[.int .i64 d.s, .slice d.A d.n d.c, .int .i64 (d.L.length : Nat)] 48) = W5 at *
                      have C1 : Hid (∀ q os, Calls Tryd.prog 23 #[ptr S, .int .i64 (j5 : Nat)] (grow (redrawn W5 q) os) fun e w'' => e = .returned (.agg #[.int .i64 v9.s, .slice v9.A v9.n v9.c, .int .i64 (v9.L.length : Nat)]) ∧ ∃ p : Regrown, w'' = grow (redrawn W5 p.d) p.os) := Lib.hid fun q os => Calls.regrown_of (HG5.out _ (HK1.out.trans ((below_regrown W5 q os).mono HK1.out.size)))
                      have C2 : Hid (∀ q os, Calls Tryd.prog 28 #[.agg #[.int .i64 v9.s, .slice v9.A v9.n v9.c, .int .i64 (v9.L.length : Nat)], .agg #[.int .i64 d.s, .slice d.A d.n d.c, .int .i64 (d.L.length : Nat)]] (grow (redrawn W5 q) os) fun e w'' => e = .returned (.bool true) ∧ ∃ p : Regrown, w'' = grow (redrawn W5 p.d) p.os) := Lib.hid fun q os => Calls.regrown_of (HE5.out _ (HK1.out.trans ((below_regrown W5 q os).mono HK1.out.size)))
                      have X0 := cell_regrown x0
                      have X1 := cell_regrown x1
                      have X2 := cell_regrown x2
                      have B5 := cell_regrown b5
                      clear x0 x1 x2 b5 HG5 HE5
                      refine wp_region_quiet_below (by kernel_rfl) (by kernel_rfl) ?_
                      repeat (first | go_big_quiet_step ((first | (go_at_call 23; exact C1.out _ _) | (go_at_call 28; exact C2.out _ _))) | quiet_step ((first | (go_at_call 23; exact C1.out _ _) | (go_at_call 28; exact C2.out _ _))))
                      refine wpQuiet_nil ?_
                      intro _ hw'
                      obtain ⟨⟨dq, osq⟩, hw''⟩ := hw'
                      subst hw''
                      have HBq := Lib.hid (HK1.out.trans ((below_regrown W5 dq osq).mono HK1.out.size))
                      generalize grow (redrawn W5 dq) osq = W6 at *
                      clear X0 X1 X2 B5
                      go_wp2_with fail
                      go_roundw
                      case rel => exact ⟨j5 + 1, by omega, by go_num, HBq⟩
                      case measure => simp [intOf]; omega
                    · have HW11 := Lib.hid (HW10.out.trans (HB5.out.mono HW10.out.size))
                      have HS11 := Lib.hid (HS10.out.below HB5.out)
                      have HB11 := Lib.hid (HB10.out.below HB5.out)
                      clear HS10 HB10 HW10 HR10 HD10 HB5
                      go_wp2_with fail
                      refine (wakes3 _ (hT.below HW11.out)).mono ?_
                      rintro e w9 ⟨rfl, hb9⟩
                      have HW12 := Lib.hid (HW11.out.trans (hb9.mono HW11.out.size))
                      have HS12 := Lib.hid (HS11.out.below hb9)
                      have b9 : w9.cell? ⟨w3.heap.size, 0, none⟩ = some (ptr S) := (HB11.out.below hb9).cell 0
                      clear hb9 HW11 HS11 HB11
                      go_wp2_with fail
                      refine (level_store HS12.out).mono ?_
                      rintro e w' ⟨rfl, rfl⟩
                      have hl9 : ((st9.lev : Nat) : Int) = (st.lev : Nat) := by rw [HL9.out.1]
                      rw [hl9]
                      have hll : (((st.lev : Nat) : Int) == ((st.lev : Nat) : Int)) = true := by simp
                      clear hl9
                      go_wp2_with fail
                      go_ret
                      exact ⟨rfl, HW12.out⟩
end Go.Proofs.YtegiaonlneamfaaDoor

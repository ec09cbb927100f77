/- What the law's wakes tells: true. -/
import Derived.Test.YtegiaonlneamfaaDoorNew
import Derived.Test.YtegiaonlneamfaaDoorNarrowN
import Derived.Test.YtegiaonlneamfaaDoorSetsWalk
namespace Go.Proofs.YtegiaonlneamfaaDoor
open Go.RowKit

theorem events_k77 {base S : Nat} {w : World} {st : Sto} (h : IsStore base w S st) : Calls Tryd.prog 14 #[ptr S] w fun e w' => e = .returned st.ev ∧ IsStore base w' S { st with ev := .slice none 0 0, es := [] } ∧ Fr base w w' ∧ K77 w w' := by
  obtain ⟨-, -, -, c3⟩ := h.cells
  have f3 := h.head.free 3
  have H := Lib.hid h.quiet
  have HK := Lib.hid (K77.set h.head (by decide) 3 (.slice none 0 0))
  clear h
  go_enter Tryd.func14, Tryd.ntmps14
  go_wp2
  go_ret
  exact ⟨rfl, H.out.1, H.out.2, HK.out⟩

theorem w_of : ofL [1, 2, 3] = [1, 2, 3] := by decide +kernel
theorem w_of2 : ofL [2] = [2] := by decide +kernel
theorem w_and : ([1, 2, 3] : List Int).filter (fun u => decide (u ∈ ([2] : List Int))) = [2] := by decide +kernel
theorem w_chg : chg [1, 2, 3] [2] = 3 := by decide +kernel

theorem ints123 (w : World) : Lies (w.alloc (.cells #[.int .i64 1, .int .i64 2, .int .i64 3] 3)) (some ⟨w.heap.size, 0, none⟩) 3 (i64f [1, 2, 3]) := by
  intro _
  refine ⟨_, rfl, by simp, fun j hj => ?_⟩
  match j, hj with
  | 0, _ => simp [Addr.add, i64f]
  | 1, _ => simp [Addr.add, i64f]
  | 2, _ => simp [Addr.add, i64f]

theorem of_lit (A : Option Addr) (zs R : List Int) (n c : Nat) (w : World) (hn : n = zs.length) (hR : ofL zs = R) (h : Lies w A n (i64f zs)) (hb : n ≤ 1000000) : Calls Tryd.prog 16 #[.slice A n c] w (GivesParts w R (ofErr zs)) := by
  subst hR
  subst hn
  exact (of_dom A zs c w h hb).mono fun _ _ => GivesDom.parts

theorem doms_one (w : World) (v : Vr) (h : IsDom w v.dom v.L) : DomsAt (w.alloc (.cells #[.int .i64 v.s, .slice v.A v.n v.c, .int .i64 (v.L.length : Nat)] 48)) (some ⟨w.heap.size, 0, none⟩) [v] := by
  refine ⟨fun _ => ⟨w.heap.size, rfl, by simp, fun k u hu => ?_⟩, fun u hu => ?_⟩
  · match k, hu with
    | 0, hu =>
      cases hu
      exact ⟨(Blk.new w _ 48).cell 0, (Blk.new w _ 48).cell 1, (Blk.new w _ 48).cell 2⟩
    | k + 1, hu => simp at hu
  · rw [List.mem_singleton.1 hu]
    exact h.below (below1 _ _)

set_option maxHeartbeats 4000000 in
set_option maxRecDepth 100000 in
theorem wakes3 (w : World) (hT : Tab w) : Calls Tryd.prog 22 #[] w fun e w' => e = .returned (.bool true) ∧ Below w.heap.size w w' := by
  obtain ⟨L1, hL1⟩ : ∃ L, ofL [1, 2, 3] = L := ⟨_, rfl⟩
  obtain ⟨L2, hL2⟩ : ∃ L, ofL [2] = L := ⟨_, rfl⟩
  have HO1 := Lib.hid fun (W : World) (h : Lies W (some ⟨w.heap.size, 0, none⟩) 3 (i64f [1, 2, 3])) => of_lit (some ⟨w.heap.size, 0, none⟩) [1, 2, 3] L1 3 3 W rfl hL1 h (by omega)
  have HO2 := Lib.hid fun (A : Option Addr) (W : World) (h : Lies W A 1 (i64f [2])) => of_lit A [2] L2 1 1 W rfl hL2 h (by omega)
  have hl3 : (((L1.length : Nat) : Int) == 3) = true := by rw [← hL1, w_of]; rfl
  have HP : Hid (L1.filter (fun u => decide (u ∈ L2)) = L2) := Lib.hid (by rw [← hL1, ← hL2, w_of, w_of2]; exact w_and)
  have HC : Hid (chg L1 L2 = 3) := Lib.hid (by rw [← hL1, ← hL2, w_of, w_of2]; exact w_chg)
  have HL1 : Hid (L1.length = 3) := Lib.hid (by rw [← hL1, w_of]; rfl)
  have HL2 : Hid (L2.length = 1 ∧ L2.head?.getD 0 = 2) := Lib.hid (by rw [← hL2, w_of2]; exact ⟨rfl, rfl⟩)
  clear hL1 hL2
  go_enter Tryd.func22, Tryd.ntmps22
  go_wp2_with fail
  refine (HO1.out _ (ints123 w)).mono ?_
  rintro e w1 ⟨s1, A1, n1, c1, rfl, hd1, hb1⟩
  have K0 := below1 w (.cells #[.int .i64 1, .int .i64 2, .int .i64 3] 3)
  have k1 := K0.trans (hb1.mono K0.size)
  have K1 := below1 w1 (.cells #[.int .i64 s1, .slice A1 n1 c1, .int .i64 (L1.length : Nat)] 48)
  have HB1 := Lib.hid (Blk.new w1 #[.int .i64 s1, .slice A1 n1 c1, .int .i64 (L1.length : Nat)] 48)
  have HD1 := Lib.hid (hd1.below K1)
  have HK1 := Lib.hid (k1.trans (K1.mono k1.size))
  have HI : Hid (∀ W : World, W = w1.alloc (.cells #[.int .i64 s1, .slice A1 n1 c1, .int .i64 (L1.length : Nat)] 48) → W.heap.size = w1.heap.size + 1) := Lib.hid (by rintro W rfl; simp)
  clear K0 k1 K1 hd1 hb1
  go_wp2_with fail
  obtain ⟨W1, hX⟩ : ∃ W, W = w1.alloc (.cells #[.int .i64 s1, .slice A1 n1 c1, .int .i64 (L1.length : Nat)] 48) := ⟨_, rfl⟩
  have hsz := HI.out W1 hX
  rw [← hX] at HB1 HD1 HK1 ⊢
  have HJ := Lib.hid (ints1 W1 2)
  rw [hsz] at HJ
  refine (HO2.out _ _ HJ.out).mono ?_
  rintro e w2 ⟨s2, A2, n2, c2, rfl, hd2, hb2⟩
  have K0 := below1 W1 (.cells #[.int .i64 2] 3)
  have k1 := K0.trans (hb2.mono K0.size)
  have K1 := below1 w2 (.cells #[.int .i64 s2, .slice A2 n2 c2, .int .i64 (L2.length : Nat)] 48)
  have k2 := k1.trans (K1.mono k1.size)
  have HB2 := Lib.hid (Blk.new w2 #[.int .i64 s2, .slice A2 n2 c2, .int .i64 (L2.length : Nat)] 48)
  have HD2 := Lib.hid (hd2.below K1)
  have HB1 := Lib.hid (HB1.out.below k2)
  have HD1 := Lib.hid (HD1.out.below k2)
  have HK2 := Lib.hid (HK1.out.trans (k2.mono HK1.out.size))
  have hsz2 : (w2.alloc (.cells #[.int .i64 s2, .slice A2 n2 c2, .int .i64 (L2.length : Nat)] 48)).heap.size = w2.heap.size + 1 := by simp
  have HV := Lib.hid (doms_one (w2.alloc (.cells #[.int .i64 s2, .slice A2 n2 c2, .int .i64 (L2.length : Nat)] 48)) ⟨s1, A1, n1, c1, L1, 0⟩ HD1.out)
  rw [hsz2] at HV
  have HN := Lib.hid (new_store _ [⟨s1, A1, n1, c1, L1, 0⟩] 1 1 _ rfl HV.out (by intro v hv; rw [List.mem_singleton.1 hv]) (by omega))
  have K3 := below1 (w2.alloc (.cells #[.int .i64 s2, .slice A2 n2 c2, .int .i64 (L2.length : Nat)] 48)) (.cells #[.int .i64 s1, .slice A1 n1 c1, .int .i64 (L1.length : Nat)] 48)
  have HK3 := Lib.hid (HK2.out.trans (K3.mono HK2.out.size))
  have HB3 := Lib.hid (HB2.out.below K3)
  have HD3 := Lib.hid (HD2.out.below K3)
  have q0 : (w2.alloc (.cells #[.int .i64 s2, .slice A2 n2 c2, .int .i64 (L2.length : Nat)] 48)).cell? ⟨w1.heap.size, 0, none⟩ = some (.int .i64 s1) := HB1.out.cell 0
  have q1 : (w2.alloc (.cells #[.int .i64 s2, .slice A2 n2 c2, .int .i64 (L2.length : Nat)] 48)).cell? ⟨w1.heap.size, 1, none⟩ = some (.slice A1 n1 c1) := HB1.out.cell 1
  have q2 : (w2.alloc (.cells #[.int .i64 s2, .slice A2 n2 c2, .int .i64 (L2.length : Nat)] 48)).cell? ⟨w1.heap.size, 2, none⟩ = some (.int .i64 (L1.length : Nat)) := HB1.out.cell 2
  clear K0 k1 K1 k2 hd2 hb2 HB1 HD1 HD2 HB2 HK1 HK2 HJ HI HV K3 hX hsz hsz2
  go_wp2_with fail
  refine HN.out.mono ?_
  rintro e w3 ⟨S, V, rfl, hS, hb3⟩
  clear q0 q1 q2
  have HS4 := Lib.hid hS
  have HK4 := Lib.hid (HK3.out.trans (hb3.mono HK3.out.size))
  have HB4 := Lib.hid (HB3.out.below hb3)
  have HD4 := Lib.hid (HD3.out.below hb3)
  have hbase : w.heap.size ≤ ((w2.alloc (.cells #[.int .i64 s2, .slice A2 n2 c2, .int .i64 (L2.length : Nat)] 48)).alloc (.cells #[.int .i64 s1, .slice A1 n1 c1, .int .i64 (L1.length : Nat)] 48)).heap.size := HK3.out.size
  clear hS hb3 HK3 HB3 HD3 HN
  generalize ((w2.alloc (.cells #[.int .i64 s2, .slice A2 n2 c2, .int .i64 (L2.length : Nat)] 48)).alloc (.cells #[.int .i64 s1, .slice A1 n1 c1, .int .i64 (L1.length : Nat)] 48)).heap.size = base at *
  go_wp2_with fail
  refine (push_store HS4.out (Nat.zero_le _)).mono ?_
  rintro e w4 ⟨rfl, hS, hF⟩
  have HS5 := Lib.hid hS
  have HK5 := Lib.hid (HK4.out.trans (hF.below.mono hbase))
  have HB5 := Lib.hid (HB4.out.fr (by decide) hF)
  have HD5 := Lib.hid (HD4.out.fr hF)
  clear hS hF HS4 HK4 HB4 HD4
  have q0 : w4.cell? ⟨w2.heap.size, 0, none⟩ = some (.int .i64 s2) := HB5.out.cell 0
  have q1 : w4.cell? ⟨w2.heap.size, 1, none⟩ = some (.slice A2 n2 c2) := HB5.out.cell 1
  have q2 : w4.cell? ⟨w2.heap.size, 2, none⟩ = some (.int .i64 (L2.length : Nat)) := HB5.out.cell 2
  go_wp2_with fail
  refine (narrow_new HS5.out (hT.below HK5.out) 0 ⟨s1, A1, n1, c1, L1, 0⟩ rfl s2 A2 n2 c2 L2 L2 3 HD5.out HP.out HC.out rfl (Nat.zero_lt_one) (Nat.zero_le _) (Nat.zero_le _)).mono ?_
  rintro e w5 ⟨rfl, st6, hS, hN, hF⟩
  clear q0 q1 q2 HB5 HD5
  obtain ⟨v', hv1, hv2, hv3, hv4, hv5, hv6⟩ := hN
  have HS6 := Lib.hid hS
  have HK6 := Lib.hid (HK5.out.trans (hF.below.mono hbase))
  have HV : Hid (st6.vs = [v'] ∧ v'.L = L2 ∧ v'.since = 1 ∧ st6.bs = [⟨0, ⟨s1, A1, n1, c1, L1, 0⟩⟩] ∧ st6.lev = 1 ∧ st6.es = [(0, 3)]) := Lib.hid ⟨hv3, hv1, hv2, hv4, hv5, by rw [hv6]; show [] ++ [(((0 : Nat) : Int), chg L1 L2)] = _; rw [HC.out]; rfl⟩
  clear hS hF hv1 hv2 hv3 hv4 hv5 hv6 HS5 HK5
  go_wp2_with fail
  refine (fixed_store HS6.out (hT.below HK6.out) 0 v' (by rw [HV.out.1]; rfl) 2 true (by rw [HV.out.2.1, HL2.out.1]; rfl) (by rw [HV.out.2.1, if_pos HL2.out.1]; exact HL2.out.2)).mono ?_
  rintro e w6 ⟨rfl, hb⟩
  have HS7 := Lib.hid (HS6.out.below hb)
  have HK7 := Lib.hid (HK6.out.trans (hb.mono HK6.out.size))
  clear hb HS6 HK6
  go_wp2_with fail
  refine (events_k77 HS7.out).mono ?_
  rintro e w7 ⟨rfl, hS, hF, hE⟩
  have HR := Lib.hid HS7.out.events
  obtain ⟨g, cap, cur, hev, hgb, hB, hn1, -, -, ht, -⟩ := HR.out.blk (by rw [HV.out.2.2.2.2.2]; exact Nat.zero_lt_one)
  rw [HV.out.2.2.2.2.2] at hev ht
  have HB8 := Lib.hid (hE g cur hB)
  have Ht := Lib.hid ht
  have HS8 := Lib.hid hS
  have HK8 := Lib.hid (HK7.out.trans (hF.below.mono hbase))
  clear hS hF hE hB HS7 HK7 HR ht hn1 hgb
  rw [hev]
  go_wp2_with fail
  refine (back_store HS8.out 0 (Nat.zero_le _) (by show st6.bs.length ≤ _; rw [HV.out.2.2.2.1]; show 1 ≤ 1000000; omega)).mono ?_
  rintro e w8 ⟨rfl, st9, hS, ⟨hu, hl, he⟩, hF, hE⟩
  have hu2 : st9.vs = [⟨s1, A1, n1, c1, L1, 0⟩] := by
    have : (st9.vs, st9.bs.reverse) = undo 0 st6.vs st6.bs.reverse := hu
    rw [HV.out.1, HV.out.2.2.2.1] at this
    have h2 : undo 0 [v'] ([⟨0, ⟨s1, A1, n1, c1, L1, 0⟩⟩] : List Er).reverse = ([⟨s1, A1, n1, c1, L1, 0⟩], []) := by
      show undo 0 [v'] [⟨0, ⟨s1, A1, n1, c1, L1, 0⟩⟩] = _
      rw [undo, if_pos (by show 0 < v'.since; rw [HV.out.2.2.1]; decide), undo]
      rfl
    rw [h2] at this
    exact (Prod.mk.inj this).1
  have HV9 := Lib.hid hu2
  have HB9 := Lib.hid (hE g cur HB8.out)
  have HS9 := Lib.hid hS
  have HK9 := Lib.hid (HK8.out.trans (hF.below.mono hbase))
  clear hS hF hE hu hl he hu2 HS8 HK8 HB8
  go_wp2_with fail
  refine (fixed_store HS9.out (hT.below HK9.out) 0 ⟨s1, A1, n1, c1, L1, 0⟩ (by rw [HV9.out]; rfl) 0 false (by show decide (L1.length = 1) = _; rw [HL1.out]; rfl) (by show (if L1.length = 1 then _ else _) = _; rw [HL1.out]; rfl)).mono ?_
  rintro e w9 ⟨rfl, hb⟩
  have HS10 := Lib.hid (HS9.out.below hb)
  have HK10 := Lib.hid (HK9.out.trans (hb.mono HK9.out.size))
  have HB10 := Lib.hid (HB9.out.below hb)
  clear hb HS9 HK9 HB9
  obtain ⟨y0, y1⟩ := ev_cell (cap := 1) HB10.out (es := [(0, 3)]) Ht.out (i := 0) (a := (0, 3)) rfl (Nat.le_refl _)
  simp only [Nat.zero_mul, Nat.zero_add] at y0 y1
  go_wp2_with fail
  refine (get_store HS10.out 0 ⟨s1, A1, n1, c1, L1, 0⟩ (by rw [HV9.out]; rfl)).mono ?_
  rintro e w10 ⟨rfl, hb⟩
  have HK11 := Lib.hid (HK10.out.trans (hb.mono HK10.out.size))
  clear hb HK10 HS10 y0 y1
  unfold Vr.dom
  go_wp2_with fail
  refine (size_any _ _ _ _ _ _).mono ?_
  rintro e w11 ⟨rfl, hb⟩
  have HK12 := Lib.hid (HK11.out.trans (hb.mono HK11.out.size))
  clear hb
  go_wp2_with fail
  go_ret
  exact ⟨rfl, HK12.out⟩
end Go.Proofs.YtegiaonlneamfaaDoor

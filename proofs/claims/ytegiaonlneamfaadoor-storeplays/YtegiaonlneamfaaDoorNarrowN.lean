/- Contract of a store's Narrow, where what the variable was is kept. -/
import Derived.Test.YtegiaonlneamfaaDoorNarrowA
namespace Go.Proofs.YtegiaonlneamfaaDoor
open Go.RowKit
section
variable {base S : Nat} {w : World} {st : Sto}

set_option maxHeartbeats 4000000 in
set_option maxRecDepth 100000 in
theorem narrow_new (h : IsStore base w S st) (hT : Tab w) (i : Nat) (v : Vr) (hv : st.vs[i]? = some v) (s : Int) (A : Option Addr) (n c : Nat) (M P : List Int) (ch : Int) (hd : IsDom w (.agg #[.int .i64 s, .slice A n c, .int .i64 (M.length : Nat)]) M)
    (hP : v.L.filter (fun u => decide (u ∈ M)) = P) (hch : chg v.L P = ch) (hne : (ch == 0) = false) (hsl : v.since < st.lev) (hbn : st.bs.length ≤ 1000000) (hen : st.es.length ≤ 1000000) :
    Calls Tryd.prog 17 #[ptr S, .int .i64 (i : Nat), .agg #[.int .i64 s, .slice A n c, .int .i64 (M.length : Nat)]] w fun e w' => e = .returned (.int .i64 ch) ∧ ∃ st', IsStore base w' S st' ∧ Nar st i v P st' ∧ Fr base w w' := by
  have hi : i < st.vs.length := (List.getElem?_eq_some_iff.1 hv).1
  have hb : (decide (0 ≤ (i : Int)) && decide ((i : Int) < (st.vs.length : Nat))) = true := by simp; omega
  have hi' : (i : Int) < (st.vs.length : Nat) := by omega
  have o1 := below1 w (.cells #[.int .i64 s, .slice A n c, .int .i64 (M.length : Nat)] 48)
  have o2 := o1.trans ((below1 (w.alloc (.cells #[.int .i64 s, .slice A n c, .int .i64 (M.length : Nat)] 48)) (.cells #[.int .i64 v.s, .slice v.A v.n v.c, .int .i64 (v.L.length : Nat), .int .i64 (v.since : Nat)] 71)).mono o1.size)
  have HS := Lib.hid (h.below o1)
  obtain ⟨c0, -, -, -⟩ := HS.out.cells
  obtain ⟨v0, v1, v2, v3⟩ := vr_cell HS.out.vars hv
  have hdv := h.doms v (List.mem_of_getElem? hv)
  unfold Vr.dom at hdv
  have HA := Lib.hid (and_parts v.L M P ch hP hch _ _ _ (hdv.below o2) (hd.below o2) (hT.below o2))
  have HO := Lib.hid o2
  have H0 := Lib.hid h
  have HN := Blk.new (w.alloc (.cells #[.int .i64 s, .slice A n c, .int .i64 (M.length : Nat)] 48)) #[.int .i64 v.s, .slice v.A v.n v.c, .int .i64 (v.L.length : Nat), .int .i64 (v.since : Nat)] 71
  rw [show (w.alloc (.cells #[.int .i64 s, .slice A n c, .int .i64 (M.length : Nat)] 48)).heap.size = w.heap.size + 1 by simp] at HN
  have HN := Lib.hid HN
  have hsl' : decide ((v.since : Int) < (st.lev : Int)) = true := by simpa using hsl
  have HC := Lib.hid hch
  clear h hdv hd o1 o2 hch
  go_enter Tryd.func17, Tryd.ntmps17
  go_wp2_with fail
  refine (has_store HS.out i true hb).mono ?_
  rintro e w' ⟨rfl, rfl⟩
  go_wp2_with fail
  refine HA.out.mono ?_
  rintro e w3 ⟨s3, A3, n3, c3, rfl, hd3, hb3⟩
  clear c0 v0 v1 v2 v3
  have o3 := HO.out.trans (hb3.mono HO.out.size)
  have o4 := o3.trans ((below1 w3 (.cells #[.int .i64 s3, .slice A3 n3 c3, .int .i64 (P.length : Nat)] 48)).mono o3.size)
  have HS4 := Lib.hid (H0.out.below o4)
  have HN4 := Lib.hid ((HN.out.below hb3).below (below1 w3 (.cells #[.int .i64 s3, .slice A3 n3 c3, .int .i64 (P.length : Nat)] 48)))
  obtain ⟨-, c1, c2, -⟩ := HS4.out.cells
  have n0 := HN4.out.cell 0
  have n1 := HN4.out.cell 1
  have n2 := HN4.out.cell 2
  have n3' := HN4.out.cell 3
  simp only [List.getElem?_toArray, List.getElem?_cons_zero, List.getElem?_cons_succ] at n0 n1 n2 n3'
  go_wp2_with fail
  go_quiet (fail)
  have HS5 : Hid (IsStore base ((w3.alloc (.cells #[.int .i64 s3, .slice A3 n3 c3, .int .i64 (P.length : Nat)] 48)).drewN nq) S st) := Lib.hid (HS4.out.below (below_drewN (Below.refl _ _) nq))
  have HN5 : Hid (Blk ((w3.alloc (.cells #[.int .i64 s3, .slice A3 n3 c3, .int .i64 (P.length : Nat)] 48)).drewN nq) (w.heap.size + 1) _ 71) := HN4
  have HF5 : Hid (Below w.heap.size w ((w3.alloc (.cells #[.int .i64 s3, .slice A3 n3 c3, .int .i64 (P.length : Nat)] 48)).drewN nq)) := Lib.hid (below_drewN o4 nq)
  have HL5 : Hid (Blk ((w3.alloc (.cells #[.int .i64 s3, .slice A3 n3 c3, .int .i64 (P.length : Nat)] 48)).drewN nq) w3.heap.size #[.int .i64 s3, .slice A3 n3 c3, .int .i64 (P.length : Nat)] 48) := Lib.hid (Blk.new w3 _ 48)
  have HD5 : Hid (IsDom ((w3.alloc (.cells #[.int .i64 s3, .slice A3 n3 c3, .int .i64 (P.length : Nat)] 48)).drewN nq) (.agg #[.int .i64 s3, .slice A3 n3 c3, .int .i64 (P.length : Nat)]) P) := Lib.hid (hd3.below (below_drewN (below1 _ _) nq))
  clear c1 c2 n0 n1 n2 n3' HS4 HN4 o3 o4 hb3 HO HS HA HN hd3
  generalize (w3.alloc (.cells #[.int .i64 s3, .slice A3 n3 c3, .int .i64 (P.length : Nat)] 48)).drewN nq = W5 at *
  obtain ⟨c0, c1, c2, c3'⟩ := HS5.out.cells
  have f1 := HS5.out.head.free 1
  have n0 := HN5.out.cell 0
  have n1 := HN5.out.cell 1
  have n2 := HN5.out.cell 2
  have n3' := HN5.out.cell 3
  simp only [List.getElem?_toArray, List.getElem?_cons_zero, List.getElem?_cons_succ] at n0 n1 n2 n3'
  obtain ⟨i0, hi0, hz0, hz1, hz2⟩ := info_parts info90
  have K6 : Below W5.heap.size W5 (W5.alloc (.cells #[.int .i64 (i : Nat), .int .i64 v.s, .slice v.A v.n v.c, .int .i64 (v.L.length : Nat), .int .i64 (v.since : Nat)] 90)).drew := (below1 W5 (.cells (Er.cells ⟨i, v⟩).toArray 90)).drew
  have HS6 := Lib.hid (HS5.out.below K6)
  have HF6 := Lib.hid (HF5.out.trans (K6.mono HF5.out.size))
  have HL6 := Lib.hid (HL5.out.below K6)
  have HD6 := Lib.hid (HD5.out.below K6)
  obtain ⟨-, c61, -, -⟩ := HS6.out.cells
  have hdv6 := Lib.hid (HS6.out.doms v (List.mem_of_getElem? hv))
  have C6 := Lib.hid (cells_new W5 (Er.cells ⟨i, v⟩) 90)
  have P6 := Lib.hid (er_plain ⟨i, v⟩)
  have Z1 : Hid (∀ u ∈ (Value.agg #[.int .i64 0, .int .i64 0, .slice none 0 0, .int .i64 0, .int .i64 0]).cells, plainV u) := Lib.hid (by intro u hu x e; subst e; simp [Value.cells] at hu)
  have Z2 : Hid (∀ u ∈ Er.cells ⟨i, v⟩, u.oneCell' = true) := Lib.hid (by intro u hu; simp [Er.cells] at hu; rcases hu with rfl | rfl | rfl | rfl | rfl <;> rfl)
  have Z3 : Hid (st.bs.length + 1 ≤ maxLen) := Lib.hid (by simp only [maxLen]; omega)
  have Z4 : Hid ((st.bs.length + 1) * 56 ≤ 140737488355328) := Lib.hid (by omega)
  have Z5 : Hid (base ≤ (W5.alloc (.cells (Er.cells ⟨i, v⟩).toArray 90)).drew.heap.size) := Lib.hid (by have := HS6.out.lt; exact Nat.le_of_lt this)
  go_wp2_with fail
  go_region_law (refine step_append_row rfl (.tmp 41) (.tmp 45) 72 rfl base 90 i0 (.agg #[.int .i64 0, .int .i64 0, .slice none 0 0, .int .i64 0, .int .i64 0]) 5 56 Tryd.underlying72 hi0 hz0 hz1 hz2 rfl (by decide) (.inr (.inr (.inr rfl))) Z1.out st.bv st.bs.length _ rfl HS6.out.before ⟨W5.heap.size, 0, none⟩ 1 (Er.cells ⟨i, v⟩) rfl rfl C6.out Z2.out P6.out Z3.out Z4.out Z5.out ?_; intro v6 w6 R7 F7 G7; obtain ⟨X6, k6, rfl⟩ := R7.shape; have B7 : Blk w6 S _ 74 := (HS6.out.head_before G7).trans HS6.out.head; have f7 := B7.free 1; have c7 : w6.cell? ⟨S, 1, none⟩ = some st.bv := B7.cell 1; have HS7 := Lib.hid (HS6.out.put_before ⟨i, v⟩ R7 F7 G7 hi hdv6.out); clear R7 F7 G7 B7)
  all_goals
    have HF7 := Lib.hid ((Fr.of_below HF6.out (by have := H0.out.lt; omega)).trans HS7.out.2)
    have HL7 := Lib.hid (HL6.out.fr (by decide) HS7.out.2)
    have HD7 := Lib.hid (HD6.out.fr HS7.out.2)
    obtain ⟨st7, hst7⟩ : ∃ st7 : Sto, st7 = { st with bv := .slice X6 (st.bs.length + 1) k6, bs := st.bs ++ [⟨i, v⟩] } := ⟨_, rfl⟩
    have HM : Hid (Mid st i v st7) := Lib.hid (by subst hst7; exact ⟨rfl, rfl, rfl, by rw [if_pos hsl]⟩)
    have HS7 := HS7.out.1
    rw [← hst7] at HS7
    have HS7 := Lib.hid HS7
    clear f7 c7 HS6 HF6 HL6 HD6 hst7 hdv6 c61 c0 c1 c2 c3' n0 n1 n2 n3' f1 C6 P6 Z1 Z2 Z3 Z4 Z5 K6 HS5 HN5 HF5 HL5 HD5 hi0 hz0 hz1 hz2
    go_wp2_with fail
    generalize w6.setCell ⟨S, 1, none⟩ (.slice X6 (st.bs.length + 1) k6) = W7 at *
    have hi7 : i < st7.vs.length := by rw [HM.out.1]; exact hi
    have hi7' : (i : Int) < (st7.vs.length : Nat) := by omega
    obtain ⟨c0, -, c2, -⟩ := HS7.out.cells
    have l0 : W7.cell? ⟨w3.heap.size, 0, none⟩ = some (.int .i64 s3) := HL7.out.cell 0
    have l1 : W7.cell? ⟨w3.heap.size, 1, none⟩ = some (.slice A3 n3 c3) := HL7.out.cell 1
    have l2 : W7.cell? ⟨w3.heap.size, 2, none⟩ = some (.int .i64 (P.length : Nat)) := HL7.out.cell 2
    go_still_tail 12, (by kernel_rfl)
    change wpList _ _ _ _ _ W7.drew
    have HS8 := Lib.hid (HS7.out.below ((Below.refl _ W7).drew))
    have HF8 : Hid (Fr base w W7.drew) := Lib.hid (HF7.out.drewN 1)
    have HD8 := Lib.hid (HD7.out.below ((Below.refl _ W7).drew))
    clear c0 c2 l0 l1 l2 HS7 HF7 HL7 HD7
    generalize W7.drew = W8 at *
    obtain ⟨v0, v1, v2, v3⟩ := vr_cell HS8.out.vars (List.getElem?_eq_getElem hi7)
    have f0 := HS8.out.vars.free (i * 4)
    have f1 := HS8.out.vars.free (i * 4 + 1)
    have f2 := HS8.out.vars.free (i * 4 + 2)
    have f3 := HS8.out.vars.free (i * 4 + 3)
    have HS9 := Lib.hid (HS8.out.put_var i ⟨s3, A3, n3, c3, P, st7.lev⟩ hi7 HD8.out)
    have HF9 := Lib.hid (HF8.out.trans HS9.out.2)
    have HS9 := Lib.hid HS9.out.1
    clear HD8 HS8 HF8
    go_upto_region 10 with fail
    change Code.wp _ _ _ _ (store4 W8 st7.V i ⟨s3, A3, n3, c3, P, st7.lev⟩)
    clear v0 v1 v2 v3 f0 f1 f2 f3
    generalize store4 W8 st7.V i ⟨s3, A3, n3, c3, P, st7.lev⟩ = W9 at *
    obtain ⟨-, -, -, c3'⟩ := HS9.out.cells
    have K9 : Below W9.heap.size W9 (W9.alloc (.cells #[.int .i64 (i : Nat), .int .i64 ch] 77)) := below1 _ _
    have HS10 := Lib.hid (HS9.out.below K9)
    have hsz : base ≤ W9.heap.size := Nat.le_of_lt HS9.out.lt
    have HF10 := Lib.hid (HF9.out.trans (Fr.of_below K9 hsz))
    have C10 := Lib.hid (cells_new W9 (evCells ((i : Int), ch)) 77)
    have P10 := Lib.hid (ev_plain ((i : Int), ch))
    have Z1 : Hid (∀ u ∈ (Value.agg #[.int .i64 0, .int .i64 0]).cells, plainV u) := Lib.hid (by intro u hu x e; subst e; simp [Value.cells] at hu)
    have Z2 : Hid (∀ u ∈ evCells ((i : Int), ch), u.oneCell' = true) := Lib.hid (by intro u hu; simp [evCells] at hu; rcases hu with rfl | rfl <;> rfl)
    have hel : st7.es.length ≤ 1000000 := by rw [HM.out.2.2.1]; exact hen
    have Z3 : Hid (st7.es.length + 1 ≤ maxLen) := Lib.hid (by simp only [maxLen]; omega)
    have Z4 : Hid ((st7.es.length + 1) * 16 ≤ 140737488355328) := Lib.hid (by omega)
    have Z5 : Hid (base ≤ (W9.alloc (.cells #[.int .i64 (i : Nat), .int .i64 ch] 77)).heap.size) := Lib.hid (by simp; omega)
    have HK9 := Lib.hid K9
    clear K9
    obtain ⟨j0, hj0, hy0, hy1, hy2⟩ := info_parts info77
    go_wp2_with (at_builtin; refine wpList_append_row _ rfl _ _ 43 rfl base 77 j0 (.agg #[.int .i64 0, .int .i64 0]) 2 16 Tryd.underlying43 hj0 hy0 hy1 hy2 rfl (by decide) (.inr (.inr (.inl rfl))) Z1.out st7.ev st7.es.length _ rfl HS10.out.events ⟨W9.heap.size, 0, none⟩ 1 (evCells ((i : Int), ch)) rfl rfl C10.out Z2.out P10.out Z3.out Z4.out Z5.out ?_; intro v10 w10 R10 F10 G10; obtain ⟨X10, k10, rfl⟩ := R10.shape; have B10 : Blk w10 S _ 74 := (HS10.out.head_event G10).trans HS10.out.head; have f10 := B10.free 3; have c10 : w10.cell? ⟨S, 3, none⟩ = some st7.ev := B10.cell 3; have HS11 := Lib.hid (HS10.out.put_event ((i : Int), ch) R10 F10 G10); clear R10 F10 G10 B10)
    go_ret
    refine ⟨rfl, _, HS11.out.1, ⟨⟨s3, A3, n3, c3, P, st7.lev⟩, rfl, HM.out.2.1, ?_, HM.out.2.2.2, HM.out.2.1, ?_⟩, HF10.out.trans HS11.out.2⟩
    · show st7.vs.set i _ = _
      rw [HM.out.1]
    · show st7.es ++ _ = _
      rw [HM.out.2.2.1, HC.out]
end
end Go.Proofs.YtegiaonlneamfaaDoor

/- Contract of the document's Product (layer 9): all rows of values: shared by layers 10 to 22. -/
import Derived.Test.YtcmdgjkoalophaaGreatDoorMkr
import Derived.Test.YtcmdgjkoalophaaGreatDoorMkr3
import Derived.Test.YtcmdgjkoalophaaGreatDoorMkmore
import Derived.Test.YtcmdgjkoalophaaGreatDoorRg3
import Derived.Test.YtcmdgjkoalophaaGreatDoorMkst
import Derived.Test.YtcmdgjkoalophaaGreatDoorSrow
import Derived.Test.YtcmdgjkoalophaaGreatDoorSh2
import Derived.StillTailTactics
namespace Go.Proofs.YtcmdgjkoalophaaGreatDoor
open Go.RowKit

theorem makeE_kind (la lb lc : List Int) (k K ch vars : Int) (hk : 0 ≤ k) : (makeE la lb lc k K ch vars).kind = 1 + k.tmod 23 := by
  have h0 := Int.tmod_nonneg 23 hk
  unfold makeE
  simp only [s9_kind, s8_kind, s7_kind, s6_kind, s5_kind, s4_kind, s3_kind, s2_kind]
  show (((1 + k.tmod 23).toNat : Nat) : Int) = _
  omega
/-- What may be of fewer variables may be of more. -/
theorem right_more {c : ConL} {n m : Int} (h : rightE c n = 0) (hm : n ≤ m) : rightE c m = 0 := by
  obtain ⟨k1, k2, hs, ha, hb, hn⟩ := right_parts h
  have hf : (foundF (kindP c.kind)).2 ≠ false := by
    intro e
    unfold rightE at h
    rw [if_pos e] at h
    cases h
  have hout : ∀ l : List Int, l.any (outV n) = false → l.any (outV m) = false := fun l hl => by
    rw [List.any_eq_false] at hl ⊢
    intro x hx
    have := hl x hx
    simp only [outV, Bool.or_eq_true, decide_eq_true_eq, not_or] at this ⊢
    omega
  unfold rightE
  rw [if_neg hf, hs, hout _ ha, hout _ hb, hn]
  rfl
theorem mulKind_any (n : Int) (w : World) (hn : 0 ≤ n ∧ n ≤ 255) : Calls Tryz.prog 42 #[.int .u8 n] w fun e w' => e = .returned (.int .i64 (5 + n.tmod 3)) ∧ w = w' := by
  have h := tmod_in n 3 (by omega)
  have h0 := Int.tmod_nonneg 3 hn.1
  have w1 : IntKind.i64.wrap (n.tmod 3) = n.tmod 3 := IntWalk.i64_in _ (by omega)
  have w2 : IntKind.i64.wrap (5 + n.tmod 3) = 5 + n.tmod 3 := IntWalk.i64_in _ (by omega)
  clear hn h h0
  go_enter Tryz.func42, Tryz.ntmps42
  go_wp2_with fail
  go_ret
  exact ⟨rfl, rfl⟩
end Go.Proofs.YtcmdgjkoalophaaGreatDoor

namespace Go.Proofs.YtcmdgjkoalophaaGreatDoor
open Go.RowKit Go.Sort

/-- A constraint whose places are variables by themselves. -/
def localE (c : ConL) : ConL := { c with A := mkL (fun i => (i : Int)) c.A.length, B := mkL (fun i => (c.A.length : Int) + (i : Int)) c.B.length }
theorem grow_box {G : Nat} {wl wr w7 : World} {u : Array Value} {t : TypeId} {y y' : Sl} {n : Nat} {xs : List Value} {x z : Value} {o : Obj} (k : Kp G wl wr) (hb : wr.heap[G]? = some (.cells u t (0, 0))) (hG : G < wl.heap.size)
    (hO : wr.ownsRow wl.heap.size 3 1 (.slice y.A y.n y.c) n xs) (hg : (wr.alloc o).grownBy w7 (Value.slice y.A y.n y.c).ownBlock) (h7 : w7.ownsRow wl.heap.size 3 1 (.slice y'.A y'.n y'.c) (n + 1) (xs ++ [x])) (j : Nat) :
    w7.heap[G]? = some (.cells u t (0, 0)) ∧ Kp G wl (w7.setCell ⟨G, j, none⟩ z) ∧ (w7.setCell ⟨G, j, none⟩ z).heap[G]? = some (.cells (u.setIfInBounds j z) t (0, 0)) ∧ (w7.setCell ⟨G, j, none⟩ z).ownsRow wl.heap.size 3 1 (.slice y'.A y'.n y'.c) (n + 1) (xs ++ [x]) := by
  have hb7 := box_grown' hb hg (fun k e => by have := (own_lt' hO e).1; omega)
  have k7 : Kp G wl w7 := (k.alloc o).grown hg (fun j e => (own_lt' hO e).1)
  exact ⟨hb7, k7.put j _, box_put hb7, own_keep' h7 (fun g hgx => Below.heap_setCell _ _ _ _ (by have := (own_lt' h7 hgx).1; simp only; omega))⟩

set_option maxHeartbeats 4000000 in
set_option maxRecDepth 100000 in
theorem local_any (v : ConV) (c : ConL) (w : World) (h : ConIn w v c) (ha : c.A.length ≤ 1000) (hb : c.B.length ≤ 1000) :
    Calls Tryz.prog 40 #[v.val c.kind c.K] w fun e w' => (∃ v' : ConV, e = .returned (v'.val c.kind c.K) ∧ ConIn w' v' (localE c)) ∧ Below w.heap.size w w' := by
  obtain ⟨i0, hi, hz0, hz1, hz2⟩ := info_parts Tryz.info3
  have HI := Lib.hid (And.intro hi (And.intro hz0 (And.intro hz1 hz2)))
  have HC := Lib.hid h
  have HAN := Lib.hid h.a.len
  have HBN := Lib.hid h.b.len
  have han : v.a.n ≤ 1000 := by rw [h.a.len]; exact ha
  have hbn : v.b.n ≤ 1000 := by rw [h.b.len]; exact hb
  clear hi hz0 hz1 hz2 h ha hb
  obtain ⟨G, hG⟩ : ∃ G, G = w.heap.size + 1 + 1 := ⟨_, rfl⟩
  obtain ⟨wL, hwL⟩ : ∃ wL, ((w.alloc (.cells (v.cells c.kind c.K) 37)).alloc (.cells zeroC 37)).alloc (.cells (({ v with a := ⟨none, 0, 0⟩, b := ⟨none, 0, 0⟩ } : ConV).cells c.kind c.K) 37) = wL := ⟨_, rfl⟩
  have e1 := heap_new w (.cells (v.cells c.kind c.K) 37)
  have e2 := heap_new (w.alloc (.cells (v.cells c.kind c.K) 37)) (.cells zeroC 37)
  have e3 := heap_new ((w.alloc (.cells (v.cells c.kind c.K) 37)).alloc (.cells zeroC 37)) (.cells (({ v with a := ⟨none, 0, 0⟩, b := ⟨none, 0, 0⟩ } : ConV).cells c.kind c.K) 37)
  have z1 : (w.alloc (.cells (v.cells c.kind c.K) 37)).heap.size = w.heap.size + 1 := by simp
  have z2 : ((w.alloc (.cells (v.cells c.kind c.K) 37)).alloc (.cells zeroC 37)).heap.size = w.heap.size + 1 + 1 := by simp
  rw [z1] at e2
  rw [z2, hwL, ← hG] at e3
  have HZ : Hid (wL.heap[w.heap.size]? = some (.cells (v.cells c.kind c.K) 37 (0, 0))) := Lib.hid (by
    rw [← hwL, Below.heap_alloc _ _ _ (by rw [z2]; omega), Below.heap_alloc _ _ _ (by rw [z1]; omega)]
    exact e1)
  have HO : Hid (wL.heap[w.heap.size + 1]? = some (.cells zeroC 37 (0, 0))) := Lib.hid (by
    rw [← hwL, Below.heap_alloc _ _ _ (by rw [z2]; omega)]
    exact e2)
  have HBX := Lib.hid e3
  have HLOW : Hid (Below w.heap.size w wL) := Lib.hid (hwL ▸ ((below1 w _).alloc (by simp) _).alloc (by simp; omega) _)
  have HSZ : Hid (wL.heap.size = w.heap.size + 1 + 1 + 1) := Lib.hid (by rw [← hwL]; simp)
  have HGS := Lib.hid hG
  have HWL := Lib.hid hwL
  clear e1 e2 e3 z1 z2 hwL
  go_enter Tryz.func40, Tryz.ntmps40
  go_upto_region 4 with fail
  change Code.wp _ _ _ _ (((w.alloc (.cells (v.cells c.kind c.K) 37)).alloc (.cells zeroC 37)).alloc (.cells (({ v with a := ⟨none, 0, 0⟩, b := ⟨none, 0, 0⟩ } : ConV).cells c.kind c.K) 37))
  rw [HWL.out, ← hG]
  clear HWL hG
  go_wp2_with fail
  go_loopw [4] (fun i wr => ∃ (k : Nat) (y : Sl), i = .int .i64 (k : Nat) ∧ k ≤ v.a.n ∧ Hid (Kp G wL wr) ∧ Hid (wr.heap[G]? = some (.cells (({ v with a := y, b := ⟨none, 0, 0⟩ } : ConV).cells c.kind c.K) 37 (0, 0))) ∧ Hid (wr.ownsRow wL.heap.size 3 1 (.slice y.A y.n y.c) k (I (mkL (fun i => (i : Int)) k)))) (fun i _ => v.a.n - (intOf i).toNat)
  case atStart => exact ⟨0, ⟨none, 0, 0⟩, rfl, by omega, Lib.hid (Kp.refl _ _), HBX, Lib.hid (World.ownsRow_nil _ _ _ _)⟩
  case round =>
    clear HBX
    obtain ⟨k, y, rfl, hk, HK, HB, HR⟩ := hrel
    have HZr : Hid (wr.heap[w.heap.size]? = some (.cells (v.cells c.kind c.K) 37 (0, 0))) := Lib.hid ((HK.out.block _ (by have := HSZ.out; omega) (by have := HGS.out; omega)).trans HZ.out)
    have q1 := box_cell HZr.out (j := 1) (x := .slice v.a.A v.a.n v.a.c) rfl
    by_cases hlt : k < v.a.n
    · have q2 := box_cell HB.out (j := 1) (x := .slice y.A y.n y.c) rfl
      have HT : Hid (I (mkL (fun i => (i : Int)) (k + 1)) = I (mkL (fun i => (i : Int)) k) ++ [.int .i64 (k : Nat)]) := Lib.hid (by rw [mkL_succ, I_append]; rfl)
      have Z5 := Lib.hid HK.out.size
      go_wp2_with (at_builtin; refine wpList_append_own _ rfl _ _ 26 rfl wL.heap.size 3 i0 (.int .i64 0) 1 8 Tryz.underlying26 HI.out.1 HI.out.2.1 HI.out.2.2.1 HI.out.2.2.2 rfl (by decide) _ _ _ rfl (HR.out.alloc _) ⟨_, 0, none⟩ 1 1 [.int .i64 (k : Nat)] rfl rfl ?c1 ?c2 ?c3 ?c4 ?c5 ?_)
      case c1 => intro j u hj; match j, hj with | 0, hj => simp at hj; subst hj; simp [Addr.add]
      case c2 => intro u hu; simp at hu; subst hu; rfl
      case c3 => unfold maxLen; omega
      case c4 => omega
      case c5 => have := Z5.out; simp; omega
      intro v' w7 hown' hgrow _
      obtain ⟨Y, kY, rfl⟩ := slice_row hown'
      obtain ⟨b7, k8, b8, r8⟩ := grow_box (y' := ⟨Y, k + 1, kY⟩) (z := .slice Y (k + 1) kY) HK.out HB.out (by have := HSZ.out; have := HGS.out; omega) HR.out hgrow hown' 1
      rw [← HT.out] at r8
      have K8 := Lib.hid k8
      have B8 : Hid ((w7.setCell ⟨G, 1, none⟩ (.slice Y (k + 1) kY)).heap[G]? = some (.cells (({ v with a := ⟨Y, k + 1, kY⟩, b := ⟨none, 0, 0⟩ } : ConV).cells c.kind c.K) 37 (0, 0))) := Lib.hid b8
      have R8 := Lib.hid r8
      have q7 := box_cell b7 (j := 1) (x := .slice y.A y.n y.c) rfl
      have f7 := box_free b7 1
      clear b7 k8 b8 r8 hown' hgrow HK HB HR HT q1 q2
      go_wp2_with fail
      go_roundw
      case rel => exact ⟨k + 1, ⟨Y, _, kY⟩, by go_num, by omega, K8, B8, R8⟩
      case measure => simp [intOf]; omega
    · obtain rfl : k = v.a.n := by omega
      have KA := HK
      have HXA := HB
      have RA := HR
      have q3 := box_cell HZr.out (j := 2) (x := .slice v.b.A v.b.n v.b.c) rfl
      clear HK HB HR hlt
      obtain ⟨wA, rfl⟩ : ∃ wA, wA = wr := ⟨_, rfl⟩
      have HSA : Hid (G < wA.heap.size ∧ w.heap.size + 1 + 1 + 1 ≤ wA.heap.size) := Lib.hid (by have := KA.out.size; have := HSZ.out; have := HGS.out; omega)
      go_wp2_with fail
      clear q1 q3
      go_loopw [5] (fun i wr => ∃ (k : Nat) (z : Sl), i = .int .i64 (k : Nat) ∧ k ≤ v.b.n ∧ Hid (Kp G wA wr) ∧ Hid (wr.heap[G]? = some (.cells (({ v with a := y, b := z } : ConV).cells c.kind c.K) 37 (0, 0))) ∧ Hid (wr.ownsRow wA.heap.size 3 1 (.slice z.A z.n z.c) k (I (mkL (fun i => ((v.a.n : Nat) : Int) + (i : Int)) k)))) (fun i _ => v.b.n - (intOf i).toNat)
      case atStart => exact ⟨0, ⟨none, 0, 0⟩, rfl, by omega, Lib.hid (Kp.refl _ _), HXA, Lib.hid (World.ownsRow_nil _ _ _ _)⟩
      case round =>
        clear HXA
        obtain ⟨j, z, rfl, hj, HK, HB, HR⟩ := hrel
        have HZs : Hid (wr.heap[w.heap.size]? = some (.cells (v.cells c.kind c.K) 37 (0, 0))) := Lib.hid ((HK.out.block _ (by have := HSA.out; omega) (by have := HGS.out; omega)).trans HZr.out)
        have q1 := box_cell HZs.out (j := 1) (x := .slice v.a.A v.a.n v.a.c) rfl
        have q3 := box_cell HZs.out (j := 2) (x := .slice v.b.A v.b.n v.b.c) rfl
        by_cases hlt : j < v.b.n
        · have q2 := box_cell HB.out (j := 2) (x := .slice z.A z.n z.c) rfl
          have HT : Hid (I (mkL (fun i => ((v.a.n : Nat) : Int) + (i : Int)) (j + 1)) = I (mkL (fun i => ((v.a.n : Nat) : Int) + (i : Int)) j) ++ [.int .i64 (((v.a.n : Nat) : Int) + (j : Nat))]) := Lib.hid (by rw [mkL_succ, I_append]; rfl)
          have Z5 := Lib.hid HK.out.size
          have ws : IntKind.i64.wrap (((v.a.n : Nat) : Int) + (j : Nat)) = ((v.a.n : Nat) : Int) + (j : Nat) := IntWalk.i64_in _ (by omega)
          go_wp2_with (at_builtin; refine wpList_append_own _ rfl _ _ 26 rfl wA.heap.size 3 i0 (.int .i64 0) 1 8 Tryz.underlying26 HI.out.1 HI.out.2.1 HI.out.2.2.1 HI.out.2.2.2 rfl (by decide) _ _ _ rfl (HR.out.alloc _) ⟨_, 0, none⟩ 1 1 [.int .i64 (((v.a.n : Nat) : Int) + (j : Nat))] rfl rfl ?c1 ?c2 ?c3 ?c4 ?c5 ?_)
          case c1 => intro j u hj; match j, hj with | 0, hj => simp at hj; subst hj; simp [Addr.add]
          case c2 => intro u hu; simp at hu; subst hu; rfl
          case c3 => unfold maxLen; omega
          case c4 => omega
          case c5 => have := Z5.out; simp; omega
          intro v' w7 hown' hgrow _
          obtain ⟨Y, kY, rfl⟩ := slice_row hown'
          obtain ⟨b7, k8, b8, r8⟩ := grow_box (y' := ⟨Y, j + 1, kY⟩) (z := .slice Y (j + 1) kY) HK.out HB.out HSA.out.1 HR.out hgrow hown' 2
          rw [← HT.out] at r8
          have K8 := Lib.hid k8
          have B8 : Hid ((w7.setCell ⟨G, 2, none⟩ (.slice Y (j + 1) kY)).heap[G]? = some (.cells (({ v with a := y, b := ⟨Y, j + 1, kY⟩ } : ConV).cells c.kind c.K) 37 (0, 0))) := Lib.hid b8
          have R8 := Lib.hid r8
          have q7 := box_cell b7 (j := 2) (x := .slice z.A z.n z.c) rfl
          have f7 := box_free b7 2
          clear b7 k8 b8 r8 hown' hgrow HK HB HR HT q1 q2 q3 ws
          go_wp2_with fail
          go_roundw
          case rel => exact ⟨j + 1, ⟨Y, _, kY⟩, by go_num, by omega, K8, B8, R8⟩
          case measure => simp [intOf]; omega
        · obtain rfl : j = v.b.n := by omega
          have HOr : Hid (wr.heap[w.heap.size + 1]? = some (.cells zeroC 37 (0, 0))) := Lib.hid ((HK.out.block _ (by have := HSA.out; omega) (by have := HGS.out; omega)).trans ((KA.out.block _ (by have := HSZ.out; omega) (by have := HGS.out; omega)).trans HO.out))
          have x0 := box_cell HB.out (j := 0) (x := .int .i64 c.kind) rfl
          have x1 := box_cell HB.out (j := 1) (x := .slice y.A y.n y.c) rfl
          have x2 := box_cell HB.out (j := 2) (x := .slice z.A z.n z.c) rfl
          have x3 := box_cell HB.out (j := 3) (x := .slice v.c.A v.c.n v.c.c) rfl
          have x4 := box_cell HB.out (j := 4) (x := .slice v.d.A v.d.n v.d.c) rfl
          have x5 := box_cell HB.out (j := 5) (x := .slice v.e.A v.e.n v.e.c) rfl
          have x6 := box_cell HB.out (j := 6) (x := .int .i64 c.K) rfl
          have x7 := box_cell HB.out (j := 7) (x := .slice v.r.A v.r.n v.r.c) rfl
          have y0 := box_cell HOr.out (j := 0) rfl
          have y1 := box_cell HOr.out (j := 1) rfl
          have y2 := box_cell HOr.out (j := 2) rfl
          have y3 := box_cell HOr.out (j := 3) rfl
          have y4 := box_cell HOr.out (j := 4) rfl
          have y5 := box_cell HOr.out (j := 5) rfl
          have y6 := box_cell HOr.out (j := 6) rfl
          have y7 := box_cell HOr.out (j := 7) rfl
          have f0 := box_free HOr.out 0
          have f1 := box_free HOr.out 1
          have f2 := box_free HOr.out 2
          have f3 := box_free HOr.out 3
          have f4 := box_free HOr.out 4
          have f5 := box_free HOr.out 5
          have f6 := box_free HOr.out 6
          have f7 := box_free HOr.out 7
          obtain ⟨hQ, kQ⟩ := out8 HOr.out (.int .i64 c.kind) (.slice y.A y.n y.c) (.slice z.A z.n z.c) (.slice v.c.A v.c.n v.c.c) (.slice v.d.A v.d.n v.d.c) (.slice v.e.A v.e.n v.e.c) (.int .i64 c.K) (.slice v.r.A v.r.n v.r.c)
          have hlowr : Below w.heap.size w wr := (HLOW.out.trans (KA.out.below (by have := HSZ.out; omega) (by have := HGS.out; omega))).trans (HK.out.below (by have := HSA.out; omega) (by have := HGS.out; omega))
          have hlowQ := hlowr.trans (kQ.below (by have := HK.out.size; have := HSA.out; omega) (by omega))
          have rA : Row3 wr wL.heap.size y (mkL (fun i => (i : Int)) v.a.n) := by
            unfold Row3
            rw [mkL_len]
            exact own_keep' RA.out fun g hg => by have := own_lt' RA.out hg; exact HK.out.block g this.2 (by have := HSZ.out; have := HGS.out; omega)
          have rB : Row3 wr wA.heap.size z (mkL (fun i => ((v.a.n : Nat) : Int) + (i : Int)) v.b.n) := by
            unfold Row3
            rw [mkL_len]
            exact HR.out
          have rA2 := rA.kp kQ (by have := HSZ.out; omega)
          have rB2 := rB.kp kQ (by have := HSA.out; omega)
          have hcc := HC.out.below hlowQ
          have hE : localE c = { c with A := mkL (fun i => (i : Int)) v.a.n, B := mkL (fun i => ((v.a.n : Nat) : Int) + (i : Int)) v.b.n } := by unfold localE; rw [HAN.out, HBN.out]
          have HCON : Hid (ConIn _ ({ v with a := y, b := z } : ConV) (localE c)) := Lib.hid (by
            rw [hE]
            exact ⟨ints_own rA2 (by rw [mkL_len]; omega), ints_own rB2 (by rw [mkL_len]; omega), hcc.c, hcc.d, hcc.e, hcc.r⟩)
          have HLQ := Lib.hid hlowQ
          have q0 := box_cell (j := 0) hQ rfl
          have q1 := box_cell (j := 1) hQ rfl
          have q2 := box_cell (j := 2) hQ rfl
          have q3 := box_cell (j := 3) hQ rfl
          have q4 := box_cell (j := 4) hQ rfl
          have q5 := box_cell (j := 5) hQ rfl
          have q6 := box_cell (j := 6) hQ rfl
          have q7 := box_cell (j := 7) hQ rfl
          have HQ := Lib.hid (And.intro q0 (And.intro q1 (And.intro q2 (And.intro q3 (And.intro q4 (And.intro q5 (And.intro q6 q7)))))))
          have q3 := box_cell HZs.out (j := 2) (x := .slice v.b.A v.b.n v.b.c) rfl
          clear q0 q1 q2 q4 q5 q6 q7 hQ kQ hlowr hlowQ rA rB rA2 rB2 hcc hE hlt HK HB HR KA RA
          go_wp2_with fail
          obtain ⟨q0, q1, q2, q3, q4, q5, q6, q7⟩ := HQ.out
          exact bodyPost_ret (v := ({ v with a := y, b := z } : ConV).val c.kind c.K) (by simp [results, Tryz.results40, go_sem, q0, q1, q2, q3, q4, q5, q6, q7]) rfl ⟨⟨_, rfl, HCON.out⟩, HLQ.out⟩
end Go.Proofs.YtcmdgjkoalophaaGreatDoor

namespace Go.Proofs.YtcmdgjkoalophaaGreatDoor
open Go.RowKit Go.Sort

def prodN : List (List Int) → Nat
  | [] => 1
  | d :: D => d.length * prodN D
/-- A row of values, by its number. -/
def rowP : List (List Int) → Nat → List Int
  | [], _ => []
  | d :: D, k => d.getD ((k / prodN D) % d.length) 0 :: rowP D k
def overP (most : Nat) : Nat → List (List Int) → Bool
  | _, [] => false
  | acc, d :: D => if most < acc * d.length then true else overP most (acc * d.length) D
/-- All rows, or none, if there are too many. -/
def prodE (D : List (List Int)) (most : Nat) : List (List Int) := if overP most 1 D then [] else (List.range (prodN D)).map (rowP D)
theorem rowP_len (D : List (List Int)) (k : Nat) : (rowP D k).length = D.length := by
  induction D with
  | nil => rfl
  | cons d D ih => simp [rowP, ih]
theorem prod_pos {D : List (List Int)} (h : 0 < prodN D) : ∀ d ∈ D, 0 < d.length := by
  induction D with
  | nil => intro d hd; cases hd
  | cons a D ih =>
    rw [prodN] at h
    intro d hd
    rcases List.mem_cons.1 hd with rfl | hd
    · exact Nat.pos_of_mul_pos_right h
    · exact ih (Nat.pos_of_mul_pos_left h) d hd
theorem drop_cons {D : List (List Int)} {k : Nat} (h : k < D.length) : D.drop k = D.getD k [] :: D.drop (k + 1) := by
  rw [List.drop_eq_getElem_cons h, List.getD_eq_getElem?_getD, List.getElem?_eq_getElem h]
  rfl
abbrev RZ (m : Nat) (xs : List Int) : List Value := List.replicate m (Value.int .i64 0) ++ I xs
theorem RZ_set (m : Nat) (xs : List Int) (z : Int) : (RZ (m + 1) xs).set m (.int .i64 z) = RZ m (z :: xs) := by
  unfold RZ
  rw [List.replicate_succ', List.append_assoc, List.set_append_right _ _ (by simp)]
  simp [I]

set_option maxHeartbeats 4000000 in
set_option maxRecDepth 100000 in
theorem product_any (x : Sl) (D : List (List Int)) (most : Nat) (w : World) (hx : IsRows w x D) (hm : most ≤ 1000000) (hn : D.length ≤ 1000) (hl : ∀ d ∈ D, d.length ≤ 1000) :
    Calls Tryz.prog 80 #[.slice x.A x.n x.c, .int .i64 (most : Nat)] w fun e w' => (∃ (y : Sl) (xs : List Sl), e = .returned (.slice y.A y.n y.c) ∧ RowsO w.heap.size w' y xs (prodE D most)) ∧ Below w.heap.size w w' := by
  obtain ⟨i0, hi, hz0, hz1, hz2⟩ := info_parts infoSl'
  have HI := Lib.hid (And.intro hi (And.intro hz0 (And.intro hz1 hz2)))
  clear hi hz0 hz1 hz2
  obtain ⟨i3, hi, hz0, hz1, hz2⟩ := info_parts Tryz.info3
  have HX := Lib.hid hx
  have HLN := Lib.hid hx.len
  have hxn : x.n ≤ 1000 := by rw [hx.len]; exact hn
  have HLL : Hid (∀ k, k < x.n → (D.getD k []).length ≤ 1000) := Lib.hid (fun k hk => hl _ (by
    have hk' : k < D.length := by rw [← hx.len]; exact hk
    rw [List.getD_eq_getElem?_getD, List.getElem?_eq_getElem hk']
    exact List.getElem_mem hk'))
  have hmk : ∀ W : World, (Instr.makeSlice 26 (.int .i64 (x.n : Nat)) (.int .i64 (x.n : Nat))).run Tryz.prog W = .ok (.slice (some ⟨W.heap.size, 0, none⟩) x.n x.n) (W.alloc (.cells (madeCells #[.int .i64 0] x.n) 3)) := fun W => by
    have := run_make (P := Tryz.prog) W 26 3 i3 (.int .i64 0) Tryz.underlying26 hi hz0 .i64 .i64 (x.n : Nat) (x.n : Nat) (by omega) (by omega) (by rw [hz2]; omega) (by omega)
    rw [this, hz1]
    simp [Value.cells]
  have HMK := Lib.hid hmk
  have HROW : Hid (∀ W : World, (W.alloc (.cells (madeCells #[.int .i64 0] x.n) 3)).ownsRow W.heap.size 3 1 (.slice (some ⟨W.heap.size, 0, none⟩) x.n x.n) x.n (RZ x.n [])) := Lib.hid (fun W => by
    have := World.ownsRow_lit (base := W.heap.size) (e := 3) (size := 1) W (madeCells #[Value.int .i64 0] x.n) x.n (Nat.le_refl _) (by unfold maxLen; omega) (by simp [madeCells])
    rw [toList_madeCells_one] at this
    simpa [RZ, I] using this)
  have HE : Hid (prodE D most = if overP most 1 (D.drop 0) then [] else (List.range (prodN D)).map (rowP D)) := Lib.hid rfl
  generalize prodE D most = RES at HE ⊢
  have HP : Hid (1 * prodN (D.drop 0) = prodN D) := Lib.hid (by simp)
  clear hi hz0 hz1 hz2 hx hn hl hmk
  go_enter Tryz.func80, Tryz.ntmps80
  go_wp2_with fail
  go_loopw [5, 6] (fun s i wr => ∃ (k acc : Nat), s = .int .i64 (acc : Nat) ∧ i = .int .i64 (k : Nat) ∧ k ≤ x.n ∧ acc ≤ 1000000 ∧ Hid (RES = if overP most acc (D.drop k) then [] else (List.range (prodN D)).map (rowP D)) ∧ Hid (acc * prodN (D.drop k) = prodN D) ∧ Hid (w = wr)) (fun _ i _ => x.n - (intOf i).toNat)
  case atStart => exact ⟨0, 1, rfl, rfl, by omega, by omega, HE, HP, Lib.hid (by first | rfl | trivial)⟩
  case round =>
    clear HE HP
    obtain ⟨k, acc, rfl, rfl, hk, hac, HE, HP, HW⟩ := hrel
    obtain rfl := HW.out
    by_cases hlt : k < x.n
    · obtain ⟨ad, u, ex, qx, ux⟩ := rows_at HX.out k hlt
      rw [ex]
      have hul := HLL.out k hlt
      have HUL := Lib.hid ux.len
      have hun : u.n ≤ 1000 := by rw [ux.len]; exact hul
      have hDk : k < D.length := by rw [← HLN.out]; exact hlt
      have HS : Hid (RES = if most < acc * u.n then [] else if overP most (acc * u.n) (D.drop (k + 1)) then [] else (List.range (prodN D)).map (rowP D)) := Lib.hid (by
        rw [HE.out, drop_cons hDk, overP, HUL.out]
        by_cases g : most < acc * (D.getD k []).length
        · rw [if_pos g, if_pos g]; rfl
        · rw [if_neg g, if_neg g])
      have HP2 : Hid ((acc * u.n) * prodN (D.drop (k + 1)) = prodN D) := Lib.hid (by
        rw [← HP.out, drop_cons hDk, prodN, HUL.out, Nat.mul_assoc])
      have hprod : acc * u.n ≤ 1000000000 := Nat.le_trans (Nat.mul_le_mul hac hun) (by decide)
      have w1 : IntKind.i64.wrap (((acc : Nat) : Int) * ((u.n : Nat) : Int)) = ((acc * u.n : Nat) : Int) := by rw [← Int.natCast_mul]; exact IntWalk.i64_in _ (by omega)
      obtain ⟨pr, hpr⟩ : ∃ pr, pr = acc * u.n := ⟨_, rfl⟩
      rw [← hpr] at HS HP2 w1 hprod
      clear ux hul hDk ex HE HP hpr
      by_cases g : most < pr
      · have g1 : decide (most < pr) = true := by simpa using g
        have HF : Hid (RES = []) := Lib.hid (by rw [HS.out, if_pos g])
        clear g HS HP2
        go_wp2_with fail
        go_ret
        have HN : Hid (RowsO w.heap.size w ⟨none, 0, 0⟩ [] RES) := Lib.hid (by rw [HF.out]; exact RowsO.nil _ _)
        first
          | exact ⟨⟨⟨none, 0, 0⟩, [], rfl, HN.out⟩, Below.refl _ _⟩
          | exact ⟨⟨⟨none, 0, 0⟩, rfl, [], HN.out⟩, Below.refl _ _⟩
      · have g1 : decide (most < pr) = false := by simpa using g
        have HF : Hid (RES = if overP most pr (D.drop (k + 1)) then [] else (List.range (prodN D)).map (rowP D)) := Lib.hid (by rw [HS.out, if_neg g])
        have hpm : pr ≤ 1000000 := by omega
        clear g HS hprod
        go_wp2_with fail
        go_roundw
        case rel => exact ⟨k + 1, pr, rfl, by go_num, by omega, hpm, HF, HP2, Lib.hid (by first | rfl | trivial)⟩
        case measure => simp [intOf]; omega
    · obtain rfl : k = x.n := by omega
      have hdr : D.drop x.n = [] := by rw [HLN.out]; exact List.drop_length
      have HF : Hid (RES = (List.range acc).map (rowP D)) := Lib.hid (by
        have h1 := HP.out
        rw [hdr, prodN, Nat.mul_one] at h1
        rw [HE.out, hdr, overP, ← h1]
        rfl)
      have HPA : Hid (acc = prodN D) := Lib.hid (by
        have h1 := HP.out
        rwa [hdr, prodN, Nat.mul_one] at h1)
      clear HE HP hdr hlt
      have hacn : acc ≤ 1000000 := hac
      go_wp2_with fail
      go_loopw [7, 8] (fun s i wr => ∃ (k : Nat) (y : Sl) (xs : List Sl), s = .slice y.A y.n y.c ∧ i = .int .i64 (k : Nat) ∧ k ≤ acc ∧ Hid (RowsO w.heap.size wr y xs ((List.range k).map (rowP D))) ∧ Hid (xs.length = k) ∧ Hid (Below w.heap.size w wr)) (fun _ i _ => acc - (intOf i).toNat)
      case atStart => exact ⟨0, ⟨none, 0, 0⟩, [], rfl, rfl, by omega, Lib.hid (RowsO.nil _ _), Lib.hid rfl, Lib.hid (Below.refl _ _)⟩
      case round =>
        obtain ⟨k, y, xs, rfl, rfl, hk, HO, HK, HB⟩ := hrel
        obtain ⟨wo, rfl⟩ : ∃ wo, wo = wr := ⟨_, rfl⟩
        by_cases hlt : k < acc
        · have HPOS : Hid (∀ j, j < x.n → 0 < (D.getD j []).length) := Lib.hid (fun j hj => by
            have hj' : j < D.length := by rw [← HLN.out]; exact hj
            rw [List.getD_eq_getElem?_getD, List.getElem?_eq_getElem hj']
            exact prod_pos (by rw [← HPA.out]; omega) _ (List.getElem_mem hj'))
          have HRZ := Lib.hid (HROW.out wo)
          have hmk := HMK.out wo
          have HBW := Lib.hid (below1 wo (.cells (madeCells #[.int .i64 0] x.n) 3))
          obtain ⟨wm, hwm⟩ : ∃ wm, wo.alloc (.cells (madeCells #[.int .i64 0] x.n) 3) = wm := ⟨_, rfl⟩
          rw [hwm] at HRZ hmk HBW
          clear hwm
          have wsub : IntKind.i64.wrap (((x.n : Nat) : Int) - 1) = ((x.n : Nat) : Int) - 1 := IntWalk.i64_in _ (by omega)
          go_wp2_with fail
          clear hmk wsub
          go_loopw [10, 11] (fun r i wr => ∃ (m q : Nat), i = .int .i64 (((m : Nat) : Int) - 1) ∧ r = .int .i64 (q : Nat) ∧ m ≤ x.n ∧ q ≤ 1000000 ∧ Hid (q = k / prodN (D.drop m)) ∧ Hid (wr.ownsRow wo.heap.size 3 1 (.slice (some ⟨wo.heap.size, 0, none⟩) x.n x.n) x.n (RZ m (rowP (D.drop m) k))) ∧ Hid (Below wo.heap.size wo wr)) (fun _ i _ => (intOf i + 1).toNat)
          case atStart =>
            have hdr : D.drop x.n = [] := by rw [HLN.out]; exact List.drop_length
            exact ⟨x.n, k, rfl, rfl, by omega, by omega, Lib.hid (by rw [hdr, prodN, Nat.div_one]), Lib.hid (by rw [hdr]; exact HRZ.out), HBW⟩
          case round =>
            clear HRZ HBW
            obtain ⟨m, q, rfl, rfl, hm', hq, HQ, HRR, HBB⟩ := hrel
            by_cases hm0 : 0 < m
            · obtain ⟨j, rfl⟩ : ∃ j, m = j + 1 := ⟨m - 1, by omega⟩
              have hjx : j < x.n := by omega
              have ej : (((j + 1 : Nat) : Int) - 1) = (j : Nat) := by omega
              obtain ⟨ad, u, ex, qx0, ux⟩ := rows_at (HX.out.below HB.out) j hjx
              have hup : 0 < u.n := by rw [ux.len]; exact HPOS.out j hjx
              have hun : u.n ≤ 1000 := by rw [ux.len]; exact HLL.out j hjx
              obtain ⟨s, hs⟩ : ∃ s, s = q % u.n := ⟨_, rfl⟩
              have hsu : s < u.n := hs ▸ Nat.mod_lt _ hup
              obtain ⟨a1, ea1, q5⟩ := ints_at (ux.below HBB.out) s hsu
              rw [ea1] at qx0
              have QX0 := Lib.hid qx0
              have q4 : wr.cell? (ad.add j) = some (.slice (some a1) u.n u.c) := (HBB.out.cell (lt_of_cell qx0)).trans qx0
              have hDj : j < D.length := by rw [← HLN.out]; exact hjx
              have HST : Hid (RZ j ((D.getD j []).getD s 0 :: rowP (D.drop (j + 1)) k) = RZ j (rowP (D.drop j) k)) := Lib.hid (by
                rw [drop_cons hDj, rowP, ← HQ.out, ← ux.len, ← hs])
              have HQ2 : Hid (q / u.n = k / prodN (D.drop j)) := Lib.hid (by
                rw [drop_cons hDj, prodN, HQ.out, Nat.div_div_eq_div_mul, ← ux.len, Nat.mul_comm])
              have m1 : IntKind.i64.wrap (((q : Nat) : Int).tmod ((u.n : Nat) : Int)) = (s : Nat) := by
                rw [Int.tmod_eq_emod_of_nonneg (by omega), ← Int.natCast_emod, ← hs]; exact IntWalk.i64_in _ (by omega)
              have m1' : ((q : Nat) : Int).tmod ((u.n : Nat) : Int) = (s : Nat) := by
                rw [Int.tmod_eq_emod_of_nonneg (by omega), ← Int.natCast_emod, ← hs]
              have m1'' : ((q : Nat) : Int) % ((u.n : Nat) : Int) = (s : Nat) := by rw [← Int.natCast_emod, ← hs]
              obtain ⟨q', hq'⟩ : ∃ q', q' = q / u.n := ⟨_, rfl⟩
              have hq'b : q' ≤ 1000000 := hq' ▸ Nat.le_trans (Nat.div_le_self _ _) hq
              have m2 : ((q : Nat) : Int).tdiv ((u.n : Nat) : Int) = (q' : Nat) := by
                rw [Int.tdiv_eq_ediv_of_nonneg (by omega), ← Int.natCast_ediv, ← hq']
              have m2' : ((q : Nat) : Int) / ((u.n : Nat) : Int) = (q' : Nat) := by rw [← Int.natCast_ediv, ← hq']
              have n0 : (((u.n : Nat) : Int) == 0) = false := by simp; omega
              have n1 : ¬ ((u.n : Nat) : Int) = 0 := by omega
              have n2 : ¬ u.n = 0 := by omega
              rw [← hq'] at HQ2
              generalize (D.getD j []).getD s 0 = z at q5 HST
              have HRd : Hid (wr.drew.ownsRow wo.heap.size 3 1 (.slice (some ⟨wo.heap.size, 0, none⟩) x.n x.n) x.n (RZ (j + 1) (rowP (D.drop (j + 1)) k))) := Lib.hid HRR.out
              have HBd : Hid (Below wo.heap.size wo wr.drew) := Lib.hid HBB.out.drew
              have wj : IntKind.i64.wrap (((j : Nat) : Int) - 1) = ((j : Nat) : Int) - 1 := IntWalk.i64_in _ (by omega)
              rw [ej, ex]
              clear HRR HQ ux hs hq' hDj ea1 ex hm0 HBB qx0
              go_upto_region 17 with fail
              go_still_tail 16, (by kernel_rfl)
              change wpList _ _ _ _ _ wr.drew
              generalize wr.drew = wd at *
              clear q4 q5
              have cw := HRd.out.cellAt j (by omega)
              have hst := (HRd.out.stored j (.int .i64 z)).1
              rw [RZ_set, HST.out] at hst
              have HR2 := Lib.hid hst
              have fw := HRd.out.frozenAt j
              have cj : ∃ uu, wd.cell? ⟨wo.heap.size, j, none⟩ = some uu := by
                rw [cw]
                have : j < (RZ (j + 1) (rowP (D.drop (j + 1)) k)).length := by unfold RZ; simp; omega
                exact ⟨_, List.getElem?_eq_getElem this⟩
              obtain ⟨uu, cj⟩ := cj
              have HB2 := Lib.hid (HBd.out.setCell (p := ⟨wo.heap.size, j, none⟩) (Nat.le_refl _) (.int .i64 z))
              have q6 : (wd.setCell ⟨wo.heap.size, j, none⟩ (.int .i64 z)).cell? (ad.add j) = some (.slice (some a1) u.n u.c) := (HB2.out.cell (lt_of_cell QX0.out)).trans QX0.out
              clear cw hst HST HRd HBd
              go_wp2_with fail
              go_roundw
              case rel => exact ⟨j, q', rfl, rfl, by omega, hq'b, HQ2, HR2, HB2⟩
              case measure => simp [intOf] <;> omega
            · obtain rfl : m = 0 := by omega
              have HN : Hid (Row3 wr w.heap.size ⟨some ⟨wo.heap.size, 0, none⟩, x.n, x.n⟩ (rowP D k)) := Lib.hid (by
                have h0 := HRR.out
                have h1 : (rowP D k).length = x.n := by rw [rowP_len, HLN.out]
                unfold Row3
                rw [h1]
                have h2 : RZ 0 (rowP (D.drop 0) k) = I (rowP D k) := by unfold RZ; simp
                rw [h2] at h0
                exact own_base h0 HB.out.size)
              have HO2 := Lib.hid (HO.out.below HBB.out)
              have HB2 := Lib.hid (HB.out.trans (HBB.out.mono HB.out.size))
              have K2 := below1 wr (.cells #[.slice (some ⟨wo.heap.size, 0, none⟩) x.n x.n] 26)
              have HO3 := Lib.hid (HO2.out.below K2)
              have HN3 : Hid (Row3 (wr.alloc (.cells #[.slice (some ⟨wo.heap.size, 0, none⟩) x.n x.n] 26)) w.heap.size ⟨some ⟨wo.heap.size, 0, none⟩, x.n, x.n⟩ (rowP D k)) := Lib.hid (own_keep' HN.out fun g hg => K2.block g (own_lt' HN.out hg).2)
              have HB3 := Lib.hid (HB2.out.trans (K2.mono HB2.out.size))
              have Z3 : Hid (xs.length + 1 ≤ maxLen) := Lib.hid (by have := HK.out; unfold maxLen; omega)
              have Z4 : Hid ((xs.length + 1) * 24 ≤ 140737488355328) := Lib.hid (by have := HK.out; omega)
              have HT2 : Hid ((List.range (k + 1)).map (rowP D) = (List.range k).map (rowP D) ++ [rowP D k]) := Lib.hid (by rw [List.range_succ, List.map_append]; rfl)
              clear K2 HO HB HO2 HN HRR HQ HBB
              go_wp2_with (at_builtin; refine wpList_append_own _ rfl _ _ 29 rfl w.heap.size 26 i0 (.slice none 0 0) 1 24 Tryz.underlying29 HI.out.1 HI.out.2.1 HI.out.2.2.1 HI.out.2.2.2 rfl (by decide) _ _ _ rfl HO3.out.row ⟨_, 0, none⟩ 1 1 [.slice (some ⟨wo.heap.size, 0, none⟩) x.n x.n] rfl rfl ?c1 ?c2 Z3.out Z4.out HB3.out.size ?_)
              case c1 => intro j u hj; match j, hj with | 0, hj => simp at hj; subst hj; simp [Addr.add]
              case c2 => intro u hu; simp at hu; subst hu; rfl
              intro v' w7 hown' hgrow _
              obtain ⟨Y, kY, rfl⟩ := slice_row hown'
              have HO7 : Hid (RowsO w.heap.size w7 ⟨Y, xs.length + 1, kY⟩ (xs ++ [⟨some ⟨wo.heap.size, 0, none⟩, x.n, x.n⟩]) ((List.range (k + 1)).map (rowP D))) := Lib.hid (by
                rw [HT2.out]
                exact HO3.out.step HN3.out hown' hgrow)
              have HB7 := Lib.hid (HB3.out.grown hgrow HB3.out.size (own_ge HO3.out.row))
              have HK7 : Hid ((xs ++ [(⟨some ⟨wo.heap.size, 0, none⟩, x.n, x.n⟩ : Sl)]).length = k + 1) := Lib.hid (by simp [HK.out])
              clear hown' hgrow HO3 HN3 HB3 HB2 HT2 Z3 Z4 HK
              go_wp2_with fail
              go_roundw
              case rel => exact ⟨k + 1, ⟨Y, _, kY⟩, xs ++ [⟨some ⟨wo.heap.size, 0, none⟩, x.n, x.n⟩], rfl, by go_num, by omega, HO7, HK7, HB7⟩
              case measure => simp [intOf]; omega
        · have HG : Hid (RowsO w.heap.size wo y xs RES) := Lib.hid (by
            rw [HF.out, show acc = k by omega]
            exact HO.out)
          clear HO HF HPA
          go_wp2_with fail
          go_ret
          exact ⟨⟨y, xs, rfl, HG.out⟩, HB.out⟩
end Go.Proofs.YtcmdgjkoalophaaGreatDoor

/- Contract: the document's Arity. -/
import Derived.Test.YtkhmocbfkpbpfaaGreatDoorMshapes
import Derived.Deep.DeepCutAuto
namespace Go.Proofs.YtkhmocbfkpbpfaaGreatDoor
open Go.RowKit Go.Sort

theorem in_regrown {f : Nat} {args : Array Value} {w : World} {v : Value} (h : ∀ W, Below w.heap.size w W → Calls Tryz.prog f args W fun e w' => e = .returned v ∧ W = w') : ∀ d os, Calls Tryz.prog f args (grow (redrawn w d) os) fun e w'' => e = .returned v ∧ ∃ p : Regrown, w'' = grow (redrawn w p.d) p.os := fun d os => Calls.regrown_of ((h _ (below_regrown _ d os)).mono fun _ _ q => ⟨q.1, q.2 ▸ Below.refl _ _⟩)

set_option maxHeartbeats 16000000 in
set_option maxRecDepth 100000 in
theorem arity_any (v : ConV) (c : ConL) (sh : ByteArray) (w : World) (h : ConIn w v c) (hs : sh.size ≤ 4611686018427387904) : Calls Tryz.prog 129 #[v.val c.kind c.K, .string sh] w fun e w' => e = .returned (.bool (arityB c sh)) ∧ Below w.heap.size w w' := by
  have K107 : Hid (∀ W, Calls Tryz.prog 73 #[.string sh, .int .u8 107] W fun e w' => e = .returned (.int .i64 (cntI sh 107)) ∧ W = w') := Lib.hid (fun W => refHas_any sh 107 W hs)
  have K118 : Hid (∀ W, Calls Tryz.prog 73 #[.string sh, .int .u8 118] W fun e w' => e = .returned (.int .i64 (cntI sh 118)) ∧ W = w') := Lib.hid (fun W => refHas_any sh 118 W hs)
  have K86 : Hid (∀ W, Calls Tryz.prog 73 #[.string sh, .int .u8 86] W fun e w' => e = .returned (.int .i64 (cntI sh 86)) ∧ W = w') := Lib.hid (fun W => refHas_any sh 86 W hs)
  have K119 : Hid (∀ W, Calls Tryz.prog 73 #[.string sh, .int .u8 119] W fun e w' => e = .returned (.int .i64 (cntI sh 119)) ∧ W = w') := Lib.hid (fun W => refHas_any sh 119 W hs)
  have K87 : Hid (∀ W, Calls Tryz.prog 73 #[.string sh, .int .u8 87] W fun e w' => e = .returned (.int .i64 (cntI sh 87)) ∧ W = w') := Lib.hid (fun W => refHas_any sh 87 W hs)
  have K99 : Hid (∀ W, Calls Tryz.prog 73 #[.string sh, .int .u8 99] W fun e w' => e = .returned (.int .i64 (cntI sh 99)) ∧ W = w') := Lib.hid (fun W => refHas_any sh 99 W hs)
  have K100 : Hid (∀ W, Calls Tryz.prog 73 #[.string sh, .int .u8 100] W fun e w' => e = .returned (.int .i64 (cntI sh 100)) ∧ W = w') := Lib.hid (fun W => refHas_any sh 100 W hs)
  have K101 : Hid (∀ W, Calls Tryz.prog 73 #[.string sh, .int .u8 101] W fun e w' => e = .returned (.int .i64 (cntI sh 101)) ∧ W = w') := Lib.hid (fun W => refHas_any sh 101 W hs)
  have K114 : Hid (∀ W, Calls Tryz.prog 73 #[.string sh, .int .u8 114] W fun e w' => e = .returned (.int .i64 (cntI sh 114)) ∧ W = w') := Lib.hid (fun W => refHas_any sh 114 W hs)
  have hR := h.r
  have ha := h.a.big
  have hb := h.b.big
  have eA : lenI c.A = ((v.a.n : Nat) : Int) := by unfold lenI; rw [h.a.len]
  have eB : lenI c.B = ((v.b.n : Nat) : Int) := by unfold lenI; rw [h.b.len]
  have eC : lenI c.C = ((v.c.n : Nat) : Int) := by unfold lenI; rw [h.c.len]
  have eD : lenI c.D = ((v.d.n : Nat) : Int) := by unfold lenI; rw [h.d.len]
  have eE : lenI c.E = ((v.e.n : Nat) : Int) := by unfold lenI; rw [h.e.len]
  have eR : ((c.rows.length : Nat) : Int) = ((v.r.n : Nat) : Int) := by rw [h.r.len]
  have eL : c.A.length = v.a.n := h.a.len.symm
  unfold arityB
  rw [eA, eB, eC, eD, eE, eR, eL]
  have p114 : 0 ≤ cntI sh 114 := by unfold cntI; omega
  generalize cntI sh 107 = n107 at *
  generalize cntI sh 118 = n118 at *
  generalize cntI sh 86 = n86 at *
  generalize cntI sh 119 = n119 at *
  generalize cntI sh 87 = n87 at *
  generalize cntI sh 99 = n99 at *
  generalize cntI sh 100 = n100 at *
  generalize cntI sh 101 = n101 at *
  generalize cntI sh 114 = n114 at *
  have LX : Hid (∀ W, Calls Tryz.prog 179 #[.int .i64 ((v.a.n : Nat) : Int), .int .i64 n118, .int .i64 n86] W fun e w' => e = .returned (.bool (listB ((v.a.n : Nat) : Int) n118 n86)) ∧ W = w') := Lib.hid (fun W => refList_any _ _ _ W)
  generalize listB ((v.a.n : Nat) : Int) n118 n86 = tX at *
  have LY : Hid (∀ W, Calls Tryz.prog 179 #[.int .i64 ((v.b.n : Nat) : Int), .int .i64 n119, .int .i64 n87] W fun e w' => e = .returned (.bool (listB ((v.b.n : Nat) : Int) n119 n87)) ∧ W = w') := Lib.hid (fun W => refList_any _ _ _ W)
  generalize listB ((v.b.n : Nat) : Int) n119 n87 = tY at *
  have LP : Hid (∀ W, Calls Tryz.prog 179 #[.int .i64 ((v.c.n : Nat) : Int), .int .i64 0, .int .i64 n99] W fun e w' => e = .returned (.bool (listB ((v.c.n : Nat) : Int) 0 n99)) ∧ W = w') := Lib.hid (fun W => refList_any _ _ _ W)
  generalize listB ((v.c.n : Nat) : Int) 0 n99 = tP at *
  have LQ : Hid (∀ W, Calls Tryz.prog 179 #[.int .i64 ((v.d.n : Nat) : Int), .int .i64 0, .int .i64 n100] W fun e w' => e = .returned (.bool (listB ((v.d.n : Nat) : Int) 0 n100)) ∧ W = w') := Lib.hid (fun W => refList_any _ _ _ W)
  generalize listB ((v.d.n : Nat) : Int) 0 n100 = tQ at *
  have LS : Hid (∀ W, Calls Tryz.prog 179 #[.int .i64 ((v.e.n : Nat) : Int), .int .i64 0, .int .i64 n101] W fun e w' => e = .returned (.bool (listB ((v.e.n : Nat) : Int) 0 n101)) ∧ W = w') := Lib.hid (fun W => refList_any _ _ _ W)
  generalize listB ((v.e.n : Nat) : Int) 0 n101 = tS at *
  generalize hRR : c.rows = RR at *
  obtain ⟨hrn, hrbig, hrl⟩ := hR
  have HRL := Lib.hid hrl
  have HRN : Hid (v.r.n = RR.length) := Lib.hid hrn
  clear hrl hrn eA eB eC eD eE eR eL hRR h
  generalize c.kind = kd at *
  generalize c.K = kk at *
  have HT3 : Hid (∃ T, (kk != 0 && n107 == 0) = T) := Lib.hid ⟨_, rfl⟩
  generalize hT3 : (kk != 0 && n107 == 0) = T3
  clear HT3
  have HT3 := Lib.hid hT3
  clear hT3
  have HT6 : Hid (∃ T, (decide (1 ≤ ((v.a.n : Nat) : Int) + ((v.b.n : Nat) : Int)) && decide (((v.a.n : Nat) : Int) ≤ 64) && decide (((v.b.n : Nat) : Int) ≤ 64) && ((v.c.n : Nat) : Int) == 0 && ((v.d.n : Nat) : Int) == 0 && ((v.e.n : Nat) : Int) == 0 && ((v.r.n : Nat) : Int) == 0) = T) := Lib.hid ⟨_, rfl⟩
  generalize hT6 : (decide (1 ≤ ((v.a.n : Nat) : Int) + ((v.b.n : Nat) : Int)) && decide (((v.a.n : Nat) : Int) ≤ 64) && decide (((v.b.n : Nat) : Int) ≤ 64) && ((v.c.n : Nat) : Int) == 0 && ((v.d.n : Nat) : Int) == 0 && ((v.e.n : Nat) : Int) == 0 && ((v.r.n : Nat) : Int) == 0) = T6
  clear HT6
  have HT6 := Lib.hid hT6
  clear hT6
  have HT12 : Hid (∃ T, (!tX || !tY || !tP || !tQ || !tS) = T) := Lib.hid ⟨_, rfl⟩
  generalize hT12 : (!tX || !tY || !tP || !tQ || !tS) = T12
  clear HT12
  have HT12 := Lib.hid hT12
  clear hT12
  have HT14 : Hid (∃ T, (n114 == 0 && decide (0 < ((v.r.n : Nat) : Int)) || decide (0 < n114) && (decide (((v.r.n : Nat) : Int) < 1) || decide (1024 < ((v.r.n : Nat) : Int)))) = T) := Lib.hid ⟨_, rfl⟩
  generalize hT14 : (n114 == 0 && decide (0 < ((v.r.n : Nat) : Int)) || decide (0 < n114) && (decide (((v.r.n : Nat) : Int) < 1) || decide (1024 < ((v.r.n : Nat) : Int)))) = T14
  clear HT14
  have HT14 := Lib.hid hT14
  clear hT14
  have HT16 : Hid (∃ T, (decide (kd ≤ 4) && ((v.c.n : Nat) : Int) != ((v.a.n : Nat) : Int)) = T) := Lib.hid ⟨_, rfl⟩
  generalize hT16 : (decide (kd ≤ 4) && ((v.c.n : Nat) : Int) != ((v.a.n : Nat) : Int)) = T16
  clear HT16
  have HT16 := Lib.hid hT16
  clear hT16
  have HT18 : Hid (∃ T, (kd == 19 && (((v.c.n : Nat) : Int) != ((v.a.n : Nat) : Int) || ((v.d.n : Nat) : Int) != ((v.a.n : Nat) : Int)) || kd == 21 && (((v.d.n : Nat) : Int) != ((v.c.n : Nat) : Int) || ((v.e.n : Nat) : Int) != ((v.c.n : Nat) : Int)) || decide (22 ≤ kd) && ((v.b.n : Nat) : Int) != ((v.a.n : Nat) : Int)) = T) := Lib.hid ⟨_, rfl⟩
  generalize hT18 : (kd == 19 && (((v.c.n : Nat) : Int) != ((v.a.n : Nat) : Int) || ((v.d.n : Nat) : Int) != ((v.a.n : Nat) : Int)) || kd == 21 && (((v.d.n : Nat) : Int) != ((v.c.n : Nat) : Int) || ((v.e.n : Nat) : Int) != ((v.c.n : Nat) : Int)) || decide (22 ≤ kd) && ((v.b.n : Nat) : Int) != ((v.a.n : Nat) : Int)) = T18
  clear HT18
  have HT18 := Lib.hid hT18
  clear hT18
  generalize hRES : (!RR.any (fun r => r.length != v.a.n)) = RES
  have HRES := Lib.hid hRES
  clear hRES
  generalize h12 : (kd == 12) = T5
  obtain ⟨wb, hwb⟩ : ∃ wb, (w.alloc (.cells (v.cells kd kk) 32)) = wb := ⟨_, rfl⟩
  have Bb : Hid (Below (w.heap.size + 1) (w.alloc (.cells (v.cells kd kk) 32)) wb) := Lib.hid (by rw [← hwb, show w.heap.size + 1 = (w.alloc (.cells (v.cells kd kk) 32)).heap.size by simp]; exact Below.refl _ _)
  have HWB := Lib.hid hwb
  clear hwb
  go_enter Tryz.func129, Tryz.ntmps129
  go_upto_region 1 with fail
  change Code.wp _ _ _ _ (w.alloc (.cells (v.cells kd kk) 32))
  rw [HWB.out]
  clear HWB
  obtain ⟨c0, c1, c2, c3, c4, c5, c6, c7⟩ := box8 Bb.out
  go_upto_region 3 with (first | (go_at_call 73; with_reducible refine (K107.out _).mono ?_; rintro e w' ⟨rfl, rfl⟩) | (go_at_call 73; with_reducible refine (K118.out _).mono ?_; rintro e w' ⟨rfl, rfl⟩) | (go_at_call 73; with_reducible refine (K86.out _).mono ?_; rintro e w' ⟨rfl, rfl⟩) | (go_at_call 73; with_reducible refine (K119.out _).mono ?_; rintro e w' ⟨rfl, rfl⟩) | (go_at_call 73; with_reducible refine (K87.out _).mono ?_; rintro e w' ⟨rfl, rfl⟩) | (go_at_call 73; with_reducible refine (K99.out _).mono ?_; rintro e w' ⟨rfl, rfl⟩) | (go_at_call 73; with_reducible refine (K100.out _).mono ?_; rintro e w' ⟨rfl, rfl⟩) | (go_at_call 73; with_reducible refine (K101.out _).mono ?_; rintro e w' ⟨rfl, rfl⟩) | (go_at_call 73; with_reducible refine (K114.out _).mono ?_; rintro e w' ⟨rfl, rfl⟩) | (go_at_call 179; with_reducible refine (LX.out _).mono ?_; rintro e w' ⟨rfl, rfl⟩) | (go_at_call 179; with_reducible refine (LY.out _).mono ?_; rintro e w' ⟨rfl, rfl⟩) | (go_at_call 179; with_reducible refine (LP.out _).mono ?_; rintro e w' ⟨rfl, rfl⟩) | (go_at_call 179; with_reducible refine (LQ.out _).mono ?_; rintro e w' ⟨rfl, rfl⟩) | (go_at_call 179; with_reducible refine (LS.out _).mono ?_; rintro e w' ⟨rfl, rfl⟩))
  go_cut [26] (fun a wx => a = .bool T3 ∧ wb = wx)
  case first =>
    by_cases hk : kk = 0
    · have hk1 : (kk != 0) = false := by simp; omega
      have HV : Hid (T3 = false) := Lib.hid (by rw [← HT3.out, Bool.eq_iff_iff]; simp <;> omega)
      as_aux_lemma =>
        go_wp2_with (first | (go_at_call 73; with_reducible refine (K107.out _).mono ?_; rintro e w' ⟨rfl, rfl⟩) | (go_at_call 73; with_reducible refine (K118.out _).mono ?_; rintro e w' ⟨rfl, rfl⟩) | (go_at_call 73; with_reducible refine (K86.out _).mono ?_; rintro e w' ⟨rfl, rfl⟩) | (go_at_call 73; with_reducible refine (K119.out _).mono ?_; rintro e w' ⟨rfl, rfl⟩) | (go_at_call 73; with_reducible refine (K87.out _).mono ?_; rintro e w' ⟨rfl, rfl⟩) | (go_at_call 73; with_reducible refine (K99.out _).mono ?_; rintro e w' ⟨rfl, rfl⟩) | (go_at_call 73; with_reducible refine (K100.out _).mono ?_; rintro e w' ⟨rfl, rfl⟩) | (go_at_call 73; with_reducible refine (K101.out _).mono ?_; rintro e w' ⟨rfl, rfl⟩) | (go_at_call 73; with_reducible refine (K114.out _).mono ?_; rintro e w' ⟨rfl, rfl⟩) | (go_at_call 179; with_reducible refine (LX.out _).mono ?_; rintro e w' ⟨rfl, rfl⟩) | (go_at_call 179; with_reducible refine (LY.out _).mono ?_; rintro e w' ⟨rfl, rfl⟩) | (go_at_call 179; with_reducible refine (LP.out _).mono ?_; rintro e w' ⟨rfl, rfl⟩) | (go_at_call 179; with_reducible refine (LQ.out _).mono ?_; rintro e w' ⟨rfl, rfl⟩) | (go_at_call 179; with_reducible refine (LS.out _).mono ?_; rintro e w' ⟨rfl, rfl⟩))
        go_meet
        case rel => exact ⟨congrArg Value.bool (by cases HV.out; first | rfl | (rw [Bool.eq_iff_iff]; simp <;> omega)), by first | rfl | trivial⟩
    · have hk1 : (kk != 0) = true := by simp; omega
      by_cases hn : n107 = 0
      · have hn1 : (n107 == 0) = true := by simp; omega
        have HV : Hid (T3 = true) := Lib.hid (by rw [← HT3.out, Bool.eq_iff_iff]; simp <;> omega)
        as_aux_lemma =>
          go_wp2_with (first | (go_at_call 73; with_reducible refine (K107.out _).mono ?_; rintro e w' ⟨rfl, rfl⟩) | (go_at_call 73; with_reducible refine (K118.out _).mono ?_; rintro e w' ⟨rfl, rfl⟩) | (go_at_call 73; with_reducible refine (K86.out _).mono ?_; rintro e w' ⟨rfl, rfl⟩) | (go_at_call 73; with_reducible refine (K119.out _).mono ?_; rintro e w' ⟨rfl, rfl⟩) | (go_at_call 73; with_reducible refine (K87.out _).mono ?_; rintro e w' ⟨rfl, rfl⟩) | (go_at_call 73; with_reducible refine (K99.out _).mono ?_; rintro e w' ⟨rfl, rfl⟩) | (go_at_call 73; with_reducible refine (K100.out _).mono ?_; rintro e w' ⟨rfl, rfl⟩) | (go_at_call 73; with_reducible refine (K101.out _).mono ?_; rintro e w' ⟨rfl, rfl⟩) | (go_at_call 73; with_reducible refine (K114.out _).mono ?_; rintro e w' ⟨rfl, rfl⟩) | (go_at_call 179; with_reducible refine (LX.out _).mono ?_; rintro e w' ⟨rfl, rfl⟩) | (go_at_call 179; with_reducible refine (LY.out _).mono ?_; rintro e w' ⟨rfl, rfl⟩) | (go_at_call 179; with_reducible refine (LP.out _).mono ?_; rintro e w' ⟨rfl, rfl⟩) | (go_at_call 179; with_reducible refine (LQ.out _).mono ?_; rintro e w' ⟨rfl, rfl⟩) | (go_at_call 179; with_reducible refine (LS.out _).mono ?_; rintro e w' ⟨rfl, rfl⟩))
          go_meet
          case rel => exact ⟨congrArg Value.bool (by cases HV.out; first | rfl | (rw [Bool.eq_iff_iff]; simp <;> omega)), by first | rfl | trivial⟩
      · have hn1 : (n107 == 0) = false := by simp; omega
        have HV : Hid (T3 = false) := Lib.hid (by rw [← HT3.out, Bool.eq_iff_iff]; simp <;> omega)
        as_aux_lemma =>
          go_wp2_with (first | (go_at_call 73; with_reducible refine (K107.out _).mono ?_; rintro e w' ⟨rfl, rfl⟩) | (go_at_call 73; with_reducible refine (K118.out _).mono ?_; rintro e w' ⟨rfl, rfl⟩) | (go_at_call 73; with_reducible refine (K86.out _).mono ?_; rintro e w' ⟨rfl, rfl⟩) | (go_at_call 73; with_reducible refine (K119.out _).mono ?_; rintro e w' ⟨rfl, rfl⟩) | (go_at_call 73; with_reducible refine (K87.out _).mono ?_; rintro e w' ⟨rfl, rfl⟩) | (go_at_call 73; with_reducible refine (K99.out _).mono ?_; rintro e w' ⟨rfl, rfl⟩) | (go_at_call 73; with_reducible refine (K100.out _).mono ?_; rintro e w' ⟨rfl, rfl⟩) | (go_at_call 73; with_reducible refine (K101.out _).mono ?_; rintro e w' ⟨rfl, rfl⟩) | (go_at_call 73; with_reducible refine (K114.out _).mono ?_; rintro e w' ⟨rfl, rfl⟩) | (go_at_call 179; with_reducible refine (LX.out _).mono ?_; rintro e w' ⟨rfl, rfl⟩) | (go_at_call 179; with_reducible refine (LY.out _).mono ?_; rintro e w' ⟨rfl, rfl⟩) | (go_at_call 179; with_reducible refine (LP.out _).mono ?_; rintro e w' ⟨rfl, rfl⟩) | (go_at_call 179; with_reducible refine (LQ.out _).mono ?_; rintro e w' ⟨rfl, rfl⟩) | (go_at_call 179; with_reducible refine (LS.out _).mono ?_; rintro e w' ⟨rfl, rfl⟩))
          go_meet
          case rel => exact ⟨congrArg Value.bool (by cases HV.out; first | rfl | (rw [Bool.eq_iff_iff]; simp <;> omega)), by first | rfl | trivial⟩
  case rest =>
    obtain ⟨rfl, rfl⟩ := hcut
    cases T3
    · cases T5
      · go_upto_region 9 with (first | (go_at_call 73; with_reducible refine (K107.out _).mono ?_; rintro e w' ⟨rfl, rfl⟩) | (go_at_call 73; with_reducible refine (K118.out _).mono ?_; rintro e w' ⟨rfl, rfl⟩) | (go_at_call 73; with_reducible refine (K86.out _).mono ?_; rintro e w' ⟨rfl, rfl⟩) | (go_at_call 73; with_reducible refine (K119.out _).mono ?_; rintro e w' ⟨rfl, rfl⟩) | (go_at_call 73; with_reducible refine (K87.out _).mono ?_; rintro e w' ⟨rfl, rfl⟩) | (go_at_call 73; with_reducible refine (K99.out _).mono ?_; rintro e w' ⟨rfl, rfl⟩) | (go_at_call 73; with_reducible refine (K100.out _).mono ?_; rintro e w' ⟨rfl, rfl⟩) | (go_at_call 73; with_reducible refine (K101.out _).mono ?_; rintro e w' ⟨rfl, rfl⟩) | (go_at_call 73; with_reducible refine (K114.out _).mono ?_; rintro e w' ⟨rfl, rfl⟩) | (go_at_call 179; with_reducible refine (LX.out _).mono ?_; rintro e w' ⟨rfl, rfl⟩) | (go_at_call 179; with_reducible refine (LY.out _).mono ?_; rintro e w' ⟨rfl, rfl⟩) | (go_at_call 179; with_reducible refine (LP.out _).mono ?_; rintro e w' ⟨rfl, rfl⟩) | (go_at_call 179; with_reducible refine (LQ.out _).mono ?_; rintro e w' ⟨rfl, rfl⟩) | (go_at_call 179; with_reducible refine (LS.out _).mono ?_; rintro e w' ⟨rfl, rfl⟩))
        clear c0 c1 c2 c3 c4 c5 c6 c7
        obtain ⟨b0, b1, b2, b3, b4, b5, b6, b7⟩ := ConBox.of Bb.out
        refine wp_region_quiet_below (by kernel_rfl) (by kernel_rfl) ?_
        repeat (first | go_big_quiet_step (first | (go_at_call 73; with_reducible exact in_regrown (fun W _ => K99.out W) _ _) | (go_at_call 73; with_reducible exact in_regrown (fun W _ => K100.out W) _ _) | (go_at_call 73; with_reducible exact in_regrown (fun W _ => K101.out W) _ _) | (go_at_call 179; with_reducible exact in_regrown (fun W _ => LP.out W) _ _) | (go_at_call 179; with_reducible exact in_regrown (fun W _ => LQ.out W) _ _) | (go_at_call 179; with_reducible exact in_regrown (fun W _ => LS.out W) _ _)) | quiet_step (first | (go_at_call 73; with_reducible exact in_regrown (fun W _ => K99.out W) _ _) | (go_at_call 73; with_reducible exact in_regrown (fun W _ => K100.out W) _ _) | (go_at_call 73; with_reducible exact in_regrown (fun W _ => K101.out W) _ _) | (go_at_call 179; with_reducible exact in_regrown (fun W _ => LP.out W) _ _) | (go_at_call 179; with_reducible exact in_regrown (fun W _ => LQ.out W) _ _) | (go_at_call 179; with_reducible exact in_regrown (fun W _ => LS.out W) _ _)))
        refine wpQuiet_nil ?_
        intro _ hw'
        obtain ⟨⟨dq, osq⟩, hw''⟩ := hw'
        subst hw''
        clear b0 b1 b2 b3 b4 b5 b6 b7
        have Bc : Hid (Below (w.heap.size + 1) (w.alloc (.cells (v.cells kd kk) 32)) (grow (redrawn wb dq) osq)) := Lib.hid (Bb.out.trans ((below_regrown wb dq osq).mono (by have := Bb.out.size; simpa using this)))
        generalize grow (redrawn wb dq) osq = wc at *
        obtain ⟨c0, c1, c2, c3, c4, c5, c6, c7⟩ := box8 Bc.out
        go_upto_region 10 with (first | (go_at_call 73; with_reducible refine (K107.out _).mono ?_; rintro e w' ⟨rfl, rfl⟩) | (go_at_call 73; with_reducible refine (K118.out _).mono ?_; rintro e w' ⟨rfl, rfl⟩) | (go_at_call 73; with_reducible refine (K86.out _).mono ?_; rintro e w' ⟨rfl, rfl⟩) | (go_at_call 73; with_reducible refine (K119.out _).mono ?_; rintro e w' ⟨rfl, rfl⟩) | (go_at_call 73; with_reducible refine (K87.out _).mono ?_; rintro e w' ⟨rfl, rfl⟩) | (go_at_call 73; with_reducible refine (K99.out _).mono ?_; rintro e w' ⟨rfl, rfl⟩) | (go_at_call 73; with_reducible refine (K100.out _).mono ?_; rintro e w' ⟨rfl, rfl⟩) | (go_at_call 73; with_reducible refine (K101.out _).mono ?_; rintro e w' ⟨rfl, rfl⟩) | (go_at_call 73; with_reducible refine (K114.out _).mono ?_; rintro e w' ⟨rfl, rfl⟩) | (go_at_call 179; with_reducible refine (LX.out _).mono ?_; rintro e w' ⟨rfl, rfl⟩) | (go_at_call 179; with_reducible refine (LY.out _).mono ?_; rintro e w' ⟨rfl, rfl⟩) | (go_at_call 179; with_reducible refine (LP.out _).mono ?_; rintro e w' ⟨rfl, rfl⟩) | (go_at_call 179; with_reducible refine (LQ.out _).mono ?_; rintro e w' ⟨rfl, rfl⟩) | (go_at_call 179; with_reducible refine (LS.out _).mono ?_; rintro e w' ⟨rfl, rfl⟩))
        clear c0 c1 c2 c3 c4 c5 c6 c7
        obtain ⟨b0, b1, b2, b3, b4, b5, b6, b7⟩ := ConBox.of Bc.out
        refine wp_region_quiet_below (by kernel_rfl) (by kernel_rfl) ?_
        repeat (first | go_big_quiet_step (first | (go_at_call 73; with_reducible exact in_regrown (fun W _ => K99.out W) _ _) | (go_at_call 73; with_reducible exact in_regrown (fun W _ => K100.out W) _ _) | (go_at_call 73; with_reducible exact in_regrown (fun W _ => K101.out W) _ _) | (go_at_call 179; with_reducible exact in_regrown (fun W _ => LP.out W) _ _) | (go_at_call 179; with_reducible exact in_regrown (fun W _ => LQ.out W) _ _) | (go_at_call 179; with_reducible exact in_regrown (fun W _ => LS.out W) _ _)) | quiet_step (first | (go_at_call 73; with_reducible exact in_regrown (fun W _ => K99.out W) _ _) | (go_at_call 73; with_reducible exact in_regrown (fun W _ => K100.out W) _ _) | (go_at_call 73; with_reducible exact in_regrown (fun W _ => K101.out W) _ _) | (go_at_call 179; with_reducible exact in_regrown (fun W _ => LP.out W) _ _) | (go_at_call 179; with_reducible exact in_regrown (fun W _ => LQ.out W) _ _) | (go_at_call 179; with_reducible exact in_regrown (fun W _ => LS.out W) _ _)))
        refine wpQuiet_nil ?_
        intro _ hw'
        obtain ⟨⟨dq, osq⟩, hw''⟩ := hw'
        subst hw''
        clear b0 b1 b2 b3 b4 b5 b6 b7
        have Bd : Hid (Below (w.heap.size + 1) (w.alloc (.cells (v.cells kd kk) 32)) (grow (redrawn wc dq) osq)) := Lib.hid (Bc.out.trans ((below_regrown wc dq osq).mono (by have := Bc.out.size; simpa using this)))
        generalize grow (redrawn wc dq) osq = wd at *
        obtain ⟨c0, c1, c2, c3, c4, c5, c6, c7⟩ := box8 Bd.out
        go_upto_region 11 with (first | (go_at_call 73; with_reducible refine (K107.out _).mono ?_; rintro e w' ⟨rfl, rfl⟩) | (go_at_call 73; with_reducible refine (K118.out _).mono ?_; rintro e w' ⟨rfl, rfl⟩) | (go_at_call 73; with_reducible refine (K86.out _).mono ?_; rintro e w' ⟨rfl, rfl⟩) | (go_at_call 73; with_reducible refine (K119.out _).mono ?_; rintro e w' ⟨rfl, rfl⟩) | (go_at_call 73; with_reducible refine (K87.out _).mono ?_; rintro e w' ⟨rfl, rfl⟩) | (go_at_call 73; with_reducible refine (K99.out _).mono ?_; rintro e w' ⟨rfl, rfl⟩) | (go_at_call 73; with_reducible refine (K100.out _).mono ?_; rintro e w' ⟨rfl, rfl⟩) | (go_at_call 73; with_reducible refine (K101.out _).mono ?_; rintro e w' ⟨rfl, rfl⟩) | (go_at_call 73; with_reducible refine (K114.out _).mono ?_; rintro e w' ⟨rfl, rfl⟩) | (go_at_call 179; with_reducible refine (LX.out _).mono ?_; rintro e w' ⟨rfl, rfl⟩) | (go_at_call 179; with_reducible refine (LY.out _).mono ?_; rintro e w' ⟨rfl, rfl⟩) | (go_at_call 179; with_reducible refine (LP.out _).mono ?_; rintro e w' ⟨rfl, rfl⟩) | (go_at_call 179; with_reducible refine (LQ.out _).mono ?_; rintro e w' ⟨rfl, rfl⟩) | (go_at_call 179; with_reducible refine (LS.out _).mono ?_; rintro e w' ⟨rfl, rfl⟩))
        clear c0 c1 c2 c3 c4 c5 c6 c7
        obtain ⟨b0, b1, b2, b3, b4, b5, b6, b7⟩ := ConBox.of Bd.out
        refine wp_region_quiet_below (by kernel_rfl) (by kernel_rfl) ?_
        repeat (first | go_big_quiet_step (first | (go_at_call 73; with_reducible exact in_regrown (fun W _ => K99.out W) _ _) | (go_at_call 73; with_reducible exact in_regrown (fun W _ => K100.out W) _ _) | (go_at_call 73; with_reducible exact in_regrown (fun W _ => K101.out W) _ _) | (go_at_call 179; with_reducible exact in_regrown (fun W _ => LP.out W) _ _) | (go_at_call 179; with_reducible exact in_regrown (fun W _ => LQ.out W) _ _) | (go_at_call 179; with_reducible exact in_regrown (fun W _ => LS.out W) _ _)) | quiet_step (first | (go_at_call 73; with_reducible exact in_regrown (fun W _ => K99.out W) _ _) | (go_at_call 73; with_reducible exact in_regrown (fun W _ => K100.out W) _ _) | (go_at_call 73; with_reducible exact in_regrown (fun W _ => K101.out W) _ _) | (go_at_call 179; with_reducible exact in_regrown (fun W _ => LP.out W) _ _) | (go_at_call 179; with_reducible exact in_regrown (fun W _ => LQ.out W) _ _) | (go_at_call 179; with_reducible exact in_regrown (fun W _ => LS.out W) _ _)))
        refine wpQuiet_nil ?_
        intro _ hw'
        obtain ⟨⟨dq, osq⟩, hw''⟩ := hw'
        subst hw''
        clear b0 b1 b2 b3 b4 b5 b6 b7
        have Be : Hid (Below (w.heap.size + 1) (w.alloc (.cells (v.cells kd kk) 32)) (grow (redrawn wd dq) osq)) := Lib.hid (Bd.out.trans ((below_regrown wd dq osq).mono (by have := Bd.out.size; simpa using this)))
        generalize grow (redrawn wd dq) osq = we at *
        obtain ⟨c0, c1, c2, c3, c4, c5, c6, c7⟩ := box8 Be.out
        go_upto_region 12 with fail
        go_cut [113] (fun a wx => a = .bool T12 ∧ we = wx)
        case first =>
          cases tX
          · as_aux_lemma =>
              go_wp2_with fail
              go_meet
              case rel => exact ⟨congrArg Value.bool (by rw [← HT12.out]; first | rfl | trivial), by first | rfl | trivial⟩
          · skip
            cases tY
            · as_aux_lemma =>
                go_wp2_with fail
                go_meet
                case rel => exact ⟨congrArg Value.bool (by rw [← HT12.out]; first | rfl | trivial), by first | rfl | trivial⟩
            · skip
              cases tP
              · as_aux_lemma =>
                  go_wp2_with fail
                  go_meet
                  case rel => exact ⟨congrArg Value.bool (by rw [← HT12.out]; first | rfl | trivial), by first | rfl | trivial⟩
              · skip
                cases tQ
                · as_aux_lemma =>
                    go_wp2_with fail
                    go_meet
                    case rel => exact ⟨congrArg Value.bool (by rw [← HT12.out]; first | rfl | trivial), by first | rfl | trivial⟩
                · skip
                  cases tS
                  · as_aux_lemma =>
                      go_wp2_with fail
                      go_meet
                      case rel => exact ⟨congrArg Value.bool (by rw [← HT12.out]; first | rfl | trivial), by first | rfl | trivial⟩
                  · skip
                    as_aux_lemma =>
                      go_wp2_with fail
                      go_meet
                      case rel => exact ⟨congrArg Value.bool (by rw [← HT12.out]; first | rfl | trivial), by first | rfl | trivial⟩
        case rest =>
          obtain ⟨rfl, rfl⟩ := hcut
          cases T12
          · go_upto_region 14 with (first | (go_at_call 73; with_reducible refine (K107.out _).mono ?_; rintro e w' ⟨rfl, rfl⟩) | (go_at_call 73; with_reducible refine (K118.out _).mono ?_; rintro e w' ⟨rfl, rfl⟩) | (go_at_call 73; with_reducible refine (K86.out _).mono ?_; rintro e w' ⟨rfl, rfl⟩) | (go_at_call 73; with_reducible refine (K119.out _).mono ?_; rintro e w' ⟨rfl, rfl⟩) | (go_at_call 73; with_reducible refine (K87.out _).mono ?_; rintro e w' ⟨rfl, rfl⟩) | (go_at_call 73; with_reducible refine (K99.out _).mono ?_; rintro e w' ⟨rfl, rfl⟩) | (go_at_call 73; with_reducible refine (K100.out _).mono ?_; rintro e w' ⟨rfl, rfl⟩) | (go_at_call 73; with_reducible refine (K101.out _).mono ?_; rintro e w' ⟨rfl, rfl⟩) | (go_at_call 73; with_reducible refine (K114.out _).mono ?_; rintro e w' ⟨rfl, rfl⟩) | (go_at_call 179; with_reducible refine (LX.out _).mono ?_; rintro e w' ⟨rfl, rfl⟩) | (go_at_call 179; with_reducible refine (LY.out _).mono ?_; rintro e w' ⟨rfl, rfl⟩) | (go_at_call 179; with_reducible refine (LP.out _).mono ?_; rintro e w' ⟨rfl, rfl⟩) | (go_at_call 179; with_reducible refine (LQ.out _).mono ?_; rintro e w' ⟨rfl, rfl⟩) | (go_at_call 179; with_reducible refine (LS.out _).mono ?_; rintro e w' ⟨rfl, rfl⟩))
            go_cut [139] (fun a wx => a = .bool T14 ∧ we = wx)
            case first =>
              by_cases hn : n114 = 0
              · have hn1 : (n114 == 0) = true := by simp; omega
                have hn2 : decide (0 < n114) = false := by simp; omega
                by_cases hr : v.r.n < 1
                · have HV : Hid (T14 = false) := Lib.hid (by rw [← HT14.out, Bool.eq_iff_iff]; simp <;> omega)
                  as_aux_lemma =>
                    go_wp2_with (first | (go_at_call 73; with_reducible refine (K107.out _).mono ?_; rintro e w' ⟨rfl, rfl⟩) | (go_at_call 73; with_reducible refine (K118.out _).mono ?_; rintro e w' ⟨rfl, rfl⟩) | (go_at_call 73; with_reducible refine (K86.out _).mono ?_; rintro e w' ⟨rfl, rfl⟩) | (go_at_call 73; with_reducible refine (K119.out _).mono ?_; rintro e w' ⟨rfl, rfl⟩) | (go_at_call 73; with_reducible refine (K87.out _).mono ?_; rintro e w' ⟨rfl, rfl⟩) | (go_at_call 73; with_reducible refine (K99.out _).mono ?_; rintro e w' ⟨rfl, rfl⟩) | (go_at_call 73; with_reducible refine (K100.out _).mono ?_; rintro e w' ⟨rfl, rfl⟩) | (go_at_call 73; with_reducible refine (K101.out _).mono ?_; rintro e w' ⟨rfl, rfl⟩) | (go_at_call 73; with_reducible refine (K114.out _).mono ?_; rintro e w' ⟨rfl, rfl⟩) | (go_at_call 179; with_reducible refine (LX.out _).mono ?_; rintro e w' ⟨rfl, rfl⟩) | (go_at_call 179; with_reducible refine (LY.out _).mono ?_; rintro e w' ⟨rfl, rfl⟩) | (go_at_call 179; with_reducible refine (LP.out _).mono ?_; rintro e w' ⟨rfl, rfl⟩) | (go_at_call 179; with_reducible refine (LQ.out _).mono ?_; rintro e w' ⟨rfl, rfl⟩) | (go_at_call 179; with_reducible refine (LS.out _).mono ?_; rintro e w' ⟨rfl, rfl⟩))
                    go_meet
                    case rel => exact ⟨congrArg Value.bool (by cases HV.out; first | rfl | (rw [Bool.eq_iff_iff]; simp <;> omega)), by first | rfl | trivial⟩
                · have hr2 : 1 ≤ v.r.n := by omega
                  have HV : Hid (T14 = true) := Lib.hid (by rw [← HT14.out, Bool.eq_iff_iff]; simp <;> omega)
                  as_aux_lemma =>
                    go_wp2_with (first | (go_at_call 73; with_reducible refine (K107.out _).mono ?_; rintro e w' ⟨rfl, rfl⟩) | (go_at_call 73; with_reducible refine (K118.out _).mono ?_; rintro e w' ⟨rfl, rfl⟩) | (go_at_call 73; with_reducible refine (K86.out _).mono ?_; rintro e w' ⟨rfl, rfl⟩) | (go_at_call 73; with_reducible refine (K119.out _).mono ?_; rintro e w' ⟨rfl, rfl⟩) | (go_at_call 73; with_reducible refine (K87.out _).mono ?_; rintro e w' ⟨rfl, rfl⟩) | (go_at_call 73; with_reducible refine (K99.out _).mono ?_; rintro e w' ⟨rfl, rfl⟩) | (go_at_call 73; with_reducible refine (K100.out _).mono ?_; rintro e w' ⟨rfl, rfl⟩) | (go_at_call 73; with_reducible refine (K101.out _).mono ?_; rintro e w' ⟨rfl, rfl⟩) | (go_at_call 73; with_reducible refine (K114.out _).mono ?_; rintro e w' ⟨rfl, rfl⟩) | (go_at_call 179; with_reducible refine (LX.out _).mono ?_; rintro e w' ⟨rfl, rfl⟩) | (go_at_call 179; with_reducible refine (LY.out _).mono ?_; rintro e w' ⟨rfl, rfl⟩) | (go_at_call 179; with_reducible refine (LP.out _).mono ?_; rintro e w' ⟨rfl, rfl⟩) | (go_at_call 179; with_reducible refine (LQ.out _).mono ?_; rintro e w' ⟨rfl, rfl⟩) | (go_at_call 179; with_reducible refine (LS.out _).mono ?_; rintro e w' ⟨rfl, rfl⟩))
                    go_meet
                    case rel => exact ⟨congrArg Value.bool (by cases HV.out; first | rfl | (rw [Bool.eq_iff_iff]; simp <;> omega)), by first | rfl | trivial⟩
              · have hn1 : (n114 == 0) = false := by simp; omega
                have hn2 : decide (0 < n114) = true := by simp; omega
                by_cases hr : v.r.n < 1
                · have HV : Hid (T14 = true) := Lib.hid (by rw [← HT14.out, Bool.eq_iff_iff]; simp <;> omega)
                  as_aux_lemma =>
                    go_wp2_with (first | (go_at_call 73; with_reducible refine (K107.out _).mono ?_; rintro e w' ⟨rfl, rfl⟩) | (go_at_call 73; with_reducible refine (K118.out _).mono ?_; rintro e w' ⟨rfl, rfl⟩) | (go_at_call 73; with_reducible refine (K86.out _).mono ?_; rintro e w' ⟨rfl, rfl⟩) | (go_at_call 73; with_reducible refine (K119.out _).mono ?_; rintro e w' ⟨rfl, rfl⟩) | (go_at_call 73; with_reducible refine (K87.out _).mono ?_; rintro e w' ⟨rfl, rfl⟩) | (go_at_call 73; with_reducible refine (K99.out _).mono ?_; rintro e w' ⟨rfl, rfl⟩) | (go_at_call 73; with_reducible refine (K100.out _).mono ?_; rintro e w' ⟨rfl, rfl⟩) | (go_at_call 73; with_reducible refine (K101.out _).mono ?_; rintro e w' ⟨rfl, rfl⟩) | (go_at_call 73; with_reducible refine (K114.out _).mono ?_; rintro e w' ⟨rfl, rfl⟩) | (go_at_call 179; with_reducible refine (LX.out _).mono ?_; rintro e w' ⟨rfl, rfl⟩) | (go_at_call 179; with_reducible refine (LY.out _).mono ?_; rintro e w' ⟨rfl, rfl⟩) | (go_at_call 179; with_reducible refine (LP.out _).mono ?_; rintro e w' ⟨rfl, rfl⟩) | (go_at_call 179; with_reducible refine (LQ.out _).mono ?_; rintro e w' ⟨rfl, rfl⟩) | (go_at_call 179; with_reducible refine (LS.out _).mono ?_; rintro e w' ⟨rfl, rfl⟩))
                    go_meet
                    case rel => exact ⟨congrArg Value.bool (by cases HV.out; first | rfl | (rw [Bool.eq_iff_iff]; simp <;> omega)), by first | rfl | trivial⟩
                · have hr2 : 1 ≤ v.r.n := by omega
                  by_cases hs1 : 1024 < v.r.n
                  · have HV : Hid (T14 = true) := Lib.hid (by rw [← HT14.out, Bool.eq_iff_iff]; simp <;> omega)
                    as_aux_lemma =>
                      go_wp2_with (first | (go_at_call 73; with_reducible refine (K107.out _).mono ?_; rintro e w' ⟨rfl, rfl⟩) | (go_at_call 73; with_reducible refine (K118.out _).mono ?_; rintro e w' ⟨rfl, rfl⟩) | (go_at_call 73; with_reducible refine (K86.out _).mono ?_; rintro e w' ⟨rfl, rfl⟩) | (go_at_call 73; with_reducible refine (K119.out _).mono ?_; rintro e w' ⟨rfl, rfl⟩) | (go_at_call 73; with_reducible refine (K87.out _).mono ?_; rintro e w' ⟨rfl, rfl⟩) | (go_at_call 73; with_reducible refine (K99.out _).mono ?_; rintro e w' ⟨rfl, rfl⟩) | (go_at_call 73; with_reducible refine (K100.out _).mono ?_; rintro e w' ⟨rfl, rfl⟩) | (go_at_call 73; with_reducible refine (K101.out _).mono ?_; rintro e w' ⟨rfl, rfl⟩) | (go_at_call 73; with_reducible refine (K114.out _).mono ?_; rintro e w' ⟨rfl, rfl⟩) | (go_at_call 179; with_reducible refine (LX.out _).mono ?_; rintro e w' ⟨rfl, rfl⟩) | (go_at_call 179; with_reducible refine (LY.out _).mono ?_; rintro e w' ⟨rfl, rfl⟩) | (go_at_call 179; with_reducible refine (LP.out _).mono ?_; rintro e w' ⟨rfl, rfl⟩) | (go_at_call 179; with_reducible refine (LQ.out _).mono ?_; rintro e w' ⟨rfl, rfl⟩) | (go_at_call 179; with_reducible refine (LS.out _).mono ?_; rintro e w' ⟨rfl, rfl⟩))
                      go_meet
                      case rel => exact ⟨congrArg Value.bool (by cases HV.out; first | rfl | (rw [Bool.eq_iff_iff]; simp <;> omega)), by first | rfl | trivial⟩
                  · have hs2 : v.r.n ≤ 1024 := by omega
                    have HV : Hid (T14 = false) := Lib.hid (by rw [← HT14.out, Bool.eq_iff_iff]; simp <;> omega)
                    as_aux_lemma =>
                      go_wp2_with (first | (go_at_call 73; with_reducible refine (K107.out _).mono ?_; rintro e w' ⟨rfl, rfl⟩) | (go_at_call 73; with_reducible refine (K118.out _).mono ?_; rintro e w' ⟨rfl, rfl⟩) | (go_at_call 73; with_reducible refine (K86.out _).mono ?_; rintro e w' ⟨rfl, rfl⟩) | (go_at_call 73; with_reducible refine (K119.out _).mono ?_; rintro e w' ⟨rfl, rfl⟩) | (go_at_call 73; with_reducible refine (K87.out _).mono ?_; rintro e w' ⟨rfl, rfl⟩) | (go_at_call 73; with_reducible refine (K99.out _).mono ?_; rintro e w' ⟨rfl, rfl⟩) | (go_at_call 73; with_reducible refine (K100.out _).mono ?_; rintro e w' ⟨rfl, rfl⟩) | (go_at_call 73; with_reducible refine (K101.out _).mono ?_; rintro e w' ⟨rfl, rfl⟩) | (go_at_call 73; with_reducible refine (K114.out _).mono ?_; rintro e w' ⟨rfl, rfl⟩) | (go_at_call 179; with_reducible refine (LX.out _).mono ?_; rintro e w' ⟨rfl, rfl⟩) | (go_at_call 179; with_reducible refine (LY.out _).mono ?_; rintro e w' ⟨rfl, rfl⟩) | (go_at_call 179; with_reducible refine (LP.out _).mono ?_; rintro e w' ⟨rfl, rfl⟩) | (go_at_call 179; with_reducible refine (LQ.out _).mono ?_; rintro e w' ⟨rfl, rfl⟩) | (go_at_call 179; with_reducible refine (LS.out _).mono ?_; rintro e w' ⟨rfl, rfl⟩))
                      go_meet
                      case rel => exact ⟨congrArg Value.bool (by cases HV.out; first | rfl | (rw [Bool.eq_iff_iff]; simp <;> omega)), by first | rfl | trivial⟩
            case rest =>
              obtain ⟨rfl, rfl⟩ := hcut
              cases T14
              · go_upto_region 16 with (first | (go_at_call 73; with_reducible refine (K107.out _).mono ?_; rintro e w' ⟨rfl, rfl⟩) | (go_at_call 73; with_reducible refine (K118.out _).mono ?_; rintro e w' ⟨rfl, rfl⟩) | (go_at_call 73; with_reducible refine (K86.out _).mono ?_; rintro e w' ⟨rfl, rfl⟩) | (go_at_call 73; with_reducible refine (K119.out _).mono ?_; rintro e w' ⟨rfl, rfl⟩) | (go_at_call 73; with_reducible refine (K87.out _).mono ?_; rintro e w' ⟨rfl, rfl⟩) | (go_at_call 73; with_reducible refine (K99.out _).mono ?_; rintro e w' ⟨rfl, rfl⟩) | (go_at_call 73; with_reducible refine (K100.out _).mono ?_; rintro e w' ⟨rfl, rfl⟩) | (go_at_call 73; with_reducible refine (K101.out _).mono ?_; rintro e w' ⟨rfl, rfl⟩) | (go_at_call 73; with_reducible refine (K114.out _).mono ?_; rintro e w' ⟨rfl, rfl⟩) | (go_at_call 179; with_reducible refine (LX.out _).mono ?_; rintro e w' ⟨rfl, rfl⟩) | (go_at_call 179; with_reducible refine (LY.out _).mono ?_; rintro e w' ⟨rfl, rfl⟩) | (go_at_call 179; with_reducible refine (LP.out _).mono ?_; rintro e w' ⟨rfl, rfl⟩) | (go_at_call 179; with_reducible refine (LQ.out _).mono ?_; rintro e w' ⟨rfl, rfl⟩) | (go_at_call 179; with_reducible refine (LS.out _).mono ?_; rintro e w' ⟨rfl, rfl⟩))
                go_cut [149] (fun a wx => a = .bool T16 ∧ we = wx)
                case first =>
                  by_cases hk : kd ≤ 4
                  · have hk1 : decide (kd ≤ 4) = true := by simp; omega
                    by_cases q1 : v.c.n = v.a.n
                    · have q1b : ((((v.c.n : Nat) : Int) : Int) != (((v.a.n : Nat) : Int) : Int)) = false := by simp; omega
                      have HV : Hid (T16 = false) := Lib.hid (by rw [← HT16.out, Bool.eq_iff_iff]; simp <;> omega)
                      as_aux_lemma =>
                        go_wp2_with (first | (go_at_call 73; with_reducible refine (K107.out _).mono ?_; rintro e w' ⟨rfl, rfl⟩) | (go_at_call 73; with_reducible refine (K118.out _).mono ?_; rintro e w' ⟨rfl, rfl⟩) | (go_at_call 73; with_reducible refine (K86.out _).mono ?_; rintro e w' ⟨rfl, rfl⟩) | (go_at_call 73; with_reducible refine (K119.out _).mono ?_; rintro e w' ⟨rfl, rfl⟩) | (go_at_call 73; with_reducible refine (K87.out _).mono ?_; rintro e w' ⟨rfl, rfl⟩) | (go_at_call 73; with_reducible refine (K99.out _).mono ?_; rintro e w' ⟨rfl, rfl⟩) | (go_at_call 73; with_reducible refine (K100.out _).mono ?_; rintro e w' ⟨rfl, rfl⟩) | (go_at_call 73; with_reducible refine (K101.out _).mono ?_; rintro e w' ⟨rfl, rfl⟩) | (go_at_call 73; with_reducible refine (K114.out _).mono ?_; rintro e w' ⟨rfl, rfl⟩) | (go_at_call 179; with_reducible refine (LX.out _).mono ?_; rintro e w' ⟨rfl, rfl⟩) | (go_at_call 179; with_reducible refine (LY.out _).mono ?_; rintro e w' ⟨rfl, rfl⟩) | (go_at_call 179; with_reducible refine (LP.out _).mono ?_; rintro e w' ⟨rfl, rfl⟩) | (go_at_call 179; with_reducible refine (LQ.out _).mono ?_; rintro e w' ⟨rfl, rfl⟩) | (go_at_call 179; with_reducible refine (LS.out _).mono ?_; rintro e w' ⟨rfl, rfl⟩))
                        go_meet
                        case rel => exact ⟨congrArg Value.bool (by cases HV.out; first | rfl | (rw [Bool.eq_iff_iff]; simp <;> omega)), by first | rfl | trivial⟩
                    · have q1b : ((((v.c.n : Nat) : Int) : Int) != (((v.a.n : Nat) : Int) : Int)) = true := by simp; omega
                      have HV : Hid (T16 = true) := Lib.hid (by rw [← HT16.out, Bool.eq_iff_iff]; simp <;> omega)
                      as_aux_lemma =>
                        go_wp2_with (first | (go_at_call 73; with_reducible refine (K107.out _).mono ?_; rintro e w' ⟨rfl, rfl⟩) | (go_at_call 73; with_reducible refine (K118.out _).mono ?_; rintro e w' ⟨rfl, rfl⟩) | (go_at_call 73; with_reducible refine (K86.out _).mono ?_; rintro e w' ⟨rfl, rfl⟩) | (go_at_call 73; with_reducible refine (K119.out _).mono ?_; rintro e w' ⟨rfl, rfl⟩) | (go_at_call 73; with_reducible refine (K87.out _).mono ?_; rintro e w' ⟨rfl, rfl⟩) | (go_at_call 73; with_reducible refine (K99.out _).mono ?_; rintro e w' ⟨rfl, rfl⟩) | (go_at_call 73; with_reducible refine (K100.out _).mono ?_; rintro e w' ⟨rfl, rfl⟩) | (go_at_call 73; with_reducible refine (K101.out _).mono ?_; rintro e w' ⟨rfl, rfl⟩) | (go_at_call 73; with_reducible refine (K114.out _).mono ?_; rintro e w' ⟨rfl, rfl⟩) | (go_at_call 179; with_reducible refine (LX.out _).mono ?_; rintro e w' ⟨rfl, rfl⟩) | (go_at_call 179; with_reducible refine (LY.out _).mono ?_; rintro e w' ⟨rfl, rfl⟩) | (go_at_call 179; with_reducible refine (LP.out _).mono ?_; rintro e w' ⟨rfl, rfl⟩) | (go_at_call 179; with_reducible refine (LQ.out _).mono ?_; rintro e w' ⟨rfl, rfl⟩) | (go_at_call 179; with_reducible refine (LS.out _).mono ?_; rintro e w' ⟨rfl, rfl⟩))
                        go_meet
                        case rel => exact ⟨congrArg Value.bool (by cases HV.out; first | rfl | (rw [Bool.eq_iff_iff]; simp <;> omega)), by first | rfl | trivial⟩
                  · have hk1 : decide (kd ≤ 4) = false := by simp; omega
                    have HV : Hid (T16 = false) := Lib.hid (by rw [← HT16.out, Bool.eq_iff_iff]; simp <;> omega)
                    as_aux_lemma =>
                      go_wp2_with (first | (go_at_call 73; with_reducible refine (K107.out _).mono ?_; rintro e w' ⟨rfl, rfl⟩) | (go_at_call 73; with_reducible refine (K118.out _).mono ?_; rintro e w' ⟨rfl, rfl⟩) | (go_at_call 73; with_reducible refine (K86.out _).mono ?_; rintro e w' ⟨rfl, rfl⟩) | (go_at_call 73; with_reducible refine (K119.out _).mono ?_; rintro e w' ⟨rfl, rfl⟩) | (go_at_call 73; with_reducible refine (K87.out _).mono ?_; rintro e w' ⟨rfl, rfl⟩) | (go_at_call 73; with_reducible refine (K99.out _).mono ?_; rintro e w' ⟨rfl, rfl⟩) | (go_at_call 73; with_reducible refine (K100.out _).mono ?_; rintro e w' ⟨rfl, rfl⟩) | (go_at_call 73; with_reducible refine (K101.out _).mono ?_; rintro e w' ⟨rfl, rfl⟩) | (go_at_call 73; with_reducible refine (K114.out _).mono ?_; rintro e w' ⟨rfl, rfl⟩) | (go_at_call 179; with_reducible refine (LX.out _).mono ?_; rintro e w' ⟨rfl, rfl⟩) | (go_at_call 179; with_reducible refine (LY.out _).mono ?_; rintro e w' ⟨rfl, rfl⟩) | (go_at_call 179; with_reducible refine (LP.out _).mono ?_; rintro e w' ⟨rfl, rfl⟩) | (go_at_call 179; with_reducible refine (LQ.out _).mono ?_; rintro e w' ⟨rfl, rfl⟩) | (go_at_call 179; with_reducible refine (LS.out _).mono ?_; rintro e w' ⟨rfl, rfl⟩))
                      go_meet
                      case rel => exact ⟨congrArg Value.bool (by cases HV.out; first | rfl | (rw [Bool.eq_iff_iff]; simp <;> omega)), by first | rfl | trivial⟩
                case rest =>
                  obtain ⟨rfl, rfl⟩ := hcut
                  cases T16
                  · go_upto_region 18 with (first | (go_at_call 73; with_reducible refine (K107.out _).mono ?_; rintro e w' ⟨rfl, rfl⟩) | (go_at_call 73; with_reducible refine (K118.out _).mono ?_; rintro e w' ⟨rfl, rfl⟩) | (go_at_call 73; with_reducible refine (K86.out _).mono ?_; rintro e w' ⟨rfl, rfl⟩) | (go_at_call 73; with_reducible refine (K119.out _).mono ?_; rintro e w' ⟨rfl, rfl⟩) | (go_at_call 73; with_reducible refine (K87.out _).mono ?_; rintro e w' ⟨rfl, rfl⟩) | (go_at_call 73; with_reducible refine (K99.out _).mono ?_; rintro e w' ⟨rfl, rfl⟩) | (go_at_call 73; with_reducible refine (K100.out _).mono ?_; rintro e w' ⟨rfl, rfl⟩) | (go_at_call 73; with_reducible refine (K101.out _).mono ?_; rintro e w' ⟨rfl, rfl⟩) | (go_at_call 73; with_reducible refine (K114.out _).mono ?_; rintro e w' ⟨rfl, rfl⟩) | (go_at_call 179; with_reducible refine (LX.out _).mono ?_; rintro e w' ⟨rfl, rfl⟩) | (go_at_call 179; with_reducible refine (LY.out _).mono ?_; rintro e w' ⟨rfl, rfl⟩) | (go_at_call 179; with_reducible refine (LP.out _).mono ?_; rintro e w' ⟨rfl, rfl⟩) | (go_at_call 179; with_reducible refine (LQ.out _).mono ?_; rintro e w' ⟨rfl, rfl⟩) | (go_at_call 179; with_reducible refine (LS.out _).mono ?_; rintro e w' ⟨rfl, rfl⟩))
                    go_cut [199] (fun a wx => a = .bool T18 ∧ we = wx)
                    case first =>
                      by_cases h19 : kd = 19
                      · have k19 : (kd == 19) = true := by simp; omega
                        have k21 : (kd == 21) = false := by simp; omega
                        have k22 : decide (22 ≤ kd) = false := by simp; omega
                        by_cases q1 : v.c.n = v.a.n
                        · have q1b : ((((v.c.n : Nat) : Int) : Int) != (((v.a.n : Nat) : Int) : Int)) = false := by simp; omega
                          by_cases q2 : v.d.n = v.a.n
                          · have q2b : ((((v.d.n : Nat) : Int) : Int) != (((v.a.n : Nat) : Int) : Int)) = false := by simp; omega
                            have HV : Hid (T18 = false) := Lib.hid (by rw [← HT18.out, Bool.eq_iff_iff]; simp <;> omega)
                            as_aux_lemma =>
                              go_wp2_with (first | (go_at_call 73; with_reducible refine (K107.out _).mono ?_; rintro e w' ⟨rfl, rfl⟩) | (go_at_call 73; with_reducible refine (K118.out _).mono ?_; rintro e w' ⟨rfl, rfl⟩) | (go_at_call 73; with_reducible refine (K86.out _).mono ?_; rintro e w' ⟨rfl, rfl⟩) | (go_at_call 73; with_reducible refine (K119.out _).mono ?_; rintro e w' ⟨rfl, rfl⟩) | (go_at_call 73; with_reducible refine (K87.out _).mono ?_; rintro e w' ⟨rfl, rfl⟩) | (go_at_call 73; with_reducible refine (K99.out _).mono ?_; rintro e w' ⟨rfl, rfl⟩) | (go_at_call 73; with_reducible refine (K100.out _).mono ?_; rintro e w' ⟨rfl, rfl⟩) | (go_at_call 73; with_reducible refine (K101.out _).mono ?_; rintro e w' ⟨rfl, rfl⟩) | (go_at_call 73; with_reducible refine (K114.out _).mono ?_; rintro e w' ⟨rfl, rfl⟩) | (go_at_call 179; with_reducible refine (LX.out _).mono ?_; rintro e w' ⟨rfl, rfl⟩) | (go_at_call 179; with_reducible refine (LY.out _).mono ?_; rintro e w' ⟨rfl, rfl⟩) | (go_at_call 179; with_reducible refine (LP.out _).mono ?_; rintro e w' ⟨rfl, rfl⟩) | (go_at_call 179; with_reducible refine (LQ.out _).mono ?_; rintro e w' ⟨rfl, rfl⟩) | (go_at_call 179; with_reducible refine (LS.out _).mono ?_; rintro e w' ⟨rfl, rfl⟩))
                              go_meet
                              case rel => exact ⟨congrArg Value.bool (by cases HV.out; first | rfl | (rw [Bool.eq_iff_iff]; simp <;> omega)), by first | rfl | trivial⟩
                          · have q2b : ((((v.d.n : Nat) : Int) : Int) != (((v.a.n : Nat) : Int) : Int)) = true := by simp; omega
                            have HV : Hid (T18 = true) := Lib.hid (by rw [← HT18.out, Bool.eq_iff_iff]; simp <;> omega)
                            as_aux_lemma =>
                              go_wp2_with (first | (go_at_call 73; with_reducible refine (K107.out _).mono ?_; rintro e w' ⟨rfl, rfl⟩) | (go_at_call 73; with_reducible refine (K118.out _).mono ?_; rintro e w' ⟨rfl, rfl⟩) | (go_at_call 73; with_reducible refine (K86.out _).mono ?_; rintro e w' ⟨rfl, rfl⟩) | (go_at_call 73; with_reducible refine (K119.out _).mono ?_; rintro e w' ⟨rfl, rfl⟩) | (go_at_call 73; with_reducible refine (K87.out _).mono ?_; rintro e w' ⟨rfl, rfl⟩) | (go_at_call 73; with_reducible refine (K99.out _).mono ?_; rintro e w' ⟨rfl, rfl⟩) | (go_at_call 73; with_reducible refine (K100.out _).mono ?_; rintro e w' ⟨rfl, rfl⟩) | (go_at_call 73; with_reducible refine (K101.out _).mono ?_; rintro e w' ⟨rfl, rfl⟩) | (go_at_call 73; with_reducible refine (K114.out _).mono ?_; rintro e w' ⟨rfl, rfl⟩) | (go_at_call 179; with_reducible refine (LX.out _).mono ?_; rintro e w' ⟨rfl, rfl⟩) | (go_at_call 179; with_reducible refine (LY.out _).mono ?_; rintro e w' ⟨rfl, rfl⟩) | (go_at_call 179; with_reducible refine (LP.out _).mono ?_; rintro e w' ⟨rfl, rfl⟩) | (go_at_call 179; with_reducible refine (LQ.out _).mono ?_; rintro e w' ⟨rfl, rfl⟩) | (go_at_call 179; with_reducible refine (LS.out _).mono ?_; rintro e w' ⟨rfl, rfl⟩))
                              go_meet
                              case rel => exact ⟨congrArg Value.bool (by cases HV.out; first | rfl | (rw [Bool.eq_iff_iff]; simp <;> omega)), by first | rfl | trivial⟩
                        · have q1b : ((((v.c.n : Nat) : Int) : Int) != (((v.a.n : Nat) : Int) : Int)) = true := by simp; omega
                          have HV : Hid (T18 = true) := Lib.hid (by rw [← HT18.out, Bool.eq_iff_iff]; simp <;> omega)
                          as_aux_lemma =>
                            go_wp2_with (first | (go_at_call 73; with_reducible refine (K107.out _).mono ?_; rintro e w' ⟨rfl, rfl⟩) | (go_at_call 73; with_reducible refine (K118.out _).mono ?_; rintro e w' ⟨rfl, rfl⟩) | (go_at_call 73; with_reducible refine (K86.out _).mono ?_; rintro e w' ⟨rfl, rfl⟩) | (go_at_call 73; with_reducible refine (K119.out _).mono ?_; rintro e w' ⟨rfl, rfl⟩) | (go_at_call 73; with_reducible refine (K87.out _).mono ?_; rintro e w' ⟨rfl, rfl⟩) | (go_at_call 73; with_reducible refine (K99.out _).mono ?_; rintro e w' ⟨rfl, rfl⟩) | (go_at_call 73; with_reducible refine (K100.out _).mono ?_; rintro e w' ⟨rfl, rfl⟩) | (go_at_call 73; with_reducible refine (K101.out _).mono ?_; rintro e w' ⟨rfl, rfl⟩) | (go_at_call 73; with_reducible refine (K114.out _).mono ?_; rintro e w' ⟨rfl, rfl⟩) | (go_at_call 179; with_reducible refine (LX.out _).mono ?_; rintro e w' ⟨rfl, rfl⟩) | (go_at_call 179; with_reducible refine (LY.out _).mono ?_; rintro e w' ⟨rfl, rfl⟩) | (go_at_call 179; with_reducible refine (LP.out _).mono ?_; rintro e w' ⟨rfl, rfl⟩) | (go_at_call 179; with_reducible refine (LQ.out _).mono ?_; rintro e w' ⟨rfl, rfl⟩) | (go_at_call 179; with_reducible refine (LS.out _).mono ?_; rintro e w' ⟨rfl, rfl⟩))
                            go_meet
                            case rel => exact ⟨congrArg Value.bool (by cases HV.out; first | rfl | (rw [Bool.eq_iff_iff]; simp <;> omega)), by first | rfl | trivial⟩
                      · by_cases h21 : kd = 21
                        · have k19 : (kd == 19) = false := by simp; omega
                          have k21 : (kd == 21) = true := by simp; omega
                          have k22 : decide (22 ≤ kd) = false := by simp; omega
                          by_cases q1 : v.d.n = v.c.n
                          · have q1b : ((((v.d.n : Nat) : Int) : Int) != (((v.c.n : Nat) : Int) : Int)) = false := by simp; omega
                            by_cases q2 : v.e.n = v.c.n
                            · have q2b : ((((v.e.n : Nat) : Int) : Int) != (((v.c.n : Nat) : Int) : Int)) = false := by simp; omega
                              have HV : Hid (T18 = false) := Lib.hid (by rw [← HT18.out, Bool.eq_iff_iff]; simp <;> omega)
                              as_aux_lemma =>
                                go_wp2_with (first | (go_at_call 73; with_reducible refine (K107.out _).mono ?_; rintro e w' ⟨rfl, rfl⟩) | (go_at_call 73; with_reducible refine (K118.out _).mono ?_; rintro e w' ⟨rfl, rfl⟩) | (go_at_call 73; with_reducible refine (K86.out _).mono ?_; rintro e w' ⟨rfl, rfl⟩) | (go_at_call 73; with_reducible refine (K119.out _).mono ?_; rintro e w' ⟨rfl, rfl⟩) | (go_at_call 73; with_reducible refine (K87.out _).mono ?_; rintro e w' ⟨rfl, rfl⟩) | (go_at_call 73; with_reducible refine (K99.out _).mono ?_; rintro e w' ⟨rfl, rfl⟩) | (go_at_call 73; with_reducible refine (K100.out _).mono ?_; rintro e w' ⟨rfl, rfl⟩) | (go_at_call 73; with_reducible refine (K101.out _).mono ?_; rintro e w' ⟨rfl, rfl⟩) | (go_at_call 73; with_reducible refine (K114.out _).mono ?_; rintro e w' ⟨rfl, rfl⟩) | (go_at_call 179; with_reducible refine (LX.out _).mono ?_; rintro e w' ⟨rfl, rfl⟩) | (go_at_call 179; with_reducible refine (LY.out _).mono ?_; rintro e w' ⟨rfl, rfl⟩) | (go_at_call 179; with_reducible refine (LP.out _).mono ?_; rintro e w' ⟨rfl, rfl⟩) | (go_at_call 179; with_reducible refine (LQ.out _).mono ?_; rintro e w' ⟨rfl, rfl⟩) | (go_at_call 179; with_reducible refine (LS.out _).mono ?_; rintro e w' ⟨rfl, rfl⟩))
                                go_meet
                                case rel => exact ⟨congrArg Value.bool (by cases HV.out; first | rfl | (rw [Bool.eq_iff_iff]; simp <;> omega)), by first | rfl | trivial⟩
                            · have q2b : ((((v.e.n : Nat) : Int) : Int) != (((v.c.n : Nat) : Int) : Int)) = true := by simp; omega
                              have HV : Hid (T18 = true) := Lib.hid (by rw [← HT18.out, Bool.eq_iff_iff]; simp <;> omega)
                              as_aux_lemma =>
                                go_wp2_with (first | (go_at_call 73; with_reducible refine (K107.out _).mono ?_; rintro e w' ⟨rfl, rfl⟩) | (go_at_call 73; with_reducible refine (K118.out _).mono ?_; rintro e w' ⟨rfl, rfl⟩) | (go_at_call 73; with_reducible refine (K86.out _).mono ?_; rintro e w' ⟨rfl, rfl⟩) | (go_at_call 73; with_reducible refine (K119.out _).mono ?_; rintro e w' ⟨rfl, rfl⟩) | (go_at_call 73; with_reducible refine (K87.out _).mono ?_; rintro e w' ⟨rfl, rfl⟩) | (go_at_call 73; with_reducible refine (K99.out _).mono ?_; rintro e w' ⟨rfl, rfl⟩) | (go_at_call 73; with_reducible refine (K100.out _).mono ?_; rintro e w' ⟨rfl, rfl⟩) | (go_at_call 73; with_reducible refine (K101.out _).mono ?_; rintro e w' ⟨rfl, rfl⟩) | (go_at_call 73; with_reducible refine (K114.out _).mono ?_; rintro e w' ⟨rfl, rfl⟩) | (go_at_call 179; with_reducible refine (LX.out _).mono ?_; rintro e w' ⟨rfl, rfl⟩) | (go_at_call 179; with_reducible refine (LY.out _).mono ?_; rintro e w' ⟨rfl, rfl⟩) | (go_at_call 179; with_reducible refine (LP.out _).mono ?_; rintro e w' ⟨rfl, rfl⟩) | (go_at_call 179; with_reducible refine (LQ.out _).mono ?_; rintro e w' ⟨rfl, rfl⟩) | (go_at_call 179; with_reducible refine (LS.out _).mono ?_; rintro e w' ⟨rfl, rfl⟩))
                                go_meet
                                case rel => exact ⟨congrArg Value.bool (by cases HV.out; first | rfl | (rw [Bool.eq_iff_iff]; simp <;> omega)), by first | rfl | trivial⟩
                          · have q1b : ((((v.d.n : Nat) : Int) : Int) != (((v.c.n : Nat) : Int) : Int)) = true := by simp; omega
                            have HV : Hid (T18 = true) := Lib.hid (by rw [← HT18.out, Bool.eq_iff_iff]; simp <;> omega)
                            as_aux_lemma =>
                              go_wp2_with (first | (go_at_call 73; with_reducible refine (K107.out _).mono ?_; rintro e w' ⟨rfl, rfl⟩) | (go_at_call 73; with_reducible refine (K118.out _).mono ?_; rintro e w' ⟨rfl, rfl⟩) | (go_at_call 73; with_reducible refine (K86.out _).mono ?_; rintro e w' ⟨rfl, rfl⟩) | (go_at_call 73; with_reducible refine (K119.out _).mono ?_; rintro e w' ⟨rfl, rfl⟩) | (go_at_call 73; with_reducible refine (K87.out _).mono ?_; rintro e w' ⟨rfl, rfl⟩) | (go_at_call 73; with_reducible refine (K99.out _).mono ?_; rintro e w' ⟨rfl, rfl⟩) | (go_at_call 73; with_reducible refine (K100.out _).mono ?_; rintro e w' ⟨rfl, rfl⟩) | (go_at_call 73; with_reducible refine (K101.out _).mono ?_; rintro e w' ⟨rfl, rfl⟩) | (go_at_call 73; with_reducible refine (K114.out _).mono ?_; rintro e w' ⟨rfl, rfl⟩) | (go_at_call 179; with_reducible refine (LX.out _).mono ?_; rintro e w' ⟨rfl, rfl⟩) | (go_at_call 179; with_reducible refine (LY.out _).mono ?_; rintro e w' ⟨rfl, rfl⟩) | (go_at_call 179; with_reducible refine (LP.out _).mono ?_; rintro e w' ⟨rfl, rfl⟩) | (go_at_call 179; with_reducible refine (LQ.out _).mono ?_; rintro e w' ⟨rfl, rfl⟩) | (go_at_call 179; with_reducible refine (LS.out _).mono ?_; rintro e w' ⟨rfl, rfl⟩))
                              go_meet
                              case rel => exact ⟨congrArg Value.bool (by cases HV.out; first | rfl | (rw [Bool.eq_iff_iff]; simp <;> omega)), by first | rfl | trivial⟩
                        · by_cases h22 : 22 ≤ kd
                          · have k19 : (kd == 19) = false := by simp; omega
                            have k21 : (kd == 21) = false := by simp; omega
                            have k22 : decide (22 ≤ kd) = true := by simp; omega
                            by_cases q1 : v.b.n = v.a.n
                            · have q1b : ((((v.b.n : Nat) : Int) : Int) != (((v.a.n : Nat) : Int) : Int)) = false := by simp; omega
                              have HV : Hid (T18 = false) := Lib.hid (by rw [← HT18.out, Bool.eq_iff_iff]; simp <;> omega)
                              as_aux_lemma =>
                                go_wp2_with (first | (go_at_call 73; with_reducible refine (K107.out _).mono ?_; rintro e w' ⟨rfl, rfl⟩) | (go_at_call 73; with_reducible refine (K118.out _).mono ?_; rintro e w' ⟨rfl, rfl⟩) | (go_at_call 73; with_reducible refine (K86.out _).mono ?_; rintro e w' ⟨rfl, rfl⟩) | (go_at_call 73; with_reducible refine (K119.out _).mono ?_; rintro e w' ⟨rfl, rfl⟩) | (go_at_call 73; with_reducible refine (K87.out _).mono ?_; rintro e w' ⟨rfl, rfl⟩) | (go_at_call 73; with_reducible refine (K99.out _).mono ?_; rintro e w' ⟨rfl, rfl⟩) | (go_at_call 73; with_reducible refine (K100.out _).mono ?_; rintro e w' ⟨rfl, rfl⟩) | (go_at_call 73; with_reducible refine (K101.out _).mono ?_; rintro e w' ⟨rfl, rfl⟩) | (go_at_call 73; with_reducible refine (K114.out _).mono ?_; rintro e w' ⟨rfl, rfl⟩) | (go_at_call 179; with_reducible refine (LX.out _).mono ?_; rintro e w' ⟨rfl, rfl⟩) | (go_at_call 179; with_reducible refine (LY.out _).mono ?_; rintro e w' ⟨rfl, rfl⟩) | (go_at_call 179; with_reducible refine (LP.out _).mono ?_; rintro e w' ⟨rfl, rfl⟩) | (go_at_call 179; with_reducible refine (LQ.out _).mono ?_; rintro e w' ⟨rfl, rfl⟩) | (go_at_call 179; with_reducible refine (LS.out _).mono ?_; rintro e w' ⟨rfl, rfl⟩))
                                go_meet
                                case rel => exact ⟨congrArg Value.bool (by cases HV.out; first | rfl | (rw [Bool.eq_iff_iff]; simp <;> omega)), by first | rfl | trivial⟩
                            · have q1b : ((((v.b.n : Nat) : Int) : Int) != (((v.a.n : Nat) : Int) : Int)) = true := by simp; omega
                              have HV : Hid (T18 = true) := Lib.hid (by rw [← HT18.out, Bool.eq_iff_iff]; simp <;> omega)
                              as_aux_lemma =>
                                go_wp2_with (first | (go_at_call 73; with_reducible refine (K107.out _).mono ?_; rintro e w' ⟨rfl, rfl⟩) | (go_at_call 73; with_reducible refine (K118.out _).mono ?_; rintro e w' ⟨rfl, rfl⟩) | (go_at_call 73; with_reducible refine (K86.out _).mono ?_; rintro e w' ⟨rfl, rfl⟩) | (go_at_call 73; with_reducible refine (K119.out _).mono ?_; rintro e w' ⟨rfl, rfl⟩) | (go_at_call 73; with_reducible refine (K87.out _).mono ?_; rintro e w' ⟨rfl, rfl⟩) | (go_at_call 73; with_reducible refine (K99.out _).mono ?_; rintro e w' ⟨rfl, rfl⟩) | (go_at_call 73; with_reducible refine (K100.out _).mono ?_; rintro e w' ⟨rfl, rfl⟩) | (go_at_call 73; with_reducible refine (K101.out _).mono ?_; rintro e w' ⟨rfl, rfl⟩) | (go_at_call 73; with_reducible refine (K114.out _).mono ?_; rintro e w' ⟨rfl, rfl⟩) | (go_at_call 179; with_reducible refine (LX.out _).mono ?_; rintro e w' ⟨rfl, rfl⟩) | (go_at_call 179; with_reducible refine (LY.out _).mono ?_; rintro e w' ⟨rfl, rfl⟩) | (go_at_call 179; with_reducible refine (LP.out _).mono ?_; rintro e w' ⟨rfl, rfl⟩) | (go_at_call 179; with_reducible refine (LQ.out _).mono ?_; rintro e w' ⟨rfl, rfl⟩) | (go_at_call 179; with_reducible refine (LS.out _).mono ?_; rintro e w' ⟨rfl, rfl⟩))
                                go_meet
                                case rel => exact ⟨congrArg Value.bool (by cases HV.out; first | rfl | (rw [Bool.eq_iff_iff]; simp <;> omega)), by first | rfl | trivial⟩
                          · have k19 : (kd == 19) = false := by simp; omega
                            have k21 : (kd == 21) = false := by simp; omega
                            have k22 : decide (22 ≤ kd) = false := by simp; omega
                            have HV : Hid (T18 = false) := Lib.hid (by rw [← HT18.out, Bool.eq_iff_iff]; simp <;> omega)
                            as_aux_lemma =>
                              go_wp2_with (first | (go_at_call 73; with_reducible refine (K107.out _).mono ?_; rintro e w' ⟨rfl, rfl⟩) | (go_at_call 73; with_reducible refine (K118.out _).mono ?_; rintro e w' ⟨rfl, rfl⟩) | (go_at_call 73; with_reducible refine (K86.out _).mono ?_; rintro e w' ⟨rfl, rfl⟩) | (go_at_call 73; with_reducible refine (K119.out _).mono ?_; rintro e w' ⟨rfl, rfl⟩) | (go_at_call 73; with_reducible refine (K87.out _).mono ?_; rintro e w' ⟨rfl, rfl⟩) | (go_at_call 73; with_reducible refine (K99.out _).mono ?_; rintro e w' ⟨rfl, rfl⟩) | (go_at_call 73; with_reducible refine (K100.out _).mono ?_; rintro e w' ⟨rfl, rfl⟩) | (go_at_call 73; with_reducible refine (K101.out _).mono ?_; rintro e w' ⟨rfl, rfl⟩) | (go_at_call 73; with_reducible refine (K114.out _).mono ?_; rintro e w' ⟨rfl, rfl⟩) | (go_at_call 179; with_reducible refine (LX.out _).mono ?_; rintro e w' ⟨rfl, rfl⟩) | (go_at_call 179; with_reducible refine (LY.out _).mono ?_; rintro e w' ⟨rfl, rfl⟩) | (go_at_call 179; with_reducible refine (LP.out _).mono ?_; rintro e w' ⟨rfl, rfl⟩) | (go_at_call 179; with_reducible refine (LQ.out _).mono ?_; rintro e w' ⟨rfl, rfl⟩) | (go_at_call 179; with_reducible refine (LS.out _).mono ?_; rintro e w' ⟨rfl, rfl⟩))
                              go_meet
                              case rel => exact ⟨congrArg Value.bool (by cases HV.out; first | rfl | (rw [Bool.eq_iff_iff]; simp <;> omega)), by first | rfl | trivial⟩
                    case rest =>
                      obtain ⟨rfl, rfl⟩ := hcut
                      cases T18
                      · go_wp2_with fail
                        clear c0 c1 c2 c3 c4 c5 c6 c7
                        go_loopw [12] (fun i wr => ∃ k : Nat, i = .int .i64 (k : Nat) ∧ k ≤ v.r.n ∧ Hid (anyRow (fun r => r.length != v.a.n) RR k) ∧ Hid (we = wr)) (fun i _ => v.r.n - (intOf i).toNat)
                        case atStart => exact ⟨0, rfl, by omega, Lib.hid (fun j hj => absurd hj (by omega)), Lib.hid rfl⟩
                        case round =>
                          obtain ⟨k, rfl, hk, H0, HW⟩ := hrel
                          have Hwr := Be
                          rw [HW.out] at Hwr
                          obtain ⟨c0, c1, c2, c3, c4, c5, c6, c7⟩ := box8 Hwr.out
                          by_cases hlt : k < v.r.n
                          · obtain ⟨ad, hra, hbk, hcl⟩ := HRL.out (by omega)
                            obtain ⟨u, hu, hr⟩ := hcl k hlt
                            have hck : wr.cell? (ad.add k) = some (.slice u.A u.n u.c) := ((of_boxed Hwr.out).cell (by rw [add_block]; exact hbk)).trans hu
                            have HY := Lib.hid (anyRow_yes (p := fun r => r.length != v.a.n) (R := RR) (k := k) (by rw [← HRN.out]; exact hlt))
                            have HN : Hid (((RR.getD k []).length != v.a.n) = false → anyRow (fun r => r.length != v.a.n) RR (k + 1)) := Lib.hid (fun e j hj => by
                              by_cases h : j < k
                              · exact H0.out j h
                              · obtain rfl : j = k := by omega
                                exact e)
                            have hul := hr.len
                            rw [hra] at c7
                            rw [← hul] at HY HN
                            clear hcl hbk hu hr hul H0 hra
                            by_cases hq : u.n = v.a.n
                            · have hqb : (((u.n : Nat) : Int) != ((v.a.n : Nat) : Int)) = false := by simp [hq]
                              have HN2 := Lib.hid (HN.out (by simp [hq]))
                              clear HN HY hq
                              go_wp2_with fail
                              go_roundw
                              case rel => exact ⟨k + 1, by go_num, by omega, HN2, HW⟩
                              case measure => simp [intOf]; omega
                            · have hqb : (((u.n : Nat) : Int) != ((v.a.n : Nat) : Int)) = true := by simp; omega
                              have HY2 := Lib.hid (HY.out (by simpa using hq))
                              clear HN HY hq
                              go_wp2_with fail
                              go_ret
                              exact ⟨ret_bool (by rw [← HRES.out, HY2.out]; rfl), of_boxed Hwr.out⟩
                          · have HN : Hid (RR.any (fun r => r.length != v.a.n) = false) := Lib.hid (anyRow_no (by rw [← HRN.out]; have := H0.out; rwa [show k = v.r.n by omega] at this))
                            clear H0
                            go_wp2_with fail
                            go_ret
                            exact ⟨ret_bool (by rw [← HRES.out, HN.out]; rfl), of_boxed Hwr.out⟩
                      · as_aux_lemma =>
                          go_wp2_with fail
                          go_ret
                          exact ⟨ret_bool (by first | rfl | trivial), of_boxed Be.out⟩
                  · as_aux_lemma =>
                      go_wp2_with fail
                      go_ret
                      exact ⟨ret_bool (by first | rfl | trivial), of_boxed Be.out⟩
              · as_aux_lemma =>
                  go_wp2_with fail
                  go_ret
                  exact ⟨ret_bool (by first | rfl | trivial), of_boxed Be.out⟩
          · as_aux_lemma =>
              go_wp2_with fail
              go_ret
              exact ⟨ret_bool (by first | rfl | trivial), of_boxed Be.out⟩
      · cases ha : (decide (1 ≤ ((v.a.n : Nat) : Int) + ((v.b.n : Nat) : Int)))
        · as_aux_lemma =>
            go_wp2_with fail
            go_ret
            exact ⟨ret_bool (by rw [← HT6.out, ha]; first | rfl | trivial), of_boxed Bb.out⟩
        · cases hb : (decide (((v.a.n : Nat) : Int) ≤ 64))
          · as_aux_lemma =>
              go_wp2_with fail
              go_ret
              exact ⟨ret_bool (by rw [← HT6.out, ha, hb]; first | rfl | trivial), of_boxed Bb.out⟩
          · cases hc : (decide (((v.b.n : Nat) : Int) ≤ 64))
            · as_aux_lemma =>
                go_wp2_with fail
                go_ret
                exact ⟨ret_bool (by rw [← HT6.out, ha, hb, hc]; first | rfl | trivial), of_boxed Bb.out⟩
            · cases hd : (((v.c.n : Nat) : Int) == 0)
              · as_aux_lemma =>
                  go_wp2_with fail
                  go_ret
                  exact ⟨ret_bool (by rw [← HT6.out, ha, hb, hc, hd]; first | rfl | trivial), of_boxed Bb.out⟩
              · cases he : (((v.d.n : Nat) : Int) == 0)
                · as_aux_lemma =>
                    go_wp2_with fail
                    go_ret
                    exact ⟨ret_bool (by rw [← HT6.out, ha, hb, hc, hd, he]; first | rfl | trivial), of_boxed Bb.out⟩
                · cases hf : (((v.e.n : Nat) : Int) == 0)
                  · as_aux_lemma =>
                      go_wp2_with fail
                      go_ret
                      exact ⟨ret_bool (by rw [← HT6.out, ha, hb, hc, hd, he, hf]; first | rfl | trivial), of_boxed Bb.out⟩
                  · cases hg : (((v.r.n : Nat) : Int) == 0)
                    · as_aux_lemma =>
                        go_wp2_with fail
                        go_ret
                        exact ⟨ret_bool (by rw [← HT6.out, ha, hb, hc, hd, he, hf, hg]; first | rfl | trivial), of_boxed Bb.out⟩
                    · as_aux_lemma =>
                        go_wp2_with fail
                        go_ret
                        exact ⟨ret_bool (by rw [← HT6.out, ha, hb, hc, hd, he, hf, hg]; first | rfl | trivial), of_boxed Bb.out⟩
    · as_aux_lemma =>
        go_wp2_with fail
        go_ret
        exact ⟨ret_bool (by first | rfl | trivial), of_boxed Bb.out⟩
end Go.Proofs.YtkhmocbfkpbpfaaGreatDoor

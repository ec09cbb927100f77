/- Contract: the document's Right. -/
import Derived.Test.YtkhmocbfkpbpfaaGreatDoorMarity
import Derived.Test.YtkhmocbfkpbpfaaGreatDoorMcoefs
import Derived.Test.YtkhmocbfkpbpfaaGreatDoorRg1
import Derived.Test.YtkhmocbfkpbpfaaGreatDoorGfn3
import Derived.Test.YtkhmocbfkpbpfaaGreatDoorMkp
namespace Go.Proofs.YtkhmocbfkpbpfaaGreatDoor
open Go.RowKit Go.Sort

theorem shape_size (k : Nat) : (⟨(shapesL.getD k []).toArray⟩ : ByteArray).size ≤ 4611686018427387904 := by
  have h : shapesL.all (fun l => decide (l.length ≤ 10)) = true := by kernel_rfl
  show (shapesL.getD k []).toArray.size ≤ _
  rw [List.size_toArray]
  by_cases hk : k < shapesL.length
  · have := List.all_eq_true.1 h (shapesL.getD k []) (by rw [List.getD_eq_getElem?_getD, List.getElem?_eq_getElem hk]; exact List.getElem_mem hk)
    simp only [decide_eq_true_eq] at this
    omega
  · rw [List.getD_eq_getElem?_getD, List.getElem?_eq_none (by omega)]
    decide

set_option maxHeartbeats 8000000 in
set_option maxRecDepth 100000 in
theorem refright_any (v : ConV) (c : ConL) (vars : Int) (w : World) (h : ConIn w v c) (hvars : vars ≤ 9223372036854775807) : Calls Tryz.prog 65 #[v.val c.kind c.K, .int .i64 vars] w fun e w' => e = .returned (.int .i64 (refRightE c vars)) ∧ Below w.heap.size w w' := by
  have CS := Lib.hid shapes_any
  have CA : Hid (∀ W, Below w.heap.size w W → Calls Tryz.prog 129 #[v.val c.kind c.K, .string ⟨(shapesL.getD c.kind.toNat []).toArray⟩] W fun e w' => e = .returned (.bool (arityB c ⟨(shapesL.getD c.kind.toNat []).toArray⟩)) ∧ Below W.heap.size W w') := Lib.hid (fun W hW => arity_any v c _ W (h.below hW) (shape_size _))
  have CC : Hid (arityB c ⟨(shapesL.getD c.kind.toNat []).toArray⟩ = true → 1 ≤ c.kind → c.kind ≤ 23 → ∀ W, Below w.heap.size w W → Calls Tryz.prog 131 #[v.val c.kind c.K] W fun e w' => e = .returned (.bool (coefsB c)) ∧ Below W.heap.size W w') := Lib.hid (fun q q1 q2 W hW => coefs_any v c W (h.below hW) (fun e => by
    have hA := alike_all c 20 (by omega) e
    rw [e] at q
    exact hA.2.2 (hA.1.trans q) e))
  have C1 : Hid (∀ W, Below w.heap.size w W → Calls Tryz.prog 130 #[.slice v.a.A v.a.n v.a.c, .int .i64 0, .int .i64 (highV vars)] W fun e w' => e = .returned (.bool (!c.A.any (outB 0 (highV vars)))) ∧ W = w') := Lib.hid (fun W hW => refIn_any v.a c.A 0 (highV vars) W (h.a.below hW))
  have C2 : Hid (∀ W, Below w.heap.size w W → Calls Tryz.prog 130 #[.slice v.b.A v.b.n v.b.c, .int .i64 0, .int .i64 (highV vars)] W fun e w' => e = .returned (.bool (!c.B.any (outB 0 (highV vars)))) ∧ W = w') := Lib.hid (fun W hW => refIn_any v.b c.B 0 (highV vars) W (h.b.below hW))
  have hhi : Hid (highV vars = if 0 < vars then vars - 1 else -1) := Lib.hid rfl
  have HRES : Hid (refRightE c vars = if c.kind < 1 ∨ 23 < c.kind then 9 else if arityB c ⟨(shapesL.getD c.kind.toNat []).toArray⟩ = false then 10 else if (c.A.any (outB 0 (highV vars)) || c.B.any (outB 0 (highV vars))) = true then 7 else if coefsB c = false then 11 else 0) := Lib.hid rfl
  generalize refRightE c vars = RES at HRES ⊢
  generalize highV vars = HV at hhi C1 C2 HRES
  generalize c.A.any (outB 0 HV) = t2 at C1 HRES
  generalize c.B.any (outB 0 HV) = t3 at C2 HRES
  generalize coefsB c = t4 at CC HRES
  generalize hT1 : arityB c ⟨(shapesL.getD c.kind.toNat []).toArray⟩ = t1 at CA CC HRES
  clear hT1 h
  generalize c.kind = kd at *
  generalize c.K = kk at *
  obtain ⟨wb, hwb⟩ : ∃ wb, (w.alloc (.cells (v.cells kd kk) 32)) = wb := ⟨_, rfl⟩
  have Bb : Hid (Below (w.heap.size + 1) (w.alloc (.cells (v.cells kd kk) 32)) wb) := Lib.hid (by rw [← hwb, show w.heap.size + 1 = (w.alloc (.cells (v.cells kd kk) 32)).heap.size by simp]; exact Below.refl _ _)
  have HWB := Lib.hid hwb
  clear hwb
  go_enter Tryz.func65, Tryz.ntmps65
  go_upto_region 1 with fail
  change Code.wp _ _ _ _ (w.alloc (.cells (v.cells kd kk) 32))
  rw [HWB.out]
  clear HWB
  obtain ⟨c0, c1, c2, c3, c4, c5, c6, c7⟩ := box8 Bb.out
  by_cases h1 : kd < 1
  · have HR2 := Lib.hid (HRES.out.trans (if_pos (.inl h1)))
    have h1b : decide (kd < 1) = true := by simpa using h1
    clear h1
    go_wp2_with fail
    go_ret
    exact ⟨int_eq HR2.out.symm, of_boxed Bb.out⟩
  · have h1b : decide (kd < 1) = false := by simpa using h1
    by_cases h2 : 23 < kd
    · have HR2 := Lib.hid (HRES.out.trans (if_pos (.inr h2)))
      have h2b : decide (23 < kd) = true := by simpa using h2
      clear h1 h2
      go_wp2_with fail
      go_ret
      exact ⟨int_eq HR2.out.symm, of_boxed Bb.out⟩
    · have HR2 := Lib.hid (HRES.out.trans (if_neg (by omega)))
      have h2b : decide (23 < kd) = false := by simpa using h2
      obtain ⟨k, hk⟩ : ∃ k : Nat, kd = ((k : Nat) : Int) := ⟨kd.toNat, by omega⟩
      have HKR : Hid (1 ≤ k ∧ k ≤ 23) := Lib.hid (by omega)
      subst hk
      have CC2 : Hid (t1 = true → ∀ W, Below w.heap.size w W → Calls Tryz.prog 131 #[v.val ((k : Nat) : Int) kk] W fun e w' => e = .returned (.bool t4) ∧ Below W.heap.size W w') := Lib.hid (fun q => CC.out q (by omega) (by omega))
      clear h1 h2 CC
      go_wp2_with fail
      refine (CS.out _).mono ?_
      rintro e w1 ⟨⟨x, rfl, hx⟩, b1⟩
      have B1 : Hid (Below (w.heap.size + 1) (w.alloc (.cells (v.cells ((k : Nat) : Int) kk) 32)) w1) := Lib.hid (Bb.out.trans (b1.mono (by have := Bb.out.size; simpa using this)))
      obtain ⟨ad, ead, had, hcl⟩ := hx.lies (by rw [hx.len]; decide)
      have hxn : x.n = 24 := hx.len
      have hkn : k < x.n := by have := HKR.out; omega
      have hck : ∀ d os, (grow (redrawn w1 d) os).cell? (ad.add k) = some (.string ⟨(shapesL.getD k []).toArray⟩) := cell_regrown (hcl k hkn)
      have hkn2 : ((k : Nat) : Int) < ((x.n : Nat) : Int) := by omega
      rw [ead]
      clear b1 hx hcl had ead hxn c0 c1 c2 c3 c4 c5 c6 c7 CS
      have HCA := Lib.hid (bo_regrown (w := w1) (fun W hW => CA.out W ((of_boxed B1.out).trans (hW.mono (of_boxed B1.out).size))))
      have ek : (((k : Nat) : Int)).toNat = k := by omega
      rw [ek] at HCA
      clear ek CA
      generalize shapesL.getD k [] = SH at hck HCA
      obtain ⟨b0, b1, b2, b3, b4, b5, b6, b7⟩ := ConBox.of B1.out
      go_upto_region 4 with fail
      go_cut [6] (fun a wx => a = .bool t1 ∧ Hid (Below (w.heap.size + 1) (w.alloc (.cells (v.cells ((k : Nat) : Int) kk) 32)) wx))
      case first =>
        refine wp_region_quiet_below (by kernel_rfl) (by kernel_rfl) ?_
        repeat (first | go_big_quiet_step (first | (go_at_call 129; with_reducible exact HCA.out _ _)) | quiet_step (first | (go_at_call 129; with_reducible exact HCA.out _ _)))
        refine wpQuiet_nil ?_
        intro _ hw'
        obtain ⟨⟨dq, osq⟩, hw''⟩ := hw'
        subst hw''
        have B6 : Hid (Below (w.heap.size + 1) (w.alloc (.cells (v.cells ((k : Nat) : Int) kk) 32)) (grow (redrawn w1 dq) osq)) := Lib.hid (B1.out.trans ((below_regrown w1 dq osq).mono (by have := B1.out.size; simpa using this)))
        generalize grow (redrawn w1 dq) osq = W6 at *
        go_wp2_with fail
        go_meet
        case rel => exact ⟨rfl, B6⟩
      case rest =>
        obtain ⟨rfl, B6⟩ := hcut
        clear b0 b1 b2 b3 b4 b5 b6 b7 hck HCA
        obtain ⟨wc, rfl⟩ : ∃ wy, wy = wc := ⟨_, rfl⟩
        obtain ⟨c0, c1, c2, c3, c4, c5, c6, c7⟩ := box8 B6.out
        cases t1
        · have HR3 : Hid (RES = 10) := Lib.hid (by rw [HR2.out]; rfl)
          clear HR2
          go_wp2_with fail
          go_ret
          exact ⟨int_eq HR3.out.symm, of_boxed B6.out⟩
        · have CC3 := Lib.hid (CC2.out rfl)
          have HR3 : Hid (RES = if (t2 || t3) = true then 7 else if t4 = false then 11 else 0) := Lib.hid (by rw [HR2.out]; rfl)
          clear HR2 CC2
          go_upto_if 29 with fail
          go_cut [7] (fun a7 wz => a7 = .int .i64 HV ∧ wc = wz)
          case first =>
            by_cases h0 : 0 < vars
            · have hb : decide (0 < vars) = true := by simpa using h0
              have h1 := hhi.out
              rw [if_pos h0] at h1
              have H1 := Lib.hid h1
              clear h1
              go_wp2_with fail
              go_meet
              case rel => exact ⟨by rw [H1.out], by first | rfl | trivial⟩
            · have hb : decide (0 < vars) = false := by simpa using h0
              have h1 := hhi.out
              rw [if_neg h0] at h1
              have H1 := Lib.hid h1
              clear h1
              go_wp2_with fail
              go_meet
              case rel => exact ⟨by rw [H1.out], by first | rfl | trivial⟩
          case rest =>
            obtain ⟨rfl, rfl⟩ := hcut
            go_wp2_with fail
            refine (C1.out _ (of_boxed B6.out)).mono ?_
            rintro e w' ⟨rfl, rfl⟩
            go_wp2_with fail
            refine (C2.out _ (of_boxed B6.out)).mono ?_
            rintro e w' ⟨rfl, rfl⟩
            cases t2
            · cases t3
              · have HR4 : Hid (RES = if t4 = false then 11 else 0) := Lib.hid (by rw [HR3.out]; rfl)
                clear HR3
                go_wp2_with fail
                refine (CC3.out _ (of_boxed B6.out)).mono ?_
                rintro e w7 ⟨rfl, b7⟩
                have B7 := Lib.hid ((of_boxed B6.out).trans (b7.mono (of_boxed B6.out).size))
                clear b7
                cases t4
                · go_wp2_with fail
                  go_ret
                  exact ⟨int_eq (by rw [HR4.out]; rfl), B7.out⟩
                · go_wp2_with fail
                  go_ret
                  exact ⟨int_eq (by rw [HR4.out]; rfl), B7.out⟩
              · go_wp2_with fail
                go_ret
                exact ⟨int_eq (by rw [HR3.out]; rfl), of_boxed B6.out⟩
            · go_wp2_with fail
              go_ret
              exact ⟨int_eq (by rw [HR3.out]; rfl), of_boxed B6.out⟩
end Go.Proofs.YtkhmocbfkpbpfaaGreatDoor

/- Contracts of package num for divisors that aren't 0: Quo, Floor, Ceil, by what they tell. -/
namespace Go.Proofs.YtkhmocbfkpbpfaaGreatDoor
open Go.RowKit Go.Sort

theorem hasQ_any (a b : Int) (w : World) (ha : -1000000000000000 ≤ a) (hb : b ≠ 0) : Calls Tryz.prog 233 #[.int .i64 a, .int .i64 b] w fun e w' => e = .returned (.bool true) ∧ w = w' := by
  have e1 : (b != 0) = true := by simpa using hb
  have e2 : (a != -9223372036854775808) = true := by simp; omega
  clear ha hb
  go_enter Tryz.func233, Tryz.ntmps233
  go_wp2_with fail
  go_ret
  exact ⟨rfl, rfl⟩
theorem tdiv_lim {a b : Int} (ha : -1000000000000000 ≤ a ∧ a ≤ 1000000000000000) : -1000000000000000 ≤ a.tdiv b ∧ a.tdiv b ≤ 1000000000000000 := by
  have : (a.tdiv b).natAbs ≤ a.natAbs := by
    rw [Int.natAbs_tdiv]
    exact Nat.div_le_self _ _
  omega
theorem tmod_lim {a b : Int} (ha : -1000000000000000 ≤ a ∧ a ≤ 1000000000000000) : -1000000000000000 ≤ a.tmod b ∧ a.tmod b ≤ 1000000000000000 := by
  have : (a.tmod b).natAbs ≤ a.natAbs := by
    rw [Int.natAbs_tmod]
    exact Nat.mod_le _ _
  omega
/-- The sum that a cut quotient and its remainder make. -/
theorem cut_sum (a b : Int) : a = b * a.tdiv b + a.tmod b := (Int.mul_tdiv_add_tmod a b).symm
theorem rem_sign (a b : Int) : (0 ≤ a → 0 ≤ a.tmod b) ∧ (a ≤ 0 → a.tmod b ≤ 0) := by
  refine ⟨fun h => Int.tmod_nonneg b h, fun h => ?_⟩
  have h4 : (-a).tmod b = -(a.tmod b) := Int.neg_tmod a b
  have h5 := Int.tmod_nonneg b (show 0 ≤ -a by omega)
  omega
theorem mul_le_iff_pos {b q r v : Int} (hb : 0 < b) (hr : 0 ≤ r ∧ r < b) : b * v ≤ b * q + r ↔ v ≤ q := by
  constructor
  · intro h
    apply Decidable.byContradiction
    intro hn
    have h1 : b * (q + 1) ≤ b * v := Int.mul_le_mul_of_nonneg_left (by omega) (by omega)
    rw [Int.mul_add, Int.mul_one] at h1
    omega
  · intro h
    have h1 : b * v ≤ b * q := Int.mul_le_mul_of_nonneg_left h (by omega)
    omega

set_option maxHeartbeats 2000000 in
/-- Floor by a divisor above 0: the greatest number that, so often, is no more. -/
theorem floor_tells (a b : Int) (w : World) (ha : -1000000000000000 ≤ a ∧ a ≤ 1000000000000000) (hb : 0 < b ∧ b ≤ 1000000) :
    Calls Tryz.prog 236 #[.int .i64 a, .int .i64 b] w fun e w' => (∃ q : Int, e = .returned (.tuple #[.int .i64 q, .bool true]) ∧ (∀ v, b * v ≤ a ↔ v ≤ q) ∧ -1000000000000001 ≤ q ∧ q ≤ 1000000000000000) ∧ w = w' := by
  have CQ := Lib.hid (hasQ_any a b w ha.1 (by omega))
  have h1 := tdiv_lim (b := b) ha
  have h2 := rem_sign a b
  have h3 := tmod_in a b (by omega)
  have hs := cut_sum a b
  have b0 : (b == 0) = false := by simp; omega
  have b1 : ¬ b = 0 := by omega
  have b2 : decide (b < 0) = false := by simp; omega
  have HQ : Hid (∀ v, b * v ≤ a ↔ v ≤ if a < 0 ∧ a.tmod b ≠ 0 then a.tdiv b - 1 else a.tdiv b) := Lib.hid (fun v => by
    split
    · next g =>
      have e : a = b * (a.tdiv b - 1) + (a.tmod b + b) := by rw [Int.mul_sub, Int.mul_one]; omega
      have := mul_le_iff_pos (b := b) (q := a.tdiv b - 1) (r := a.tmod b + b) (v := v) hb.1 (by omega)
      rw [← e] at this
      exact this
    · next g =>
      have := mul_le_iff_pos (b := b) (q := a.tdiv b) (r := a.tmod b) (v := v) hb.1 (by omega)
      rw [← hs] at this
      exact this)
  have w1 : IntKind.i64.wrap (a.tdiv b) = a.tdiv b := IntWalk.i64_in _ (by omega)
  have w2 : IntKind.i64.wrap (a.tdiv b - 1) = a.tdiv b - 1 := IntWalk.i64_in _ (by omega)
  have w3 : IntKind.i64.wrap (a.tmod b) = a.tmod b := IntWalk.i64_in _ (by have := tmod_lim (b := b) ha; omega)
  have HB := Lib.hid h1
  by_cases g2 : a.tmod b = 0
  · have e2 : (a.tmod b != 0) = false := by simp [g2]
    have HF : Hid (∀ v, b * v ≤ a ↔ v ≤ a.tdiv b) := Lib.hid (by have := HQ.out; rwa [if_neg (fun q => q.2 g2)] at this)
    clear HQ h1 h2 h3 hs ha hb g2
    cases e1 : decide (a < 0)
    all_goals
      go_enter Tryz.func236, Tryz.ntmps236
      go_wp2_with fail
      refine CQ.out.mono ?_
      rintro e w9 ⟨rfl, rfl⟩
      go_wp2_with fail
      exact bodyPost_ret (v := .tuple #[.int .i64 (a.tdiv b), .bool true]) (by simp [results, Tryz.results236, go_sem]) rfl ⟨⟨_, rfl, HF.out, by have := HB.out; omega⟩, rfl⟩
  · have e2 : (a.tmod b != 0) = true := by simp [g2]
    by_cases g1 : a < 0
    · have e1 : decide (a < 0) = true := by simpa using g1
      have HF : Hid (∀ v, b * v ≤ a ↔ v ≤ a.tdiv b - 1) := Lib.hid (by have := HQ.out; rwa [if_pos ⟨g1, g2⟩] at this)
      clear HQ h1 h2 h3 hs ha hb g1 g2
      go_enter Tryz.func236, Tryz.ntmps236
      go_wp2_with fail
      refine CQ.out.mono ?_
      rintro e w9 ⟨rfl, rfl⟩
      go_wp2_with fail
      exact bodyPost_ret (v := .tuple #[.int .i64 (a.tdiv b - 1), .bool true]) (by simp [results, Tryz.results236, go_sem]) rfl ⟨⟨_, rfl, HF.out, by have := HB.out; omega⟩, rfl⟩
    · have e1 : decide (a < 0) = false := by simpa using g1
      have HF : Hid (∀ v, b * v ≤ a ↔ v ≤ a.tdiv b) := Lib.hid (by have := HQ.out; rwa [if_neg (fun q => g1 q.1)] at this)
      clear HQ h1 h2 h3 hs ha hb g1 g2
      go_enter Tryz.func236, Tryz.ntmps236
      go_wp2_with fail
      refine CQ.out.mono ?_
      rintro e w9 ⟨rfl, rfl⟩
      go_wp2_with fail
      exact bodyPost_ret (v := .tuple #[.int .i64 (a.tdiv b), .bool true]) (by simp [results, Tryz.results236, go_sem]) rfl ⟨⟨_, rfl, HF.out, by have := HB.out; omega⟩, rfl⟩
theorem mul_le_iff_neg {b q r v : Int} (hb : b < 0) (hr : 0 ≤ r ∧ r < -b) : b * v ≤ b * q + r ↔ q ≤ v := by
  have h := mul_le_iff_pos (b := -b) (q := -q) (r := r) (v := -v) (by omega) hr
  rw [Int.neg_mul_neg, Int.neg_mul_neg] at h
  rw [h]
  omega

set_option maxHeartbeats 2000000 in
/-- Ceil by a divisor below 0: the least number that, so often, is no more. -/
theorem ceil_tells (a b : Int) (w : World) (ha : -1000000000000000 ≤ a ∧ a ≤ 1000000000000000) (hb : b < 0 ∧ -1000000 ≤ b) :
    Calls Tryz.prog 238 #[.int .i64 a, .int .i64 b] w fun e w' => (∃ q : Int, e = .returned (.tuple #[.int .i64 q, .bool true]) ∧ (∀ v, b * v ≤ a ↔ q ≤ v) ∧ -1000000000000000 ≤ q ∧ q ≤ 1000000000000001) ∧ w = w' := by
  have CQ := Lib.hid (hasQ_any a b w ha.1 (by omega))
  have h1 := tdiv_lim (b := b) ha
  have h2 := rem_sign a b
  have h3 : b < a.tmod b ∧ a.tmod b < -b := by
    have h := Int.natAbs_tmod a b
    have h2 : a.natAbs % b.natAbs < b.natAbs := Nat.mod_lt _ (by omega)
    omega
  have hs := cut_sum a b
  have b0 : (b == 0) = false := by simp; omega
  have b1 : ¬ b = 0 := by omega
  have b2 : decide (b < 0) = true := by simp; omega
  have HQ : Hid (∀ v, b * v ≤ a ↔ (if a < 0 ∧ a.tmod b ≠ 0 then a.tdiv b + 1 else a.tdiv b) ≤ v) := Lib.hid (fun v => by
    split
    · next g =>
      have e : a = b * (a.tdiv b + 1) + (a.tmod b - b) := by rw [Int.mul_add, Int.mul_one]; omega
      have := mul_le_iff_neg (b := b) (q := a.tdiv b + 1) (r := a.tmod b - b) (v := v) hb.1 (by omega)
      rw [← e] at this
      exact this
    · next g =>
      have := mul_le_iff_neg (b := b) (q := a.tdiv b) (r := a.tmod b) (v := v) hb.1 (by omega)
      rw [← hs] at this
      exact this)
  have w1 : IntKind.i64.wrap (a.tdiv b) = a.tdiv b := IntWalk.i64_in _ (by omega)
  have w2 : IntKind.i64.wrap (a.tdiv b + 1) = a.tdiv b + 1 := IntWalk.i64_in _ (by omega)
  have w3 : IntKind.i64.wrap (a.tmod b) = a.tmod b := IntWalk.i64_in _ (by have := tmod_lim (b := b) ha; omega)
  have HB := Lib.hid h1
  by_cases g2 : a.tmod b = 0
  · have e2 : (a.tmod b != 0) = false := by simp [g2]
    have HF : Hid (∀ v, b * v ≤ a ↔ a.tdiv b ≤ v) := Lib.hid (by have := HQ.out; rwa [if_neg (fun q => q.2 g2)] at this)
    clear HQ h1 h2 h3 hs ha hb g2
    cases e1 : decide (a < 0)
    all_goals
      go_enter Tryz.func238, Tryz.ntmps238
      go_wp2_with fail
      refine CQ.out.mono ?_
      rintro e w9 ⟨rfl, rfl⟩
      go_wp2_with fail
      exact bodyPost_ret (v := .tuple #[.int .i64 (a.tdiv b), .bool true]) (by simp [results, Tryz.results238, go_sem]) rfl ⟨⟨_, rfl, HF.out, by have := HB.out; omega⟩, rfl⟩
  · have e2 : (a.tmod b != 0) = true := by simp [g2]
    by_cases g1 : a < 0
    · have e1 : decide (a < 0) = true := by simpa using g1
      have HF : Hid (∀ v, b * v ≤ a ↔ a.tdiv b + 1 ≤ v) := Lib.hid (by have := HQ.out; rwa [if_pos ⟨g1, g2⟩] at this)
      clear HQ h1 h2 h3 hs ha hb g1 g2
      go_enter Tryz.func238, Tryz.ntmps238
      go_wp2_with fail
      refine CQ.out.mono ?_
      rintro e w9 ⟨rfl, rfl⟩
      go_wp2_with fail
      exact bodyPost_ret (v := .tuple #[.int .i64 (a.tdiv b + 1), .bool true]) (by simp [results, Tryz.results238, go_sem]) rfl ⟨⟨_, rfl, HF.out, by have := HB.out; omega⟩, rfl⟩
    · have e1 : decide (a < 0) = false := by simpa using g1
      have HF : Hid (∀ v, b * v ≤ a ↔ a.tdiv b ≤ v) := Lib.hid (by have := HQ.out; rwa [if_neg (fun q => g1 q.1)] at this)
      clear HQ h1 h2 h3 hs ha hb g1 g2
      go_enter Tryz.func238, Tryz.ntmps238
      go_wp2_with fail
      refine CQ.out.mono ?_
      rintro e w9 ⟨rfl, rfl⟩
      go_wp2_with fail
      exact bodyPost_ret (v := .tuple #[.int .i64 (a.tdiv b), .bool true]) (by simp [results, Tryz.results238, go_sem]) rfl ⟨⟨_, rfl, HF.out, by have := HB.out; omega⟩, rfl⟩
end Go.Proofs.YtkhmocbfkpbpfaaGreatDoor

/- Contracts: rightNumbers, Right. -/
import Derived.Test.YtppiemgdjkehkaaDoorMcount
namespace Go.Proofs.YtppiemgdjkehkaaDoor
open Go.RowKit Go.Sort

def lowC (c : ConL) : Int := if c.kind = 19 then 0 else -1000000
def lowK (c : ConL) : Int := if c.kind = 19 then 0 else -9999999999
/-- Are all numbers within their bounds? -/
def numsB (c : ConL) : Bool := !c.C.any (outB (lowC c) 1000000) && !c.D.any (outB 0 1000000) && !c.E.any (outB 0 1000000) && !outB (lowK c) 9999999999 c.K && !c.rows.any (fun r => r.any (outB (-1000000) 1000000)) && (c.kind != 21 || countsB c)

theorem box8 {w W : World} {v : ConV} {kd kk : Int} {t : TypeId} (h : Below (w.heap.size + 1) (w.alloc (.cells (v.cells kd kk) t)) W) :
    W.cell? ⟨w.heap.size, 0, none⟩ = some (.int .i64 kd) ∧ W.cell? ⟨w.heap.size, 1, none⟩ = some (.slice v.a.A v.a.n v.a.c) ∧ W.cell? ⟨w.heap.size, 2, none⟩ = some (.slice v.b.A v.b.n v.b.c) ∧ W.cell? ⟨w.heap.size, 3, none⟩ = some (.slice v.c.A v.c.n v.c.c) ∧ W.cell? ⟨w.heap.size, 4, none⟩ = some (.slice v.d.A v.d.n v.d.c) ∧ W.cell? ⟨w.heap.size, 5, none⟩ = some (.slice v.e.A v.e.n v.e.c) ∧ W.cell? ⟨w.heap.size, 6, none⟩ = some (.int .i64 kk) ∧ W.cell? ⟨w.heap.size, 7, none⟩ = some (.slice v.r.A v.r.n v.r.c) := by
  refine ⟨?_, ?_, ?_, ?_, ?_, ?_, ?_, ?_⟩ <;> rw [h.cell (by simp)] <;> simp

/-- Rows that are all within bounds, up to a place. -/
def rowTo (R : List (List Int)) (k : Nat) : Prop := anyRow (fun r => r.any (outB (-1000000) 1000000)) R k

set_option maxHeartbeats 8000000 in
set_option maxRecDepth 100000 in
theorem rightNumbers_any (v : ConV) (c : ConL) (w : World) (h : ConIn w v c) (hg : c.kind = 21 → c.D.length = c.C.length ∧ c.E.length = c.C.length) : Calls Tryd.prog 44 #[v.val c.kind c.K] w fun e w' => e = .returned (.bool (numsB c)) ∧ Below w.heap.size w w' := by
  have H := Lib.hid h
  have CW := Lib.hid (fun x L low W hx => within_any x L low 1000000 W hx)
  have CC : Hid (∀ W, Below w.heap.size w W → c.kind = 21 → Calls Tryd.prog 79 #[v.val c.kind c.K] W fun e w' => e = .returned (.bool (countsB c)) ∧ Below W.heap.size W w') := Lib.hid (fun W hW q => rightCounts_any v c W (h.below hW) (hg q).1 (hg q).2)
  have hnum : Hid (numsB c = (!c.C.any (outB (lowC c) 1000000) && !c.D.any (outB 0 1000000) && !c.E.any (outB 0 1000000) && !outB (lowK c) 9999999999 c.K && !c.rows.any (fun r => r.any (outB (-1000000) 1000000)) && (c.kind != 21 || countsB c))) := Lib.hid rfl
  have C1 : Hid (∀ W, Below w.heap.size w W → Calls Tryd.prog 78 #[.slice v.c.A v.c.n v.c.c, .int .i64 (lowC c), .int .i64 1000000] W fun e w' => e = .returned (.bool (!c.C.any (outB (lowC c) 1000000))) ∧ Below W.heap.size W w') := Lib.hid (fun W hW => CW.out v.c c.C (lowC c) W (h.c.below hW))
  have C2 : Hid (∀ W, Below w.heap.size w W → Calls Tryd.prog 78 #[.slice v.d.A v.d.n v.d.c, .int .i64 0, .int .i64 1000000] W fun e w' => e = .returned (.bool (!c.D.any (outB 0 1000000))) ∧ Below W.heap.size W w') := Lib.hid (fun W hW => CW.out v.d c.D 0 W (h.d.below hW))
  have C3 : Hid (∀ W, Below w.heap.size w W → Calls Tryd.prog 78 #[.slice v.e.A v.e.n v.e.c, .int .i64 0, .int .i64 1000000] W fun e w' => e = .returned (.bool (!c.E.any (outB 0 1000000))) ∧ Below W.heap.size W w') := Lib.hid (fun W hW => CW.out v.e c.E 0 W (h.e.below hW))
  have hR := h.r
  have hlc : Hid (lowC c = if c.kind = 19 then 0 else -1000000) := Lib.hid rfl
  have hlk : Hid (lowK c = if c.kind = 19 then 0 else -9999999999) := Lib.hid rfl
  generalize numsB c = RES at hnum ⊢
  generalize lowC c = LC at hnum C1 hlc
  generalize lowK c = LK at hnum hlk
  generalize (!c.C.any (outB LC 1000000)) = t1 at hnum C1
  generalize (!c.D.any (outB 0 1000000)) = t2 at hnum C2
  generalize (!c.E.any (outB 0 1000000)) = t3 at hnum C3
  generalize countsB c = t6 at hnum CC
  generalize c.kind = kd at *
  generalize c.K = kk at *
  generalize hrr : c.rows = RR at *
  obtain ⟨va, vb, vc, vd, ve, ⟨rA, rn, rc⟩⟩ := v
  obtain ⟨hrn, hrbig, hrl⟩ := hR
  simp only at *
  have HRL := Lib.hid hrl
  have HRN := Lib.hid hrn
  clear hrl hrn h H CW hg hrr
  go_enter Tryd.func44, Tryd.ntmps44
  go_upto_if 9 with fail
  go_cut [3, 4] (fun a3 a4 wx => a3 = .int .i64 LC ∧ a4 = .int .i64 LK ∧ wx = (w.alloc (.cells (ConV.cells ⟨va, vb, vc, vd, ve, ⟨rA, rn, rc⟩⟩ kd kk) 30)))
  case first =>
    by_cases h19 : kd = 19
    · have hb : (kd == 19) = true := by simpa using h19
      have h1 := hlc.out
      have h2 := hlk.out
      rw [if_pos h19] at h1 h2
      subst h1 h2
      clear h19
      go_wp2_with fail
      go_meet
      case rel => exact ⟨rfl, rfl, rfl⟩
    · have hb : (kd == 19) = false := by simpa using h19
      have h1 := hlc.out
      have h2 := hlk.out
      rw [if_neg h19] at h1 h2
      subst h1 h2
      clear h19
      go_wp2_with fail
      go_meet
      case rel => exact ⟨rfl, rfl, rfl⟩
  case rest =>
    obtain ⟨rfl, rfl, rfl⟩ := hcut
    cases t1
    · go_wp2_with fail
      refine (C1.out _ (below1 w _)).mono ?_
      rintro e w1 ⟨rfl, b1⟩
      have Bw1 : Hid (Below (w.heap.size + 1) (w.alloc (.cells (ConV.cells ⟨va, vb, vc, vd, ve, ⟨rA, rn, rc⟩⟩ kd kk) 30)) w1) := Lib.hid (b1.mono (by simp))
      clear b1
      obtain ⟨c0, c1, c2, c3, c4, c5, c6, c7⟩ := box8 Bw1.out
      go_wp2_with fail
      go_ret
      exact ⟨ret_bool (by rw [hnum.out]; simp), of_boxed Bw1.out⟩
    · cases t2
      · go_wp2_with fail
        refine (C1.out _ (below1 w _)).mono ?_
        rintro e w1 ⟨rfl, b1⟩
        have Bw1 : Hid (Below (w.heap.size + 1) (w.alloc (.cells (ConV.cells ⟨va, vb, vc, vd, ve, ⟨rA, rn, rc⟩⟩ kd kk) 30)) w1) := Lib.hid (b1.mono (by simp))
        clear b1
        obtain ⟨c0, c1, c2, c3, c4, c5, c6, c7⟩ := box8 Bw1.out
        go_wp2_with fail
        refine (C2.out _ (of_boxed Bw1.out)).mono ?_
        rintro e w2 ⟨rfl, b1⟩
        have Bw2 : Hid (Below (w.heap.size + 1) (w.alloc (.cells (ConV.cells ⟨va, vb, vc, vd, ve, ⟨rA, rn, rc⟩⟩ kd kk) 30)) w2) := Lib.hid (Bw1.out.trans (b1.mono (by have := Bw1.out.size; simpa using this)))
        clear b1 c0 c1 c2 c3 c4 c5 c6 c7
        obtain ⟨c0, c1, c2, c3, c4, c5, c6, c7⟩ := box8 Bw2.out
        go_wp2_with fail
        go_ret
        exact ⟨ret_bool (by rw [hnum.out]; simp), of_boxed Bw2.out⟩
      · cases t3
        · go_wp2_with fail
          refine (C1.out _ (below1 w _)).mono ?_
          rintro e w1 ⟨rfl, b1⟩
          have Bw1 : Hid (Below (w.heap.size + 1) (w.alloc (.cells (ConV.cells ⟨va, vb, vc, vd, ve, ⟨rA, rn, rc⟩⟩ kd kk) 30)) w1) := Lib.hid (b1.mono (by simp))
          clear b1
          obtain ⟨c0, c1, c2, c3, c4, c5, c6, c7⟩ := box8 Bw1.out
          go_wp2_with fail
          refine (C2.out _ (of_boxed Bw1.out)).mono ?_
          rintro e w2 ⟨rfl, b1⟩
          have Bw2 : Hid (Below (w.heap.size + 1) (w.alloc (.cells (ConV.cells ⟨va, vb, vc, vd, ve, ⟨rA, rn, rc⟩⟩ kd kk) 30)) w2) := Lib.hid (Bw1.out.trans (b1.mono (by have := Bw1.out.size; simpa using this)))
          clear b1 c0 c1 c2 c3 c4 c5 c6 c7
          obtain ⟨c0, c1, c2, c3, c4, c5, c6, c7⟩ := box8 Bw2.out
          go_wp2_with fail
          refine (C3.out _ (of_boxed Bw2.out)).mono ?_
          rintro e w3 ⟨rfl, b1⟩
          have Bw3 : Hid (Below (w.heap.size + 1) (w.alloc (.cells (ConV.cells ⟨va, vb, vc, vd, ve, ⟨rA, rn, rc⟩⟩ kd kk) 30)) w3) := Lib.hid (Bw2.out.trans (b1.mono (by have := Bw2.out.size; simpa using this)))
          clear b1 c0 c1 c2 c3 c4 c5 c6 c7
          obtain ⟨c0, c1, c2, c3, c4, c5, c6, c7⟩ := box8 Bw3.out
          go_wp2_with fail
          go_ret
          exact ⟨ret_bool (by rw [hnum.out]; simp), of_boxed Bw3.out⟩
        · by_cases hk1 : kk < LK
          · have hk1b : decide (kk < LK) = true := by simpa using hk1
            go_wp2_with fail
            refine (C1.out _ (below1 w _)).mono ?_
            rintro e w1 ⟨rfl, b1⟩
            have Bw1 : Hid (Below (w.heap.size + 1) (w.alloc (.cells (ConV.cells ⟨va, vb, vc, vd, ve, ⟨rA, rn, rc⟩⟩ kd kk) 30)) w1) := Lib.hid (b1.mono (by simp))
            clear b1
            obtain ⟨c0, c1, c2, c3, c4, c5, c6, c7⟩ := box8 Bw1.out
            go_wp2_with fail
            refine (C2.out _ (of_boxed Bw1.out)).mono ?_
            rintro e w2 ⟨rfl, b1⟩
            have Bw2 : Hid (Below (w.heap.size + 1) (w.alloc (.cells (ConV.cells ⟨va, vb, vc, vd, ve, ⟨rA, rn, rc⟩⟩ kd kk) 30)) w2) := Lib.hid (Bw1.out.trans (b1.mono (by have := Bw1.out.size; simpa using this)))
            clear b1 c0 c1 c2 c3 c4 c5 c6 c7
            obtain ⟨c0, c1, c2, c3, c4, c5, c6, c7⟩ := box8 Bw2.out
            go_wp2_with fail
            refine (C3.out _ (of_boxed Bw2.out)).mono ?_
            rintro e w3 ⟨rfl, b1⟩
            have Bw3 : Hid (Below (w.heap.size + 1) (w.alloc (.cells (ConV.cells ⟨va, vb, vc, vd, ve, ⟨rA, rn, rc⟩⟩ kd kk) 30)) w3) := Lib.hid (Bw2.out.trans (b1.mono (by have := Bw2.out.size; simpa using this)))
            clear b1 c0 c1 c2 c3 c4 c5 c6 c7
            obtain ⟨c0, c1, c2, c3, c4, c5, c6, c7⟩ := box8 Bw3.out
            go_wp2_with fail
            go_ret
            exact ⟨ret_bool (by rw [hnum.out]; simp [outB, hk1b]), of_boxed Bw3.out⟩
          · have hk1b : decide (kk < LK) = false := by simpa using hk1
            by_cases hk2 : 9999999999 < kk
            · have hk2b : decide (9999999999 < kk) = true := by simpa using hk2
              go_wp2_with fail
              refine (C1.out _ (below1 w _)).mono ?_
              rintro e w1 ⟨rfl, b1⟩
              have Bw1 : Hid (Below (w.heap.size + 1) (w.alloc (.cells (ConV.cells ⟨va, vb, vc, vd, ve, ⟨rA, rn, rc⟩⟩ kd kk) 30)) w1) := Lib.hid (b1.mono (by simp))
              clear b1
              obtain ⟨c0, c1, c2, c3, c4, c5, c6, c7⟩ := box8 Bw1.out
              go_wp2_with fail
              refine (C2.out _ (of_boxed Bw1.out)).mono ?_
              rintro e w2 ⟨rfl, b1⟩
              have Bw2 : Hid (Below (w.heap.size + 1) (w.alloc (.cells (ConV.cells ⟨va, vb, vc, vd, ve, ⟨rA, rn, rc⟩⟩ kd kk) 30)) w2) := Lib.hid (Bw1.out.trans (b1.mono (by have := Bw1.out.size; simpa using this)))
              clear b1 c0 c1 c2 c3 c4 c5 c6 c7
              obtain ⟨c0, c1, c2, c3, c4, c5, c6, c7⟩ := box8 Bw2.out
              go_wp2_with fail
              refine (C3.out _ (of_boxed Bw2.out)).mono ?_
              rintro e w3 ⟨rfl, b1⟩
              have Bw3 : Hid (Below (w.heap.size + 1) (w.alloc (.cells (ConV.cells ⟨va, vb, vc, vd, ve, ⟨rA, rn, rc⟩⟩ kd kk) 30)) w3) := Lib.hid (Bw2.out.trans (b1.mono (by have := Bw2.out.size; simpa using this)))
              clear b1 c0 c1 c2 c3 c4 c5 c6 c7
              obtain ⟨c0, c1, c2, c3, c4, c5, c6, c7⟩ := box8 Bw3.out
              go_wp2_with fail
              go_ret
              exact ⟨ret_bool (by rw [hnum.out]; simp [outB, hk2b]), of_boxed Bw3.out⟩
            · have hk2b : decide (9999999999 < kk) = false := by simpa using hk2
              have hkk : outB LK 9999999999 kk = false := by simp [outB, hk1b, hk2b]
              go_wp2_with fail
              refine (C1.out _ (below1 w _)).mono ?_
              rintro e w1 ⟨rfl, b1⟩
              have Bw1 : Hid (Below (w.heap.size + 1) (w.alloc (.cells (ConV.cells ⟨va, vb, vc, vd, ve, ⟨rA, rn, rc⟩⟩ kd kk) 30)) w1) := Lib.hid (b1.mono (by simp))
              clear b1
              obtain ⟨c0, c1, c2, c3, c4, c5, c6, c7⟩ := box8 Bw1.out
              go_wp2_with fail
              refine (C2.out _ (of_boxed Bw1.out)).mono ?_
              rintro e w2 ⟨rfl, b1⟩
              have Bw2 : Hid (Below (w.heap.size + 1) (w.alloc (.cells (ConV.cells ⟨va, vb, vc, vd, ve, ⟨rA, rn, rc⟩⟩ kd kk) 30)) w2) := Lib.hid (Bw1.out.trans (b1.mono (by have := Bw1.out.size; simpa using this)))
              clear b1 c0 c1 c2 c3 c4 c5 c6 c7
              obtain ⟨c0, c1, c2, c3, c4, c5, c6, c7⟩ := box8 Bw2.out
              go_wp2_with fail
              refine (C3.out _ (of_boxed Bw2.out)).mono ?_
              rintro e w3 ⟨rfl, b1⟩
              have Bw3 : Hid (Below (w.heap.size + 1) (w.alloc (.cells (ConV.cells ⟨va, vb, vc, vd, ve, ⟨rA, rn, rc⟩⟩ kd kk) 30)) w3) := Lib.hid (Bw2.out.trans (b1.mono (by have := Bw2.out.size; simpa using this)))
              clear b1 c0 c1 c2 c3 c4 c5 c6 c7
              obtain ⟨c0, c1, c2, c3, c4, c5, c6, c7⟩ := box8 Bw3.out
              go_wp2_with fail
              clear c0 c1 c2 c3 c4 c5 c6 c7
              go_loopw [39] (fun i wr => ∃ k : Nat, i = .int .i64 (k : Nat) ∧ k ≤ rn ∧ Hid (anyRow (fun r => r.any (outB (-1000000) 1000000)) RR k) ∧ Hid (Below (w.heap.size + 1) (w.alloc (.cells (ConV.cells ⟨va, vb, vc, vd, ve, ⟨rA, rn, rc⟩⟩ kd kk) 30)) wr)) (fun i _ => rn - (intOf i).toNat)
              case atStart => exact ⟨0, rfl, by omega, Lib.hid (fun j hj => absurd hj (by omega)), Bw3⟩
              case round =>
                obtain ⟨k, rfl, hk, H0, HB⟩ := hrel
                by_cases hlt : k < rn
                · obtain ⟨ad, rfl, hbk, hcl⟩ := HRL.out (by omega)
                  obtain ⟨u, hu, hr⟩ := hcl k hlt
                  have hbw := of_boxed HB.out
                  have hck : wr.cell? (ad.add k) = some (.slice u.A u.n u.c) := (hbw.cell (by rw [add_block]; exact hbk)).trans hu
                  have HY := Lib.hid (anyRow_yes (p := fun r => r.any (outB (-1000000) 1000000)) (R := RR) (k := k) (by rw [← HRN.out]; exact hlt))
                  have HN : Hid ((RR.getD k []).any (outB (-1000000) 1000000) = false → anyRow (fun r => r.any (outB (-1000000) 1000000)) RR (k + 1)) := Lib.hid (fun e j hj => by
                    by_cases h : j < k
                    · exact H0.out j h
                    · obtain rfl : j = k := by omega
                      exact e)
                  have cS := Lib.hid (within_any u (RR.getD k []) (-1000000) 1000000 wr (hr.below hbw))
                  clear hcl hbk hu hr hbw H0
                  generalize RR.getD k [] = z at HY HN cS
                  cases hz : z.any (outB (-1000000) 1000000)
                  · have HN2 := Lib.hid (HN.out hz)
                    rw [hz] at cS
                    clear HN HY hz
                    go_wp2_with fail
                    refine cS.out.mono ?_
                    rintro e w4 ⟨rfl, b1⟩
                    have B4 : Hid (Below (w.heap.size + 1) (w.alloc (.cells (ConV.cells ⟨va, vb, vc, vd, ve, ⟨some ad, rn, rc⟩⟩ kd kk) 30)) w4) := Lib.hid (HB.out.trans (b1.mono (by have := HB.out.size; simpa using this)))
                    clear b1
                    go_wp2_with fail
                    go_roundw
                    case rel => exact ⟨k + 1, by go_num, by omega, HN2, B4⟩
                    case measure => simp [intOf]; omega
                  · have HY2 := Lib.hid (HY.out hz)
                    rw [hz] at cS
                    clear HN HY hz
                    go_wp2_with fail
                    refine cS.out.mono ?_
                    rintro e w4 ⟨rfl, b1⟩
                    have B4 := Lib.hid (HB.out.trans (b1.mono (by have := HB.out.size; simpa using this)))
                    clear b1
                    go_wp2_with fail
                    go_ret
                    exact ⟨ret_bool (by rw [hnum.out, HY2.out]; simp), of_boxed B4.out⟩
                · have HN : Hid (RR.any (fun r => r.any (outB (-1000000) 1000000)) = false) := Lib.hid (anyRow_no (by rw [← HRN.out]; have := H0.out; rwa [show k = rn by omega] at this))
                  clear H0
                  obtain ⟨c0, c1, c2, c3, c4, c5, c6, c7⟩ := box8 HB.out
                  by_cases h21 : kd = 21
                  · have hb : (kd != 21) = false := by simp [h21]
                    have C21 := Lib.hid (CC.out wr (of_boxed HB.out) h21)
                    clear h21
                    go_wp2_with fail
                    refine C21.out.mono ?_
                    rintro e w4 ⟨rfl, b1⟩
                    have B4 := Lib.hid (HB.out.trans (b1.mono (by have := HB.out.size; simpa using this)))
                    clear b1
                    go_wp2_with fail
                    go_ret
                    exact ⟨ret_bool (by rw [hnum.out, HN.out, hkk, hb]; simp), of_boxed B4.out⟩
                  · have hb : (kd != 21) = true := by simp [h21]
                    clear h21
                    go_wp2_with fail
                    go_ret
                    exact ⟨ret_bool (by rw [hnum.out, HN.out, hkk, hb]; simp), of_boxed HB.out⟩
end Go.Proofs.YtppiemgdjkehkaaDoor

/- Contracts: gaps between tokens. -/
import Derived.Test.YtancjkanmjdkkaaDoorRun
namespace Go.Proofs.YtancjkanmjdkkaaDoor
open Go.RowKit

theorem gap1_any (b n : Nat) (c : Bool) (w : World) (hb : w.heap[b]? = some (.cells #[.bool c] 4 (0, 0))) :
    Calls Tryd.prog 31 #[rn n, .pointer (some ⟨b, 0, none⟩)] w fun e w' => e = .returned (.bool (overN c n)) ∧ w' = w.setCell ⟨b, 0, none⟩ (.bool (comN c n)) := by
  have hc := cell_of_one hb
  have hf := free_of_one hb
  have cB := isBlank_any n
  have h10 : (((n : Int)) != 10) = (n != 10) := by
    rw [Bool.eq_iff_iff, bne_iff_ne, bne_iff_ne]
    omega
  have h37 : (((n : Int)) == 37) = (n == 37) := by
    rw [Bool.eq_iff_iff, beq_iff_eq, beq_iff_eq]
    omega
  have key : ∀ v, comN c n = v → Calls Tryd.prog 31 #[rn n, .pointer (some ⟨b, 0, none⟩)] w fun e w' => e = .returned (.bool (v || blaR n)) ∧ w' = w.setCell ⟨b, 0, none⟩ (.bool v) := by
    intro v hv
    have hc2 : (w.setCell ⟨b, 0, none⟩ (.bool v)).cell? ⟨b, 0, none⟩ = some (.bool v) := cell_of_one (one_setCell hb)
    clear hb
    unfold comN at hv
    cases a1 : (n != 10) <;> cases c <;> cases a2 : (n == 37) <;> rw [a1] at h10 hv <;> rw [a2] at h37 hv <;> simp only [Bool.true_and, Bool.false_and, Bool.or_true, Bool.or_false] at hv <;> subst hv <;> cases hbl : blaR n <;> rw [hbl] at cB
    all_goals clear a1 a2 hbl
    all_goals go_enter Tryd.func31, Tryd.ntmps31
    all_goals go_wp2_with (go_at_call 32; refine (cB _).mono ?_; rintro e w' ⟨rfl, rfl⟩)
    all_goals go_ret
    all_goals exact ⟨rfl, rfl⟩
  exact key _ rfl

set_option maxHeartbeats 1000000 in
theorem run_gap (B b : Nat) (s : ByteArray) (w : World) (hb : w.heap[b]? = some (.cells #[.bool false] 4 (0, 0))) (hB : B ≤ b) :
    Calls Tryd.prog 30 #[.string s, .func (.func 31) #[] #[.pointer (some ⟨b, 0, none⟩)]] w fun e w' => e = .returned (.int .i64 (gapN false (bl s) : Nat)) ∧ Below B w w' := by
  have hblt := lt_of_block hb
  have HB := Lib.hid hb
  have HBB := Lib.hid hB
  clear hb hB
  go_enter Tryd.func30, Tryd.ntmps30
  go_wp2
  go_loopg [] s.size (fun gf wx => ∃ (pos : Nat) (c : Bool), wx.heap[w.heap.size]? = some (.stringIter s pos) ∧ wx.heap[b]? = some (.cells #[.bool c] 4 (0, 0)) ∧ Below B w wx ∧ gapN false (bl s) = pos + gapN c ((bl s).drop pos) ∧ pos ≤ s.size ∧ s.size ≤ pos + gf)
  case atStart => exact ⟨0, false, World.iter_heap w s 0, (Lib.alloc_old w _ b hblt).trans HB.out, (Below.refl _ w).alloc (by have := HBB.out; omega) _, by simp, by omega, by omega⟩
  case round =>
    obtain ⟨pos, c, hit, hbx, hbw, hlen, hle, hfu⟩ := hrel
    by_cases hps : pos < s.size
    · obtain ⟨g', rfl⟩ : ∃ g', gk = g' + 1 := ⟨gk - 1, by omega⟩
      have hnx : ∀ ty, (Instr.next (.pointer (some ⟨w.heap.size, 0, none⟩)) true ty).run Tryd.prog wr = _ := fun ty => Lib.run_next_any_at wr w.heap.size s pos ty hit hps
      have HON := Lib.hid (gap_on (c := c) hps)
      have HOFF := Lib.hid (gap_off (c := c) hps)
      have HDI := Lib.hid (decode_inside s pos hps)
      have HLEN := Lib.hid hlen
      clear hlen
      obtain ⟨R, hR⟩ : ∃ R, (Utf8.decode s pos).1 = R := ⟨_, rfl⟩
      obtain ⟨K, hK⟩ : ∃ K, (Utf8.decode s pos).2 = K := ⟨_, rfl⟩
      rw [hR, hK] at hnx
      rw [hR, hK] at HON
      rw [hR] at HOFF
      rw [hK] at HDI
      have hit2 := Lib.iterAt_heap wr w.heap.size s pos (pos + K) hit
      have hbw2 := Lib.below_iterAt hbw (k := w.heap.size) (by have := HBB.out; omega) s (pos + K)
      have hbx2 := (Lib.iterAt_other wr w.heap.size b s (pos + K) (by omega)).trans hbx
      obtain ⟨W, hWd⟩ : ∃ W, wr.iterAt w.heap.size s (pos + K) = W := ⟨_, rfl⟩
      rw [hWd] at hnx hit2 hbw2 hbx2
      have cS := gap1_any b R c W hbx2
      have HX := Lib.hid hbx2
      have HI := Lib.hid hit2
      have HW := Lib.hid hbw2
      clear hbx2 hit2 hbw2 hbx hit hbw
      cases hsp : overN c R <;> rw [hsp] at cS
      · have HF := Lib.hid (HOFF.out hsp)
        clear HOFF HON hsp
        go_wp2_with fail
        refine cS.mono ?_
        rintro e W' ⟨rfl, rfl⟩
        go_wp2_with fail
        go_ret
        exact ⟨int_eq (by have h1 := HLEN.out; have h2 := HF.out; omega), HW.out.trans (Below.setCell (Below.refl _ _) (by have := HBB.out; exact this) _)⟩
      · have HF := Lib.hid (HON.out hsp)
        clear HOFF HON hsp
        go_wp2_with fail
        refine cS.mono ?_
        rintro e W' ⟨rfl, rfl⟩
        go_wp2_with fail
        go_roundg g'
        case measure => omega
        case rel =>
          refine ⟨pos + K, comN c R, ?_, one_setCell HX.out, HW.out.trans (Below.setCell (Below.refl _ _) (by have := HBB.out; exact this) _), by have h1 := HLEN.out; have h2 := HF.out; omega, HDI.out.2.1, by have := HDI.out.1; omega⟩
          rw [Below.heap_setCell _ _ _ _ (by simp; omega)]
          exact HI.out
    · have hnx : ∀ ty, (Instr.next (.pointer (some ⟨w.heap.size, 0, none⟩)) true ty).run Tryd.prog wr = _ := fun ty => Lib.run_next_end_at wr w.heap.size s pos ty hit hps
      have HL : Hid (gapN false (bl s) = s.size) := Lib.hid (by
        rw [hlen, List.drop_of_length_le (by rw [bl_len]; omega)]
        simp [gapN]
        omega)
      clear hlen
      go_wp2_with fail
      go_ret
      exact ⟨int_eq (by have h1 := HL.out; omega), hbw⟩

theorem gap_any (s : ByteArray) (w : World) : Calls Tryd.prog 16 #[.string s] w fun e w' => e = .returned (.int .i64 (gapN false (bl s) : Nat)) ∧ Below w.heap.size w w' := by
  have hmf : ∀ (fn : Fn) (first cap : Array Value) (w : World), (Instr.makeFunc fn first cap).run Tryd.prog w = .ok (.func fn first cap) w := fun _ _ _ _ => rfl
  have CR := Lib.hid (fun W hb => run_gap w.heap.size w.heap.size s W hb (Nat.le_refl _))
  go_enter Tryd.func16, Tryd.ntmps16
  go_wp2_with fail
  refine (CR.out _ (heap_alloc_new _ _)).mono ?_
  rintro e W' ⟨rfl, hb⟩
  go_wp2_with fail
  go_ret
  exact ⟨rfl, ((Below.refl _ w).alloc (Nat.le_refl _) _).trans hb⟩
end Go.Proofs.YtancjkanmjdkkaaDoor

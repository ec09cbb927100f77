/- The document's own small functions: has, list, in, Shapes, Words. -/
import Derived.Test.YtppiemgdjkehkaaDoorMright
namespace Go.Proofs.YtppiemgdjkehkaaDoor
open Go.RowKit Go.Sort

def listB (n one all : Int) : Bool := if 0 < all then decide (1 ≤ n) && decide (n ≤ 64) else n == one

theorem refList_any (n one all : Int) (w : World) : Calls Tryd.prog 63 #[.int .i64 n, .int .i64 one, .int .i64 all] w fun e w' => e = .returned (.bool (listB n one all)) ∧ w = w' := by
  unfold listB
  by_cases h0 : 0 < all
  · rw [if_pos h0]
    by_cases h1 : 1 ≤ n
    · go_enter Tryd.func63, Tryd.ntmps63
      go_wp2_with fail
      go_ret
      exact ⟨ret_bool (by simp <;> omega), rfl⟩
    · go_enter Tryd.func63, Tryd.ntmps63
      go_wp2_with fail
      go_ret
      exact ⟨ret_bool (by simp <;> omega), rfl⟩
  · rw [if_neg h0]
    go_enter Tryd.func63, Tryd.ntmps63
    go_wp2_with fail
    go_ret
    exact ⟨rfl, rfl⟩

theorem count_take_succ (l : Bs) (c : UInt8) (k : Nat) (h : k < l.length) : (l.take (k + 1)).count c = (l.take k).count c + (if l[k] == c then 1 else 0) := by
  rw [List.take_add_one, List.getElem?_eq_getElem h, Option.toList_some, List.count_append, List.count_singleton]
theorem count_le (l : Bs) (c : UInt8) (k : Nat) : (l.take k).count c ≤ k := Nat.le_trans List.count_le_length (by rw [List.length_take]; omega)

set_option maxHeartbeats 1000000 in
theorem refHas_any (s : ByteArray) (c : UInt8) (w : World) (hs : s.size ≤ 4611686018427387904) : Calls Tryd.prog 17 #[.string s, .int .u8 ((c.toNat : Nat) : Int)] w fun e w' => e = .returned (.int .i64 (((bl s).count c : Nat) : Int)) ∧ w = w' := by
  go_enter Tryd.func17, Tryd.ntmps17
  go_wp2_with fail
  go_loopw [5, 6] (fun n i wr => ∃ k : Nat, i = .int .i64 (k : Nat) ∧ k ≤ s.size ∧ n = .int .i64 ((((bl s).take k).count c : Nat) : Int) ∧ Hid (w = wr)) (fun _ i _ => s.size - (intOf i).toNat)
  case atStart => exact ⟨0, rfl, by omega, by simp, Lib.hid rfl⟩
  case round =>
    obtain ⟨k, rfl, hk, rfl, HW⟩ := hrel
    have hcl := count_le (bl s) c k
    by_cases hlt : k < s.size
    · have HS := Lib.hid (count_take_succ (bl s) c k hlt)
      have hg : (bl s)[k]'hlt = s[k]'hlt := rfl
      rw [hg] at HS
      generalize ((bl s).take k).count c = m at HS hcl
      generalize hx : s[k]'hlt = x at HS
      by_cases hxc : x = c
      · have hb : (((x.toNat : Nat) : Int) == ((c.toNat : Nat) : Int)) = true := by simp [hxc]
        have HS2 : Hid (((bl s).take (k + 1)).count c = m + 1) := Lib.hid (by rw [HS.out, if_pos (by simpa using hxc)])
        clear hxc HS
        go_wp2_with fail
        go_roundw
        case rel => exact ⟨k + 1, by go_num, by omega, by rw [HS2.out]; go_num, HW⟩
        case measure => simp [intOf]; omega
      · have hb : (((x.toNat : Nat) : Int) == ((c.toNat : Nat) : Int)) = false := by
          rw [beq_eq_false_iff_ne]
          intro e
          exact hxc (UInt8.toNat_inj.1 (by omega))
        have HS2 : Hid (((bl s).take (k + 1)).count c = m) := Lib.hid (by rw [HS.out, if_neg (by simpa using hxc)]; rfl)
        clear hxc HS
        go_wp2_with fail
        go_roundw
        case rel => exact ⟨k + 1, by go_num, by omega, by rw [HS2.out], HW⟩
        case measure => simp [intOf]; omega
    · have HE : Hid ((bl s).take k = bl s) := Lib.hid (List.take_of_length_le (by rw [bl_len]; omega))
      rw [HE.out]
      clear HE hcl
      go_wp2_with fail
      go_ret
      exact ⟨rfl, HW.out⟩

set_option maxHeartbeats 1000000 in
theorem refIn_any (x : Sl) (L : List Int) (low high : Int) (w : World) (h : IsInts w x L) :
    Calls Tryd.prog 30 #[.slice x.A x.n x.c, .int .i64 low, .int .i64 high] w fun e w' => e = .returned (.bool (!L.any (outB low high))) ∧ w = w' := by
  obtain ⟨A, n, c⟩ := x
  obtain ⟨hn, hL, hlen, hcap⟩ := h
  simp only at hn hL hlen ⊢
  have HL := Lib.hid hL
  have Hn := Lib.hid hn.symm
  clear hL hn
  go_enter Tryd.func30, Tryd.ntmps30
  go_wp2_with fail
  go_loopw [7] (fun i wr => ∃ k : Nat, i = .int .i64 (k : Nat) ∧ k ≤ n ∧ Hid (anyTo (outB low high) L k) ∧ Hid (w = wr)) (fun i _ => n - (intOf i).toNat)
  case atStart => exact ⟨0, rfl, by omega, Lib.hid (fun j hj => absurd hj (by omega)), Lib.hid rfl⟩
  case round =>
    obtain ⟨k, rfl, hk, H0, HB⟩ := hrel
    by_cases hlt : k < n
    · obtain ⟨ad, rfl, hbk, hcl⟩ := HL.out (by omega)
      have hck : wr.cell? (ad.add k) = some (.int .i64 (L.getD k 0)) := by rw [← HB.out]; exact hcl k hlt
      have HY := Lib.hid (any_yes (p := outB low high) (L := L) (k := k) (by rw [Hn.out]; exact hlt))
      have HN : Hid (outB low high (L.getD k 0) = false → anyTo (outB low high) L (k + 1)) := Lib.hid (fun e j hj => by
        by_cases h : j < k
        · exact H0.out j h
        · obtain rfl : j = k := by omega
          exact e)
      clear hcl hbk
      generalize L.getD k 0 = y at hck HY HN
      cases h1 : decide (y < low)
      · cases h2 : decide (high < y)
        · have HN2 := Lib.hid (HN.out (by simp [outB, h1, h2]))
          clear HN HY
          go_wp2_with fail
          go_roundw
          case rel => exact ⟨k + 1, by go_num, by omega, HN2, HB⟩
          case measure => simp [intOf]; omega
        · have HY2 := Lib.hid (HY.out (by simp [outB, h2]))
          clear HN HY
          go_wp2_with fail
          go_ret
          exact ⟨ret_bool (by rw [HY2.out]; rfl), HB.out⟩
      · have HY2 := Lib.hid (HY.out (by simp [outB, h1]))
        clear HN HY
        go_wp2_with fail
        go_ret
        exact ⟨ret_bool (by rw [HY2.out]; rfl), HB.out⟩
    · have HN : Hid (L.any (outB low high) = false) := Lib.hid (any_no (by rw [Hn.out]; have := H0.out; rwa [show k = n by omega] at this))
      clear H0
      go_wp2_with fail
      go_ret
      exact ⟨ret_bool (by rw [HN.out]; rfl), HB.out⟩
end Go.Proofs.YtppiemgdjkehkaaDoor

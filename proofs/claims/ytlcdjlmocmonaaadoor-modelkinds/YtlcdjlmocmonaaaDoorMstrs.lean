/- Contracts: slices.Index and Contains over texts. -/
import Derived.Test.YtlcdjlmocmonaaaDoorMwake
namespace Go.Proofs.YtlcdjlmocmonaaaDoor
open Go.RowKit Go.Sort

def anyS (p : Bs → Bool) (L : List Bs) (k : Nat) : Prop := ∀ j, j < k → p (L.getD j []) = false
theorem strs_mem (R : List Bs) (k : Nat) (hk : k < R.length) : R.getD k [] ∈ R := by
  rw [List.getD_eq_getElem?_getD, List.getElem?_eq_getElem hk]
  exact List.getElem_mem hk
theorem anyS_yes {p : Bs → Bool} {R : List Bs} {k : Nat} (hk : k < R.length) (h : p (R.getD k []) = true) : R.any p = true := List.any_eq_true.2 ⟨_, strs_mem R k hk, h⟩
theorem anyS_no {p : Bs → Bool} {R : List Bs} (h : anyS p R R.length) : R.any p = false := by
  rw [List.any_eq_false]
  intro x hx
  obtain ⟨j, hj, rfl⟩ := List.getElem_of_mem hx
  have := h j hj
  rw [List.getD_eq_getElem?_getD, List.getElem?_eq_getElem hj] at this
  simpa using this

set_option maxHeartbeats 1000000 in
theorem index_strs (x : Sl) (L : List Bs) (s : ByteArray) (w : World) (h : IsStrs w x L) :
    Calls Tryd.prog 17 #[.slice x.A x.n x.c, .string s] w fun e w' => (∃ k : Int, e = .returned (.int .i64 k) ∧ decide (0 ≤ k) = L.any (· == bl s)) ∧ w = w' := by
  obtain ⟨A, n, c⟩ := x
  obtain ⟨hn, hL, hlen, hcap⟩ := h
  simp only at hn hL hlen ⊢
  have HL := Lib.hid hL
  have Hn := Lib.hid hn.symm
  have hbl : s.toList = bl s := ByteArray.toList_eq _
  have HBL := Lib.hid hbl
  clear hL hn hbl
  go_enter Tryd.func17, Tryd.ntmps17
  go_wp2_with fail
  go_loopw [8] (fun i wr => ∃ k : Nat, i = .int .i64 (k : Nat) ∧ k ≤ n ∧ Hid (anyS (· == bl s) L k) ∧ Hid (w = wr)) (fun i _ => n - (intOf i).toNat)
  case atStart => exact ⟨0, rfl, by omega, Lib.hid (fun j hj => absurd hj (by omega)), Lib.hid rfl⟩
  case round =>
    obtain ⟨k, rfl, hk, H0, HB⟩ := hrel
    by_cases hlt : k < n
    · obtain ⟨ad, rfl, hbk, hcl⟩ := HL.out (by omega)
      have hck : wr.cell? (ad.add k) = some (.string ⟨(L.getD k []).toArray⟩) := by rw [← HB.out]; exact hcl k hlt
      have HY := Lib.hid (anyS_yes (p := (· == bl s)) (R := L) (k := k) (by rw [Hn.out]; exact hlt))
      have HN : Hid ((L.getD k [] == bl s) = false → anyS (· == bl s) L (k + 1)) := Lib.hid (fun e j hj => by
        by_cases h : j < k
        · exact H0.out j h
        · obtain rfl : j = k := by omega
          exact e)
      clear hcl hbk
      generalize L.getD k [] = y at hck HY HN
      by_cases hz : y = bl s
      · have HY2 := Lib.hid (HY.out (by simpa using hz))
        have hb : (s.toList == y) = true := by rw [HBL.out, hz]; simp
        clear HN HY hz
        go_wp2_with fail
        go_ret
        exact ⟨⟨_, rfl, by rw [HY2.out]; simp⟩, HB.out⟩
      · have HN2 := Lib.hid (HN.out (by simpa using hz))
        have hb : (s.toList == y) = false := by rw [HBL.out, beq_eq_false_iff_ne]; exact fun e => hz e.symm
        have hb2 : ¬ s.toList = y := by rw [HBL.out]; exact fun e => hz e.symm
        clear HN HY hz
        go_wp2_with fail
        go_roundw
        case rel => exact ⟨k + 1, by go_num, by omega, HN2, HB⟩
        case measure => simp [intOf]; omega
    · have HN : Hid (L.any (· == bl s) = false) := Lib.hid (anyS_no (by rw [Hn.out]; have := H0.out; rwa [show k = n by omega] at this))
      clear H0
      go_wp2_with fail
      go_ret
      exact ⟨⟨_, rfl, by rw [HN.out]; simp⟩, HB.out⟩

theorem contains_strs (x : Sl) (L : List Bs) (s : ByteArray) (w : World) (h : IsStrs w x L) :
    Calls Tryd.prog 10 #[.slice x.A x.n x.c, .string s] w fun e w' => e = .returned (.bool (L.any (· == bl s))) ∧ w = w' := by
  have C := Lib.hid (index_strs x L s w h)
  clear h
  go_enter Tryd.func10, Tryd.ntmps10
  go_wp2_with fail
  refine C.out.mono ?_
  rintro e w1 ⟨⟨k, rfl, hk⟩, rfl⟩
  have HK := Lib.hid hk
  clear hk
  go_wp2_with fail
  go_ret
  exact ⟨ret_bool HK.out, rfl⟩
end Go.Proofs.YtlcdjlmocmonaaaDoor

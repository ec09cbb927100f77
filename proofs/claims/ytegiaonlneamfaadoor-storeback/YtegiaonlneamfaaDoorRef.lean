/- Contracts of the reference's Has, Next, Prev and Range: they only read. -/
import Derived.Test.YtegiaonlneamfaaDoorWalkm
namespace Go.Proofs.YtegiaonlneamfaaDoor
open Go.RowKit

theorem take_getD (zs : List Int) (k : Nat) (h : k < zs.length) : zs.take (k + 1) = zs.take k ++ [zs.getD k 0] := by
  rw [List.take_succ_eq_append_getElem h, List.getD_eq_getElem?_getD, List.getElem?_eq_getElem h]
  rfl

theorem drop_getD (zs : List Int) (k : Nat) (h : k < zs.length) : zs.drop k = zs.getD k 0 :: zs.drop (k + 1) := by
  rw [List.drop_eq_getElem_cons h, List.getD_eq_getElem?_getD, List.getElem?_eq_getElem h]
  rfl

theorem refhas_no (A : Option Addr) (c : Nat) (v : Int) (w : World) : Calls Tryd.prog 51 #[.slice A 0 c, .int .i64 v] w fun e w' => e = .returned (.bool false) ∧ w = w' := by
  go_enter Tryd.func51, Tryd.ntmps51
  go_wp2
  refine wp_loop_rounds 1 ?_
  rw [rounds_succ]
  go_wp2
  go_ret
  exact ⟨rfl, rfl⟩

theorem refhas_any (A : Option Addr) (zs : List Int) (n c : Nat) (v : Int) (w : World) (hn : n = zs.length) (h : Lies w A n (i64f zs)) (hbig : n ≤ 2000064) :
    Calls Tryd.prog 51 #[.slice A n c, .int .i64 v] w fun e w' => e = .returned (.bool (decide (v ∈ zs))) ∧ w = w' := by
  by_cases hp : 0 < n
  · obtain ⟨a, rfl, ha, hca⟩ := h hp
    have Ha := Lib.hid hca
    have Hn := Lib.hid hn
    clear hca hn h
    go_enter Tryd.func51, Tryd.ntmps51
    go_wp2
    go_loop [5] (fun i => ∃ k : Nat, k ≤ n ∧ i = .int .i64 (k : Nat) ∧ Hid (v ∉ zs.take k)) (fun i => n - (intOf i).toNat)
    case atStart => exact ⟨0, Nat.zero_le _, rfl, by show v ∉ _; simp⟩
    case round =>
      obtain ⟨k, hk, rfl, HE⟩ := hrel
      by_cases hlt : k < n
      · have ck : w.cell? (a.add k) = some (.int .i64 (zs.getD k 0)) := Ha.out k hlt
        have Ht := Lib.hid (take_getD zs k (by rw [← Hn.out]; exact hlt))
        have Hg := Lib.hid (getD_mem zs k (by rw [← Hn.out]; exact hlt))
        generalize zs.getD k 0 = x at *
        by_cases hx : x = v
        · have hx' : (x == v) = true := by simpa using hx
          have Hx := Lib.hid hx
          clear hx
          go_wp2
          go_ret
          have : decide (v ∈ zs) = true := by have := Hg.out; rw [Hx.out] at this; simpa using this
          exact ⟨by rw [this]; rfl, rfl⟩
        · have hx' : (x == v) = false := by simpa using hx
          have HE2 : Hid (v ∉ zs.take (k + 1)) := by
            show v ∉ _
            rw [Ht.out, List.mem_append]
            rintro (q | q)
            · exact HE.out q
            · simp at q; exact hx q.symm
          clear hx
          go_wp2
          go_round
          case rel => exact ⟨k + 1, by omega, by go_num, HE2⟩
          case measure => simp [intOf]; omega
      · have hall : zs.take k = zs := List.take_of_length_le (by rw [← Hn.out]; omega)
        have hno : decide (v ∈ zs) = false := by have := HE.out; rw [hall] at this; simpa using this
        have Hno := Lib.hid hno
        clear hall hno
        go_wp2
        go_ret
        exact ⟨by rw [Hno.out]; rfl, rfl⟩
  · have h0 : n = 0 := by omega
    have : zs = [] := List.eq_nil_of_length_eq_zero (by omega)
    subst this
    rw [h0]
    simpa using refhas_no A c v w

end Go.Proofs.YtegiaonlneamfaaDoor

/- Contracts of the law's own near and wakes. -/
import Derived.Test.YtgfhnmlakjcfaaaDoorRange
namespace Go.Proofs.YtgfhnmlakjcfaaaDoor
open Go.RowKit

/-- The numbers of which a domain is made. -/
def nearL (zs : List Int) : List Int := (zs.take 40).map fun z => z.tmod 3000

theorem near_len (zs : List Int) : (nearL zs).length = min 40 zs.length := by simp [nearL]

def nearTo (zs : List Int) (k : Nat) : List Int := (zs.take k).map fun z => z.tmod 3000
theorem nearTo_step (zs : List Int) (k : Nat) (h : k < zs.length) : nearTo zs (k + 1) = nearTo zs k ++ [(zs.getD k 0).tmod 3000] := by
  unfold nearTo
  rw [List.take_succ_eq_append_getElem h, List.map_append, List.getD_eq_getElem?_getD, List.getElem?_eq_getElem h]
  rfl
theorem nearTo_len (zs : List Int) (k : Nat) : (nearTo zs k).length ≤ k := by simp [nearTo]; omega

theorem near_none (A : Option Addr) (c : Nat) (w : World) : Calls Tryd.prog 7 #[.slice A 0 c] w (GivesInts w []) := by
  go_enter Tryd.func7, Tryd.ntmps7
  go_wp2
  refine wp_loop_rounds 1 ?_
  rw [rounds_succ]
  go_wp2
  go_ret
  exact ⟨_, rfl, World.ownsRow_nil _ _ _ _, Below.refl _ _⟩

set_option maxHeartbeats 1000000 in
theorem near_some (ad : Addr) (zs : List Int) (n m c : Nat) (w : World) (hn : n = zs.length) (hp : 0 < n) (hnc : n ≤ c) (hm : min (n : Int) 40 = (m : Int)) (hb : ad.block < w.heap.size) (hcl : ∀ j, j < n → w.cell? (ad.add j) = some (i64f zs j)) :
    Calls Tryd.prog 7 #[.slice (some ad) n c] w (GivesInts w (nearL zs)) := by
  obtain ⟨i0, hi, hz0, hz1, hz2⟩ := info_parts Tryd.info3
  have hmn : m ≤ n := by omega
  have hm40 : m ≤ 40 := by omega
  have hmp : 0 < m := by omega
  have Hn := Lib.hid hn
  have Hcl := Lib.hid hcl
  have hfin : nearTo zs m = nearL zs := by
    unfold nearTo nearL
    by_cases h40 : n ≤ 40
    · rw [List.take_of_length_le (by omega), List.take_of_length_le (by omega)]
    · rw [show m = 40 by omega]
  have Hfin := Lib.hid hfin
  clear hn hcl hfin
  go_enter Tryd.func7, Tryd.ntmps7
  go_wp2
  go_loopw [3, 12] (fun v i wr => ∃ k : Nat, k ≤ m ∧ i = .int .i64 (k : Nat) ∧ wr.ownsRow w.heap.size 3 1 v (nearTo zs k).length (I (nearTo zs k)) ∧ Below w.heap.size w wr) (fun _ i _ => m - (intOf i).toNat)
  case atStart => exact ⟨0, Nat.zero_le _, rfl, World.ownsRow_nil _ _ _ _, Below.refl _ _⟩
  case round =>
    obtain ⟨k, hk, rfl, hown, hbr⟩ := hrel
    by_cases hlt : k < m
    · have ck : wr.cell? (ad.add k) = some (.int .i64 (zs.getD k 0)) := (hbr.cell (by rw [add_block]; exact hb)).trans (Hcl.out k (by omega))
      have hstep := nearTo_step zs k (by rw [← Hn.out]; omega)
      have hlen := nearTo_len zs k
      have Hstep := Lib.hid hstep
      generalize zs.getD k 0 = z at *
      clear hstep
      go_wp2_with (at_builtin; refine wpList_append_own _ rfl _ _ 22 rfl w.heap.size 3 i0 (.int .i64 0) 1 8 Tryd.underlying22 hi hz0 hz1 hz2 rfl (by decide) _ _ _ rfl (hown.alloc _) ⟨_, 0, none⟩ 1 1 [.int .i64 (z.tmod 3000)] rfl rfl ?c1 ?c2 ?c3 ?c4 ?c5 ?_)
      case c1 => intro j u hj; match j, hj with | 0, hj => simp at hj; subst hj; simp [Addr.add]
      case c2 => intro u hu; simp at hu; subst hu; rfl
      case c3 => unfold maxLen; omega
      case c4 => omega
      case c5 => have := hbr.size; simp; omega
      · intro v' w2 hown' hgrow _
        have hb2 : Below w.heap.size w w2 := by
          have hs := hbr.size
          exact (hbr.alloc (by omega) _).grown hgrow (by simp; omega) (fun k hk => own_ge hown k hk)
        rw [← I_one, ← I_append, show (nearTo zs k).length + 1 = (nearTo zs k ++ [z.tmod 3000]).length by simp, ← Hstep.out] at hown'
        clear hown hgrow hbr
        go_wp2
        go_roundw
        case rel => exact ⟨k + 1, by omega, by go_num, hown', hb2⟩
        case measure => simp [intOf]; omega
    · have hkm : k = m := by omega
      rw [hkm, Hfin.out] at hown
      clear hkm
      go_wp2
      go_ret
      exact ⟨_, rfl, hown, hbr⟩

theorem near_any (A : Option Addr) (zs : List Int) (c : Nat) (w : World) (h : Lies w A zs.length (i64f zs)) (hnc : zs.length ≤ c) :
    Calls Tryd.prog 7 #[.slice A zs.length c] w (GivesInts w (nearL zs)) := by
  by_cases hp : 0 < zs.length
  · obtain ⟨ad, rfl, hb, hcl⟩ := h hp
    exact near_some ad zs zs.length (min zs.length 40) c w rfl hp hnc (by omega) hb hcl
  · have : zs = [] := List.eq_nil_of_length_eq_zero (by omega)
    subst this
    exact near_none A c w
end Go.Proofs.YtgfhnmlakjcfaaaDoor

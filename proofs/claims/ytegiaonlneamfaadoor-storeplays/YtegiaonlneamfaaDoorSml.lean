/- Contract of the reference's Small. -/
import Derived.Test.YtegiaonlneamfaaDoorRefOf
namespace Go.Proofs.YtegiaonlneamfaaDoor
open Go.RowKit

def modTo (zs : List Int) (k : Nat) : List Int := (zs.take k).map fun z => z.tmod 12
/-- Small numbers, rising. -/
def smallL (zs : List Int) : List Int := ofL (modTo zs 8)

theorem modTo_step (zs : List Int) (k : Nat) (h : k < zs.length) : modTo zs (k + 1) = modTo zs k ++ [(zs.getD k 0).tmod 12] := by
  unfold modTo
  rw [List.take_succ_eq_append_getElem h, List.map_append, List.getD_eq_getElem?_getD, List.getElem?_eq_getElem h]
  rfl
theorem modTo_len (zs : List Int) (k : Nat) : (modTo zs k).length ≤ k := by simp [modTo]; omega

set_option maxHeartbeats 1000000 in
set_option maxRecDepth 100000 in
theorem small_any (A : Option Addr) (zs : List Int) (n c : Nat) (w : World) (hn : n = zs.length) (h : Lies w A n (i64f zs)) : Calls Tryd.prog 15 #[.slice A n c, .int .i64 8, .int .i64 12] w (GivesInts w (smallL zs)) := by
  obtain ⟨i0, hi, hz0, hz1, hz2⟩ := info_parts Tryd.info3
  have Hn := Lib.hid hn
  have H := Lib.hid h
  clear hn h
  go_enter Tryd.func15, Tryd.ntmps15
  go_wp2_with fail
  go_loopw [7, 8] (fun v i wr => ∃ k : Nat, k ≤ n ∧ k ≤ 8 ∧ i = .int .i64 (k : Nat) ∧ wr.ownsRow w.heap.size 3 1 v (modTo zs k).length (I (modTo zs k)) ∧ Below w.heap.size w wr) (fun _ i _ => n - (intOf i).toNat)
  case atStart => exact ⟨0, Nat.zero_le _, Nat.zero_le _, rfl, World.ownsRow_nil _ _ _ _, Below.refl _ _⟩
  case round =>
    obtain ⟨wo, rfl⟩ : ∃ wo, wo = wr := ⟨_, rfl⟩
    obtain ⟨k, hk, hk8, rfl, hown, hbr⟩ := hrel
    by_cases hlt : k < n ∧ k < 8
    · obtain ⟨hl1, hl2⟩ := hlt
      obtain ⟨ad, rfl, hb, hcl⟩ := H.out (by omega)
      have ck : wo.cell? (ad.add k) = some (.int .i64 (zs.getD k 0)) := (hbr.cell (by rw [add_block]; exact hb)).trans (hcl k hl1)
      have hlen := modTo_len zs k
      have Hstep := Lib.hid (modTo_step zs k (by rw [← Hn.out]; exact hl1))
      have d1 : decide (k < n) = true := by simpa using hl1
      have d2 : decide (k < 8) = true := by simpa using hl2
      have hki : (k : Int) < (n : Nat) := by omega
      generalize zs.getD k 0 = z at *
      clear hcl hb
      go_wp2_with (at_builtin; refine wpList_append_own _ rfl _ _ 34 rfl w.heap.size 3 i0 (.int .i64 0) 1 8 Tryd.underlying34 hi hz0 hz1 hz2 rfl (by decide) _ _ _ rfl (hown.alloc _) ⟨_, 0, none⟩ 1 1 [.int .i64 (z.tmod 12)] rfl rfl ?c1 ?c2 ?c3 ?c4 ?c5 ?_)
      case c1 => intro j u hj; match j, hj with | 0, hj => simp at hj; subst hj; simp [Addr.add]
      case c2 => intro u hu; simp at hu; subst hu; rfl
      case c3 => unfold maxLen; omega
      case c4 => omega
      case c5 => have := hbr.size; simp; omega
      · intro v' w2 hown' hgrow _
        have hb2 : Below w.heap.size w w2 := by
          have hs := hbr.size
          exact (hbr.alloc (by omega) _).grown hgrow (by simp; omega) (fun k hk => own_ge hown k hk)
        rw [← I_one, ← I_append, show (modTo zs k).length + 1 = (modTo zs k ++ [z.tmod 12]).length by simp, ← Hstep.out] at hown'
        clear hown hgrow hbr
        go_wp2_with fail
        go_roundw
        case rel => exact ⟨k + 1, by omega, by omega, by go_num, hown', hb2⟩
        case measure => simp [intOf]; omega
    · have hfin : modTo zs k = modTo zs 8 := by
        unfold modTo
        by_cases h8 : k = 8
        · rw [h8]
        · rw [List.take_of_length_le (by rw [← Hn.out]; omega), List.take_of_length_le (by rw [← Hn.out]; omega)]
      rw [hfin] at hown
      obtain ⟨A', c', e, hl, -⟩ := own_lies hown
      subst e
      have HO := Lib.hid (refof_any A' (modTo zs 8) _ c' wo rfl hl (by have := modTo_len zs 8; omega))
      have HB := Lib.hid hbr
      by_cases hl1 : k < n
      · have d1 : decide (k < n) = true := by simpa using hl1
        have d2 : decide ((k : Int) < 8) = false := by simp; omega
        clear hfin hown hl hbr hlt hl1
        go_wp2_with fail
        refine HO.out.mono ?_
        rintro e w2 ⟨v, rfl, ho, hb2⟩
        go_wp2_with fail
        go_ret
        exact ⟨_, rfl, own_base ho HB.out.size, HB.out.trans (hb2.mono HB.out.size)⟩
      · have d1 : decide (k < n) = false := by simpa using hl1
        clear hfin hown hl hbr hlt hl1
        go_wp2_with fail
        refine HO.out.mono ?_
        rintro e w2 ⟨v, rfl, ho, hb2⟩
        go_wp2_with fail
        go_ret
        exact ⟨_, rfl, own_base ho HB.out.size, HB.out.trans (hb2.mono HB.out.size)⟩
end Go.Proofs.YtegiaonlneamfaaDoor

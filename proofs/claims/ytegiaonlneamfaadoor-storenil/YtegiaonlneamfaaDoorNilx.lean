/- The walk of StoreNil. -/
import Derived.Test.YtegiaonlneamfaaDoorNilw
namespace Go.Proofs.YtegiaonlneamfaaDoor
open Go.RowKit

/-- What holds while the domains that were handed in are emptied. -/
structure NilRest (w : World) (base S : Nat) (st : Sto) (vb : Value) (LL : List (List Int)) (Aa : Option Addr) (m : Nat) (wr : World) : Prop where
  store : IsStore base wr S st
  rows : RowsT wr vb LL
  low : Below w.heap.size w wr
  rest : 0 < m → ∃ g cur, Aa = some ⟨g, 0, none⟩ ∧ w.heap.size ≤ g ∧ Blk wr g cur 48 ∧ (∀ u ∈ cur, plainV u) ∧ m * 3 ≤ cur.size

set_option maxHeartbeats 4000000 in
set_option maxRecDepth 100000 in
theorem nil_walk (A : Option Addr) (zss : List (List Int)) (n c : Nat) (i : Int) (w : World) (hT : Tab w) (hn : n = zss.length) (hnc : n ≤ c) (h : ListsIn w A zss) :
    Calls Tryd.prog 5 #[.slice A n c, .int .i64 i] w fun e w' => e = .returned (.bool true) ∧ Below w.heap.size w w' := by
  have HLs := Lib.hid fun (W : World) (hW : Below w.heap.size w W) (hi : ListsIn W A zss) => lists_any A zss n c W hn hnc hi
  have HIn := Lib.hid fun (W : World) (hW : Below w.heap.size w W) => show ListsIn W A zss from fun hp => by
    obtain ⟨ad, e, hab, hr⟩ := h hp
    refine ⟨ad, e, Nat.lt_of_lt_of_le hab hW.size, fun k zs hz => ?_⟩
    obtain ⟨R, d, h1, h2⟩ := hr k zs hz
    exact ⟨R, d, (hW.cell (by rw [add_block]; exact hab)).trans h1, h2.below hW⟩
  have HLb : Hid (∀ L ∈ (zss.take 6).map smallL, L.length ≤ 1000000) := Lib.hid (by
    intro L hL
    rw [List.mem_map] at hL
    obtain ⟨zs, -, rfl⟩ := hL
    have := small_len zs
    omega)
  have HLn : Hid (((zss.take 6).map smallL).length ≤ 6) := Lib.hid (by simp; omega)
  generalize (zss.take 6).map smallL = LL at *
  clear h hn hnc
  go_enter Tryd.func5, Tryd.ntmps5
  go_wp2_with fail
  refine (push_nil _).mono ?_
  rintro e w' ⟨rfl, rfl⟩
  go_wp2_with fail
  refine (fixed_nil i _).mono ?_
  rintro e w1 ⟨rfl, hb1⟩
  have HB1 := Lib.hid hb1
  clear hb1
  go_wp2_with fail
  refine (failed_nil _).mono ?_
  rintro e w' ⟨rfl, rfl⟩
  go_wp2_with fail
  refine (HLs.out w1 HB1.out (HIn.out w1 HB1.out)).mono ?_
  rintro e w2 ⟨va, vb, ds, rfl, hRa, hds, hRb, hsame, hzero, hb2⟩
  have HB2 := Lib.hid (HB1.out.trans (hb2.mono HB1.out.size))
  have hdl : ds.length = LL.length := by rw [← hsame]; simp
  obtain ⟨Aa, ca, ea, hDA⟩ := (OwnDoms.mk hRa.1 hds).at
  subst ea
  have HNew := Lib.hid (new_store Aa ds ds.length ca w2 rfl hDA hzero (by have := HLn.out; omega))
  have HRa := Lib.hid hRa
  have Hdl := Lib.hid hdl
  have HRb := Lib.hid hRb
  have Hsame := Lib.hid hsame
  have hg1 := HB1.out.size
  clear hdl hRa hds hRb hsame hzero hb2 hDA HLs HIn HB1
  go_wp2_with fail
  refine HNew.out.mono ?_
  rintro e w3 ⟨S, V, rfl, hS, hb3⟩
  have HB3 := Lib.hid (HB2.out.trans (hb3.mono HB2.out.size))
  have HRa3 := Lib.hid (HRa.out.below hb3)
  have HRb3 := Lib.hid (HRb.out.below hb3)
  have HS3 := Lib.hid hS
  clear hS hb3 HNew HRa HRb HB2
  have HR0 : Hid (NilRest w w2.heap.size S (newSto V ds) vb LL Aa ds.length w3) := Lib.hid ⟨HS3.out, HRb3.out, HB3.out, fun hp => by
    obtain ⟨g, cap, cur, e, hg, hB, hc, -, hs, -, hpl⟩ := HRa3.out.blk hp
    have := (Value.slice.inj e).1
    have h3 := Nat.mul_le_mul_right 3 hc
    exact ⟨g, cur, this, Nat.le_trans hg1 hg, hB, hpl, by omega⟩⟩
  have Hlen : Hid (Below w.heap.size w w3) := HB3
  obtain ⟨m, hm⟩ : ∃ m, m = ds.length := ⟨_, rfl⟩
  have Hm := Lib.hid hm
  rw [← hm] at HR0 ⊢
  have hmb : m ≤ 6 := by rw [hm, Hdl.out]; exact HLn.out
  clear hm HS3 HRb3 HRa3 HB3 hg1 Hlen
  go_wp2_with fail
  go_loopw [36] (fun i wr => ∃ k : Nat, k ≤ m ∧ i = .int .i64 (k : Nat) ∧ Hid (NilRest w w2.heap.size S (newSto V ds) vb LL Aa m wr)) (fun i _ => m - (intOf i).toNat)
  case atStart => exact ⟨0, Nat.zero_le _, rfl, HR0⟩
  case round =>
    clear HR0
    obtain ⟨wo, rfl⟩ : ∃ wo, wo = wr := ⟨_, rfl⟩
    obtain ⟨k, hk, rfl, HR⟩ := hrel
    by_cases hlt : k < m
    · obtain ⟨hS, hRb, hlow, hrest⟩ := HR.out
      obtain ⟨g, cur, rfl, hg, hB, hpl, hsz⟩ := hrest (by omega)
      obtain ⟨cur', hP, hsz'⟩ := Beside.put0 ⟨hS, hRb, hB, hpl, hlow⟩ hg k
      have HN : Hid (NilRest w w2.heap.size S (newSto V ds) vb LL (some ⟨g, 0, none⟩) m (put0 wo g k)) := Lib.hid ⟨hP.store, hP.rows, hP.low, fun _ => ⟨g, cur', rfl, hg, hP.blk, hP.plain, by omega⟩⟩
      have v0 : wo.cell? ⟨g, k * 3, none⟩ = some cur[k * 3] := by rw [hB.cell]; exact Array.getElem?_eq_getElem (by omega)
      have v1 : wo.cell? ⟨g, k * 3 + 1, none⟩ = some cur[k * 3 + 1] := by rw [hB.cell]; exact Array.getElem?_eq_getElem (by omega)
      have v2 : wo.cell? ⟨g, k * 3 + 2, none⟩ = some cur[k * 3 + 2] := by rw [hB.cell]; exact Array.getElem?_eq_getElem (by omega)
      have f0 := hB.free (k * 3)
      have f1 := hB.free (k * 3 + 1)
      have f2 := hB.free (k * 3 + 2)
      have hki : (k : Int) < (m : Nat) := by omega
      generalize cur[k * 3] = x0 at *
      generalize cur[k * 3 + 1] = x1 at *
      generalize cur[k * 3 + 2] = x2 at *
      clear hS hRb hlow hrest hB hpl hsz hsz' hP HR
      go_wp2_with fail
      go_roundw
      case rel => exact ⟨k + 1, by omega, by go_num, HN⟩
      case measure => simp [intOf]; omega
    · obtain ⟨hS, hRb, hlow, -⟩ := HR.out
      have HS := Lib.hid hS
      have HRb := Lib.hid hRb
      have HB := Lib.hid hlow
      clear hS hRb hlow HR
      go_wp2_with fail
      refine (wakes3 _ (hT.below HB.out)).mono ?_
      rintro e w4 ⟨rfl, hb4⟩
      have HS4 := Lib.hid (HS.out.below hb4)
      have HRb4 := Lib.hid (HRb.out.below hb4)
      have HB4 := Lib.hid (HB.out.trans (hb4.mono HB.out.size))
      clear hb4 HS HRb HB
      obtain ⟨Ab, cb, rfl, -⟩ := HRb4.out.shape
      go_wp2_with fail
      refine (same3_true HS4.out (hT.below HB4.out) Ab LL.length cb LL rfl HRb4.out Hsame.out (by have := HLn.out; omega) HLb.out).mono ?_
      rintro e w5 ⟨rfl, hb5⟩
      have HB5 := Lib.hid (HB4.out.trans (hb5.mono HB4.out.size))
      clear hb5 HS4 HRb4 HB4
      go_wp2_with fail
      refine (len_nil _).mono ?_
      rintro e w' ⟨rfl, rfl⟩
      go_wp2_with fail
      refine (get_nil i _).mono ?_
      rintro e w6 ⟨rfl, hb6⟩
      have HB6 := Lib.hid (HB5.out.trans (hb6.mono HB5.out.size))
      clear hb6 HB5
      go_wp2_with fail
      refine (size_any _ _ _ _ _ _).mono ?_
      rintro e w7 ⟨rfl, hb7⟩
      have HB7 := Lib.hid (HB6.out.trans (hb7.mono HB6.out.size))
      clear hb7 HB6
      go_wp2_with fail
      refine (narrow_nil i 0 0 none 0 0 _).mono ?_
      rintro e w8 ⟨rfl, hb8⟩
      have HB8 := Lib.hid (HB7.out.trans (hb8.mono HB7.out.size))
      clear hb8 HB7
      go_wp2_with fail
      refine (level_nil _).mono ?_
      rintro e w' ⟨rfl, rfl⟩
      go_wp2_with fail
      refine (back_nil 0 _).mono ?_
      rintro e w' ⟨rfl, rfl⟩
      go_wp2_with fail
      refine (events_nil _).mono ?_
      rintro e w' ⟨rfl, rfl⟩
      go_wp2_with fail
      go_ret
      exact ⟨rfl, HB8.out⟩
end Go.Proofs.YtegiaonlneamfaaDoor

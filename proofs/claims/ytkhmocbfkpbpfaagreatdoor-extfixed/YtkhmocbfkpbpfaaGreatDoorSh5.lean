/- Contract of the document's Product (layer 9): all rows of values: shared by layers 10 to 22. -/
import Derived.Test.YtkhmocbfkpbpfaaGreatDoorCtd
import Derived.Test.YtkhmocbfkpbpfaaGreatDoorMkmore
import Derived.Test.YtkhmocbfkpbpfaaGreatDoorSh1
import Derived.Test.YtkhmocbfkpbpfaaGreatDoorSh3
import Derived.Test.YtkhmocbfkpbpfaaGreatDoorRg8
import Derived.StillTailTactics
import Derived.Lib.QuietBelow
namespace Go.Proofs.YtkhmocbfkpbpfaaGreatDoor
open Go.RowKit Go.Sort

def prodN : List (List Int) → Nat
  | [] => 1
  | d :: D => d.length * prodN D
/-- A row of values, by its number. -/
def rowP : List (List Int) → Nat → List Int
  | [], _ => []
  | d :: D, k => d.getD ((k / prodN D) % d.length) 0 :: rowP D k
def overP (most : Nat) : Nat → List (List Int) → Bool
  | _, [] => false
  | acc, d :: D => if most < acc * d.length then true else overP most (acc * d.length) D
/-- All rows, or none, if there are too many. -/
def prodE (D : List (List Int)) (most : Nat) : List (List Int) := if overP most 1 D then [] else (List.range (prodN D)).map (rowP D)
theorem rowP_len (D : List (List Int)) (k : Nat) : (rowP D k).length = D.length := by
  induction D with
  | nil => rfl
  | cons d D ih => simp [rowP, ih]
theorem prod_pos {D : List (List Int)} (h : 0 < prodN D) : ∀ d ∈ D, 0 < d.length := by
  induction D with
  | nil => intro d hd; cases hd
  | cons a D ih =>
    rw [prodN] at h
    intro d hd
    rcases List.mem_cons.1 hd with rfl | hd
    · exact Nat.pos_of_mul_pos_right h
    · exact ih (Nat.pos_of_mul_pos_left h) d hd
theorem drop_cons {D : List (List Int)} {k : Nat} (h : k < D.length) : D.drop k = D.getD k [] :: D.drop (k + 1) := by
  rw [List.drop_eq_getElem_cons h, List.getD_eq_getElem?_getD, List.getElem?_eq_getElem h]
  rfl
abbrev RZ (m : Nat) (xs : List Int) : List Value := List.replicate m (Value.int .i64 0) ++ I xs
theorem RZ_set (m : Nat) (xs : List Int) (z : Int) : (RZ (m + 1) xs).set m (.int .i64 z) = RZ m (z :: xs) := by
  unfold RZ
  rw [List.replicate_succ', List.append_assoc, List.set_append_right _ _ (by simp)]
  simp [I]

set_option maxHeartbeats 4000000 in
set_option maxRecDepth 100000 in
theorem product_any (x : Sl) (D : List (List Int)) (most : Nat) (w : World) (hx : IsRows w x D) (hm : most ≤ 1000000) (hn : D.length ≤ 1000) (hl : ∀ d ∈ D, d.length ≤ 1000) :
    Calls Tryz.prog 66 #[.slice x.A x.n x.c, .int .i64 (most : Nat)] w fun e w' => (∃ (y : Sl) (xs : List Sl), e = .returned (.slice y.A y.n y.c) ∧ RowsO w.heap.size w' y xs (prodE D most)) ∧ Below w.heap.size w w' := by
  obtain ⟨i0, hi, hz0, hz1, hz2⟩ := info_parts infoSl'
  have HI := Lib.hid (And.intro hi (And.intro hz0 (And.intro hz1 hz2)))
  clear hi hz0 hz1 hz2
  obtain ⟨i3, hi, hz0, hz1, hz2⟩ := info_parts Tryz.info3
  have HX := Lib.hid hx
  have HLN := Lib.hid hx.len
  have hxn : x.n ≤ 1000 := by rw [hx.len]; exact hn
  have HLL : Hid (∀ k, k < x.n → (D.getD k []).length ≤ 1000) := Lib.hid (fun k hk => hl _ (by
    have hk' : k < D.length := by rw [← hx.len]; exact hk
    rw [List.getD_eq_getElem?_getD, List.getElem?_eq_getElem hk']
    exact List.getElem_mem hk'))
  have hmk : ∀ W : World, (Instr.makeSlice 30 (.int .i64 (x.n : Nat)) (.int .i64 (x.n : Nat))).run Tryz.prog W = .ok (.slice (some ⟨W.heap.size, 0, none⟩) x.n x.n) (W.alloc (.cells (madeCells #[.int .i64 0] x.n) 3)) := fun W => by
    have := run_make (P := Tryz.prog) W 30 3 i3 (.int .i64 0) Tryz.underlying30 hi hz0 .i64 .i64 (x.n : Nat) (x.n : Nat) (by omega) (by omega) (by rw [hz2]; omega) (by omega)
    rw [this, hz1]
    simp [Value.cells]
  have HMK := Lib.hid hmk
  have HROW : Hid (∀ W : World, (W.alloc (.cells (madeCells #[.int .i64 0] x.n) 3)).ownsRow W.heap.size 3 1 (.slice (some ⟨W.heap.size, 0, none⟩) x.n x.n) x.n (RZ x.n [])) := Lib.hid (fun W => by
    have := World.ownsRow_lit (base := W.heap.size) (e := 3) (size := 1) W (madeCells #[Value.int .i64 0] x.n) x.n (Nat.le_refl _) (by unfold maxLen; omega) (by simp [madeCells])
    rw [toList_madeCells_one] at this
    simpa [RZ, I] using this)
  have HE : Hid (prodE D most = if overP most 1 (D.drop 0) then [] else (List.range (prodN D)).map (rowP D)) := Lib.hid rfl
  generalize prodE D most = RES at HE ⊢
  have HP : Hid (1 * prodN (D.drop 0) = prodN D) := Lib.hid (by simp)
  clear hi hz0 hz1 hz2 hx hn hl hmk
  go_enter Tryz.func66, Tryz.ntmps66
  go_wp2_with fail
  go_loopw [5, 6] (fun s i wr => ∃ (k acc : Nat), s = .int .i64 (acc : Nat) ∧ i = .int .i64 (k : Nat) ∧ k ≤ x.n ∧ acc ≤ 1000000 ∧ Hid (RES = if overP most acc (D.drop k) then [] else (List.range (prodN D)).map (rowP D)) ∧ Hid (acc * prodN (D.drop k) = prodN D) ∧ Hid (w = wr)) (fun _ i _ => x.n - (intOf i).toNat)
  case atStart => exact ⟨0, 1, rfl, rfl, by omega, by omega, HE, HP, Lib.hid (by first | rfl | trivial)⟩
  case round =>
    clear HE HP
    obtain ⟨k, acc, rfl, rfl, hk, hac, HE, HP, HW⟩ := hrel
    obtain rfl := HW.out
    by_cases hlt : k < x.n
    · obtain ⟨ad, u, ex, qx, ux⟩ := rows_at HX.out k hlt
      rw [ex]
      have hul := HLL.out k hlt
      have HUL := Lib.hid ux.len
      have hun : u.n ≤ 1000 := by rw [ux.len]; exact hul
      have hDk : k < D.length := by rw [← HLN.out]; exact hlt
      have HS : Hid (RES = if most < acc * u.n then [] else if overP most (acc * u.n) (D.drop (k + 1)) then [] else (List.range (prodN D)).map (rowP D)) := Lib.hid (by
        rw [HE.out, drop_cons hDk, overP, HUL.out]
        by_cases g : most < acc * (D.getD k []).length
        · rw [if_pos g, if_pos g]; rfl
        · rw [if_neg g, if_neg g])
      have HP2 : Hid ((acc * u.n) * prodN (D.drop (k + 1)) = prodN D) := Lib.hid (by
        rw [← HP.out, drop_cons hDk, prodN, HUL.out, Nat.mul_assoc])
      have hprod : acc * u.n ≤ 1000000000 := Nat.le_trans (Nat.mul_le_mul hac hun) (by decide)
      have w1 : IntKind.i64.wrap (((acc : Nat) : Int) * ((u.n : Nat) : Int)) = ((acc * u.n : Nat) : Int) := by rw [← Int.natCast_mul]; exact IntWalk.i64_in _ (by omega)
      obtain ⟨pr, hpr⟩ : ∃ pr, pr = acc * u.n := ⟨_, rfl⟩
      rw [← hpr] at HS HP2 w1 hprod
      clear ux hul hDk ex HE HP hpr
      by_cases g : most < pr
      · have g1 : decide (most < pr) = true := by simpa using g
        have HF : Hid (RES = []) := Lib.hid (by rw [HS.out, if_pos g])
        clear g HS HP2
        go_wp2_with fail
        go_ret
        have HN : Hid (RowsO w.heap.size w ⟨none, 0, 0⟩ [] RES) := Lib.hid (by rw [HF.out]; exact RowsO.nil _ _)
        first
          | exact ⟨⟨⟨none, 0, 0⟩, [], rfl, HN.out⟩, Below.refl _ _⟩
          | exact ⟨⟨⟨none, 0, 0⟩, rfl, [], HN.out⟩, Below.refl _ _⟩
      · have g1 : decide (most < pr) = false := by simpa using g
        have HF : Hid (RES = if overP most pr (D.drop (k + 1)) then [] else (List.range (prodN D)).map (rowP D)) := Lib.hid (by rw [HS.out, if_neg g])
        have hpm : pr ≤ 1000000 := by omega
        clear g HS hprod
        go_wp2_with fail
        go_roundw
        case rel => exact ⟨k + 1, pr, rfl, by go_num, by omega, hpm, HF, HP2, Lib.hid (by first | rfl | trivial)⟩
        case measure => simp [intOf]; omega
    · obtain rfl : k = x.n := by omega
      have hdr : D.drop x.n = [] := by rw [HLN.out]; exact List.drop_length
      have HF : Hid (RES = (List.range acc).map (rowP D)) := Lib.hid (by
        have h1 := HP.out
        rw [hdr, prodN, Nat.mul_one] at h1
        rw [HE.out, hdr, overP, ← h1]
        rfl)
      have HPA : Hid (acc = prodN D) := Lib.hid (by
        have h1 := HP.out
        rwa [hdr, prodN, Nat.mul_one] at h1)
      clear HE HP hdr hlt
      have hacn : acc ≤ 1000000 := hac
      go_wp2_with fail
      go_loopw [7, 8] (fun s i wr => ∃ (k : Nat) (y : Sl) (xs : List Sl), s = .slice y.A y.n y.c ∧ i = .int .i64 (k : Nat) ∧ k ≤ acc ∧ Hid (RowsO w.heap.size wr y xs ((List.range k).map (rowP D))) ∧ Hid (xs.length = k) ∧ Hid (Below w.heap.size w wr)) (fun _ i _ => acc - (intOf i).toNat)
      case atStart => exact ⟨0, ⟨none, 0, 0⟩, [], rfl, rfl, by omega, Lib.hid (RowsO.nil _ _), Lib.hid rfl, Lib.hid (Below.refl _ _)⟩
      case round =>
        obtain ⟨k, y, xs, rfl, rfl, hk, HO, HK, HB⟩ := hrel
        obtain ⟨wo, rfl⟩ : ∃ wo, wo = wr := ⟨_, rfl⟩
        by_cases hlt : k < acc
        · have HPOS : Hid (∀ j, j < x.n → 0 < (D.getD j []).length) := Lib.hid (fun j hj => by
            have hj' : j < D.length := by rw [← HLN.out]; exact hj
            rw [List.getD_eq_getElem?_getD, List.getElem?_eq_getElem hj']
            exact prod_pos (by rw [← HPA.out]; omega) _ (List.getElem_mem hj'))
          have HRZ := Lib.hid (HROW.out wo)
          have hmk := HMK.out wo
          have HBW := Lib.hid (below1 wo (.cells (madeCells #[.int .i64 0] x.n) 3))
          obtain ⟨wm, hwm⟩ : ∃ wm, wo.alloc (.cells (madeCells #[.int .i64 0] x.n) 3) = wm := ⟨_, rfl⟩
          rw [hwm] at HRZ hmk HBW
          clear hwm
          have wsub : IntKind.i64.wrap (((x.n : Nat) : Int) - 1) = ((x.n : Nat) : Int) - 1 := IntWalk.i64_in _ (by omega)
          go_wp2_with fail
          clear hmk wsub
          go_loopw [10, 11] (fun r i wr => ∃ (m q : Nat), i = .int .i64 (((m : Nat) : Int) - 1) ∧ r = .int .i64 (q : Nat) ∧ m ≤ x.n ∧ q ≤ 1000000 ∧ Hid (q = k / prodN (D.drop m)) ∧ Hid (wr.ownsRow wo.heap.size 3 1 (.slice (some ⟨wo.heap.size, 0, none⟩) x.n x.n) x.n (RZ m (rowP (D.drop m) k))) ∧ Hid (Below wo.heap.size wo wr)) (fun _ i _ => (intOf i + 1).toNat)
          case atStart =>
            have hdr : D.drop x.n = [] := by rw [HLN.out]; exact List.drop_length
            exact ⟨x.n, k, rfl, rfl, by omega, by omega, Lib.hid (by rw [hdr, prodN, Nat.div_one]), Lib.hid (by rw [hdr]; exact HRZ.out), HBW⟩
          case round =>
            clear HRZ HBW
            obtain ⟨m, q, rfl, rfl, hm', hq, HQ, HRR, HBB⟩ := hrel
            by_cases hm0 : 0 < m
            · obtain ⟨j, rfl⟩ : ∃ j, m = j + 1 := ⟨m - 1, by omega⟩
              have hjx : j < x.n := by omega
              have ej : (((j + 1 : Nat) : Int) - 1) = (j : Nat) := by omega
              obtain ⟨ad, u, ex, qx0, ux⟩ := rows_at (HX.out.below HB.out) j hjx
              have hup : 0 < u.n := by rw [ux.len]; exact HPOS.out j hjx
              have hun : u.n ≤ 1000 := by rw [ux.len]; exact HLL.out j hjx
              obtain ⟨s, hs⟩ : ∃ s, s = q % u.n := ⟨_, rfl⟩
              have hsu : s < u.n := hs ▸ Nat.mod_lt _ hup
              obtain ⟨a1, ea1, q5⟩ := ints_at (ux.below HBB.out) s hsu
              rw [ea1] at qx0
              have QX0 := Lib.hid qx0
              have q4 : wr.cell? (ad.add j) = some (.slice (some a1) u.n u.c) := (HBB.out.cell (lt_of_cell qx0)).trans qx0
              have hDj : j < D.length := by rw [← HLN.out]; exact hjx
              have HST : Hid (RZ j ((D.getD j []).getD s 0 :: rowP (D.drop (j + 1)) k) = RZ j (rowP (D.drop j) k)) := Lib.hid (by
                rw [drop_cons hDj, rowP, ← HQ.out, ← ux.len, ← hs])
              have HQ2 : Hid (q / u.n = k / prodN (D.drop j)) := Lib.hid (by
                rw [drop_cons hDj, prodN, HQ.out, Nat.div_div_eq_div_mul, ← ux.len, Nat.mul_comm])
              have m1 : IntKind.i64.wrap (((q : Nat) : Int).tmod ((u.n : Nat) : Int)) = (s : Nat) := by
                rw [Int.tmod_eq_emod_of_nonneg (by omega), ← Int.natCast_emod, ← hs]; exact IntWalk.i64_in _ (by omega)
              have m1' : ((q : Nat) : Int).tmod ((u.n : Nat) : Int) = (s : Nat) := by
                rw [Int.tmod_eq_emod_of_nonneg (by omega), ← Int.natCast_emod, ← hs]
              have m1'' : ((q : Nat) : Int) % ((u.n : Nat) : Int) = (s : Nat) := by rw [← Int.natCast_emod, ← hs]
              obtain ⟨q', hq'⟩ : ∃ q', q' = q / u.n := ⟨_, rfl⟩
              have hq'b : q' ≤ 1000000 := hq' ▸ Nat.le_trans (Nat.div_le_self _ _) hq
              have m2 : ((q : Nat) : Int).tdiv ((u.n : Nat) : Int) = (q' : Nat) := by
                rw [Int.tdiv_eq_ediv_of_nonneg (by omega), ← Int.natCast_ediv, ← hq']
              have m2' : ((q : Nat) : Int) / ((u.n : Nat) : Int) = (q' : Nat) := by rw [← Int.natCast_ediv, ← hq']
              have n0 : (((u.n : Nat) : Int) == 0) = false := by simp; omega
              have n1 : ¬ ((u.n : Nat) : Int) = 0 := by omega
              have n2 : ¬ u.n = 0 := by omega
              rw [← hq'] at HQ2
              generalize (D.getD j []).getD s 0 = z at q5 HST
              have HRd : Hid (wr.drew.ownsRow wo.heap.size 3 1 (.slice (some ⟨wo.heap.size, 0, none⟩) x.n x.n) x.n (RZ (j + 1) (rowP (D.drop (j + 1)) k))) := Lib.hid HRR.out
              have HBd : Hid (Below wo.heap.size wo wr.drew) := Lib.hid HBB.out.drew
              have wj : IntKind.i64.wrap (((j : Nat) : Int) - 1) = ((j : Nat) : Int) - 1 := IntWalk.i64_in _ (by omega)
              rw [ej, ex]
              clear HRR HQ ux hs hq' hDj ea1 ex hm0 HBB qx0
              go_upto_region 17 with fail
              go_still_tail 16, (by kernel_rfl)
              change wpList _ _ _ _ _ wr.drew
              generalize wr.drew = wd at *
              clear q4 q5
              have cw := HRd.out.cellAt j (by omega)
              have hst := (HRd.out.stored j (.int .i64 z)).1
              rw [RZ_set, HST.out] at hst
              have HR2 := Lib.hid hst
              have fw := HRd.out.frozenAt j
              have cj : ∃ uu, wd.cell? ⟨wo.heap.size, j, none⟩ = some uu := by
                rw [cw]
                have : j < (RZ (j + 1) (rowP (D.drop (j + 1)) k)).length := by unfold RZ; simp; omega
                exact ⟨_, List.getElem?_eq_getElem this⟩
              obtain ⟨uu, cj⟩ := cj
              have HB2 := Lib.hid (HBd.out.setCell (p := ⟨wo.heap.size, j, none⟩) (Nat.le_refl _) (.int .i64 z))
              have q6 : (wd.setCell ⟨wo.heap.size, j, none⟩ (.int .i64 z)).cell? (ad.add j) = some (.slice (some a1) u.n u.c) := (HB2.out.cell (lt_of_cell QX0.out)).trans QX0.out
              clear cw hst HST HRd HBd
              go_wp2_with fail
              go_roundw
              case rel => exact ⟨j, q', rfl, rfl, by omega, hq'b, HQ2, HR2, HB2⟩
              case measure => simp [intOf] <;> omega
            · obtain rfl : m = 0 := by omega
              have HN : Hid (Row3 wr w.heap.size ⟨some ⟨wo.heap.size, 0, none⟩, x.n, x.n⟩ (rowP D k)) := Lib.hid (by
                have h0 := HRR.out
                have h1 : (rowP D k).length = x.n := by rw [rowP_len, HLN.out]
                unfold Row3
                rw [h1]
                have h2 : RZ 0 (rowP (D.drop 0) k) = I (rowP D k) := by unfold RZ; simp
                rw [h2] at h0
                exact own_base h0 HB.out.size)
              have HO2 := Lib.hid (HO.out.below HBB.out)
              have HB2 := Lib.hid (HB.out.trans (HBB.out.mono HB.out.size))
              have K2 := below1 wr (.cells #[.slice (some ⟨wo.heap.size, 0, none⟩) x.n x.n] 30)
              have HO3 := Lib.hid (HO2.out.below K2)
              have HN3 : Hid (Row3 (wr.alloc (.cells #[.slice (some ⟨wo.heap.size, 0, none⟩) x.n x.n] 30)) w.heap.size ⟨some ⟨wo.heap.size, 0, none⟩, x.n, x.n⟩ (rowP D k)) := Lib.hid (own_keep' HN.out fun g hg => K2.block g (own_lt' HN.out hg).2)
              have HB3 := Lib.hid (HB2.out.trans (K2.mono HB2.out.size))
              have Z3 : Hid (xs.length + 1 ≤ maxLen) := Lib.hid (by have := HK.out; unfold maxLen; omega)
              have Z4 : Hid ((xs.length + 1) * 24 ≤ 140737488355328) := Lib.hid (by have := HK.out; omega)
              have HT2 : Hid ((List.range (k + 1)).map (rowP D) = (List.range k).map (rowP D) ++ [rowP D k]) := Lib.hid (by rw [List.range_succ, List.map_append]; rfl)
              clear K2 HO HB HO2 HN HRR HQ HBB
              go_wp2_with (at_builtin; refine wpList_append_own _ rfl _ _ 27 rfl w.heap.size 30 i0 (.slice none 0 0) 1 24 Tryz.underlying27 HI.out.1 HI.out.2.1 HI.out.2.2.1 HI.out.2.2.2 rfl (by decide) _ _ _ rfl HO3.out.row ⟨_, 0, none⟩ 1 1 [.slice (some ⟨wo.heap.size, 0, none⟩) x.n x.n] rfl rfl ?c1 ?c2 Z3.out Z4.out HB3.out.size ?_)
              case c1 => intro j u hj; match j, hj with | 0, hj => simp at hj; subst hj; simp [Addr.add]
              case c2 => intro u hu; simp at hu; subst hu; rfl
              intro v' w7 hown' hgrow _
              obtain ⟨Y, kY, rfl⟩ := slice_row hown'
              have HO7 : Hid (RowsO w.heap.size w7 ⟨Y, xs.length + 1, kY⟩ (xs ++ [⟨some ⟨wo.heap.size, 0, none⟩, x.n, x.n⟩]) ((List.range (k + 1)).map (rowP D))) := Lib.hid (by
                rw [HT2.out]
                exact HO3.out.step HN3.out hown' hgrow)
              have HB7 := Lib.hid (HB3.out.grown hgrow HB3.out.size (own_ge HO3.out.row))
              have HK7 : Hid ((xs ++ [(⟨some ⟨wo.heap.size, 0, none⟩, x.n, x.n⟩ : Sl)]).length = k + 1) := Lib.hid (by simp [HK.out])
              clear hown' hgrow HO3 HN3 HB3 HB2 HT2 Z3 Z4 HK
              go_wp2_with fail
              go_roundw
              case rel => exact ⟨k + 1, ⟨Y, _, kY⟩, xs ++ [⟨some ⟨wo.heap.size, 0, none⟩, x.n, x.n⟩], rfl, by go_num, by omega, HO7, HK7, HB7⟩
              case measure => simp [intOf]; omega
        · have HG : Hid (RowsO w.heap.size wo y xs RES) := Lib.hid (by
            rw [HF.out, show acc = k by omega]
            exact HO.out)
          clear HO HF HPA
          go_wp2_with fail
          go_ret
          exact ⟨⟨y, xs, rfl, HG.out⟩, HB.out⟩
end Go.Proofs.YtkhmocbfkpbpfaaGreatDoor

/- Contract of the document's Solutions (layer 10): shared by layers 10 to 22. -/
namespace Go.Proofs.YtkhmocbfkpbpfaaGreatDoor
open Go.RowKit Go.Sort

theorem conr_local {n : Nat} {c : ConL} (r : ConR n c) : ConR (c.A.length + c.B.length) (localE c) where
  k1 := r.k1
  k23 := r.k23
  pa := fun v hv => by
    simp only [localE, mkL, List.mem_map, List.mem_range] at hv
    obtain ⟨i, hi, rfl⟩ := hv
    omega
  pb := fun v hv => by
    simp only [localE, mkL, List.mem_map, List.mem_range] at hv
    obtain ⟨i, hi, rfl⟩ := hv
    omega
  pc := r.pc
  pd := r.pd
  a64 := by simp only [localE, mkL_len]; exact r.a64
  a1 := fun h => by simp only [localE, mkL_len]; exact r.a1 h
  b64 := by simp only [localE, mkL_len]; exact r.b64
  lin := fun h => by simp only [localE, mkL_len]; exact r.lin h
  reif := fun h => by simp only [localE, mkL_len]; exact r.reif h
  three := fun h1 h2 h3 => by simp only [localE, mkL_len]; exact r.three h1 h2 h3
  two := fun h => by simp only [localE, mkL_len]; exact r.two h
  c64 := r.c64
  c11 := r.c11
  told := fun h1 h2 => by simp only [localE, mkL_len]; exact r.told h1 h2
  cum := fun h => by simp only [localE, mkL_len]; exact r.cum h
  gcc := r.gcc
  pair := fun h => by simp only [localE, mkL_len]; exact r.pair h
  rows := fun h q hq => by simp only [localE, mkL_len]; exact r.rows h q hq
/-- Does a constraint hold of a row of values, one for each place? -/
def holdsR (c : ConL) (r : List Int) : Bool := meetsB (localE c) (valsE (localE c).A r) (valsE (localE c).B r)
/-- A constraint's solutions among domains. -/
def solsE (c : ConL) (D : List (List Int)) (most : Nat) : List (List Int) := (prodE D most).filter (holdsR c)
theorem prod_row {D : List (List Int)} {most : Nat} {r : List Int} (h : r ∈ prodE D most) : r.length = D.length := by
  unfold prodE at h
  split at h
  · cases h
  · obtain ⟨k, -, rfl⟩ := List.mem_map.1 h
    exact rowP_len D k
theorem rowP_mem {D : List (List Int)} (hp : 0 < prodN D) (k : Nat) : ∀ v ∈ rowP D k, ∃ d ∈ D, v ∈ d := by
  induction D with
  | nil => intro v hv; cases hv
  | cons d D ih =>
    intro v hv
    rw [prodN] at hp
    have h1 : 0 < d.length := Nat.pos_of_mul_pos_right hp
    rcases List.mem_cons.1 hv with rfl | hv
    · exact ⟨d, List.mem_cons_self .., getD_mem d _ (Nat.mod_lt _ h1)⟩
    · obtain ⟨e, he, hve⟩ := ih (Nat.pos_of_mul_pos_left hp) v hv
      exact ⟨e, List.mem_cons_of_mem _ he, hve⟩
theorem prod_vals {D : List (List Int)} {most : Nat} {lo hi : Int} (hD : ∀ d ∈ D, ∀ v ∈ d, lo ≤ v ∧ v ≤ hi) {r : List Int} (h : r ∈ prodE D most) : ∀ v ∈ r, lo ≤ v ∧ v ≤ hi := by
  unfold prodE at h
  split at h
  · cases h
  · obtain ⟨k, hk, rfl⟩ := List.mem_map.1 h
    intro v hv
    obtain ⟨d, hd, hvd⟩ := rowP_mem (by have := List.mem_range.1 hk; omega) k v hv
    exact hD d hd v hvd
theorem prod_small {D : List (List Int)} {most : Nat} (hm : most ≤ 1000000) (hD : overP most 1 D = false) : prodN D ≤ 1000000 := by
  have key : ∀ (E : List (List Int)) (acc : Nat), acc ≤ 1000000 → overP most acc E = false → acc * prodN E ≤ 1000000 := by
    intro E
    induction E with
    | nil => intro acc h _; rw [prodN]; omega
    | cons d E ih =>
      intro acc h ho
      rw [overP] at ho
      split at ho
      · cases ho
      · rename_i hg
        have := ih (acc * d.length) (by omega) ho
        rw [prodN, ← Nat.mul_assoc]
        exact this
  have := key D 1 (by omega) hD
  omega
theorem prod_len {D : List (List Int)} {most : Nat} (hm : most ≤ 1000000) : (prodE D most).length ≤ 1000000 := by
  unfold prodE
  split
  · simp
  · rename_i h
    rw [List.length_map, List.length_range]
    exact prod_small hm (by simpa using h)

theorem RowsO.at_ {base : Nat} {W : World} {y : Sl} {xs : List Sl} {R : List (List Int)} (h : RowsO base W y xs R) (k : Nat) (hk : k < xs.length) :
    ∃ (ad : Addr) (z : Sl), y.A = some ad ∧ W.cell? (ad.add k) = some (.slice z.A z.n z.c) ∧ Row3 W base z (R.getD k []) ∧ k < y.n := by
  have hO := h.row
  obtain ⟨A, n, c⟩ := y
  obtain ⟨A', c', e⟩ := slice_row hO
  simp only [Value.slice.injEq] at e
  obtain ⟨rfl, rfl, rfl⟩ := e
  rcases hO.2 with ⟨e, h2⟩ | ⟨g, cap, cur, e, hb, hg, hn', hm, hs', ht⟩
  · omega
  · simp only [Value.slice.injEq] at e
    obtain ⟨rfl, -, rfl⟩ := e
    refine ⟨_, xs[k], rfl, ?_, ?_, hk⟩
    · have := hO.cellAt k (by show k < xs.length * 1; omega)
      rw [Addr.add_mid, Nat.zero_add, this, List.getElem?_map, List.getElem?_eq_getElem hk]
      rfl
    · have hkR : k < R.length := by rw [← h.len]; exact hk
      rw [List.getD_eq_getElem?_getD, List.getElem?_eq_getElem hkR]
      exact h.each k _ _ (List.getElem?_eq_getElem hk) (List.getElem?_eq_getElem hkR)
theorem filter_step {α : Type} (p : α → Bool) (l : List α) (k : Nat) (h : k < l.length) : (l.take (k + 1)).filter p = (l.take k).filter p ++ (if p l[k] then [l[k]] else []) := by
  rw [List.take_succ_eq_append_getElem h, List.filter_append]
  congr 1
  cases hp : p l[k]
  · simp [hp]
  · simp [hp]

set_option maxHeartbeats 8000000 in
set_option maxRecDepth 100000 in
theorem sols_any (v : ConV) (c : ConL) (x : Sl) (D : List (List Int)) (most n : Nat) (w : World) (h : ConIn w v c) (hx : IsRows w x D) (r : ConR n c) (hm : most ≤ 1000000) (hD : D.length = c.A.length + c.B.length) (hl : ∀ d ∈ D, d.length ≤ 1000) (hv : ∀ d ∈ D, ∀ z ∈ d, -1000000 ≤ z ∧ z ≤ 1000000) :
    Calls Tryz.prog 25 #[v.val c.kind c.K, .slice x.A x.n x.c, .int .i64 (most : Nat)] w fun e w' => (∃ (y : Sl) (xs : List Sl), e = .returned (.tuple #[.slice y.A y.n y.c, .bool (!overP most 1 D)]) ∧ RowsO w.heap.size w' y xs (solsE c D most)) ∧ Below w.heap.size w w' := by
  obtain ⟨i0, hi, hz0, hz1, hz2⟩ := info_parts infoSl'
  have HI := Lib.hid (And.intro hi (And.intro hz0 (And.intro hz1 hz2)))
  obtain ⟨wb, hwb⟩ : ∃ wb, cBox w v c.kind c.K = wb := ⟨_, rfl⟩
  have HR : Hid (RBox w.heap.size wb v c ⟨none, 0, 0⟩ [] ∧ Below w.heap.size w wb) := Lib.hid (hwb ▸ ⟨RBox.start h (IsInts.nil _), cBox_below _ _ _ _⟩)
  have HX := Lib.hid (hx.below HR.out.2)
  have HLN := Lib.hid hx.len
  have hab : c.A.length ≤ 64 := r.a64
  have hbb : c.B.length ≤ 64 := r.b64
  have hxn : x.n ≤ 128 := by rw [hx.len, hD]; omega
  have hdn : D.length ≤ 1000 := by rw [hD]; omega
  have HLL : Hid (∀ k, k < x.n → (D.getD k []).length ≤ 1000) := Lib.hid (fun k hk => hl _ (by
    have hk' : k < D.length := by rw [← hx.len]; exact hk
    rw [List.getD_eq_getElem?_getD, List.getElem?_eq_getElem hk']
    exact List.getElem_mem hk'))
  have CL := Lib.hid (local_any v c wb HR.out.1.con (by omega) (by omega))
  have CP : Hid (∀ W, Below wb.heap.size wb W → Calls Tryz.prog 66 #[.slice x.A x.n x.c, .int .i64 (most : Nat)] W fun e w' => (∃ (y : Sl) (xs : List Sl), e = .returned (.slice y.A y.n y.c) ∧ RowsO W.heap.size w' y xs (prodE D most)) ∧ Below W.heap.size W w') := Lib.hid (fun W hW => product_any x D most W (HX.out.below hW) hm hdn hl)
  have RL := Lib.hid (conr_local r)
  have HDL := Lib.hid hD
  have HVV := Lib.hid (fun (q : List Int) (hq : q ∈ prodE D most) => And.intro (prod_row hq) (prod_vals hv hq))
  have HPL : Hid ((prodE D most).length ≤ 1000000) := Lib.hid (prod_len hm)
  obtain ⟨OV, hOV⟩ : ∃ B, B = overP most 1 D := ⟨_, rfl⟩
  have HOV : Hid (OV = overP most 1 (D.drop 0)) := Lib.hid hOV
  have HEM : Hid (OV = true → solsE c D most = []) := Lib.hid (fun e => by unfold solsE prodE; rw [← hOV, if_pos e]; rfl)
  rw [← hOV]
  have HWB := Lib.hid hwb
  clear hi hz0 hz1 hz2 hwb h hx r hD hl hv hOV hab hbb hdn
  go_enter Tryz.func25, Tryz.ntmps25
  go_upto_region 1 with fail
  change Code.wp _ _ _ _ (cBox w v c.kind c.K)
  rw [HWB.out]
  clear HWB
  go_wp2_with fail
  go_loopw [8, 9] (fun s i wr => ∃ (k acc : Nat), s = .int .i64 (acc : Nat) ∧ i = .int .i64 (k : Nat) ∧ k ≤ x.n ∧ acc ≤ 1000000 ∧ Hid (OV = overP most acc (D.drop k)) ∧ Hid (wb = wr)) (fun _ i _ => x.n - (intOf i).toNat)
  case atStart => exact ⟨0, 1, rfl, rfl, by omega, by omega, HOV, Lib.hid (by first | rfl | trivial)⟩
  case round =>
    clear HOV
    obtain ⟨k, acc, rfl, rfl, hk, hac, HE, HW⟩ := hrel
    obtain rfl := HW.out
    by_cases hlt : k < x.n
    · obtain ⟨ad, u, ex, qx, ux⟩ := rows_at HX.out k hlt
      rw [ex]
      have hul := HLL.out k hlt
      have hun : u.n ≤ 1000 := by rw [ux.len]; exact hul
      have hDk : k < D.length := by rw [← HLN.out]; exact hlt
      have HS : Hid (OV = if most < acc * u.n then true else overP most (acc * u.n) (D.drop (k + 1))) := Lib.hid (by
        rw [HE.out, drop_cons hDk, overP, ux.len])
      have hprod : acc * u.n ≤ 1000000000 := Nat.le_trans (Nat.mul_le_mul hac hun) (by decide)
      have w1 : IntKind.i64.wrap (((acc : Nat) : Int) * ((u.n : Nat) : Int)) = ((acc * u.n : Nat) : Int) := by rw [← Int.natCast_mul]; exact IntWalk.i64_in _ (by omega)
      obtain ⟨pr, hpr⟩ : ∃ pr, pr = acc * u.n := ⟨_, rfl⟩
      rw [← hpr] at HS w1 hprod
      clear ux hul hDk ex HE hpr
      by_cases g : most < pr
      · have g1 : decide (most < pr) = true := by simpa using g
        have HF : Hid (OV = true) := Lib.hid (by rw [HS.out, if_pos g])
        have HN : Hid (RowsO w.heap.size wb ⟨none, 0, 0⟩ [] (solsE c D most)) := Lib.hid (by rw [HEM.out HF.out]; exact RowsO.nil _ _)
        clear g HS
        go_wp2_with fail
        exact bodyPost_ret (v := .tuple #[.slice none 0 0, .bool false]) (by simp [results, Tryz.results25, go_sem]) rfl ⟨⟨⟨none, 0, 0⟩, by rw [HF.out]; rfl, [], HN.out⟩, HR.out.2⟩
      · have g1 : decide (most < pr) = false := by simpa using g
        have HF : Hid (OV = overP most pr (D.drop (k + 1))) := Lib.hid (by rw [HS.out, if_neg g])
        have hpm : pr ≤ 1000000 := by omega
        clear g HS hprod
        go_wp2_with fail
        go_roundw
        case rel => exact ⟨k + 1, pr, rfl, by go_num, by omega, hpm, HF, Lib.hid (by first | rfl | trivial)⟩
        case measure => simp [intOf]; omega
    · obtain rfl : k = x.n := by omega
      have HF : Hid (OV = false) := Lib.hid (by rw [HE.out, show D.drop x.n = [] by rw [HLN.out]; exact List.drop_length]; rfl)
      have d0 := HR.out.1.c0
      have d1 := HR.out.1.c1
      have d2 := HR.out.1.c2
      have d3 := HR.out.1.c3
      have d4 := HR.out.1.c4
      have d5 := HR.out.1.c5
      have d6 := HR.out.1.c6
      have d7 := HR.out.1.c7
      clear HE hlt HEM HLL
      go_wp2_with fail
      refine CL.out.mono ?_
      rintro e w1 ⟨⟨vl, rfl, hvl⟩, b1⟩
      have HVL := Lib.hid hvl
      have B1 := Lib.hid b1
      clear CL hvl b1 d0 d1 d2 d3 d4 d5 d6 d7
      obtain ⟨w2, hw2⟩ : ∃ w2, cBox w1 vl c.kind c.K = w2 := ⟨_, rfl⟩
      have HKB : Hid (w2.heap[w1.heap.size]? = some (.cells (vl.cells c.kind c.K) 32 (0, 0))) := Lib.hid (hw2 ▸ heap_new w1 _)
      have B2 : Hid (Below w1.heap.size w1 w2) := Lib.hid (hw2 ▸ below1 w1 _)
      have B02 := Lib.hid (B1.out.trans (B2.out.mono B1.out.size))
      go_upto_region 9 with fail
      first
        | (change Code.wp _ _ _ _ (cBox w1 vl c.kind c.K); rw [hw2])
        | skip
      clear hw2
      go_wp2_with fail
      refine (CP.out w2 B02.out).mono ?_
      rintro e w3 ⟨⟨yp, xp, rfl, hp⟩, b3⟩
      have HP := Lib.hid hp
      have B3 := Lib.hid b3
      have B03 := Lib.hid (B02.out.trans (b3.mono B02.out.size))
      have HVL3 := Lib.hid ((HVL.out.below B2.out).below b3)
      have HKB3 : Hid (w3.heap[w1.heap.size]? = some (.cells (vl.cells c.kind c.K) 32 (0, 0))) := Lib.hid ((b3.block _ (Array.getElem?_eq_some_iff.1 HKB.out).1).trans HKB.out)
      have hyn : yp.n = xp.length := by
        have h0 := hp.row
        obtain ⟨A', c', e'⟩ := slice_row h0
        simp only [Value.slice.injEq] at e'
        exact e'.2.1
      have HYN := Lib.hid hyn
      have hyb : yp.n ≤ 1000000 := by rw [hyn, hp.len]; exact HPL.out
      have HRN : Hid (xp.length = (prodE D most).length) := Lib.hid hp.len
      clear CP hp b3 HKB HVL B2 B1 hyn
      have HFN : Hid (solsE c D most = (prodE D most).filter (holdsR c)) := Lib.hid rfl
      generalize prodE D most = R at HP HVV HPL HRN HFN
      go_wp2_with fail
      go_loopw [12, 13] (fun s i wr => ∃ (k : Nat) (y : Sl) (ys : List Sl), s = .slice y.A y.n y.c ∧ i = .int .i64 (k : Nat) ∧ k ≤ yp.n ∧ ys.length ≤ k ∧ Hid (wr.ownsRow w3.heap.size 30 1 (.slice y.A y.n y.c) ys.length (ys.map rowV)) ∧ Hid (ys.length = ((R.take k).filter (holdsR c)).length) ∧ Hid (∀ (j : Nat) (z : Sl) (q : List Int), ys[j]? = some z → ((R.take k).filter (holdsR c))[j]? = some q → Row3 w3 w2.heap.size z q) ∧ Hid (Below w3.heap.size w3 wr)) (fun _ i _ => yp.n - (intOf i).toNat)
      case atStart => exact ⟨0, ⟨none, 0, 0⟩, [], rfl, rfl, by omega, by simp, Lib.hid (World.ownsRow_nil _ _ _ _), Lib.hid rfl, Lib.hid (fun j z q h => by cases h), Lib.hid (Below.refl _ _)⟩
      case round =>
        obtain ⟨k, y, ys, rfl, rfl, hk, hyk, HO, HLE, HEA, HBB⟩ := hrel
        by_cases hlt : k < yp.n
        · obtain ⟨ad, z, ep, qz, hz3, -⟩ := HP.out.at_ k (by rw [← HYN.out]; exact hlt)
          have hkR : k < R.length := by rw [← HRN.out, ← HYN.out]; exact hlt
          have hmem : R.getD k [] ∈ R := by
            rw [List.getD_eq_getElem?_getD, List.getElem?_eq_getElem hkR]
            exact List.getElem_mem hkR
          have hrow := HVV.out _ hmem
          have hrlen : (R.getD k []).length = c.A.length + c.B.length := by rw [hrow.1, HDL.out]
          have HFS : Hid ((R.take (k + 1)).filter (holdsR c) = (R.take k).filter (holdsR c) ++ (if holdsR c (R.getD k []) then [R.getD k []] else [])) := Lib.hid (by
            have := filter_step (holdsR c) R k hkR
            rw [this, List.getD_eq_getElem?_getD, List.getElem?_eq_getElem hkR]
            rfl)
          have hzi : IsInts w3 z (R.getD k []) := ints_own hz3 (by rw [hrlen]; have := hxn; have h1 := HLN.out; have h2 := HDL.out; omega)
          have CH := Lib.hid (bo_regrown (w := wr) (b := meetsB (localE c) (valsE (localE c).A (R.getD k [])) (valsE (localE c).B (R.getD k []))) (args := #[vl.val c.kind c.K, .slice z.A z.n z.c]) (f := 31) (fun W hW => rHolds_any vl (localE c) z (R.getD k []) W ((HVL3.out.below HBB.out).below hW) ((hzi.below HBB.out).below hW) (by rw [hrlen]; exact RL.out) hrow.2))
          have HZ3 := Lib.hid hz3
          have HHR : Hid (meetsB (localE c) (valsE (localE c).A (R.getD k [])) (valsE (localE c).B (R.getD k [])) = holdsR c (R.getD k [])) := Lib.hid rfl
          rw [HHR.out] at CH
          have hkb := (HBB.out.block _ (Array.getElem?_eq_some_iff.1 HKB3.out).1).trans HKB3.out
          have c0 := cell_regrown (box_cell hkb (j := 0) (x := .int .i64 c.kind) rfl)
          have c1 := cell_regrown (box_cell hkb (j := 1) (x := .slice vl.a.A vl.a.n vl.a.c) rfl)
          have c2 := cell_regrown (box_cell hkb (j := 2) (x := .slice vl.b.A vl.b.n vl.b.c) rfl)
          have c3 := cell_regrown (box_cell hkb (j := 3) (x := .slice vl.c.A vl.c.n vl.c.c) rfl)
          have c4 := cell_regrown (box_cell hkb (j := 4) (x := .slice vl.d.A vl.d.n vl.d.c) rfl)
          have c5 := cell_regrown (box_cell hkb (j := 5) (x := .slice vl.e.A vl.e.n vl.e.c) rfl)
          have c6 := cell_regrown (box_cell hkb (j := 6) (x := .int .i64 c.K) rfl)
          have c7 := cell_regrown (box_cell hkb (j := 7) (x := .slice vl.r.A vl.r.n vl.r.c) rfl)
          have qzr : wr.cell? (ad.add k) = some (.slice z.A z.n z.c) := (HBB.out.cell (lt_of_cell qz)).trans qz
          have zq := cell_regrown qzr
          rw [ep]
          generalize holdsR c (R.getD k []) = HB at CH HFS
          generalize R.getD k [] = q at HFS HZ3
          clear hmem hrow hrlen hkR hzi hz3 hkb ep HHR
          have QZ := Lib.hid qz
          clear qz
          go_upto_region 14 with fail
          refine wp_region_quiet_below (by kernel_rfl) (by kernel_rfl) ?_
          repeat (first | go_big_quiet_step (first | (go_at_call 31; with_reducible exact CH.out _ _)) | quiet_step (fail))
          refine wpQuiet_nil ?_
          intro _ hw'
          obtain ⟨⟨dq, osq⟩, hw''⟩ := hw'
          subst hw''
          have HB4 : Hid (Below w3.heap.size w3 (grow (redrawn wr dq) osq)) := Lib.hid (HBB.out.trans ((below_regrown wr dq osq).mono HBB.out.size))
          have HO4 : Hid ((grow (redrawn wr dq) osq).ownsRow w3.heap.size 30 1 (.slice y.A y.n y.c) ys.length (ys.map rowV)) := Lib.hid (own_keep' HO.out fun g hg => (below_regrown wr dq osq).block g (own_lt' HO.out hg).2)
          generalize grow (redrawn wr dq) osq = w4 at *
          clear c0 c1 c2 c3 c4 c5 c6 c7 CH zq qzr HO HBB
          cases HB
          · have HFS2 : Hid ((R.take (k + 1)).filter (holdsR c) = (R.take k).filter (holdsR c)) := Lib.hid (by rw [HFS.out]; simp)
            have HLE2 : Hid (ys.length = ((R.take (k + 1)).filter (holdsR c)).length) := Lib.hid (by rw [HFS2.out]; exact HLE.out)
            have HEA2 : Hid (∀ (j : Nat) (z : Sl) (q : List Int), ys[j]? = some z → ((R.take (k + 1)).filter (holdsR c))[j]? = some q → Row3 w3 w2.heap.size z q) := Lib.hid (by rw [HFS2.out]; exact HEA.out)
            clear HFS HFS2 HLE HEA
            go_wp2_with fail
            go_roundw
            case rel => exact ⟨k + 1, y, ys, rfl, by go_num, by omega, by omega, HO4, HLE2, HEA2, HB4⟩
            case measure => simp [intOf]; omega
          · have HFS2 : Hid ((R.take (k + 1)).filter (holdsR c) = (R.take k).filter (holdsR c) ++ [q]) := Lib.hid (by rw [HFS.out]; simp)
            have HLE2 : Hid ((ys ++ [z]).length = ((R.take (k + 1)).filter (holdsR c)).length) := Lib.hid (by rw [HFS2.out]; simp [HLE.out])
            have HEA2 : Hid (∀ (j : Nat) (z' : Sl) (q' : List Int), (ys ++ [z])[j]? = some z' → ((R.take (k + 1)).filter (holdsR c))[j]? = some q' → Row3 w3 w2.heap.size z' q') := Lib.hid (by
              rw [HFS2.out]
              intro j z' q' h1 h2
              by_cases hj : j < ys.length
              · rw [List.getElem?_append_left hj] at h1
                rw [List.getElem?_append_left (by rw [← HLE.out]; exact hj)] at h2
                exact HEA.out j z' q' h1 h2
              · have hj' : j = ys.length := by
                  have := (List.getElem?_eq_some_iff.1 h1).1
                  simp at this
                  omega
                subst hj'
                rw [List.getElem?_append_right (Nat.le_refl _)] at h1
                rw [HLE.out, List.getElem?_append_right (Nat.le_refl _)] at h2
                simp at h1 h2
                subst h1 h2
                exact HZ3.out)
            have q4 : w4.cell? (ad.add k) = some (.slice z.A z.n z.c) := (HB4.out.cell (lt_of_cell QZ.out)).trans QZ.out
            have Z3 : Hid (ys.length + 1 ≤ maxLen) := Lib.hid (by unfold maxLen; omega)
            have Z4 : Hid ((ys.length + 1) * 24 ≤ 140737488355328) := Lib.hid (by omega)
            have Z5 := Lib.hid HB4.out.size
            have HO5 := Lib.hid (HO4.out.alloc (.cells #[.slice z.A z.n z.c] 30))
            clear HFS HFS2 HLE HEA HO4
            go_wp2_with (at_builtin; refine wpList_append_own _ rfl _ _ 27 rfl w3.heap.size 30 i0 (.slice none 0 0) 1 24 Tryz.underlying27 HI.out.1 HI.out.2.1 HI.out.2.2.1 HI.out.2.2.2 rfl (by decide) _ _ _ rfl HO5.out ⟨_, 0, none⟩ 1 1 [.slice z.A z.n z.c] rfl rfl ?c1 ?c2 Z3.out Z4.out ?c5 ?_)
            case c1 => intro j u hj; match j, hj with | 0, hj => simp at hj; subst hj; simp [Addr.add]
            case c2 => intro u hu; simp at hu; subst hu; rfl
            case c5 => have := Z5.out; simp; omega
            intro v' w7 hown' hgrow _
            obtain ⟨Y, kY, rfl⟩ := slice_row hown'
            have HB7 := Lib.hid ((HB4.out.alloc HB4.out.size (.cells #[.slice z.A z.n z.c] 30)).grown hgrow (by have := Z5.out; simp; omega) (own_ge HO5.out))
            have HO7 : Hid (w7.ownsRow w3.heap.size 30 1 (.slice Y (ys.length + 1) kY) (ys ++ [z]).length ((ys ++ [z]).map rowV)) := Lib.hid (by simpa using hown')
            have hyl2 : (ys ++ [z]).length ≤ k + 1 := by simp; omega
            clear hown' hgrow HO5 HB4 Z3 Z4 Z5 q4
            go_wp2_with fail
            go_roundw
            case rel => exact ⟨k + 1, ⟨Y, _, kY⟩, ys ++ [z], rfl, by go_num, by omega, hyl2, HO7, HLE2, HEA2, HB7⟩
            case measure => simp [intOf]; omega
        · have HG : Hid (RowsO w.heap.size wr y ys (solsE c D most)) := Lib.hid (by
            have e1 : (R.take k).filter (holdsR c) = solsE c D most := by
              rw [HFN.out, List.take_of_length_le (by rw [← HRN.out, ← HYN.out]; omega)]
            refine ⟨own_base HO.out (Nat.le_trans HR.out.2.size B03.out.size), ?_, ?_⟩
            · rw [HLE.out, e1]
            · intro j z q h1 h2
              rw [← e1] at h2
              have h3 := HEA.out j z q h1 h2
              exact own_base (own_keep' h3 fun g hg => HBB.out.block g (own_lt' h3 hg).2) (Nat.le_trans HR.out.2.size B02.out.size))
          have BF := Lib.hid ((HR.out.2.trans (B03.out.mono HR.out.2.size)).trans (HBB.out.mono (Nat.le_trans HR.out.2.size B03.out.size)))
          clear HO HLE HEA HFN HBB
          go_wp2_with fail
          exact bodyPost_ret (v := .tuple #[.slice y.A y.n y.c, .bool true]) (by simp [results, Tryz.results25, go_sem]) rfl ⟨⟨y, ys, by rw [HF.out]; rfl, HG.out⟩, BF.out⟩
end Go.Proofs.YtkhmocbfkpbpfaaGreatDoor

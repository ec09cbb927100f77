/- Contract of mul's solved: the values that are in a solution, domain by domain. -/
import Derived.Test.YtcmdgjkoalophaaGreatDoorSrow
import Derived.Test.YtcmdgjkoalophaaGreatDoorMsize
import Derived.Test.YtcmdgjkoalophaaGreatDoorDGet
import Derived.Test.YtcmdgjkoalophaaGreatDoorDCut
import Derived.Test.YtcmdgjkoalophaaGreatDoorDWakes
import Derived.Test.YtcmdgjkoalophaaGreatDoorDMore
import Derived.Test.YtcmdgjkoalophaaGreatDoorMkmore
import Derived.Lib.MinMax
import Derived.Test.YtcmdgjkoalophaaGreatDoorSep
namespace Go.Proofs.YtcmdgjkoalophaaGreatDoor
open Go.RowKit

theorem DomsIn.at_ {W : World} {x : Sl} {LL : List (List Int)} (h : DomsIn W x LL) (k : Nat) (hk : k < x.n) :
    ∃ (g o : Nat) (d : Dv), x.A = some ⟨g, o, none⟩ ∧ W.cell? ⟨g, o + k * 3, none⟩ = some (.int .i64 d.s) ∧ W.cell? ⟨g, o + k * 3 + 1, none⟩ = some (.slice d.A d.n d.c) ∧ W.cell? ⟨g, o + k * 3 + 2, none⟩ = some (.int .i64 d.z) ∧ IsDom W d.val (LL.getD k []) := by
  obtain ⟨g, o, e, hg, hc⟩ := h.lies (by omega)
  obtain ⟨d, hd, hD⟩ := hc k hk
  exact ⟨g, o, d, e, hd 0 _ rfl, hd 1 _ rfl, hd 2 _ rfl, hD⟩

set_option maxHeartbeats 1000000 in
theorem indexFunc_doms (g : Nat) (caps : Array Value) (eg : ∀ args w, (callFunc g args).run Tryz.prog w = .ok (.enter g args) w) (p : List Int → Bool) (x : Sl) (R : List (List Int)) (w : World) (h : DomsIn w x R)
    (hp : ∀ (d : Dv) (r : List Int) (W : World), Below w.heap.size w W → IsDom W d.val r → Calls Tryz.prog g (#[.agg #[.int .i64 d.s, .slice d.A d.n d.c, .int .i64 d.z]] ++ caps) W fun e w' => e = .returned (.bool (p r)) ∧ Below W.heap.size W w') :
    Calls Tryz.prog 151 #[.slice x.A x.n x.c, .func (.func g) #[] caps] w fun e w' => (∃ k : Int, e = .returned (.int .i64 k) ∧ decide (0 ≤ k) = R.any p) ∧ Below w.heap.size w w' := by
  have HD := Lib.hid h
  have HP := Lib.hid hp
  have Hn := Lib.hid h.len.symm
  have hlen := h.big
  clear hp h
  go_enter Tryz.func151, Tryz.ntmps151
  go_wp2_with fail
  go_loopw [8] (fun i wr => ∃ k : Nat, i = .int .i64 (k : Nat) ∧ k ≤ x.n ∧ Hid (anyRow p R k) ∧ Hid (Below w.heap.size w wr)) (fun i _ => x.n - (intOf i).toNat)
  case atStart => exact ⟨0, rfl, by omega, Lib.hid (fun j hj => absurd hj (by omega)), Lib.hid (Below.refl _ _)⟩
  case round =>
    obtain ⟨k, rfl, hk, H0, HB⟩ := hrel
    by_cases hlt : k < x.n
    · obtain ⟨b, o, d, ex, q0, q1, q2, hD⟩ := (HD.out.below HB.out).at_ k hlt
      rw [ex]
      have HY := Lib.hid (anyRow_yes (p := p) (R := R) (k := k) (by rw [Hn.out]; exact hlt))
      have HN : Hid (p (R.getD k []) = false → anyRow p R (k + 1)) := Lib.hid (fun e j hj => by
        by_cases h : j < k
        · exact H0.out j h
        · obtain rfl : j = k := by omega
          exact e)
      have cS := Lib.hid (HP.out d (R.getD k []) wr HB.out hD)
      clear hD
      generalize R.getD k [] = z at HY HN cS
      cases hz : p z
      · have HN2 := Lib.hid (HN.out hz)
        rw [hz] at cS
        clear HN HY hz
        go_wp2_with fail
        refine cS.out.mono ?_
        rintro e w1 ⟨rfl, b1⟩
        have B1 := Lib.hid (HB.out.trans (b1.mono HB.out.size))
        clear b1
        go_wp2_with fail
        go_roundw
        case rel => exact ⟨k + 1, by go_num, by omega, HN2, B1⟩
        case measure => simp [intOf]; omega
      · have HY2 := Lib.hid (HY.out hz)
        rw [hz] at cS
        clear HN HY hz
        go_wp2_with fail
        refine cS.out.mono ?_
        rintro e w1 ⟨rfl, b1⟩
        have B1 := Lib.hid (HB.out.trans (b1.mono HB.out.size))
        clear b1
        go_wp2_with fail
        go_ret
        exact ⟨⟨_, rfl, by rw [HY2.out]; simp⟩, B1.out⟩
    · have HN : Hid (R.any p = false) := Lib.hid (anyRow_no (by rw [Hn.out]; have := H0.out; rwa [show k = x.n by omega] at this))
      clear H0
      go_wp2_with fail
      go_ret
      exact ⟨⟨_, rfl, by rw [HN.out]; simp⟩, HB.out⟩

theorem containsFunc_doms (g : Nat) (caps : Array Value) (eg : ∀ args w, (callFunc g args).run Tryz.prog w = .ok (.enter g args) w) (p : List Int → Bool) (x : Sl) (R : List (List Int)) (w : World) (h : DomsIn w x R)
    (hp : ∀ (d : Dv) (r : List Int) (W : World), Below w.heap.size w W → IsDom W d.val r → Calls Tryz.prog g (#[.agg #[.int .i64 d.s, .slice d.A d.n d.c, .int .i64 d.z]] ++ caps) W fun e w' => e = .returned (.bool (p r)) ∧ Below W.heap.size W w') :
    Calls Tryz.prog 96 #[.slice x.A x.n x.c, .func (.func g) #[] caps] w fun e w' => e = .returned (.bool (R.any p)) ∧ Below w.heap.size w w' := by
  have C := Lib.hid (indexFunc_doms g caps eg p x R w h hp)
  clear hp h
  go_enter Tryz.func96, Tryz.ntmps96
  go_wp2_with fail
  refine C.out.mono ?_
  rintro e w1 ⟨⟨k, rfl, hk⟩, b1⟩
  have B1 := Lib.hid b1
  have HK := Lib.hid hk
  clear b1 hk
  go_wp2_with fail
  go_ret
  exact ⟨ret_bool HK.out, B1.out⟩
end Go.Proofs.YtcmdgjkoalophaaGreatDoor

namespace Go.Proofs.YtcmdgjkoalophaaGreatDoor
open Go.RowKit Go.Sort

theorem hasQ_zero (a : Int) (w : World) : Calls Tryz.prog 227 #[.int .i64 a, .int .i64 0] w fun e w' => e = .returned (.bool false) ∧ w = w' := by
  go_enter Tryz.func227, Tryz.ntmps227
  go_wp2_with fail
  go_ret
  exact ⟨rfl, rfl⟩
def optI (o : Option Int) : Value := .tuple #[.int .i64 (o.getD 0), .bool o.isSome]

theorem quo_tells (a b : Int) (w : World) (ha : -1000000000000000 ≤ a ∧ a ≤ 1000000000000000) : Calls Tryz.prog 197 #[.int .i64 a, .int .i64 b] w fun e w' => e = .returned (optI (kindV 6 a b)) ∧ w = w' := by
  by_cases hb : b = 0
  · subst hb
    have CQ := Lib.hid (hasQ_zero a w)
    have HV : Hid (kindV 6 a 0 = none) := Lib.hid (by simp [kindV])
    go_enter Tryz.func197, Tryz.ntmps197
    go_wp2_with (go_at_call 227; with_reducible refine CQ.out.mono ?_; rintro e w' ⟨rfl, rfl⟩)
    go_ret2
    rw [HV.out]
    exact ⟨rfl, rfl⟩
  · have CQ := Lib.hid (hasQ_any a b w ha.1 hb)
    have HV : Hid (kindV 6 a b = some (a.tdiv b)) := Lib.hid (by simp [kindV, hb])
    have hl := tdiv_lim (b := b) ha
    have b0 : (b == 0) = false := by simpa using hb
    have b1 : IntKind.i64.wrap (a.tdiv b) = a.tdiv b := IntWalk.i64_in _ (by omega)
    clear ha
    go_enter Tryz.func197, Tryz.ntmps197
    go_wp2_with (go_at_call 227; with_reducible refine CQ.out.mono ?_; rintro e w' ⟨rfl, rfl⟩)
    go_ret2
    rw [HV.out]
    exact ⟨rfl, rfl⟩

theorem rem_tells (a b : Int) (w : World) (ha : -1000000000000000 ≤ a ∧ a ≤ 1000000000000000) : Calls Tryz.prog 198 #[.int .i64 a, .int .i64 b] w fun e w' => e = .returned (optI (kindV 7 a b)) ∧ w = w' := by
  by_cases hb : b = 0
  · subst hb
    have CQ := Lib.hid (hasQ_zero a w)
    have HV : Hid (kindV 7 a 0 = none) := Lib.hid (by simp [kindV])
    go_enter Tryz.func198, Tryz.ntmps198
    go_wp2_with (go_at_call 227; with_reducible refine CQ.out.mono ?_; rintro e w' ⟨rfl, rfl⟩)
    go_ret2
    rw [HV.out]
    exact ⟨rfl, rfl⟩
  · have CQ := Lib.hid (hasQ_any a b w ha.1 hb)
    have HV : Hid (kindV 7 a b = some (a.tmod b)) := Lib.hid (by simp [kindV, hb])
    have hl := tmod_lim (b := b) ha
    have b0 : (b == 0) = false := by simpa using hb
    have b1 : IntKind.i64.wrap (a.tmod b) = a.tmod b := IntWalk.i64_in _ (by omega)
    clear ha
    go_enter Tryz.func198, Tryz.ntmps198
    go_wp2_with (go_at_call 227; with_reducible refine CQ.out.mono ?_; rintro e w' ⟨rfl, rfl⟩)
    go_ret2
    rw [HV.out]
    exact ⟨rfl, rfl⟩

theorem product_tells (a b : Int) (w : World) (h : -1000000000000000 ≤ a * b ∧ a * b ≤ 1000000000000000) : Calls Tryz.prog 196 #[.int .i64 a, .int .i64 b] w fun e w' => e = .returned (optI (kindV 5 a b)) ∧ w = w' := by
  have HV : Hid (kindV 5 a b = some (a * b)) := Lib.hid (by simp [kindV])
  have b1 : IntKind.i64.wrap (a * b) = a * b := IntWalk.i64_in _ (by omega)
  clear h
  go_enter Tryz.func196, Tryz.ntmps196
  go_wp2_with fail
  go_ret2
  rw [HV.out]
  exact ⟨rfl, rfl⟩

/-- The function's number that a kind is given. -/
def fnOf (kind : Int) : FuncId := if kind = 5 then 196 else if kind = 6 then 197 else 198
theorem prod_lim {a b : Int} (ha : -2000000 ≤ a ∧ a ≤ 2000000) (hb : -2000000 ≤ b ∧ b ≤ 2000000) : -4000000000000 ≤ a * b ∧ a * b ≤ 4000000000000 := by
  have h : (a * b).natAbs ≤ 2000000 * 2000000 := by
    rw [Int.natAbs_mul]
    exact Nat.mul_le_mul (by omega) (by omega)
  omega
theorem fn_tells (kind a b : Int) (w : World) (hk : kind = 5 ∨ kind = 6 ∨ kind = 7) (ha : -2000000 ≤ a ∧ a ≤ 2000000) (hb : -2000000 ≤ b ∧ b ≤ 2000000) : Calls Tryz.prog (fnOf kind) #[.int .i64 a, .int .i64 b] w fun e w' => e = .returned (optI (kindV kind a b)) ∧ w = w' := by
  rcases hk with rfl | rfl | rfl
  · exact product_tells a b w (by have := prod_lim ha hb; omega)
  · exact quo_tells a b w (by omega)
  · exact rem_tells a b w (by omega)
theorem kindV_lim {kind a b r : Int} (ha : -2000000 ≤ a ∧ a ≤ 2000000) (hb : -2000000 ≤ b ∧ b ≤ 2000000) (h : kindV kind a b = some r) : -1000000000000000 ≤ r ∧ r ≤ 1000000000000000 := by
  unfold kindV at h
  split at h
  · injection h with h; have := prod_lim ha hb; omega
  · split at h
    · cases h
    · split at h
      · injection h with h; have := tdiv_lim (a := a) (b := b) (by omega); omega
      · injection h with h; have := tmod_lim (a := a) (b := b) (by omega); omega
theorem eFn (kind : Int) : ∀ args w, (callFunc (fnOf kind) args).run Tryz.prog w = .ok (.enter (fnOf kind) args) w := by
  unfold fnOf
  split
  · exact enters_of Tryz.func196 (by kernel_rfl) rfl
  · split
    · exact enters_of Tryz.func197 (by kernel_rfl) rfl
    · exact enters_of Tryz.func198 (by kernel_rfl) rfl
theorem result_any (kind : Int) (w : World) (hk : kind = 5 ∨ kind = 6 ∨ kind = 7) : Calls Tryz.prog 148 #[.int .i64 kind] w fun e w' => e = .returned (.func (.func (fnOf kind)) #[] #[]) ∧ w = w' := by
  rcases hk with rfl | rfl | rfl <;>
  · go_enter Tryz.func148, Tryz.ntmps148
    go_wp2_with fail
    go_ret
    exact ⟨rfl, rfl⟩

/-- Has a domain nothing? For every function that asks just that. -/
theorem isEmpty_any (d : Dv) (L : List Int) (w : World) (h : IsDom w d.val L) : Calls Tryz.prog 97 #[.agg #[.int .i64 d.s, .slice d.A d.n d.c, .int .i64 d.z]] w fun e w' => e = .returned (.bool (L.length == 0)) ∧ Below w.heap.size w w' := by
  have CS : Hid (∀ W, Below w.heap.size w W → Calls Tryz.prog 102 #[.agg #[.int .i64 d.s, .slice d.A d.n d.c, .int .i64 d.z]] W fun e w' => e = .returned (.int .i64 (L.length : Nat)) ∧ Below W.heap.size W w') := Lib.hid (fun W hW => D.size_dom d.val L W (h.below hW))
  obtain ⟨n, hn⟩ : ∃ n, n = L.length := ⟨_, rfl⟩
  rw [← hn] at CS ⊢
  clear h hn
  by_cases h0 : n = 0
  · have e1 : (((n : Nat) : Int) == 0) = true := by simp [h0]
    have HF : Hid (true = (n == 0)) := Lib.hid (by simp [h0])
    clear h0
    go_enter Tryz.func97, Tryz.ntmps97
    go_wp2_with (go_at_call 102; with_reducible refine (CS.out _ (below1 _ _)).mono ?_; rintro e w1 ⟨rfl, b1⟩; have B1 := Lib.hid ((below1 w _).trans (b1.mono (below1 w _).size)); clear b1)
    go_ret
    exact ⟨ret_bool HF.out, B1.out⟩
  · have e1 : (((n : Nat) : Int) == 0) = false := by simp [h0]
    have HF : Hid (false = (n == 0)) := Lib.hid (by simp [h0])
    clear h0
    go_enter Tryz.func97, Tryz.ntmps97
    go_wp2_with (go_at_call 102; with_reducible refine (CS.out _ (below1 _ _)).mono ?_; rintro e w1 ⟨rfl, b1⟩; have B1 := Lib.hid ((below1 w _).trans (b1.mono (below1 w _).size)); clear b1)
    go_ret
    exact ⟨ret_bool HF.out, B1.out⟩
theorem eEmpty : ∀ args w, (callFunc 97 args).run Tryz.prog w = .ok (.enter 97 args) w := enters_of Tryz.func97 (by kernel_rfl) rfl
/-- Is any of the domains empty? -/
theorem anyEmpty_any (x : Sl) (R : List (List Int)) (w : World) (h : DomsIn w x R) : Calls Tryz.prog 96 #[.slice x.A x.n x.c, .func (.func 97) #[] #[]] w fun e w' => e = .returned (.bool (R.any fun l => l.length == 0)) ∧ Below w.heap.size w w' :=
  containsFunc_doms 97 #[] eEmpty _ x R w h (fun d r W _ hd => isEmpty_any d r W hd)
end Go.Proofs.YtcmdgjkoalophaaGreatDoor

namespace Go.Proofs.YtcmdgjkoalophaaGreatDoor
open Go.RowKit Go.Sort

set_option maxHeartbeats 4000000 in
set_option maxRecDepth 100000 in
theorem doms_any (x : Sl) (LL : List (List Int)) (w : World) (hx : IsRows w x LL) (hn : LL.length ≤ 1000) (hs : ∀ l ∈ LL, l.length ≤ 1000000) :
    Calls Tryz.prog 44 #[.slice x.A x.n x.c] w fun e w' => (∃ (y : Sl) (ds : List Dv), e = .returned (.slice y.A y.n y.c) ∧ DomsO w.heap.size w' y ds (LL.map ofL)) ∧ Below w.heap.size w w' := by
  obtain ⟨i0, hi, hz0, hz1, hz2⟩ := info_parts infoDom
  have HI := Lib.hid (And.intro hi (And.intro hz0 (And.intro hz1 hz2)))
  have HX := Lib.hid hx
  have hlen := hx.len
  have hxn : x.n ≤ 1000 := by omega
  have HLN := Lib.hid hlen
  have HSS : Hid (∀ k, k < x.n → (LL.getD k []).length ≤ 1000000) := Lib.hid (fun k hk => hs _ (by
    have hk' : k < LL.length := by omega
    rw [List.getD_eq_getElem?_getD, List.getElem?_eq_getElem hk']
    exact List.getElem_mem hk'))
  clear hi hz0 hz1 hz2 hx hn hs hlen
  go_enter Tryz.func44, Tryz.ntmps44
  go_wp2_with fail
  go_loopw [3, 10] (fun v i wr => ∃ (k : Nat) (y : Sl) (ds : List Dv), v = .slice y.A y.n y.c ∧ i = .int .i64 (k : Nat) ∧ k ≤ x.n ∧ Hid (DomsO w.heap.size wr y ds ((LL.take k).map ofL)) ∧ Hid (ds.length = k) ∧ Hid (Below w.heap.size w wr)) (fun _ i _ => x.n - (intOf i).toNat)
  case atStart => exact ⟨0, ⟨none, 0, 0⟩, [], rfl, rfl, by omega, Lib.hid (DomsO.nil _ _), Lib.hid rfl, Lib.hid (Below.refl _ _)⟩
  case round =>
    obtain ⟨k, y, ds, rfl, rfl, hk, HO, HK, HB⟩ := hrel
    by_cases hlt : k < x.n
    · obtain ⟨ad, u, ex, qx, ux⟩ := rows_at (HX.out.below HB.out) k hlt
      rw [ex]
      obtain ⟨uA, un, uc⟩ := u
      have hul : un = (LL.getD k []).length := ux.len
      have CO := Lib.hid (of_dom uA (LL.getD k []) uc wr (by have := ux.lies; simp only at this; rw [hul] at this; exact this) (HSS.out k hlt))
      rw [← hul] at CO
      have HT : Hid ((LL.take (k + 1)).map ofL = (LL.take k).map ofL ++ [ofL (LL.getD k [])]) := Lib.hid (by
        have hk' : k < LL.length := by rw [← HLN.out]; exact hlt
        rw [List.take_succ_eq_append_getElem hk', List.map_append, List.getD_eq_getElem?_getD, List.getElem?_eq_getElem hk']
        rfl)
      generalize ofL (LL.getD k []) = R at CO HT
      clear ux hul ex
      go_wp2_with fail
      refine CO.out.mono ?_
      rintro e w1 ⟨d, rfl, hd, b1⟩
      obtain ⟨dv, rfl, hdL⟩ := Dv.of hd
      have HD := Lib.hid hd
      have HDL := Lib.hid hdL
      have HO1 := Lib.hid (HO.out.below b1)
      have HB1 := Lib.hid (HB.out.trans (b1.mono HB.out.size))
      clear CO hd hdL b1 HO HB
      obtain ⟨w2, hw2⟩ : ∃ w2, w1.alloc (.cells dv.cells.toArray 77) = w2 := ⟨_, rfl⟩
      have hnew := heap_alloc_new w1 (.cells dv.cells.toArray 77)
      rw [hw2] at hnew
      have b12 : Below w1.heap.size w1 w2 := hw2 ▸ below1 w1 _
      have c0 : w2.cell? ⟨w1.heap.size, 0, none⟩ = some (.int .i64 dv.s) := blk_cell hnew rfl
      have c1 : w2.cell? ⟨w1.heap.size, 1, none⟩ = some (.slice dv.A dv.n dv.c) := blk_cell hnew rfl
      have c2 : w2.cell? ⟨w1.heap.size, 2, none⟩ = some (.int .i64 dv.z) := blk_cell hnew rfl
      have HO2 := Lib.hid (HO1.out.below b12)
      have HD2 := Lib.hid (HD.out.below b12)
      have HB2 := Lib.hid (HB1.out.trans (b12.mono HB1.out.size))
      have HR2 := Lib.hid ((HO2.out.row).below (below1 w2 (.cells #[.int .i64 dv.s, .slice dv.A dv.n dv.c, .int .i64 dv.z] 77)))
      have C3 : Hid (∀ j u, dv.cells[j]? = some u → (w2.alloc (.cells #[.int .i64 dv.s, .slice dv.A dv.n dv.c, .int .i64 dv.z] 77)).cell? ((⟨w2.heap.size, 0, none⟩ : Addr).add j) = some u) := Lib.hid (fun j u hj => by
        have hn := heap_alloc_new w2 (.cells #[.int .i64 dv.s, .slice dv.A dv.n dv.c, .int .i64 dv.z] 77)
        rw [Addr.add_mid, Nat.zero_add]
        match j, hj with
        | 0, hj => exact blk_cell hn hj
        | 1, hj => exact blk_cell hn hj
        | 2, hj => exact blk_cell hn hj)
      have Z1 : Hid (∀ u ∈ (Value.agg #[.int .i64 0, .slice none 0 0, .int .i64 0]).cells, plainV u) := Lib.hid (fun u hu => dv_plain ⟨0, none, 0, 0, 0⟩ u (by simpa [Value.cells] using hu))
      have Z2 : Hid (∀ u ∈ dv.cells, u.oneCell' = true) := Lib.hid (fun u hu => by
        simp only [Dv.cells, List.mem_cons, List.not_mem_nil, or_false] at hu
        rcases hu with rfl | rfl | rfl <;> rfl)
      have P3 := Lib.hid (dv_plain dv)
      have Z3 : Hid (ds.length + 1 ≤ maxLen) := Lib.hid (by have := HK.out; unfold maxLen; omega)
      have Z4 : Hid ((ds.length + 1) * 40 ≤ 140737488355328) := Lib.hid (by have := HK.out; omega)
      have Z6 : Hid (w.heap.size ≤ (w2.alloc (.cells #[.int .i64 dv.s, .slice dv.A dv.n dv.c, .int .i64 dv.z] 77)).heap.size) := Lib.hid (by have := HB2.out.size; simp; omega)
      clear hnew b12 HO1 HD HB1
      go_upto_region 6 with fail
      clear hw2
      go_wp2_with (at_builtin; refine wpList_append_rowp _ rfl _ _ 59 rfl w.heap.size 77 i0 (.agg #[.int .i64 0, .slice none 0 0, .int .i64 0]) 3 40 Tryz.underlying59 HI.out.1 HI.out.2.1 HI.out.2.2.1 HI.out.2.2.2 rfl (by decide) Z1.out _ _ _ rfl HR2.out ⟨w2.heap.size, 0, none⟩ 1 dv.cells rfl rfl C3.out Z2.out P3.out Z3.out Z4.out Z6.out ?_; intro v' w6 R6 G6)
      obtain ⟨Y, kY, rfl⟩ := slice_row R6.1
      have K2 := below1 w2 (.cells #[.int .i64 dv.s, .slice dv.A dv.n dv.c, .int .i64 dv.z] 77)
      have HO6 : Hid (DomsO w.heap.size w6 ⟨Y, ds.length + 1, kY⟩ (ds ++ [dv]) ((LL.take (k + 1)).map ofL)) := Lib.hid (by
        rw [HT.out]
        exact (HO2.out.below K2).step (HD2.out.below K2) R6 G6)
      have HB6 : Hid (Below w.heap.size w w6) := Lib.hid ((HB2.out.trans (K2.mono HB2.out.size)).trans (HR2.out.low G6 Z6.out (Nat.le_refl _)))
      have HK6 : Hid ((ds ++ [dv]).length = k + 1) := Lib.hid (by simp [HK.out])
      clear K2 R6 G6 HO2 HD2 HR2 C3 Z1 Z2 P3 Z3 Z4 Z6 HB2 HT c0 c1 c2
      go_wp2_with fail
      go_roundw
      case rel => exact ⟨k + 1, ⟨Y, _, kY⟩, ds ++ [dv], rfl, by go_num, by omega, HO6, HK6, HB6⟩
      case measure => simp [intOf]; omega
    · have HF : Hid (DomsO w.heap.size wr y ds (LL.map ofL)) := Lib.hid (by
        have := HO.out
        rwa [List.take_of_length_le (by rw [← HLN.out]; omega)] at this)
      clear HO
      go_wp2_with fail
      go_ret
      exact ⟨⟨y, ds, rfl, HF.out⟩, HB.out⟩

set_option maxHeartbeats 4000000 in
set_option maxRecDepth 100000 in
theorem lists_any (x : Sl) (LL : List (List Int)) (w : World) (hx : DomsIn w x LL) (hT : TabZ w) (hn : LL.length ≤ 1000) :
    Calls Tryz.prog 47 #[.slice x.A x.n x.c] w fun e w' => (∃ (y : Sl) (xs : List Sl), e = .returned (.slice y.A y.n y.c) ∧ RowsO w.heap.size w' y xs LL) ∧ Below w.heap.size w w' := by
  obtain ⟨i0, hi, hz0, hz1, hz2⟩ := info_parts infoSl'
  have HI := Lib.hid (And.intro hi (And.intro hz0 (And.intro hz1 hz2)))
  have HX := Lib.hid hx
  have HT := Lib.hid hT
  have hlen := hx.len
  have hxn : x.n ≤ 1000 := by omega
  have HLN := Lib.hid hlen
  clear hi hz0 hz1 hz2 hx hn hlen hT
  go_enter Tryz.func47, Tryz.ntmps47
  go_wp2_with fail
  go_loopw [3, 8] (fun v i wr => ∃ (k : Nat) (y : Sl) (xs : List Sl), v = .slice y.A y.n y.c ∧ i = .int .i64 (k : Nat) ∧ k ≤ x.n ∧ Hid (RowsO w.heap.size wr y xs (LL.take k)) ∧ Hid (xs.length = k) ∧ Hid (Below w.heap.size w wr)) (fun _ i _ => x.n - (intOf i).toNat)
  case atStart => exact ⟨0, ⟨none, 0, 0⟩, [], rfl, rfl, by omega, Lib.hid (RowsO.nil _ _), Lib.hid rfl, Lib.hid (Below.refl _ _)⟩
  case round =>
    obtain ⟨k, y, xs, rfl, rfl, hk, HO, HK, HB⟩ := hrel
    by_cases hlt : k < x.n
    · obtain ⟨g, o, ex, hg, hc⟩ := (HX.out.below HB.out).lies (by omega)
      obtain ⟨d, hd, hD⟩ := hc k hlt
      rw [ex]
      have q0 : wr.cell? ⟨g, o + k * 3, none⟩ = some (.int .i64 d.s) := hd 0 _ rfl
      have q1 : wr.cell? ⟨g, o + k * 3 + 1, none⟩ = some (.slice d.A d.n d.c) := hd 1 _ rfl
      have q2 : wr.cell? ⟨g, o + k * 3 + 2, none⟩ = some (.int .i64 d.z) := hd 2 _ rfl
      obtain ⟨w1, hw1⟩ : ∃ w1, wr.alloc (.cells #[.int .i64 d.s, .slice d.A d.n d.c, .int .i64 d.z] 77) = w1 := ⟨_, rfl⟩
      have hnew := heap_alloc_new wr (.cells #[.int .i64 d.s, .slice d.A d.n d.c, .int .i64 d.z] 77)
      rw [hw1] at hnew
      have b1 : Below wr.heap.size wr w1 := hw1 ▸ below1 wr _
      have c0 : w1.cell? ⟨wr.heap.size, 0, none⟩ = some (.int .i64 d.s) := blk_cell hnew rfl
      have c1 : w1.cell? ⟨wr.heap.size, 1, none⟩ = some (.slice d.A d.n d.c) := blk_cell hnew rfl
      have c2 : w1.cell? ⟨wr.heap.size, 2, none⟩ = some (.int .i64 d.z) := blk_cell hnew rfl
      have HT2 : Hid (LL.take (k + 1) = LL.take k ++ [LL.getD k []]) := Lib.hid (by
        have hk' : k < LL.length := by rw [← HLN.out]; exact hlt
        rw [List.take_succ_eq_append_getElem hk', List.getD_eq_getElem?_getD, List.getElem?_eq_getElem hk']
        rfl)
      generalize LL.getD k [] = R at hD HT2
      have HB1 := Lib.hid (HB.out.trans (b1.mono HB.out.size))
      have HO1 := Lib.hid (HO.out.below b1)
      have CL := Lib.hid (list_dom d.val R w1 (hD.below b1) (HT.out.below HB1.out))
      clear hc hd hD ex hg hnew b1 HO HB
      go_wp2_with fail
      refine CL.out.mono ?_
      rintro e w2 ⟨v2, rfl, h2, b2⟩
      obtain ⟨Y2, k2, rfl⟩ := slice_row h2
      have HN : Hid (Row3 w2 w.heap.size ⟨Y2, R.length, k2⟩ R) := Lib.hid (own_base h2 HB1.out.size)
      have HO2 := Lib.hid (HO1.out.below b2)
      have HB2 := Lib.hid (HB1.out.trans (b2.mono HB1.out.size))
      have K2 := below1 w2 (.cells #[.slice Y2 R.length k2] 26)
      have HO3 := Lib.hid (HO2.out.below K2)
      have HN3 : Hid (Row3 (w2.alloc (.cells #[.slice Y2 R.length k2] 26)) w.heap.size ⟨Y2, R.length, k2⟩ R) := Lib.hid (own_keep' HN.out fun g hg => K2.block g (own_lt' HN.out hg).2)
      have HB3 := Lib.hid (HB2.out.trans (K2.mono HB2.out.size))
      have Z3 : Hid (xs.length + 1 ≤ maxLen) := Lib.hid (by have := HK.out; unfold maxLen; omega)
      have Z4 : Hid ((xs.length + 1) * 24 ≤ 140737488355328) := Lib.hid (by have := HK.out; omega)
      clear h2 b2 K2 CL HO1 HB1 HO2 HN c0 c1 c2 q0 q1 q2 hw1
      go_wp2_with (at_builtin; refine wpList_append_own _ rfl _ _ 29 rfl w.heap.size 26 i0 (.slice none 0 0) 1 24 Tryz.underlying29 HI.out.1 HI.out.2.1 HI.out.2.2.1 HI.out.2.2.2 rfl (by decide) _ _ _ rfl HO3.out.row ⟨_, 0, none⟩ 1 1 [.slice Y2 R.length k2] rfl rfl ?c1 ?c2 Z3.out Z4.out HB3.out.size ?_)
      case c1 => intro j u hj; match j, hj with | 0, hj => simp at hj; subst hj; simp [Addr.add]
      case c2 => intro u hu; simp at hu; subst hu; rfl
      intro v' w7 hown' hgrow _
      obtain ⟨Y, kY, rfl⟩ := slice_row hown'
      have HO7 : Hid (RowsO w.heap.size w7 ⟨Y, xs.length + 1, kY⟩ (xs ++ [⟨Y2, R.length, k2⟩]) (LL.take (k + 1))) := Lib.hid (by
        rw [HT2.out]
        exact HO3.out.step HN3.out hown' hgrow)
      have HB7 := Lib.hid (HB3.out.grown hgrow HB3.out.size (own_ge HO3.out.row))
      have HK7 : Hid ((xs ++ [(⟨Y2, R.length, k2⟩ : Sl)]).length = k + 1) := Lib.hid (by simp [HK.out])
      clear hown' hgrow HO3 HN3 HB3 HB2 HT2 Z3 Z4 HK
      go_wp2_with fail
      go_roundw
      case rel => exact ⟨k + 1, ⟨Y, _, kY⟩, xs ++ [⟨Y2, R.length, k2⟩], rfl, by go_num, by omega, HO7, HK7, HB7⟩
      case measure => simp [intOf]; omega
    · have HF : Hid (RowsO w.heap.size wr y xs LL) := Lib.hid (by
        have := HO.out
        rwa [List.take_of_length_le (by rw [← HLN.out]; omega)] at this)
      clear HO
      go_wp2_with fail
      go_ret
      exact ⟨⟨y, xs, rfl, HF.out⟩, HB.out⟩
end Go.Proofs.YtcmdgjkoalophaaGreatDoor

namespace Go.Proofs.YtcmdgjkoalophaaGreatDoor
open Go.RowKit Go.Sort

/-- A domain stays one, when a block without words is written. -/
theorem IsDom.put {W : World} {d : Value} {L : List Int} (h : IsDom W d L) {g : Nat} {cs : Array Value} {t : TypeId} (hB : W.heap[g]? = some (.cells cs t (0, 0))) (hp : ∀ u ∈ cs, plainV u) (i : Nat) (v : Value) : IsDom (W.setCell ⟨g, i, none⟩ v) d L := by
  obtain ⟨s, A, ws, c, e, h1, h2, h3⟩ := h
  refine ⟨s, A, ws, c, e, fun hn => ?_, h2, h3⟩
  obtain ⟨ad, q, hl, hc⟩ := h1 hn
  have hne : ad.block ≠ g := by
    intro e
    have h0 := hc 0 hn
    unfold World.cell? at h0
    rw [add_block, e, hB] at h0
    simp only at h0
    split at h0
    · exact absurd h0 (by simp)
    · exact hp _ (Array.mem_of_getElem? h0) _ rfl
  refine ⟨ad, q, by simpa [World.setCell] using hl, fun j hj => ?_⟩
  rw [World.cell?_setCell_other _ _ _ _ (fun q => hne (by have := congrArg Addr.block q; rw [add_block] at this; exact this.symm))]
  exact hc j hj
/-- Three cells written, whole. -/
theorem IsDom.put3 {W : World} {d : Value} {L : List Int} (h : IsDom W d L) {g : Nat} {a0 a1 a2 : Value} {t : TypeId} (hB : W.heap[g]? = some (.cells #[a0, a1, a2] t (0, 0))) (h0 : plainV a0) (h1 : plainV a1) (h2 : plainV a2) (x y z : Value) (hx : plainV x) (hy : plainV y) :
    IsDom (((W.setCell ⟨g, 0, none⟩ x).setCell ⟨g, 1, none⟩ y).setCell ⟨g, 2, none⟩ z) d L := by
  have p0 : ∀ u ∈ (#[a0, a1, a2] : Array Value), plainV u := by intro u hu; simp at hu; rcases hu with rfl | rfl | rfl <;> assumption
  have p1 : ∀ u ∈ (#[x, a1, a2] : Array Value), plainV u := by intro u hu; simp at hu; rcases hu with rfl | rfl | rfl <;> assumption
  have p2 : ∀ u ∈ (#[x, y, a2] : Array Value), plainV u := by intro u hu; simp at hu; rcases hu with rfl | rfl | rfl <;> assumption
  have b1 := heap_setCell_same W g 0 #[a0, a1, a2] t x hB
  have b2 := heap_setCell_same _ g 1 _ t y b1
  exact ((h.put hB p0 0 x).put b1 p1 1 y).put b2 p2 2 z
theorem plain_int (k : IntKind) (v : Int) (h : k ≠ .u64) : plainV (.int k v) := by intro x e; injection e with e _; exact h e
theorem plain_sl (A : Option Addr) (n c : Nat) : plainV (.slice A n c) := by intro x e; cases e

/-- of: the domain of some values, none of none. -/
theorem mulOf_any (y : Sl) (zs : List Int) (w : World) (hn : y.n = zs.length) (hl : Lies w y.A zs.length (i64f zs)) (hs : zs.length ≤ 1000000) :
    Calls Tryz.prog 195 #[.slice y.A y.n y.c] w fun e w' => (∃ d : Dv, e = .returned d.val ∧ IsDom w' d.val (ofL zs)) ∧ Below w.heap.size w w' := by
  obtain ⟨A, n, c⟩ := y
  simp only at hn hl ⊢
  subst hn
  obtain ⟨w0, hw0⟩ : ∃ w0, w.alloc (.cells #[.int .i64 0, .slice none 0 0, .int .i64 0] 77) = w0 := ⟨_, rfl⟩
  have hnew := heap_alloc_new w (.cells #[.int .i64 0, .slice none 0 0, .int .i64 0] 77)
  rw [hw0] at hnew
  have b0 : Below w.heap.size w w0 := hw0 ▸ below1 w _
  have hlt : w.heap.size < w0.heap.size := (Array.getElem?_eq_some_iff.1 hnew).1
  have CO := Lib.hid (of_dom A zs c w0 (hl.below b0) hs)
  have HN := Lib.hid hnew
  have B0 := Lib.hid b0
  have HLT := Lib.hid hlt
  generalize ofL zs = R at CO ⊢
  generalize zs.length = n at CO ⊢
  clear hl hs hnew b0 hlt
  go_enter Tryz.func195, Tryz.ntmps195
  go_upto_region 1 with fail
  clear hw0
  go_wp2_with fail
  refine CO.out.mono ?_
  rintro e w1 ⟨d, rfl, hd, b1⟩
  obtain ⟨dv, rfl, hdL⟩ := Dv.of hd
  have HD := Lib.hid hd
  have B1 := Lib.hid (B0.out.trans (b1.mono B0.out.size))
  have hk : w1.heap[w.heap.size]? = some (.cells #[.int .i64 0, .slice none 0 0, .int .i64 0] 77 (0, 0)) := (b1.block _ HLT.out).trans HN.out
  have HK := Lib.hid hk
  clear CO hd hdL b1 hk
  obtain ⟨w2, hw2⟩ : ∃ w2, w1.alloc (.cells dv.cells.toArray 77) = w2 := ⟨_, rfl⟩
  have hnew := heap_alloc_new w1 (.cells dv.cells.toArray 77)
  rw [hw2] at hnew
  have b2 : Below w1.heap.size w1 w2 := hw2 ▸ below1 w1 _
  have c0 : w2.cell? ⟨w1.heap.size, 0, none⟩ = some (.int .i64 dv.s) := blk_cell hnew rfl
  have c1 : w2.cell? ⟨w1.heap.size, 1, none⟩ = some (.slice dv.A dv.n dv.c) := blk_cell hnew rfl
  have c2 : w2.cell? ⟨w1.heap.size, 2, none⟩ = some (.int .i64 dv.z) := blk_cell hnew rfl
  have hk2 : w2.heap[w.heap.size]? = some (.cells #[.int .i64 0, .slice none 0 0, .int .i64 0] 77 (0, 0)) := (b2.block _ (Array.getElem?_eq_some_iff.1 HK.out).1).trans HK.out
  have e0 := box_cell hk2 (j := 0) rfl
  have e1 := box_cell hk2 (j := 1) rfl
  have e2 := box_cell hk2 (j := 2) rfl
  have f0 := box_free hk2 0
  have f1 := box_free hk2 1
  have f2 := box_free hk2 2
  have HD2 := Lib.hid (HD.out.below b2)
  have B2 := Lib.hid (B1.out.trans (b2.mono B1.out.size))
  have HK2 := Lib.hid hk2
  clear hnew b2 hk2 HK HD B1 B0
  go_upto_region 2 with fail
  clear hw2
  go_wp2_with fail
  obtain ⟨q0, q1, q2⟩ := out_cells w2 w.heap.size _ _ _ (.int .i64 dv.s) (.slice dv.A dv.n dv.c) (.int .i64 dv.z) e0 e1 e2
  refine bodyPost_ret (v := .agg #[.int .i64 dv.s, .slice dv.A dv.n dv.c, .int .i64 dv.z]) (by simp [results, Tryz.results195, go_sem, q0, q1, q2]) rfl ⟨⟨dv, rfl, ?_⟩, ?_⟩
  · exact HD2.out.put3 HK2.out (plain_int _ _ (by decide)) (plain_sl _ _ _) (plain_int _ _ (by decide)) _ _ _ (plain_int _ _ (by decide)) (plain_sl _ _ _)
  · exact out_below B2.out _ (Nat.le_refl _) _ _ _
end Go.Proofs.YtcmdgjkoalophaaGreatDoor

namespace Go.Proofs.YtcmdgjkoalophaaGreatDoor
open Go.RowKit Go.Sort

theorem IsDom.lim {W : World} {d : Value} {L : List Int} (h : IsDom W d L) : ∀ v ∈ L, -2000000 ≤ v ∧ v ≤ 2000000 := by
  obtain ⟨s, A, ws, c, -, -, hF, rfl⟩ := h
  intro v hv
  have := D.in_places hF v hv
  omega
/-- Three domains made into a slice. -/
theorem doms_build3 {W : World} {d1 d2 d3 : Dv} {L1 L2 L3 : List Int} (h1 : IsDom W d1.val L1) (h2 : IsDom W d2.val L2) (h3 : IsDom W d3.val L3) :
    DomsIn (W.alloc (.cells (d1.cells ++ d2.cells ++ d3.cells).toArray 77)) ⟨some ⟨W.heap.size, 0, none⟩, 3, 3⟩ [L1, L2, L3] := by
  have b := below1 W (.cells (d1.cells ++ d2.cells ++ d3.cells).toArray 77)
  have hn := heap_alloc_new W (.cells (d1.cells ++ d2.cells ++ d3.cells).toArray 77)
  refine ⟨rfl, by simp, Nat.le_refl _, fun _ => ⟨W.heap.size, 0, rfl, (Array.getElem?_eq_some_iff.1 hn).1, fun i hi => ?_⟩⟩
  have key : ∀ (d : Dv) (k : Nat), (∀ (j : Nat) (u : Value), d.cells[j]? = some u → (d1.cells ++ d2.cells ++ d3.cells)[k * 3 + j]? = some u) → ∀ (j : Nat) (u : Value), d.cells[j]? = some u → (W.alloc (.cells (d1.cells ++ d2.cells ++ d3.cells).toArray 77)).cell? ⟨W.heap.size, 0 + k * 3 + j, none⟩ = some u := by
    intro d k hk j u hj
    refine blk_cell hn ?_
    rw [Nat.zero_add, List.getElem?_toArray]
    exact hk j u hj
  have hlt3 : ∀ (d : Dv) (j : Nat) (u : Value), d.cells[j]? = some u → j < 3 := fun d j u hj => by
    have := (List.getElem?_eq_some_iff.1 hj).1
    simpa [Dv.cells] using this
  match i, hi with
  | 0, _ => exact ⟨d1, key d1 0 (fun j u hj => by have := hlt3 _ _ _ hj; match j, hj with | 0, hj => exact hj | 1, hj => exact hj | 2, hj => exact hj), h1.below b⟩
  | 1, _ => exact ⟨d2, key d2 1 (fun j u hj => by have := hlt3 _ _ _ hj; match j, hj with | 0, hj => exact hj | 1, hj => exact hj | 2, hj => exact hj), h2.below b⟩
  | 2, _ => exact ⟨d3, key d3 2 (fun j u hj => by have := hlt3 _ _ _ hj; match j, hj with | 0, hj => exact hj | 1, hj => exact hj | 2, hj => exact hj), h3.below b⟩

set_option maxHeartbeats 4000000 in
set_option maxRecDepth 100000 in
theorem solved_any (g : Nat) (eg : ∀ args w, (callFunc g args).run Tryz.prog w = .ok (.enter g args) w) (f : Int → Int → Option Int) (x : Sl) (A Bs C : List Int) (w : World) (h : DomsIn w x [A, Bs, C]) (hT : TabZ w) (hlen : A.length * Bs.length ≤ 4096) (hA : A.length ≤ 4096) (hB : Bs.length ≤ 4096)
    (hf : ∀ a b W, -2000000 ≤ a ∧ a ≤ 2000000 → -2000000 ≤ b ∧ b ≤ 2000000 → Calls Tryz.prog g #[.int .i64 a, .int .i64 b] W fun e w' => e = .returned (optI (f a b)) ∧ W = w')
    (hr : ∀ a b r, -2000000 ≤ a ∧ a ≤ 2000000 → -2000000 ≤ b ∧ b ≤ 2000000 → f a b = some r → -1000000000000000 ≤ r ∧ r ≤ 1000000000000000) :
    Calls Tryz.prog 147 #[.func (.func g) #[] #[], .slice x.A x.n x.c] w fun e w' => (∃ y : Sl, e = .returned (.slice y.A y.n y.c) ∧ DomsIn w' y [ofL (h1 (hitsE f C A Bs)), ofL (h2 (hitsE f C A Bs)), ofL (h3 (hitsE f C A Bs))]) ∧ Below w.heap.size w w' := by
  have HD := Lib.hid h
  have HT := Lib.hid hT
  have HF := Lib.hid hf
  have HR := Lib.hid hr
  have hxn : x.n = 3 := h.len
  obtain ⟨gb, o, d0, ex, p0, p1, p2, hD0⟩ := h.at_ 0 (by omega)
  obtain ⟨gb', o', d1, ex', q0, q1, q2, hD1⟩ := h.at_ 1 (by omega)
  have eg1 : gb' = gb ∧ o' = o := by rw [ex] at ex'; injection ex' with ex'; injection ex' with e1 e2 _; exact ⟨e1.symm, e2.symm⟩
  obtain ⟨rfl, rfl⟩ := eg1
  have hD0' : IsDom w d0.val A := hD0
  have hD1' : IsDom w d1.val Bs := hD1
  have HDA := Lib.hid hD0'
  have CL1 := Lib.hid (list_dom d1.val Bs w hD1' hT)
  have HLA := Lib.hid hD0'.lim
  have HLB := Lib.hid hD1'.lim
  obtain ⟨O1, hO1⟩ : ∃ O, O = ofL (h1 (hitsE f C A Bs)) := ⟨_, rfl⟩
  obtain ⟨O2, hO2⟩ : ∃ O, O = ofL (h2 (hitsE f C A Bs)) := ⟨_, rfl⟩
  obtain ⟨O3, hO3⟩ : ∃ O, O = ofL (h3 (hitsE f C A Bs)) := ⟨_, rfl⟩
  rw [← hO1, ← hO2, ← hO3]
  have HO1 := Lib.hid hO1
  have HO2 := Lib.hid hO2
  have HO3 := Lib.hid hO3
  clear hD0 hD1 hD0' hD1' h hT hf hr ex' hO1 hO2 hO3
  rw [ex]
  rw [Nat.zero_mul, Nat.add_zero] at p0 p1 p2
  rw [Nat.one_mul] at q0 q1 q2
  go_enter Tryz.func147, Tryz.ntmps147
  go_wp2_with fail
  refine CL1.out.mono ?_
  rintro e w1 ⟨v1, rfl, hB1, b1⟩
  obtain ⟨YB, kB, rfl⟩ := slice_row hB1
  have S1 : SepL w.heap.size w1 [(⟨YB, Bs.length, kB⟩, Bs)] := (SepL.nil _ w (Nat.le_refl _)).cons b1 hB1 (fun g hg => (own_lt' hB1 hg).1)
  have HS1 := Lib.hid S1
  have B1 := Lib.hid b1
  have CL0 := Lib.hid (list_dom d0.val A w1 (HDA.out.below b1) (HT.out.below b1))
  have p0 := (b1.cell (p := ⟨gb', o', none⟩) (World.block_lt_of_cell? _ _ p0)).trans p0
  have p1 := (b1.cell (p := ⟨gb', o' + 1, none⟩) (World.block_lt_of_cell? _ _ p1)).trans p1
  have p2 := (b1.cell (p := ⟨gb', o' + 2, none⟩) (World.block_lt_of_cell? _ _ p2)).trans p2
  clear CL1 S1 hB1 b1 q0 q1 q2
  go_wp2_with fail
  refine CL0.out.mono ?_
  rintro e w2 ⟨v2, rfl, hA2, b2⟩
  obtain ⟨YA, kA, rfl⟩ := slice_row hA2
  have S2 : SepL w.heap.size w2 [(⟨YA, A.length, kA⟩, A), (⟨YB, Bs.length, kB⟩, Bs)] := HS1.out.cons b2 (own_base hA2 HS1.out.lo) (fun g hg => (own_lt' hA2 hg).1)
  have S5 : SepL w.heap.size w2 [(⟨none, 0, 0⟩, []), (⟨none, 0, 0⟩, []), (⟨none, 0, 0⟩, []), (⟨YA, A.length, kA⟩, A), (⟨YB, Bs.length, kB⟩, Bs)] :=
    ((S2.cons (Below.refl _ _) (Row3.nil _ _) (by intro g hg; cases hg)).cons (Below.refl _ _) (Row3.nil _ _) (by intro g hg; cases hg)).cons (Below.refl _ _) (Row3.nil _ _) (by intro g hg; cases hg)
  have HS5 := Lib.hid S5
  have B2 := Lib.hid (B1.out.trans (b2.mono B1.out.size))
  clear CL0 S2 S5 hA2 b2 p0 p1 p2 HS1 B1 HDA
  go_wp2_with fail
  go_loopw [5, 6, 7, 24] (fun a b c i wr => ∃ (k : Nat) (y1 y2 y3 : Sl), a = .slice y1.A y1.n y1.c ∧ b = .slice y2.A y2.n y2.c ∧ c = .slice y3.A y3.n y3.c ∧ i = .int .i64 (k : Nat) ∧ k ≤ A.length ∧
      Hid (SepL w.heap.size wr [(y1, h1 (hitsE f C (A.take k) Bs)), (y2, h2 (hitsE f C (A.take k) Bs)), (y3, h3 (hitsE f C (A.take k) Bs)), (⟨YA, A.length, kA⟩, A), (⟨YB, Bs.length, kB⟩, Bs)]) ∧ Hid (Below w.heap.size w wr)) (fun _ _ _ i _ => A.length - (intOf i).toNat)
  case atStart => exact ⟨0, ⟨none, 0, 0⟩, ⟨none, 0, 0⟩, ⟨none, 0, 0⟩, rfl, rfl, rfl, rfl, by omega, HS5, B2⟩
  case round =>
    clear HS5 B2
    obtain ⟨k, y1, y2, y3, rfl, rfl, rfl, rfl, hk, HS, HB⟩ := hrel
    by_cases hlt : k < A.length
    · obtain ⟨adA, eA, -, -, cA⟩ := row_cell (HS.out.row (k := 3) rfl) (k := k) hlt
      simp only at eA
      subst eA
      have hav := HLA.out _ (getD_mem A k hlt)
      have HST := Lib.hid (hitsE_step f C A Bs k hlt)
      have HLN : Hid ((hitsE f C (A.take k) Bs).length ≤ 4096) := Lib.hid (by
        have h1 := hitsE_len f C (A.take k) Bs
        have h2 : (A.take k).length * Bs.length ≤ A.length * Bs.length := Nat.mul_le_mul_right _ (by rw [List.length_take]; omega)
        omega)
      obtain ⟨av, hav'⟩ : ∃ av, av = A.getD k 0 := ⟨_, rfl⟩
      rw [← hav'] at cA hav HST
      generalize hitsE f C (A.take k) Bs = X at HS HST HLN
      have HAV := Lib.hid hav
      clear hav' hav
      obtain ⟨wo, rfl⟩ : ∃ wo, wo = wr := ⟨_, rfl⟩
      go_wp2_with fail
      go_loopw [5, 6, 7, 30] (fun a b c j wr => ∃ (j' : Nat) (y1 y2 y3 : Sl), a = .slice y1.A y1.n y1.c ∧ b = .slice y2.A y2.n y2.c ∧ c = .slice y3.A y3.n y3.c ∧ j = .int .i64 (j' : Nat) ∧ j' ≤ Bs.length ∧
          Hid (SepL w.heap.size wr [(y1, h1 (X ++ hitsR f C av (Bs.take j'))), (y2, h2 (X ++ hitsR f C av (Bs.take j'))), (y3, h3 (X ++ hitsR f C av (Bs.take j'))), (⟨some adA, A.length, kA⟩, A), (⟨YB, Bs.length, kB⟩, Bs)]) ∧ Hid (Below w.heap.size w wr)) (fun _ _ _ j _ => Bs.length - (intOf j).toNat)
      case atStart => exact ⟨0, y1, y2, y3, rfl, rfl, rfl, rfl, by omega, Lib.hid (by have := HS.out; simpa [hitsR] using this), HB⟩
      case round =>
        clear HS HB
        obtain ⟨j, y1, y2, y3, rfl, rfl, rfl, rfl, hj, HS, HB⟩ := hrel
        by_cases hlj : j < Bs.length
        · obtain ⟨adB, eB, -, -, cB⟩ := row_cell (HS.out.row (k := 4) rfl) (k := j) hlj
          simp only at eB
          subst eB
          have hbv := HLB.out _ (getD_mem Bs j hlj)
          have hSTb := hitsR_step f C av Bs j hlj
          have HLR : Hid ((hitsR f C av (Bs.take j)).length ≤ 4096) := Lib.hid (by
            have h1 := hitsR_len f C av (Bs.take j)
            rw [List.length_take] at h1
            omega)
          obtain ⟨bv, hbv'⟩ : ∃ bv, bv = Bs.getD j 0 := ⟨_, rfl⟩
          rw [← hbv'] at cB hbv hSTb
          have CF := Lib.hid (HF.out av bv wr HAV.out hbv)
          have hrr := fun r => HR.out av bv r HAV.out hbv
          have HITN : Hid (f av bv = none → hitsR f C av (Bs.take (j + 1)) = hitsR f C av (Bs.take j)) := Lib.hid (fun e => by rw [hSTb]; simp [hitP, e])
          have HITM : Hid (∀ r, f av bv = some r → r ∉ C → hitsR f C av (Bs.take (j + 1)) = hitsR f C av (Bs.take j)) := Lib.hid (fun r e hr => by rw [hSTb]; simp [hitP, e, hr])
          have HITY : Hid (∀ r, f av bv = some r → r ∈ C → hitsR f C av (Bs.take (j + 1)) = hitsR f C av (Bs.take j) ++ [(av, bv, r)]) := Lib.hid (fun r e hr => by rw [hSTb]; simp [hitP, e, hr])
          generalize hitsR f C av (Bs.take j) = Y at HS HITN HITM HITY HLR
          have HBV := Lib.hid hbv
          clear hSTb hbv' hbv
          cases hfv : f av bv with
          | none =>
            rw [hfv] at CF
            change Hid (Calls Tryz.prog g #[.int .i64 av, .int .i64 bv] wr fun e w' => e = .returned (.tuple #[.int .i64 0, .bool false]) ∧ wr = w') at CF
            have HY := Lib.hid (HITN.out hfv)
            clear HITN HITM HITY hrr hfv
            go_wp2_with fail
            refine CF.out.mono ?_
            rintro e w3 ⟨rfl, rfl⟩
            clear CF
            go_wp2_with fail
            go_roundw
            case rel => exact ⟨j + 1, y1, y2, y3, rfl, rfl, rfl, by go_num, by omega, Lib.hid (by rw [HY.out]; exact HS.out), HB⟩
            case measure => simp [intOf]; omega
          | some r =>
            rw [hfv] at CF
            change Hid (Calls Tryz.prog g #[.int .i64 av, .int .i64 bv] wr fun e w' => e = .returned (.tuple #[.int .i64 r, .bool true]) ∧ wr = w') at CF
            have hrl := hrr r hfv
            obtain ⟨g2, o2, d2, e2, r0, r1, r2, hD2⟩ := (HD.out.below HB.out).at_ 2 (by omega)
            have eg2 : g2 = gb' ∧ o2 = o' := by rw [ex] at e2; injection e2 with e2; injection e2 with e3 e4 _; exact ⟨e3.symm, e4.symm⟩
            obtain ⟨rfl, rfl⟩ := eg2
            have hD2' : IsDom wr d2.val C := hD2
            have r0' : wr.cell? ⟨g2, o2 + 6, none⟩ = some (.int .i64 d2.s) := r0
            have r1' : wr.cell? ⟨g2, o2 + 6 + 1, none⟩ = some (.slice d2.A d2.n d2.c) := r1
            have r2' : wr.cell? ⟨g2, o2 + 6 + 2, none⟩ = some (.int .i64 d2.z) := r2
            have CH := Lib.hid (D.has_dom d2.val C r wr hD2' (by omega) (by omega))
            clear hrr hrl e2 r0 r1 r2 hD2 hD2'
            by_cases hm : r ∈ C
            · rw [decide_eq_true hm] at CH
              have HY := Lib.hid (HITY.out r hfv hm)
              clear HITN HITM HITY hfv hm
              go_wp2_with fail
              refine CF.out.mono ?_
              rintro e w3 ⟨rfl, rfl⟩
              clear CF
              go_wp2_with fail
              refine CH.out.mono ?_
              rintro e w3 ⟨rfl, b3⟩
              have HS3 := Lib.hid (HS.out.below b3)
              have HB3 := Lib.hid (HB.out.trans (b3.mono HB.out.size))
              have N1 : Hid ((h1 (X ++ Y)).length < 1000000) := Lib.hid (by have := HLN.out; have := HLR.out; simp [h1]; omega)
              have N2 : Hid ((h2 (X ++ Y)).length < 1000000) := Lib.hid (by have := HLN.out; have := HLR.out; simp [h2]; omega)
              have N3 : Hid ((h3 (X ++ Y)).length < 1000000) := Lib.hid (by have := HLN.out; have := HLR.out; simp [h3]; omega)
              have LO := Lib.hid (HB.out.size)
              clear CH b3 HS HB r0' r1' r2'
              go_wp2_with (first
                | (at_builtin; refine wpList_append_sep rfl _ _ 26 rfl Tryz.underlying26 Tryz.info3 HS3.out 0 y1 _ av rfl rfl rfl N1.out ?_; intro y1' w4 S4 b4; have HS4 := Lib.hid S4; have HB4 := Lib.hid (HB3.out.trans b4); clear S4 b4)
                | (at_builtin; refine wpList_append_sep rfl _ _ 26 rfl Tryz.underlying26 Tryz.info3 HS4.out 1 y2 _ bv rfl rfl rfl N2.out ?_; intro y2' w5 S5 b5; have HS5 := Lib.hid S5; have HB5 := Lib.hid (HB4.out.trans b5); clear S5 b5)
                | (at_builtin; refine wpList_append_sep rfl _ _ 26 rfl Tryz.underlying26 Tryz.info3 HS5.out 2 y3 _ r rfl rfl rfl N3.out ?_; intro y3' w6 S6 b6; have HS6 := Lib.hid S6; have HB6 := Lib.hid (HB5.out.trans b6); clear S6 b6))
              go_roundw
              case rel => exact ⟨j + 1, y1', y2', y3', rfl, rfl, rfl, by go_num, by omega, Lib.hid (by
                rw [HY.out, ← List.append_assoc, h1_app (X ++ Y), h2_app (X ++ Y), h3_app (X ++ Y)]
                exact HS6.out), HB6⟩
              case measure => simp [intOf]; omega
            · rw [decide_eq_false hm] at CH
              have HY := Lib.hid (HITM.out r hfv hm)
              clear HITN HITM HITY hfv hm
              go_wp2_with fail
              refine CF.out.mono ?_
              rintro e w3 ⟨rfl, rfl⟩
              clear CF
              go_wp2_with fail
              refine CH.out.mono ?_
              rintro e w3 ⟨rfl, b3⟩
              have HS3 := Lib.hid (HS.out.below b3)
              have HB3 := Lib.hid (HB.out.trans (b3.mono HB.out.size))
              clear CH b3 HS HB r0' r1' r2'
              go_wp2_with fail
              go_roundw
              case rel => exact ⟨j + 1, y1, y2, y3, rfl, rfl, rfl, by go_num, by omega, Lib.hid (by rw [HY.out]; exact HS3.out), HB3⟩
              case measure => simp [intOf]; omega
        · have HS7 : Hid (SepL w.heap.size wr [(y1, h1 (X ++ hitsR f C av Bs)), (y2, h2 (X ++ hitsR f C av Bs)), (y3, h3 (X ++ hitsR f C av Bs)), (⟨some adA, A.length, kA⟩, A), (⟨YB, Bs.length, kB⟩, Bs)]) := Lib.hid (by
            have := HS.out
            rwa [List.take_of_length_le (show Bs.length ≤ j by omega)] at this)
          clear HS
          go_wp2_with fail
          go_roundw
          case rel => exact ⟨k + 1, y1, y2, y3, rfl, rfl, rfl, by go_num, by omega, Lib.hid (by rw [HST.out]; exact HS7.out), HB⟩
          case measure => simp [intOf]; omega
    · have HS7 : Hid (SepL w.heap.size wr [(y1, h1 (hitsE f C A Bs)), (y2, h2 (hitsE f C A Bs)), (y3, h3 (hitsE f C A Bs)), (⟨YA, A.length, kA⟩, A), (⟨YB, Bs.length, kB⟩, Bs)]) := Lib.hid (by
        have := HS.out
        rwa [List.take_of_length_le (show A.length ≤ k by omega)] at this)
      have hE : (hitsE f C A Bs).length ≤ 4096 := Nat.le_trans (hitsE_len f C A Bs) hlen
      obtain ⟨X, hX⟩ : ∃ X, X = hitsE f C A Bs := ⟨_, rfl⟩
      rw [← hX] at HS7 hE HO1 HO2 HO3
      have R1 := HS7.out.row (k := 0) rfl
      have R2 := HS7.out.row (k := 1) rfl
      have R3 := HS7.out.row (k := 2) rfl
      have L1 : (h1 X).length = X.length := by simp [h1]
      have L2 : (h2 X).length = X.length := by simp [h2]
      have L3 : (h3 X).length = X.length := by simp [h3]
      have I1 := Lib.hid (ints_own R1 (by omega))
      have I2 := Lib.hid (ints_own R2 (by omega))
      have I3 := Lib.hid (ints_own R3 (by omega))
      have C1 := Lib.hid (mulOf_any y1 (h1 X) wr I1.out.len (by have := I1.out.lies; rwa [I1.out.len] at this) (by omega))
      have C2 := Lib.hid (fun W (hW : Below wr.heap.size wr W) => mulOf_any y2 (h2 X) W I2.out.len (by have := (I2.out.below hW).lies; rwa [I2.out.len] at this) (by omega))
      have C3 := Lib.hid (fun W (hW : Below wr.heap.size wr W) => mulOf_any y3 (h3 X) W I3.out.len (by have := (I3.out.below hW).lies; rwa [I3.out.len] at this) (by omega))
      rw [← HO1.out] at C1
      rw [← HO2.out] at C2
      rw [← HO3.out] at C3
      clear hX HO1 HO2 HO3 HS7 R1 R2 R3 L1 L2 L3 I1 I2 I3 HS hE
      go_wp2_with fail
      refine C1.out.mono ?_
      rintro e w3 ⟨⟨v1, rfl, k1⟩, b3⟩
      have K1 := Lib.hid k1
      have B3 := Lib.hid b3
      clear k1 b3 C1
      go_wp2_with fail
      refine (C2.out w3 B3.out).mono ?_
      rintro e w4 ⟨⟨v2, rfl, k2⟩, b4⟩
      have K2 := Lib.hid k2
      have B4 := Lib.hid (B3.out.trans (b4.mono B3.out.size))
      have K1' := Lib.hid (K1.out.below b4)
      clear k2 b4 C2 K1
      go_wp2_with fail
      refine (C3.out w4 B4.out).mono ?_
      rintro e w5 ⟨⟨v3, rfl, k3⟩, b5⟩
      have B5 := Lib.hid (HB.out.trans ((B4.out.trans (b5.mono B4.out.size)).mono HB.out.size))
      have HDD := Lib.hid (doms_build3 (K1'.out.below b5) (K2.out.below b5) k3)
      clear k3 b5 C3 K1' K2 B3 B4
      go_wp2_with fail
      go_ret
      exact ⟨⟨⟨some ⟨w5.heap.size, 0, none⟩, 3, 3⟩, rfl, HDD.out⟩, B5.out.trans ((below1 w5 _).mono B5.out.size)⟩
end Go.Proofs.YtcmdgjkoalophaaGreatDoor

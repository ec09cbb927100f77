/- Where a cell is, there is its block. No walk. -/
import Derived.Test.YtkhmocbfkpbpfaaGreatDoorGfn5
import Derived.Test.YtkhmocbfkpbpfaaGreatDoorMpure
import Derived.Deep.QuietTactic
import Derived.BigQuiet
namespace Go.Proofs.YtkhmocbfkpbpfaaGreatDoor
open Go.RowKit

theorem lt_of_cell {w : World} {a : Addr} {u : Value} (h : w.cell? a = some u) : a.block < w.heap.size := by
  unfold World.cell? at h
  cases hb : w.heap[a.block]?
  · rw [hb] at h
    cases h
  · exact (Array.getElem?_eq_some_iff.1 hb).1
end Go.Proofs.YtkhmocbfkpbpfaaGreatDoor

/- Contracts: the document's sum, linear, size, Quo. -/
namespace Go.Proofs.YtkhmocbfkpbpfaaGreatDoor
open Go.RowKit Go.Sort

/-- A constraint's box. -/
abbrev cBox (w : World) (v : ConV) (kd kk : Int) : World := w.alloc (.cells (v.cells kd kk) 32)
theorem cBox_cell (w : World) (v : ConV) (kd kk : Int) (j : Nat) (u : Value) (hj : (v.cells kd kk)[j]? = some u) : (cBox w v kd kk).cell? ⟨w.heap.size, j, none⟩ = some u := by
  have : (cBox w v kd kk).cell? ⟨w.heap.size, j, none⟩ = (v.cells kd kk)[j]? := by simp [cBox]
  rw [this, hj]
theorem cBox_below (w : World) (v : ConV) (kd kk : Int) : Below w.heap.size w (cBox w v kd kk) := below1 w _
/-- A constraint's box beside its lists and the values. -/
structure RBox (g : Nat) (W : World) (v : ConV) (c : ConL) (y : Sl) (a : List Int) : Prop where
  cell : ∀ (j : Nat) (u : Value), (v.cells c.kind c.K)[j]? = some u → W.cell? ⟨g, j, none⟩ = some u
  lt : g < W.heap.size
  con : ConIn W v c
  ints : IsInts W y a
theorem RBox.below {g : Nat} {W W' : World} {v : ConV} {c : ConL} {y : Sl} {a : List Int} (h : RBox g W v c y a) (b : Below W.heap.size W W') : RBox g W' v c y a :=
  ⟨fun j u hj => (b.cell h.lt).trans (h.cell j u hj), Nat.lt_of_lt_of_le h.lt b.size, h.con.below b, h.ints.below b⟩
theorem RBox.start {w : World} {v : ConV} {c : ConL} {y : Sl} {a : List Int} (h : ConIn w v c) (hy : IsInts w y a) : RBox w.heap.size (cBox w v c.kind c.K) v c y a :=
  ⟨cBox_cell w v c.kind c.K, by simp [cBox], h.below (cBox_below _ _ _ _), hy.below (cBox_below _ _ _ _)⟩
section
variable {g : Nat} {W : World} {v : ConV} {c : ConL} {y : Sl} {a : List Int}
theorem RBox.c0 (h : RBox g W v c y a) : W.cell? ⟨g, 0, none⟩ = some (.int .i64 c.kind) := h.cell 0 _ rfl
theorem RBox.c1 (h : RBox g W v c y a) : W.cell? ⟨g, 1, none⟩ = some (.slice v.a.A v.a.n v.a.c) := h.cell 1 _ rfl
theorem RBox.c2 (h : RBox g W v c y a) : W.cell? ⟨g, 2, none⟩ = some (.slice v.b.A v.b.n v.b.c) := h.cell 2 _ rfl
theorem RBox.c3 (h : RBox g W v c y a) : W.cell? ⟨g, 3, none⟩ = some (.slice v.c.A v.c.n v.c.c) := h.cell 3 _ rfl
theorem RBox.c4 (h : RBox g W v c y a) : W.cell? ⟨g, 4, none⟩ = some (.slice v.d.A v.d.n v.d.c) := h.cell 4 _ rfl
theorem RBox.c5 (h : RBox g W v c y a) : W.cell? ⟨g, 5, none⟩ = some (.slice v.e.A v.e.n v.e.c) := h.cell 5 _ rfl
theorem RBox.c6 (h : RBox g W v c y a) : W.cell? ⟨g, 6, none⟩ = some (.int .i64 c.K) := h.cell 6 _ rfl
theorem RBox.c7 (h : RBox g W v c y a) : W.cell? ⟨g, 7, none⟩ = some (.slice v.r.A v.r.n v.r.c) := h.cell 7 _ rfl
end
/-- A place's value. -/
theorem place_at {W : World} {y x : Sl} {L a : List Int} (h : IsInts W y L) (hx : IsInts W x a) (hL : ∀ v ∈ L, 0 ≤ v ∧ v < (a.length : Int)) (i : Nat) (hi : i < L.length) :
    ∃ (adL ad : Addr) (p : Nat), y.A = some adL ∧ x.A = some ad ∧ W.cell? (adL.add i) = some (.int .i64 (p : Nat)) ∧ p < x.n ∧ i < y.n ∧ W.cell? (ad.add p) = some (.int .i64 ((valsE L a).getD i 0)) := by
  have hb := hL _ (getD_mem L i hi)
  obtain ⟨p, hp⟩ : ∃ p : Nat, (p : Int) = L.getD i 0 := ⟨(L.getD i 0).toNat, by omega⟩
  have hn := h.len
  have hn' := hx.len
  obtain ⟨adL, eL, hbl, hcl⟩ := h.lies (by omega)
  obtain ⟨ad, ea, hba, hca⟩ := hx.lies (by omega)
  refine ⟨adL, ad, p, eL, ea, ?_, by omega, by omega, ?_⟩
  · rw [hcl i (by omega), hp]
    rfl
  · have : (valsE L a).getD i 0 = a.getD p 0 := by
      unfold valsE
      rw [List.getD_eq_getElem?_getD, List.getElem?_map, List.getElem?_eq_getElem hi]
      have e2 : L[i] = (p : Int) := by rw [hp, List.getD_eq_getElem?_getD, List.getElem?_eq_getElem hi]; rfl
      rw [e2]
      simp [atE]
    rw [hca p (by omega), this]
    rfl
theorem vals_le {L a : List Int} {lo hi : Int} (hL : ∀ v ∈ L, 0 ≤ v ∧ v < (a.length : Int)) (ha : ∀ v ∈ a, lo ≤ v ∧ v ≤ hi) : ∀ v ∈ valsE L a, lo ≤ v ∧ v ≤ hi := by
  intro v hv
  unfold valsE at hv
  obtain ⟨u, hu, rfl⟩ := List.mem_map.1 hv
  have := hL u hu
  exact ha _ (getD_mem a u.toNat (by omega))
theorem vals_size (l a : List Int) : (valsE l a).length = l.length := by simp [valsE]

/-- What a call over a constraint begins with. -/
theorem RBox.at_ {g : Nat} {W : World} {v : ConV} {c : ConL} {y : Sl} {a : List Int} (h : RBox g W v c y a) (hL : ∀ x ∈ c.A, 0 ≤ x ∧ x < (a.length : Int)) (i : Nat) (hi : i < v.a.n) :
    ∃ (adL ad : Addr) (p : Nat), v.a.A = some adL ∧ y.A = some ad ∧ W.cell? (adL.add i) = some (.int .i64 (p : Nat)) ∧ p < y.n ∧ i < v.a.n ∧ W.cell? (ad.add p) = some (.int .i64 ((valsE c.A a).getD i 0)) :=
  place_at h.con.a h.ints hL i (by rw [← h.con.a.len]; exact hi)
theorem RBox.bt_ {g : Nat} {W : World} {v : ConV} {c : ConL} {y : Sl} {a : List Int} (h : RBox g W v c y a) (hL : ∀ x ∈ c.B, 0 ≤ x ∧ x < (a.length : Int)) (i : Nat) (hi : i < v.b.n) :
    ∃ (adL ad : Addr) (p : Nat), v.b.A = some adL ∧ y.A = some ad ∧ W.cell? (adL.add i) = some (.int .i64 (p : Nat)) ∧ p < y.n ∧ i < v.b.n ∧ W.cell? (ad.add p) = some (.int .i64 ((valsE c.B a).getD i 0)) :=
  place_at h.con.b h.ints hL i (by rw [← h.con.b.len]; exact hi)
theorem ints_at {W : World} {x : Sl} {L : List Int} (h : IsInts W x L) (i : Nat) (hi : i < x.n) : ∃ ad : Addr, x.A = some ad ∧ W.cell? (ad.add i) = some (.int .i64 (L.getD i 0)) := by
  obtain ⟨ad, e, hb, hc⟩ := h.lies (by omega)
  exact ⟨ad, e, hc i hi⟩

set_option maxHeartbeats 2000000 in
theorem rsum_any (v : ConV) (c : ConL) (y : Sl) (a : List Int) (w : World) (h : ConIn w v c) (hy : IsInts w y a) (r : ConR a.length c) (hlin : c.C.length = c.A.length) (ba : ∀ v ∈ a, -1000000 ≤ v ∧ v ≤ 1000000) :
    Calls Tryz.prog 133 #[v.val c.kind c.K, .slice y.A y.n y.c] w fun e w' => e = .returned (.int .i64 (dotE c.C (valsE c.A a))) ∧ Below w.heap.size w w' := by
  obtain ⟨wb, hwb⟩ : ∃ wb, cBox w v c.kind c.K = wb := ⟨_, rfl⟩
  have HR : Hid (RBox w.heap.size wb v c y a ∧ Below w.heap.size w wb) := Lib.hid (hwb ▸ ⟨RBox.start h hy, cBox_below _ _ _ _⟩)
  have HCN := Lib.hid (show v.c.n = v.a.n by rw [h.c.len, h.a.len, hlin])
  have h64 : v.a.n ≤ 64 := by rw [h.a.len]; exact r.a64
  have HX := Lib.hid (vals_le r.pa ba)
  have HCC := Lib.hid r.pc
  have HPA := Lib.hid r.pa
  have HE : Hid (dotE c.C (valsE c.A a) = sumN (fun i => c.C.getD i 0 * (valsE c.A a).getD i 0) v.a.n) := Lib.hid (by unfold dotE; rw [hlin, ← h.a.len])
  generalize dotE c.C (valsE c.A a) = D at HE ⊢
  have HWB := Lib.hid hwb
  clear hwb h hy r ba hlin
  go_enter Tryz.func133, Tryz.ntmps133
  go_upto_region 1 with fail
  change Code.wp _ _ _ _ (cBox w v c.kind c.K)
  rw [HWB.out]
  clear HWB
  go_wp2_with fail
  go_loopw [5, 6] (fun s i wr => ∃ (k : Nat) (t : Int), s = .int .i64 t ∧ i = .int .i64 (k : Nat) ∧ k ≤ v.a.n ∧ Hid (t = sumN (fun i => c.C.getD i 0 * (valsE c.A a).getD i 0) k) ∧ Hid (RBox w.heap.size wr v c y a ∧ Below w.heap.size w wr)) (fun _ i _ => v.a.n - (intOf i).toNat)
  case atStart => exact ⟨0, 0, rfl, rfl, by omega, Lib.hid rfl, HR⟩
  case round =>
    clear HR
    obtain ⟨k, t, rfl, rfl, hk, HT, HR⟩ := hrel
    have h1 := HR.out.1.c1
    have h3 := HR.out.1.c3
    by_cases hlt : k < v.a.n
    · obtain ⟨adL, ad, p, eL, ea, q1, q2, q3, q4⟩ := HR.out.1.at_ HPA.out k hlt
      have q6 : k < v.c.n := by have := HCN.out; omega
      obtain ⟨adC, eC, q5⟩ := ints_at HR.out.1.con.c k q6
      have hb1 := getD_in HCC.out (by omega) k
      have hb2 := getD_in HX.out (by omega) k
      have hm := mul_abs hb1 hb2
      have hs := sumN_abs (f := fun i => c.C.getD i 0 * (valsE c.A a).getD i 0) (n := k) (b := 1000000000000) (fun i hi => mul_abs (getD_in HCC.out (by omega) i) (getD_in HX.out (by omega) i))
      rw [← HT.out] at hs
      have HT2 : Hid (t + c.C.getD k 0 * (valsE c.A a).getD k 0 = sumN (fun i => c.C.getD i 0 * (valsE c.A a).getD i 0) (k + 1)) := Lib.hid (by rw [HT.out]; rfl)
      have w1 : IntKind.i64.wrap (c.C.getD k 0 * (valsE c.A a).getD k 0) = c.C.getD k 0 * (valsE c.A a).getD k 0 := IntWalk.i64_in _ (by omega)
      have w2 : IntKind.i64.wrap (t + c.C.getD k 0 * (valsE c.A a).getD k 0) = t + c.C.getD k 0 * (valsE c.A a).getD k 0 := IntWalk.i64_in _ (by omega)
      clear hb1 hb2 hm hs HT
      generalize c.C.getD k 0 = z at q5 HT2 w1 w2
      generalize (valsE c.A a).getD k 0 = u at q4 HT2 w1 w2
      rw [eL] at h1
      rw [eC] at h3
      rw [ea]
      go_upto_region 5 with fail
      go_quiet (fail)
      have HR2 := Lib.hid (show RBox w.heap.size (wr.drewN nq) v c y a ∧ Below w.heap.size w (wr.drewN nq) from ⟨HR.out.1.below (below_drewN (Below.refl _ _) nq), below_drewN HR.out.2 nq⟩)
      generalize wr.drewN nq = w3 at *
      go_wp2_with fail
      go_roundw
      case rel => exact ⟨k + 1, _, rfl, by go_num, by omega, HT2, HR2⟩
      case measure => simp [intOf]; omega
    · have HT2 : Hid (t = D) := Lib.hid (by rw [HE.out, HT.out, show k = v.a.n by omega])
      clear HT HE
      go_wp2_with fail
      go_ret
      exact ⟨by rw [← HT2.out]; rfl, HR.out.2⟩
end Go.Proofs.YtkhmocbfkpbpfaaGreatDoor

/- Contracts: the document's linear, three, logic. Made by tools/genrg.py. -/
namespace Go.Proofs.YtkhmocbfkpbpfaaGreatDoor
open Go.RowKit Go.Sort

set_option maxHeartbeats 2000000 in
theorem rlinear1 (v : ConV) (c : ConL) (y : Sl) (a : List Int) (w : World) (h : ConIn w v c) (hy : IsInts w y a) (r : ConR a.length c) (ba : ∀ v ∈ a, -1000000 ≤ v ∧ v ≤ 1000000) (hk : c.kind = 1) :
    Calls Tryz.prog 76 #[v.val c.kind c.K, .slice y.A y.n y.c] w fun e w' => e = .returned (.bool (dotE c.C (valsE c.A a) == c.K)) ∧ Below w.heap.size w w' := by
  obtain ⟨wb, hwb⟩ : ∃ wb, cBox w v c.kind c.K = wb := ⟨_, rfl⟩
  have HR : Hid (RBox w.heap.size wb v c y a ∧ Below w.heap.size w wb) := Lib.hid (hwb ▸ ⟨RBox.start h hy, cBox_below _ _ _ _⟩)
  have HWB := Lib.hid hwb
  have t1 : (c.kind == 1) = true := by simp [hk]
  have CS : Hid (Calls Tryz.prog 133 #[v.val c.kind c.K, .slice y.A y.n y.c] wb fun e w' => e = .returned (.int .i64 (dotE c.C (valsE c.A a))) ∧ Below wb.heap.size wb w') := Lib.hid (rsum_any v c y a wb HR.out.1.con HR.out.1.ints r (r.lin (by omega)) ba)
  generalize dotE c.C (valsE c.A a) = D at CS ⊢

  clear hwb h hy r ba hk
  go_enter Tryz.func76, Tryz.ntmps76
  go_upto_region 1 with fail
  change Code.wp _ _ _ _ (cBox w v c.kind c.K)
  rw [HWB.out]
  clear HWB

  have d0 := HR.out.1.c0
  have d1 := HR.out.1.c1
  have d2 := HR.out.1.c2
  have d3 := HR.out.1.c3
  have d4 := HR.out.1.c4
  have d5 := HR.out.1.c5
  have d6 := HR.out.1.c6
  have d7 := HR.out.1.c7
  go_wp2_with fail
  refine CS.out.mono ?_
  rintro e w1 ⟨rfl, b1⟩
  have HR1 := Lib.hid (show RBox w.heap.size w1 v c y a ∧ Below w.heap.size w w1 from ⟨HR.out.1.below b1, HR.out.2.trans (b1.mono HR.out.2.size)⟩)
  have e0 := HR1.out.1.c0
  have e2 := HR1.out.1.c2
  have e6 := HR1.out.1.c6

  clear d0 d1 d2 d3 d4 d5 d6 d7 b1 CS HR
  go_wp2_with fail
  go_ret
  exact ⟨ret_bool (by simp), HR1.out.2⟩

set_option maxHeartbeats 2000000 in
theorem rlinear2 (v : ConV) (c : ConL) (y : Sl) (a : List Int) (w : World) (h : ConIn w v c) (hy : IsInts w y a) (r : ConR a.length c) (ba : ∀ v ∈ a, -1000000 ≤ v ∧ v ≤ 1000000) (hk : c.kind = 2) :
    Calls Tryz.prog 76 #[v.val c.kind c.K, .slice y.A y.n y.c] w fun e w' => e = .returned (.bool (decide (dotE c.C (valsE c.A a) ≤ c.K))) ∧ Below w.heap.size w w' := by
  obtain ⟨wb, hwb⟩ : ∃ wb, cBox w v c.kind c.K = wb := ⟨_, rfl⟩
  have HR : Hid (RBox w.heap.size wb v c y a ∧ Below w.heap.size w wb) := Lib.hid (hwb ▸ ⟨RBox.start h hy, cBox_below _ _ _ _⟩)
  have HWB := Lib.hid hwb
  have t1 : (c.kind == 1) = false := by simp [hk]
  have t2 : (c.kind == 2) = true := by simp [hk]
  have CS : Hid (Calls Tryz.prog 133 #[v.val c.kind c.K, .slice y.A y.n y.c] wb fun e w' => e = .returned (.int .i64 (dotE c.C (valsE c.A a))) ∧ Below wb.heap.size wb w') := Lib.hid (rsum_any v c y a wb HR.out.1.con HR.out.1.ints r (r.lin (by omega)) ba)
  generalize dotE c.C (valsE c.A a) = D at CS ⊢

  clear hwb h hy r ba hk
  go_enter Tryz.func76, Tryz.ntmps76
  go_upto_region 1 with fail
  change Code.wp _ _ _ _ (cBox w v c.kind c.K)
  rw [HWB.out]
  clear HWB

  have d0 := HR.out.1.c0
  have d1 := HR.out.1.c1
  have d2 := HR.out.1.c2
  have d3 := HR.out.1.c3
  have d4 := HR.out.1.c4
  have d5 := HR.out.1.c5
  have d6 := HR.out.1.c6
  have d7 := HR.out.1.c7
  go_wp2_with fail
  refine CS.out.mono ?_
  rintro e w1 ⟨rfl, b1⟩
  have HR1 := Lib.hid (show RBox w.heap.size w1 v c y a ∧ Below w.heap.size w w1 from ⟨HR.out.1.below b1, HR.out.2.trans (b1.mono HR.out.2.size)⟩)
  have e0 := HR1.out.1.c0
  have e2 := HR1.out.1.c2
  have e6 := HR1.out.1.c6

  clear d0 d1 d2 d3 d4 d5 d6 d7 b1 CS HR
  go_wp2_with fail
  go_ret
  exact ⟨ret_bool (by simp), HR1.out.2⟩

set_option maxHeartbeats 2000000 in
theorem rlinear3 (v : ConV) (c : ConL) (y : Sl) (a : List Int) (w : World) (h : ConIn w v c) (hy : IsInts w y a) (r : ConR a.length c) (ba : ∀ v ∈ a, -1000000 ≤ v ∧ v ≤ 1000000) (hk : c.kind = 3) :
    Calls Tryz.prog 76 #[v.val c.kind c.K, .slice y.A y.n y.c] w fun e w' => e = .returned (.bool (dotE c.C (valsE c.A a) != c.K)) ∧ Below w.heap.size w w' := by
  obtain ⟨wb, hwb⟩ : ∃ wb, cBox w v c.kind c.K = wb := ⟨_, rfl⟩
  have HR : Hid (RBox w.heap.size wb v c y a ∧ Below w.heap.size w wb) := Lib.hid (hwb ▸ ⟨RBox.start h hy, cBox_below _ _ _ _⟩)
  have HWB := Lib.hid hwb
  have t1 : (c.kind == 1) = false := by simp [hk]
  have t2 : (c.kind == 2) = false := by simp [hk]
  have t3 : (c.kind == 3) = true := by simp [hk]
  have CS : Hid (Calls Tryz.prog 133 #[v.val c.kind c.K, .slice y.A y.n y.c] wb fun e w' => e = .returned (.int .i64 (dotE c.C (valsE c.A a))) ∧ Below wb.heap.size wb w') := Lib.hid (rsum_any v c y a wb HR.out.1.con HR.out.1.ints r (r.lin (by omega)) ba)
  generalize dotE c.C (valsE c.A a) = D at CS ⊢

  clear hwb h hy r ba hk
  go_enter Tryz.func76, Tryz.ntmps76
  go_upto_region 1 with fail
  change Code.wp _ _ _ _ (cBox w v c.kind c.K)
  rw [HWB.out]
  clear HWB

  have d0 := HR.out.1.c0
  have d1 := HR.out.1.c1
  have d2 := HR.out.1.c2
  have d3 := HR.out.1.c3
  have d4 := HR.out.1.c4
  have d5 := HR.out.1.c5
  have d6 := HR.out.1.c6
  have d7 := HR.out.1.c7
  go_wp2_with fail
  refine CS.out.mono ?_
  rintro e w1 ⟨rfl, b1⟩
  have HR1 := Lib.hid (show RBox w.heap.size w1 v c y a ∧ Below w.heap.size w w1 from ⟨HR.out.1.below b1, HR.out.2.trans (b1.mono HR.out.2.size)⟩)
  have e0 := HR1.out.1.c0
  have e2 := HR1.out.1.c2
  have e6 := HR1.out.1.c6

  clear d0 d1 d2 d3 d4 d5 d6 d7 b1 CS HR
  go_wp2_with fail
  go_ret
  exact ⟨ret_bool (by simp), HR1.out.2⟩

set_option maxHeartbeats 2000000 in
theorem rlinear4 (v : ConV) (c : ConL) (y : Sl) (a : List Int) (w : World) (h : ConIn w v c) (hy : IsInts w y a) (r : ConR a.length c) (ba : ∀ v ∈ a, -1000000 ≤ v ∧ v ≤ 1000000) (hk : c.kind = 4) :
    Calls Tryz.prog 76 #[v.val c.kind c.K, .slice y.A y.n y.c] w fun e w' => e = .returned (.bool (justB ((valsE c.B a).getD 0 0) (decide (dotE c.C (valsE c.A a) ≤ c.K)))) ∧ Below w.heap.size w w' := by
  obtain ⟨wb, hwb⟩ : ∃ wb, cBox w v c.kind c.K = wb := ⟨_, rfl⟩
  have HR : Hid (RBox w.heap.size wb v c y a ∧ Below w.heap.size w wb) := Lib.hid (hwb ▸ ⟨RBox.start h hy, cBox_below _ _ _ _⟩)
  have HWB := Lib.hid hwb
  have hb1 : v.b.n = 1 := by rw [h.b.len, r.reif hk]
  obtain ⟨adB, ad, p, eB, ea, q1, q2, q3, q4⟩ := HR.out.1.bt_ r.pb 0 (by omega)
  rw [gadd0] at q1
  have EB := Lib.hid (And.intro eB ea)
  clear eB ea hb1
  have t1 : (c.kind == 1) = false := by simp [hk]
  have t2 : (c.kind == 2) = false := by simp [hk]
  have t3 : (c.kind == 3) = false := by simp [hk]
  have CS : Hid (Calls Tryz.prog 133 #[v.val c.kind c.K, .slice y.A y.n y.c] wb fun e w' => e = .returned (.int .i64 (dotE c.C (valsE c.A a))) ∧ Below wb.heap.size wb w') := Lib.hid (rsum_any v c y a wb HR.out.1.con HR.out.1.ints r (r.lin (by omega)) ba)
  generalize dotE c.C (valsE c.A a) = D at CS ⊢

  generalize (valsE c.B a).getD 0 0 = b at q4 ⊢
  obtain ⟨R, hR⟩ : ∃ R, R = justB b (decide (D ≤ c.K)) := ⟨_, rfl⟩
  rw [← hR]
  have HV := Lib.hid hR
  clear hR

  clear hwb h hy r ba hk
  go_enter Tryz.func76, Tryz.ntmps76
  go_upto_region 1 with fail
  change Code.wp _ _ _ _ (cBox w v c.kind c.K)
  rw [HWB.out]
  clear HWB

  have d0 := HR.out.1.c0
  have d1 := HR.out.1.c1
  have d2 := HR.out.1.c2
  have d3 := HR.out.1.c3
  have d4 := HR.out.1.c4
  have d5 := HR.out.1.c5
  have d6 := HR.out.1.c6
  have d7 := HR.out.1.c7
  go_wp2_with fail
  refine CS.out.mono ?_
  rintro e w1 ⟨rfl, b1⟩
  have HR1 := Lib.hid (show RBox w.heap.size w1 v c y a ∧ Below w.heap.size w w1 from ⟨HR.out.1.below b1, HR.out.2.trans (b1.mono HR.out.2.size)⟩)
  have e0 := HR1.out.1.c0
  have e2 := HR1.out.1.c2
  have e6 := HR1.out.1.c6

  have q1' := (b1.cell (lt_of_cell q1)).trans q1
  have q4' := (b1.cell (lt_of_cell q4)).trans q4
  clear d0 d1 d2 d3 d4 d5 d6 d7 b1 CS HR q1 q4
  obtain ⟨eB, ea⟩ := EB.out
  rw [eB] at e2
  rw [ea]
  clear eB ea EB
  by_cases g1 : D ≤ c.K
  · have x1 : decide (D ≤ c.K) = true := by simpa using g1
    have x2 : decide (c.K < D) = false := by simpa using g1
    clear g1
    by_cases u1 : b = 1
    · have y1 : (b == 1) = true := by simpa using u1
      have hv : Hid (true = R) := Lib.hid (by rw [HV.out, x1]; unfold justB; simp [u1])
      clear u1
      go_wp2_with fail
      go_ret
      exact ⟨ret_bool hv.out, HR1.out.2⟩
    · have y1 : (b == 1) = false := by simpa using u1
      have hv : Hid (false = R) := Lib.hid (by rw [HV.out, x1]; unfold justB; simp [u1])
      by_cases u0 : b = 0
      · have y0 : (b == 0) = true := by simpa using u0
        clear u1 u0
        go_wp2_with fail
        go_ret
        exact ⟨ret_bool hv.out, HR1.out.2⟩
      · have y0 : (b == 0) = false := by simpa using u0
        clear u1 u0
        go_wp2_with fail
        go_ret
        exact ⟨ret_bool hv.out, HR1.out.2⟩
  · have x1 : decide (D ≤ c.K) = false := by simpa using g1
    have x2 : decide (c.K < D) = true := by simp; omega
    clear g1
    by_cases u0 : b = 0
    · have y0 : (b == 0) = true := by simpa using u0
      have y1 : (b == 1) = false := by simp [u0]
      have hv : Hid (true = R) := Lib.hid (by rw [HV.out, x1]; unfold justB; simp [u0])
      clear u0
      go_wp2_with fail
      go_ret
      exact ⟨ret_bool hv.out, HR1.out.2⟩
    · have y0 : (b == 0) = false := by simpa using u0
      have hv : Hid (false = R) := Lib.hid (by rw [HV.out, x1]; unfold justB; simp [u0])
      by_cases u1 : b = 1
      · have y1 : (b == 1) = true := by simpa using u1
        clear u1 u0
        go_wp2_with fail
        go_ret
        exact ⟨ret_bool hv.out, HR1.out.2⟩
      · have y1 : (b == 1) = false := by simpa using u1
        clear u1 u0
        go_wp2_with fail
        go_ret
        exact ⟨ret_bool hv.out, HR1.out.2⟩

theorem rlinear_any (v : ConV) (c : ConL) (y : Sl) (a : List Int) (w : World) (h : ConIn w v c) (hy : IsInts w y a) (r : ConR a.length c) (ba : ∀ v ∈ a, -1000000 ≤ v ∧ v ≤ 1000000) (hk : c.kind ≤ 4) :
    Calls Tryz.prog 76 #[v.val c.kind c.K, .slice y.A y.n y.c] w fun e w' => e = .returned (.bool (meetsB c (valsE c.A a) (valsE c.B a))) ∧ Below w.heap.size w w' := by
  have h1 := r.k1
  have he : meetsB c (valsE c.A a) (valsE c.B a) = linB c (dotE c.C (valsE c.A a)) (valsE c.B a) := by unfold meetsB; rw [if_pos ⟨h1, hk⟩]
  rw [he]
  unfold linB
  have : c.kind = 1 ∨ c.kind = 2 ∨ c.kind = 3 ∨ c.kind = 4 := by omega
  rcases this with e | e | e | e
  · rw [if_pos e]; exact rlinear1 v c y a w h hy r ba e
  · rw [if_neg (by omega), if_pos e]; exact rlinear2 v c y a w h hy r ba e
  · rw [if_neg (by omega), if_neg (by omega), if_pos e]; exact rlinear3 v c y a w h hy r ba e
  · rw [if_neg (by omega), if_neg (by omega), if_neg (by omega)]; exact rlinear4 v c y a w h hy r ba e

def szI (a : Int) : Int := a.natAbs
theorem rsize_any (a : Int) (w : World) (ha : -1000000 ≤ a ∧ a ≤ 1000000) :
    Calls Tryz.prog 180 #[.int .i64 a] w fun e w' => e = .returned (.int .u64 (szI a)) ∧ w = w' := by
  by_cases hn : a < 0
  · have w1 : IntKind.i64.wrap (a + 1) = a + 1 := IntWalk.i64_in _ (by omega)
    have w2 : IntKind.i64.wrap (-(a + 1)) = -(a + 1) := IntWalk.i64_in _ (by omega)
    have hd : decide (a < 0) = true := by simpa using hn
    have w3 : IntKind.u64.wrap (-(a + 1)) = -(a + 1) := by unfold IntKind.wrap; simp [IntKind.bits, IntKind.signed] <;> omega
    have w4 : IntKind.u64.wrap (-(a + 1) + 1) = szI a := by rw [show -(a + 1) + 1 = szI a by unfold szI; omega]; unfold szI IntKind.wrap; simp [IntKind.bits, IntKind.signed] <;> omega
    generalize szI a = s at w4 ⊢
    clear hn ha
    go_enter Tryz.func180, Tryz.ntmps180
    go_wp2_with fail
    go_ret
    exact ⟨by first | rfl | simp [w1, w2, w3, w4], rfl⟩
  · have hd : decide (a < 0) = false := by simpa using hn
    have w4 : IntKind.u64.wrap a = szI a := by rw [show szI a = a by unfold szI; omega]; unfold IntKind.wrap; simp [IntKind.bits, IntKind.signed] <;> omega
    generalize szI a = s at w4 ⊢
    clear hn ha
    go_enter Tryz.func180, Tryz.ntmps180
    go_wp2_with fail
    go_ret
    exact ⟨by first | rfl | simp [w4], rfl⟩

theorem szI_like (a b : Int) (s : (a < 0) = (b < 0)) : a.tdiv b = szI a / szI b := by
  by_cases q : b < 0
  · have p : a < 0 := by rw [s]; exact q
    have e1 : szI a = -a := by unfold szI; omega
    have e2 : szI b = -b := by unfold szI; omega
    rw [e1, e2, ← Int.tdiv_eq_ediv_of_nonneg (by omega), Int.neg_tdiv, Int.tdiv_neg, Int.neg_neg]
  · have p : ¬ a < 0 := by rw [s]; exact q
    have e1 : szI a = a := by unfold szI; omega
    have e2 : szI b = b := by unfold szI; omega
    rw [e1, e2, ← Int.tdiv_eq_ediv_of_nonneg (by omega)]
theorem szI_unlike (a b : Int) (s : (a < 0) ≠ (b < 0)) : a.tdiv b = -(szI a / szI b) := by
  by_cases q : b < 0
  · have p : ¬ a < 0 := fun p => s (by simp [p, q])
    have e1 : szI a = a := by unfold szI; omega
    have e2 : szI b = -b := by unfold szI; omega
    rw [e1, e2, ← Int.tdiv_eq_ediv_of_nonneg (by omega), Int.tdiv_neg, Int.neg_neg]
  · have p : a < 0 := by
      apply Decidable.byContradiction
      intro p
      exact s (by simp [p, q])
    have e1 : szI a = -a := by unfold szI; omega
    have e2 : szI b = b := by unfold szI; omega
    rw [e1, e2, ← Int.tdiv_eq_ediv_of_nonneg (by omega), Int.neg_tdiv, Int.neg_neg]
theorem rquo_no (a b : Int) (w : World) (h : b = 0) :
    Calls Tryz.prog 134 #[.int .i64 a, .int .i64 b] w fun e w' => e = .returned (.tuple #[.int .i64 0, .bool false]) ∧ w = w' := by
  subst h
  go_enter Tryz.func134, Tryz.ntmps134
  go_wp2_with fail
  exact bodyPost_ret (v := .tuple #[.int .i64 0, .bool false]) (by simp [results, Tryz.results134, go_sem]) rfl ⟨rfl, rfl⟩
set_option maxHeartbeats 2000000 in
theorem rquo_yes (a b : Int) (w : World) (ha : -1000000 ≤ a ∧ a ≤ 1000000) (hb : -1000000 ≤ b ∧ b ≤ 1000000) (h0 : b ≠ 0) :
    Calls Tryz.prog 134 #[.int .i64 a, .int .i64 b] w fun e w' => e = .returned (.tuple #[.int .i64 (a.tdiv b), .bool true]) ∧ w = w' := by
  have r1 : 0 ≤ szI a ∧ szI a ≤ 1000000 := by unfold szI; omega
  have r2 : 0 < szI b := by unfold szI; omega
  have hq0 : 0 ≤ szI a / szI b := Int.ediv_nonneg r1.1 (by omega)
  have hq1 : szI a / szI b ≤ 1000000 := Int.le_trans (Int.ediv_le_self _ r1.1) r1.2
  have hz : (b == 0) = false := by simpa using h0
  have hl : (a == -9223372036854775808) = false := by simp; omega
  have SA := Lib.hid (fun w => rsize_any a w ha)
  have SB := Lib.hid (fun w => rsize_any b w hb)
  have e1 : (szI a).tdiv (szI b) = szI a / szI b := Int.tdiv_eq_ediv_of_nonneg r1.1
  have u1 : IntKind.u64.wrap (szI a / szI b) = szI a / szI b := by unfold IntKind.wrap; simp [IntKind.bits, IntKind.signed]; omega
  have u2 : IntKind.i64.wrap (szI a / szI b) = szI a / szI b := IntWalk.i64_in _ (by omega)
  have u3 : IntKind.i64.wrap (-(szI a / szI b)) = -(szI a / szI b) := IntWalk.i64_in _ (by omega)
  have z2 : (szI b == 0) = false := by simp; omega
  have z3 : ¬ szI b = 0 := by omega
  have LK := Lib.hid (szI_like a b)
  have UL := Lib.hid (szI_unlike a b)
  generalize szI a / szI b = q at *
  generalize szI a = sa at *
  generalize szI b = sb at *
  clear hq0 hq1 r1 r2 ha hb
  by_cases p : a < 0
  · have pd : decide (a < 0) = true := by simpa using p
    by_cases qq : b < 0
    · have qd : decide (b < 0) = true := by simpa using qq
      have E := Lib.hid (LK.out (by simp [p, qq]))
      clear p qq h0 LK UL
      cases hm : (b == -1)
      all_goals
        go_enter Tryz.func134, Tryz.ntmps134
        go_wp2_with (first | (go_at_call 180; with_reducible refine (SA.out _).mono ?_; rintro e w' ⟨rfl, rfl⟩) | (go_at_call 180; with_reducible refine (SB.out _).mono ?_; rintro e w' ⟨rfl, rfl⟩))
        exact bodyPost_ret (v := .tuple #[.int .i64 (q), .bool true]) (by simp [results, Tryz.results134, go_sem]) rfl ⟨by rw [E.out], rfl⟩
    · have qd : decide (b < 0) = false := by simpa using qq
      have E := Lib.hid (UL.out (by simp [p, qq]))
      clear p qq h0 LK UL
      cases hm : (b == -1)
      all_goals
        go_enter Tryz.func134, Tryz.ntmps134
        go_wp2_with (first | (go_at_call 180; with_reducible refine (SA.out _).mono ?_; rintro e w' ⟨rfl, rfl⟩) | (go_at_call 180; with_reducible refine (SB.out _).mono ?_; rintro e w' ⟨rfl, rfl⟩))
        exact bodyPost_ret (v := .tuple #[.int .i64 (-q), .bool true]) (by simp [results, Tryz.results134, go_sem]) rfl ⟨by rw [E.out], rfl⟩
  · have pd : decide (a < 0) = false := by simpa using p
    by_cases qq : b < 0
    · have qd : decide (b < 0) = true := by simpa using qq
      have E := Lib.hid (UL.out (by simp [p, qq]))
      clear p qq h0 LK UL
      cases hm : (b == -1)
      all_goals
        go_enter Tryz.func134, Tryz.ntmps134
        go_wp2_with (first | (go_at_call 180; with_reducible refine (SA.out _).mono ?_; rintro e w' ⟨rfl, rfl⟩) | (go_at_call 180; with_reducible refine (SB.out _).mono ?_; rintro e w' ⟨rfl, rfl⟩))
        exact bodyPost_ret (v := .tuple #[.int .i64 (-q), .bool true]) (by simp [results, Tryz.results134, go_sem]) rfl ⟨by rw [E.out], rfl⟩
    · have qd : decide (b < 0) = false := by simpa using qq
      have E := Lib.hid (LK.out (by simp [p, qq]))
      clear p qq h0 LK UL
      cases hm : (b == -1)
      all_goals
        go_enter Tryz.func134, Tryz.ntmps134
        go_wp2_with (first | (go_at_call 180; with_reducible refine (SA.out _).mono ?_; rintro e w' ⟨rfl, rfl⟩) | (go_at_call 180; with_reducible refine (SB.out _).mono ?_; rintro e w' ⟨rfl, rfl⟩))
        exact bodyPost_ret (v := .tuple #[.int .i64 (q), .bool true]) (by simp [results, Tryz.results134, go_sem]) rfl ⟨by rw [E.out], rfl⟩

end Go.Proofs.YtkhmocbfkpbpfaaGreatDoor

/- Right and the document's Right tell the same: the whole. No walk. -/
namespace Go.Proofs.YtkhmocbfkpbpfaaGreatDoor
open Go.RowKit

theorem alike_all (c : ConL) (k : Nat) (hk : k < 23) (h : c.kind = ((k + 1 : Nat) : Int)) : Alike c ⟨((ents.getD k noEnt).shape).toArray⟩ := by
  have hh : k = 0 ∨ k = 1 ∨ k = 2 ∨ k = 3 ∨ k = 4 ∨ k = 5 ∨ k = 6 ∨ k = 7 ∨ k = 8 ∨ k = 9 ∨ k = 10 ∨ k = 11 ∨ k = 12 ∨ k = 13 ∨ k = 14 ∨ k = 15 ∨ k = 16 ∨ k = 17 ∨ k = 18 ∨ k = 19 ∨ k = 20 ∨ k = 21 ∨ k = 22 := by omega
  rcases hh with rfl | rfl | rfl | rfl | rfl | rfl | rfl | rfl | rfl | rfl | rfl | rfl | rfl | rfl | rfl | rfl | rfl | rfl | rfl | rfl | rfl | rfl | rfl
  · exact alike1 c h
  · exact alike2 c h
  · exact alike3 c h
  · exact alike4 c h
  · exact alike5 c h
  · exact alike6 c h
  · exact alike7 c h
  · exact alike8 c h
  · exact alike9 c h
  · exact alike10 c h
  · exact alike11 c h
  · exact alike12 c h
  · exact alike13 c h
  · exact alike14 c h
  · exact alike15 c h
  · exact alike16 c h
  · exact alike17 c h
  · exact alike18 c h
  · exact alike19 c h
  · exact alike20 c h
  · exact alike21 c h
  · exact alike22 c h
  · exact alike23 c h

def highV (vars : Int) : Int := if 0 < vars then vars - 1 else -1
theorem out_high (vars z : Int) : outB 0 (highV vars) z = outV vars z := by
  unfold outB outV highV
  rw [Bool.eq_iff_iff]
  split <;> simp <;> omega

/-- What the document's Right tells. -/
def refRightE (c : ConL) (vars : Int) : Int :=
  if c.kind < 1 ∨ 23 < c.kind then 9
  else if arityB c ⟨(shapesL.getD c.kind.toNat []).toArray⟩ = false then 10
  else if (c.A.any (outB 0 (highV vars)) || c.B.any (outB 0 (highV vars))) = true then 7
  else if coefsB c = false then 11 else 0

theorem nums_coefs {c : ConL} {sh : ByteArray} (h : Alike c sh) (hs : sizesB c sh = true) : numsB c = coefsB c := by
  unfold numsB coefsB secD
  by_cases h19 : c.kind = 19
  · rw [if_pos (.inl h19)]
  · by_cases h21 : c.kind = 21
    · rw [if_pos (.inr h21)]
    · rw [if_neg (by omega)]
      obtain ⟨e1, e2⟩ := h.2.1 hs h19 h21
      rw [e1, e2]
      rfl

theorem right_same (c : ConL) (vars : Int) : rightE c vars = refRightE c vars := by
  unfold rightE refRightE
  by_cases ho : c.kind < 1 ∨ 23 < c.kind
  · rw [found_out ho, if_pos rfl, if_pos ho]
  · obtain ⟨k, hk⟩ : ∃ k : Nat, c.kind = ((k + 1 : Nat) : Int) := ⟨(c.kind - 1).toNat, by omega⟩
    have hk23 : k < 23 := by omega
    have hA := alike_all c k hk23 hk
    rw [if_neg ho, hk, found_in hk23]
    simp only [Bool.true_eq_false, if_false]
    have e1 : (((k + 1 : Nat) : Int)).toNat = k + 1 := by omega
    rw [e1, shape_in hk23]
    rw [hA.1]
    have eo : ∀ L : List Int, L.any (outB 0 (highV vars)) = L.any (outV vars) := fun L => by
      congr 1
      funext z
      exact out_high vars z
    rw [eo, eo]
    cases hb : arityB c ⟨((ents.getD k noEnt).shape).toArray⟩
    · rfl
    · rw [nums_coefs hA (hA.1.trans hb)]
end Go.Proofs.YtkhmocbfkpbpfaaGreatDoor

/- A quiet call in a world that has grown. No walk. -/
namespace Go.Proofs.YtkhmocbfkpbpfaaGreatDoor
open Go.RowKit Go.Sort

theorem gin_regrown {f : Nat} {args : Array Value} {w : World} {v : Value} (h : ∀ W, Below w.heap.size w W → Calls Tryz.prog f args W fun e w' => e = .returned v ∧ W = w') : ∀ d os, Calls Tryz.prog f args (grow (redrawn w d) os) fun e w'' => e = .returned v ∧ ∃ p : Regrown, w'' = grow (redrawn w p.d) p.os := fun d os => Calls.regrown_of ((h _ (below_regrown _ d os)).mono fun _ _ q => ⟨q.1, q.2 ▸ Below.refl _ _⟩)
end Go.Proofs.YtkhmocbfkpbpfaaGreatDoor

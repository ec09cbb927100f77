/- Contracts: the document's sum, linear, size, Quo. -/
import Derived.Test.YtppiemgdjkehkaaDoorGmeet
import Derived.Deep.QuietTactic
import Derived.BigQuiet
namespace Go.Proofs.YtppiemgdjkehkaaDoor
open Go.RowKit Go.Sort

/-- A constraint's box. -/
abbrev cBox (w : World) (v : ConV) (kd kk : Int) : World := w.alloc (.cells (v.cells kd kk) 30)
theorem cBox_cell (w : World) (v : ConV) (kd kk : Int) (j : Nat) (u : Value) (hj : (v.cells kd kk)[j]? = some u) : (cBox w v kd kk).cell? ⟨w.heap.size, j, none⟩ = some u := by
  have : (cBox w v kd kk).cell? ⟨w.heap.size, j, none⟩ = (v.cells kd kk)[j]? := by simp [cBox]
  rw [this, hj]
theorem cBox_below (w : World) (v : ConV) (kd kk : Int) : Below w.heap.size w (cBox w v kd kk) := below1 w _
/-- A constraint's box beside its lists and the values. -/
structure RBox (g : Nat) (W : World) (v : ConV) (c : ConL) (y : Sl) (a : List Int) : Prop where
  cell : ∀ (j : Nat) (u : Value), (v.cells c.kind c.K)[j]? = some u → W.cell? ⟨g, j, none⟩ = some u
  lt : g < W.heap.size
  con : ConIn W v c
  ints : IsInts W y a
theorem RBox.below {g : Nat} {W W' : World} {v : ConV} {c : ConL} {y : Sl} {a : List Int} (h : RBox g W v c y a) (b : Below W.heap.size W W') : RBox g W' v c y a :=
  ⟨fun j u hj => (b.cell h.lt).trans (h.cell j u hj), Nat.lt_of_lt_of_le h.lt b.size, h.con.below b, h.ints.below b⟩
theorem RBox.start {w : World} {v : ConV} {c : ConL} {y : Sl} {a : List Int} (h : ConIn w v c) (hy : IsInts w y a) : RBox w.heap.size (cBox w v c.kind c.K) v c y a :=
  ⟨cBox_cell w v c.kind c.K, by simp [cBox], h.below (cBox_below _ _ _ _), hy.below (cBox_below _ _ _ _)⟩
section
variable {g : Nat} {W : World} {v : ConV} {c : ConL} {y : Sl} {a : List Int}
theorem RBox.c0 (h : RBox g W v c y a) : W.cell? ⟨g, 0, none⟩ = some (.int .i64 c.kind) := h.cell 0 _ rfl
theorem RBox.c1 (h : RBox g W v c y a) : W.cell? ⟨g, 1, none⟩ = some (.slice v.a.A v.a.n v.a.c) := h.cell 1 _ rfl
theorem RBox.c2 (h : RBox g W v c y a) : W.cell? ⟨g, 2, none⟩ = some (.slice v.b.A v.b.n v.b.c) := h.cell 2 _ rfl
theorem RBox.c3 (h : RBox g W v c y a) : W.cell? ⟨g, 3, none⟩ = some (.slice v.c.A v.c.n v.c.c) := h.cell 3 _ rfl
theorem RBox.c4 (h : RBox g W v c y a) : W.cell? ⟨g, 4, none⟩ = some (.slice v.d.A v.d.n v.d.c) := h.cell 4 _ rfl
theorem RBox.c5 (h : RBox g W v c y a) : W.cell? ⟨g, 5, none⟩ = some (.slice v.e.A v.e.n v.e.c) := h.cell 5 _ rfl
theorem RBox.c6 (h : RBox g W v c y a) : W.cell? ⟨g, 6, none⟩ = some (.int .i64 c.K) := h.cell 6 _ rfl
theorem RBox.c7 (h : RBox g W v c y a) : W.cell? ⟨g, 7, none⟩ = some (.slice v.r.A v.r.n v.r.c) := h.cell 7 _ rfl
end
/-- A place's value. -/
theorem place_at {W : World} {y x : Sl} {L a : List Int} (h : IsInts W y L) (hx : IsInts W x a) (hL : ∀ v ∈ L, 0 ≤ v ∧ v < (a.length : Int)) (i : Nat) (hi : i < L.length) :
    ∃ (adL ad : Addr) (p : Nat), y.A = some adL ∧ x.A = some ad ∧ W.cell? (adL.add i) = some (.int .i64 (p : Nat)) ∧ p < x.n ∧ i < y.n ∧ W.cell? (ad.add p) = some (.int .i64 ((valsE L a).getD i 0)) := by
  have hb := hL _ (getD_mem L i hi)
  obtain ⟨p, hp⟩ : ∃ p : Nat, (p : Int) = L.getD i 0 := ⟨(L.getD i 0).toNat, by omega⟩
  have hn := h.len
  have hn' := hx.len
  obtain ⟨adL, eL, hbl, hcl⟩ := h.lies (by omega)
  obtain ⟨ad, ea, hba, hca⟩ := hx.lies (by omega)
  refine ⟨adL, ad, p, eL, ea, ?_, by omega, by omega, ?_⟩
  · rw [hcl i (by omega), hp]
    rfl
  · have : (valsE L a).getD i 0 = a.getD p 0 := by
      unfold valsE
      rw [List.getD_eq_getElem?_getD, List.getElem?_map, List.getElem?_eq_getElem hi]
      have e2 : L[i] = (p : Int) := by rw [hp, List.getD_eq_getElem?_getD, List.getElem?_eq_getElem hi]; rfl
      rw [e2]
      simp [atE]
    rw [hca p (by omega), this]
    rfl
theorem vals_le {L a : List Int} {lo hi : Int} (hL : ∀ v ∈ L, 0 ≤ v ∧ v < (a.length : Int)) (ha : ∀ v ∈ a, lo ≤ v ∧ v ≤ hi) : ∀ v ∈ valsE L a, lo ≤ v ∧ v ≤ hi := by
  intro v hv
  unfold valsE at hv
  obtain ⟨u, hu, rfl⟩ := List.mem_map.1 hv
  have := hL u hu
  exact ha _ (getD_mem a u.toNat (by omega))
theorem vals_size (l a : List Int) : (valsE l a).length = l.length := by simp [valsE]

/-- What a call over a constraint begins with. -/
theorem RBox.at_ {g : Nat} {W : World} {v : ConV} {c : ConL} {y : Sl} {a : List Int} (h : RBox g W v c y a) (hL : ∀ x ∈ c.A, 0 ≤ x ∧ x < (a.length : Int)) (i : Nat) (hi : i < v.a.n) :
    ∃ (adL ad : Addr) (p : Nat), v.a.A = some adL ∧ y.A = some ad ∧ W.cell? (adL.add i) = some (.int .i64 (p : Nat)) ∧ p < y.n ∧ i < v.a.n ∧ W.cell? (ad.add p) = some (.int .i64 ((valsE c.A a).getD i 0)) :=
  place_at h.con.a h.ints hL i (by rw [← h.con.a.len]; exact hi)
theorem RBox.bt_ {g : Nat} {W : World} {v : ConV} {c : ConL} {y : Sl} {a : List Int} (h : RBox g W v c y a) (hL : ∀ x ∈ c.B, 0 ≤ x ∧ x < (a.length : Int)) (i : Nat) (hi : i < v.b.n) :
    ∃ (adL ad : Addr) (p : Nat), v.b.A = some adL ∧ y.A = some ad ∧ W.cell? (adL.add i) = some (.int .i64 (p : Nat)) ∧ p < y.n ∧ i < v.b.n ∧ W.cell? (ad.add p) = some (.int .i64 ((valsE c.B a).getD i 0)) :=
  place_at h.con.b h.ints hL i (by rw [← h.con.b.len]; exact hi)
theorem ints_at {W : World} {x : Sl} {L : List Int} (h : IsInts W x L) (i : Nat) (hi : i < x.n) : ∃ ad : Addr, x.A = some ad ∧ W.cell? (ad.add i) = some (.int .i64 (L.getD i 0)) := by
  obtain ⟨ad, e, hb, hc⟩ := h.lies (by omega)
  exact ⟨ad, e, hc i hi⟩

set_option maxHeartbeats 2000000 in
theorem rsum_any (v : ConV) (c : ConL) (y : Sl) (a : List Int) (w : World) (h : ConIn w v c) (hy : IsInts w y a) (r : ConR a.length c) (hlin : c.C.length = c.A.length) (ba : ∀ v ∈ a, -1000000 ≤ v ∧ v ≤ 1000000) :
    Calls Tryd.prog 64 #[v.val c.kind c.K, .slice y.A y.n y.c] w fun e w' => e = .returned (.int .i64 (dotE c.C (valsE c.A a))) ∧ Below w.heap.size w w' := by
  obtain ⟨wb, hwb⟩ : ∃ wb, cBox w v c.kind c.K = wb := ⟨_, rfl⟩
  have HR : Hid (RBox w.heap.size wb v c y a ∧ Below w.heap.size w wb) := Lib.hid (hwb ▸ ⟨RBox.start h hy, cBox_below _ _ _ _⟩)
  have HCN := Lib.hid (show v.c.n = v.a.n by rw [h.c.len, h.a.len, hlin])
  have h64 : v.a.n ≤ 64 := by rw [h.a.len]; exact r.a64
  have HX := Lib.hid (vals_le r.pa ba)
  have HCC := Lib.hid r.pc
  have HPA := Lib.hid r.pa
  have HE : Hid (dotE c.C (valsE c.A a) = sumN (fun i => c.C.getD i 0 * (valsE c.A a).getD i 0) v.a.n) := Lib.hid (by unfold dotE; rw [hlin, ← h.a.len])
  generalize dotE c.C (valsE c.A a) = D at HE ⊢
  have HWB := Lib.hid hwb
  clear hwb h hy r ba hlin
  go_enter Tryd.func64, Tryd.ntmps64
  go_upto_region 1 with fail
  change Code.wp _ _ _ _ (cBox w v c.kind c.K)
  rw [HWB.out]
  clear HWB
  go_wp2_with fail
  go_loopw [5, 6] (fun s i wr => ∃ (k : Nat) (t : Int), s = .int .i64 t ∧ i = .int .i64 (k : Nat) ∧ k ≤ v.a.n ∧ Hid (t = sumN (fun i => c.C.getD i 0 * (valsE c.A a).getD i 0) k) ∧ Hid (RBox w.heap.size wr v c y a ∧ Below w.heap.size w wr)) (fun _ i _ => v.a.n - (intOf i).toNat)
  case atStart => exact ⟨0, 0, rfl, rfl, by omega, Lib.hid rfl, HR⟩
  case round =>
    clear HR
    obtain ⟨k, t, rfl, rfl, hk, HT, HR⟩ := hrel
    have h1 := HR.out.1.c1
    have h3 := HR.out.1.c3
    by_cases hlt : k < v.a.n
    · obtain ⟨adL, ad, p, eL, ea, q1, q2, q3, q4⟩ := HR.out.1.at_ HPA.out k hlt
      have q6 : k < v.c.n := by have := HCN.out; omega
      obtain ⟨adC, eC, q5⟩ := ints_at HR.out.1.con.c k q6
      have hb1 := getD_in HCC.out (by omega) k
      have hb2 := getD_in HX.out (by omega) k
      have hm := mul_abs hb1 hb2
      have hs := sumN_abs (f := fun i => c.C.getD i 0 * (valsE c.A a).getD i 0) (n := k) (b := 1000000000000) (fun i hi => mul_abs (getD_in HCC.out (by omega) i) (getD_in HX.out (by omega) i))
      rw [← HT.out] at hs
      have HT2 : Hid (t + c.C.getD k 0 * (valsE c.A a).getD k 0 = sumN (fun i => c.C.getD i 0 * (valsE c.A a).getD i 0) (k + 1)) := Lib.hid (by rw [HT.out]; rfl)
      have w1 : IntKind.i64.wrap (c.C.getD k 0 * (valsE c.A a).getD k 0) = c.C.getD k 0 * (valsE c.A a).getD k 0 := IntWalk.i64_in _ (by omega)
      have w2 : IntKind.i64.wrap (t + c.C.getD k 0 * (valsE c.A a).getD k 0) = t + c.C.getD k 0 * (valsE c.A a).getD k 0 := IntWalk.i64_in _ (by omega)
      clear hb1 hb2 hm hs HT
      generalize c.C.getD k 0 = z at q5 HT2 w1 w2
      generalize (valsE c.A a).getD k 0 = u at q4 HT2 w1 w2
      rw [eL] at h1
      rw [eC] at h3
      rw [ea]
      go_upto_region 5 with fail
      go_quiet (fail)
      have HR2 := Lib.hid (show RBox w.heap.size (wr.drewN nq) v c y a ∧ Below w.heap.size w (wr.drewN nq) from ⟨HR.out.1.below (below_drewN (Below.refl _ _) nq), below_drewN HR.out.2 nq⟩)
      generalize wr.drewN nq = w3 at *
      go_wp2_with fail
      go_roundw
      case rel => exact ⟨k + 1, _, rfl, by go_num, by omega, HT2, HR2⟩
      case measure => simp [intOf]; omega
    · have HT2 : Hid (t = D) := Lib.hid (by rw [HE.out, HT.out, show k = v.a.n by omega])
      clear HT HE
      go_wp2_with fail
      go_ret
      exact ⟨by rw [← HT2.out]; rfl, HR.out.2⟩
end Go.Proofs.YtppiemgdjkehkaaDoor

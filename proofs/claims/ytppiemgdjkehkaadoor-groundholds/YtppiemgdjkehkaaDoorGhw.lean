/- GroundHolds' walk. -/
import Derived.Test.YtppiemgdjkehkaaDoorRg8
import Derived.Test.YtppiemgdjkehkaaDoorMkmake
import Derived.Test.YtppiemgdjkehkaaDoorGwake
import Derived.Test.YtppiemgdjkehkaaDoorGback
import Derived.Lib.MinMax
import Derived.Deep.RegionHeld3
import Derived.Lib.QuietBelow
import Derived.Deep.DeepCutAuto
namespace Go.Proofs.YtppiemgdjkehkaaDoor
open Go.RowKit Go.Sort

theorem cut_run (A : Option Addr) (n c m : Nat) (h : m ≤ c) (W : World) : (Instr.slice 27 (.slice A n c) none (some (.int .i64 (m : Nat))) none).run Tryd.prog W = .ok (.slice A m c) W := by
  have hu := run_underlying Tryd.underlying27 W
  simp [Instr.slice, hu, Instr.sliceBounds, Instr.sliceBound, asIntOf, go_sem]
  intro h'
  omega
theorem ns_cut {W : World} {x : Sl} {l : List Int} (h : IsNs .i64 W x l) (m : Nat) (hm : m ≤ x.n) (h8 : m ≤ 1000000) : IsInts W ⟨x.A, m, x.c⟩ (l.take m) := by
  have hl := h.len
  refine ⟨by simp; omega, fun h0 => ?_, by simp only; omega, by have := h.cap; simp only; omega⟩
  obtain ⟨ad, e, hb, hc⟩ := h.lies (by simp only at h0; omega)
  refine ⟨ad, e, hb, fun i hi => ?_⟩
  simp only at hi
  rw [hc i (by omega)]
  show some (Value.int .i64 (l.getD i 0)) = some (Value.int .i64 ((l.take m).getD i 0))
  rw [List.getD_eq_getElem?_getD, List.getD_eq_getElem?_getD, List.getElem?_take_of_lt hi]
def cutN (n : Nat) : Nat := if n < 8 then n else 8
theorem cutN_le (n : Nat) : cutN n ≤ n ∧ cutN n ≤ 8 := by unfold cutN; split <;> omega
theorem cutN_min (n : Nat) : min ((n : Nat) : Int) 8 = (cutN n : Nat) := by unfold cutN; split <;> omega

theorem short_any (A : Option Addr) (n c : Nat) (h : n ≤ c) (hb : n ≤ 9223372036854775807) (w : World) :
    Calls Tryd.prog 6 #[.slice A n c] w fun e w' => e = .returned (.slice A (cutN n) c) ∧ w = w' := by
  have hs := cut_run A n c (cutN n) (by have := cutN_le n; omega)
  have hm := cutN_min n
  have hm' : min (8 : Int) ((n : Nat) : Int) = (cutN n : Nat) := by rw [← hm]; omega
  go_enter Tryd.func6, Tryd.ntmps6
  go_wp2_with fail
  go_ret
  exact ⟨by first | rfl | simp [hm, hm'], rfl⟩

theorem ints_ns {W : World} {x : Sl} {l : List Int} (h : IsInts W x l) : IsNs .i64 W x l := ⟨h.len, h.lies, by have := h.big; omega, h.cap⟩
theorem heap_cell {W : World} {g j : Nat} {u : Array Value} {t : TypeId} {x : Value} (h : W.heap[g]? = some (.cells u t (0, 0))) (hx : u[j]? = some x) : W.cell? ⟨g, j, none⟩ = some x := box_cell h hx

set_option maxHeartbeats 8000000 in
set_option maxRecDepth 100000 in
theorem holds_walk (zA zB zC x : Sl) (la lb lc a : List Int) (k K ch : Int) (kd kk : Int) (sa sb sc sd se sr : Sl) (A B C D E : List Int) (w : World) (hE : EntIn w) (ha : IsNs .u8 w zA la) (hb : IsNs .u8 w zB lb) (hc : IsNs .i8 w zC lc) (ba : ∀ v ∈ la, 0 ≤ v ∧ v ≤ 255) (bb : ∀ v ∈ lb, 0 ≤ v ∧ v ≤ 255) (bc : ∀ v ∈ lc, -128 ≤ v ∧ v ≤ 127) (hk : 0 ≤ k ∧ k ≤ 255) (hK : -32768 ≤ K ∧ K ≤ 32767) (hch : 0 ≤ ch ∧ ch ≤ 255) (hx : IsNs .i64 w x a)
    (hA : IsNs .i64 w sa A) (hB : IsNs .i64 w sb B) (hC : IsNs .i64 w sc C) (hD : IsNs .i64 w sd D) (hEE : IsNs .i64 w se E) :
    Calls Tryd.prog 3 #[smV zA zB zC k K ch, .slice x.A x.n x.c, .agg #[.int .i64 kd, .slice sa.A sa.n sa.c, .slice sb.A sb.n sb.c, .slice sc.A sc.n sc.c, .slice sd.A sd.n sd.c, .slice se.A se.n se.c, .int .i64 kk, .slice sr.A sr.n sr.c]] w fun e w' => e = .returned (.bool true) ∧ Below w.heap.size w w' := by
  have hcut := cut_run x.A x.n x.c (cutN x.n) (by have := cutN_le x.n; have := hx.cap; omega)
  have hm := cutN_min x.n
  have HXC := Lib.hid (ns_cut hx (cutN x.n) (cutN_le x.n).1 (by have := (cutN_le x.n).2; omega))
  have hxb := hx.big
  generalize cutN x.n = m8 at hcut hm HXC
  generalize a.take m8 = a8 at HXC
  obtain ⟨wb, hwb⟩ : ∃ wb, (w.alloc (.cells (smC zA zB zC k K ch) 26)).alloc (.cells #[.int .i64 kd, .slice sa.A sa.n sa.c, .slice sb.A sb.n sb.c, .slice sc.A sc.n sc.c, .slice sd.A sd.n sd.c, .slice se.A se.n se.c, .int .i64 kk, .slice sr.A sr.n sr.c] 30) = wb := ⟨_, rfl⟩
  have hbb : Below w.heap.size w wb := hwb ▸ (below1 w _).alloc (by simp) _
  have e1 := heap_new w (.cells (smC zA zB zC k K ch) 26)
  have e2 := heap_new (w.alloc (.cells (smC zA zB zC k K ch) 26)) (.cells #[.int .i64 kd, .slice sa.A sa.n sa.c, .slice sb.A sb.n sb.c, .slice sc.A sc.n sc.c, .slice sd.A sd.n sd.c, .slice se.A se.n se.c, .int .i64 kk, .slice sr.A sr.n sr.c] 30)
  have z1 : (w.alloc (.cells (smC zA zB zC k K ch) 26)).heap.size = w.heap.size + 1 := by simp
  rw [z1] at e2
  have e3 : wb.heap[w.heap.size]? = some (.cells (smC zA zB zC k K ch) 26 (0, 0)) := by
    rw [← hwb, Below.heap_alloc _ _ _ (by rw [z1]; omega)]
    exact e1
  rw [hwb] at e2
  have HBX : Hid (wb.heap[w.heap.size]? = some (.cells (smC zA zB zC k K ch) 26 (0, 0)) ∧ wb.heap[w.heap.size + 1]? = some (.cells #[.int .i64 kd, .slice sa.A sa.n sa.c, .slice sb.A sb.n sb.c, .slice sc.A sc.n sc.c, .slice sd.A sd.n sd.c, .slice se.A se.n se.c, .int .i64 kk, .slice sr.A sr.n sr.c] 30 (0, 0))) := Lib.hid ⟨e3, e2⟩
  have CM : Hid (Calls Tryd.prog 5 #[smV zA zB zC k K ch, .int .i64 5] wb fun e w' => (∃ v : ConV, e = .returned (v.val (makeE la lb lc k K ch 5).kind (makeE la lb lc k K ch 5).K) ∧ ConIn w' v (makeE la lb lc k K ch 5)) ∧ Below wb.heap.size wb w') := Lib.hid (make_any zA zB zC la lb lc k K ch 5 wb (ha.below hbb) (hb.below hbb) (hc.below hbb) ba bb bc hk hK hch (by omega))
  generalize makeE la lb lc k K ch 5 = c at CM
  have HBB := Lib.hid hbb
  have HE0 := Lib.hid hE
  have SA := Lib.hid (fun W => short_any sa.A sa.n sa.c hA.cap hA.big W)
  have SB := Lib.hid (fun W => short_any sb.A sb.n sb.c hB.cap hB.big W)
  have SC := Lib.hid (fun W => short_any sc.A sc.n sc.c hC.cap hC.big W)
  have SD := Lib.hid (fun W => short_any sd.A sd.n sd.c hD.cap hD.big W)
  have SE := Lib.hid (fun W => short_any se.A se.n se.c hEE.cap hEE.big W)
  have HS5 : Hid (IsInts w ⟨sa.A, cutN sa.n, sa.c⟩ (A.take (cutN sa.n)) ∧ IsInts w ⟨sb.A, cutN sb.n, sb.c⟩ (B.take (cutN sb.n)) ∧ IsInts w ⟨sc.A, cutN sc.n, sc.c⟩ (C.take (cutN sc.n)) ∧ IsInts w ⟨sd.A, cutN sd.n, sd.c⟩ (D.take (cutN sd.n)) ∧ IsInts w ⟨se.A, cutN se.n, se.c⟩ (E.take (cutN se.n))) := Lib.hid (by
    refine ⟨ns_cut hA _ (cutN_le _).1 ?_, ns_cut hB _ (cutN_le _).1 ?_, ns_cut hC _ (cutN_le _).1 ?_, ns_cut hD _ (cutN_le _).1 ?_, ns_cut hEE _ (cutN_le _).1 ?_⟩
    · have := (cutN_le sa.n).2; omega
    · have := (cutN_le sb.n).2; omega
    · have := (cutN_le sc.n).2; omega
    · have := (cutN_le sd.n).2; omega
    · have := (cutN_le se.n).2; omega)
  generalize cutN sa.n = ma at *
  generalize cutN sb.n = mb at *
  generalize cutN sc.n = mc at *
  generalize cutN sd.n = md at *
  generalize cutN se.n = me at *
  have HWB := Lib.hid hwb
  clear hwb ha hb hc ba bb bc hk hK hch hx hA hB hC hD hEE hbb e1 e2 e3 z1 hE
  go_enter Tryd.func3, Tryd.ntmps3
  go_upto_region 1 with fail
  rw [HWB.out]
  clear HWB
  have z0 := heap_cell HBX.out.1 (j := 0) rfl
  have z1 := heap_cell HBX.out.1 (j := 1) rfl
  have z2 := heap_cell HBX.out.1 (j := 2) rfl
  have z3 := heap_cell HBX.out.1 (j := 3) rfl
  have z4 := heap_cell HBX.out.1 (j := 4) rfl
  have z5 := heap_cell HBX.out.1 (j := 5) rfl
  go_wp2_with fail
  refine CM.out.mono ?_
  rintro e w2 ⟨⟨v, rfl, hv⟩, b2⟩
  have HV := Lib.hid hv
  have B2 := Lib.hid b2
  clear z0 z1 z2 z3 z4 z5 CM hv b2 hcut hm
  go_upto_region 4 with fail
  change Code.wp _ _ _ _ (w2.alloc (.cells (v.cells c.kind c.K) 30))
  obtain ⟨w3, hw3⟩ : ∃ w3, w2.alloc (.cells (v.cells c.kind c.K) 30) = w3 := ⟨_, rfl⟩
  have HC3 : Hid (w3.heap[w2.heap.size]? = some (.cells (v.cells c.kind c.K) 30 (0, 0))) := Lib.hid (hw3 ▸ heap_new w2 _)
  have B3 : Hid (Below w2.heap.size w2 w3) := Lib.hid (hw3 ▸ below1 w2 _)
  rw [hw3]
  have HR3 : Hid (w3.heap[w.heap.size + 1]? = some (.cells #[.int .i64 kd, .slice sa.A sa.n sa.c, .slice sb.A sb.n sb.c, .slice sc.A sc.n sc.c, .slice sd.A sd.n sd.c, .slice se.A se.n se.c, .int .i64 kk, .slice sr.A sr.n sr.c] 30 (0, 0))) := Lib.hid (by
    have h1 := (B2.out.block _ (Array.getElem?_eq_some_iff.1 HBX.out.2).1).trans HBX.out.2
    exact (B3.out.block _ (Array.getElem?_eq_some_iff.1 h1).1).trans h1)
  clear hw3
  have HSS : Hid (∀ W, Below w3.heap.size w3 W → W.cell? ⟨w.heap.size + 1, 0, none⟩ = some (.int .i64 kd) ∧ W.cell? ⟨w.heap.size + 1, 1, none⟩ = some (.slice sa.A sa.n sa.c) ∧ W.cell? ⟨w.heap.size + 1, 2, none⟩ = some (.slice sb.A sb.n sb.c) ∧ W.cell? ⟨w.heap.size + 1, 3, none⟩ = some (.slice sc.A sc.n sc.c) ∧ W.cell? ⟨w.heap.size + 1, 4, none⟩ = some (.slice sd.A sd.n sd.c) ∧ W.cell? ⟨w.heap.size + 1, 5, none⟩ = some (.slice se.A se.n se.c) ∧ W.cell? ⟨w.heap.size + 1, 6, none⟩ = some (.int .i64 kk)) := Lib.hid (fun W hW => by
    have h1 := (hW.block _ (Array.getElem?_eq_some_iff.1 HR3.out).1).trans HR3.out
    exact ⟨box_cell h1 rfl, box_cell h1 rfl, box_cell h1 rfl, box_cell h1 rfl, box_cell h1 rfl, box_cell h1 rfl, box_cell h1 rfl⟩)
  go_cut [9] (fun p wx => p = .pointer (some ⟨w3.heap.size, 0, none⟩) ∧ Hid (Below w3.heap.size w3 wx) ∧ Hid (wx.heap[w3.heap.size]? = some (.cells #[.int .i64 kd, .slice sa.A ma sa.c, .slice sb.A mb sb.c, .slice sc.A mc sc.c, .slice sd.A md sd.c, .slice se.A me se.c, .int .i64 kk, .slice none 0 0] 30 (0, 0))))
  case first =>
    have r := HSS.out _ ((Below.refl _ _).drew : Below w3.heap.size w3 w3.drew)
    have rA := fun o => HSS.out _ ((((Below.refl _ _).drew : Below w3.heap.size w3 w3.drew)).alloc (Nat.le_refl _) o)
    go_region_held3 (fun W => W.cell? ⟨w.heap.size + 1, 0, none⟩ = some (.int .i64 kd) ∧ W.cell? ⟨w.heap.size + 1, 1, none⟩ = some (.slice sa.A sa.n sa.c) ∧ W.cell? ⟨w.heap.size + 1, 2, none⟩ = some (.slice sb.A sb.n sb.c) ∧ W.cell? ⟨w.heap.size + 1, 3, none⟩ = some (.slice sc.A sc.n sc.c) ∧ W.cell? ⟨w.heap.size + 1, 4, none⟩ = some (.slice sd.A sd.n sd.c) ∧ W.cell? ⟨w.heap.size + 1, 5, none⟩ = some (.slice se.A se.n se.c) ∧ W.cell? ⟨w.heap.size + 1, 6, none⟩ = some (.int .i64 kk)) (first | exact r | exact rA _ | assumption)
      (first
        | (with_reducible refine (SA.out _).mono ?_; rintro e wA ⟨rfl, rfl⟩)
        | (with_reducible refine (SB.out _).mono ?_; rintro e wA ⟨rfl, rfl⟩)
        | (with_reducible refine (SC.out _).mono ?_; rintro e wA ⟨rfl, rfl⟩)
        | (with_reducible refine (SD.out _).mono ?_; rintro e wA ⟨rfl, rfl⟩)
        | (with_reducible refine (SE.out _).mono ?_; rintro e wA ⟨rfl, rfl⟩)
        | fail)
    all_goals
      clear r rA HSS
      go_wp2_with fail
      go_meet
      case rel => exact ⟨rfl, Lib.hid (by first | exact (below1 w3 _).drew | exact ((Below.refl _ _).drew.alloc (Nat.le_refl _) _)), Lib.hid (heap_new w3 _)⟩
  case rest =>
    obtain ⟨rfl, B4, HC4⟩ := hcut
    clear HSS HR3 SA SB SC SD SE
    obtain ⟨w4, rfl⟩ : ∃ w4, w4 = wc := ⟨_, rfl⟩
    have HC2 : Hid (w4.heap[w2.heap.size]? = some (.cells (v.cells c.kind c.K) 30 (0, 0))) := Lib.hid ((B4.out.block _ (Array.getElem?_eq_some_iff.1 HC3.out).1).trans HC3.out)
    have c0 := box_cell HC2.out (j := 0) (x := .int .i64 c.kind) rfl
    have c1 := box_cell HC2.out (j := 1) (x := .slice v.a.A v.a.n v.a.c) rfl
    have c2 := box_cell HC2.out (j := 2) (x := .slice v.b.A v.b.n v.b.c) rfl
    have c3 := box_cell HC2.out (j := 3) (x := .slice v.c.A v.c.n v.c.c) rfl
    have c4 := box_cell HC2.out (j := 4) (x := .slice v.d.A v.d.n v.d.c) rfl
    have c5 := box_cell HC2.out (j := 5) (x := .slice v.e.A v.e.n v.e.c) rfl
    have c6 := box_cell HC2.out (j := 6) (x := .int .i64 c.K) rfl
    have c7 := box_cell HC2.out (j := 7) (x := .slice v.r.A v.r.n v.r.c) rfl
    have d0 := box_cell HC4.out (j := 0) rfl
    have d1 := box_cell HC4.out (j := 1) rfl
    have d2 := box_cell HC4.out (j := 2) rfl
    have d3 := box_cell HC4.out (j := 3) rfl
    have d4 := box_cell HC4.out (j := 4) rfl
    have d5 := box_cell HC4.out (j := 5) rfl
    have d6 := box_cell HC4.out (j := 6) rfl
    have d7 := box_cell HC4.out (j := 7) rfl
    obtain ⟨wS, hwS⟩ : ∃ wS, w4.alloc (.cells (v.cells c.kind c.K ++ #[.int .i64 kd, .slice sa.A ma sa.c, .slice sb.A mb sb.c, .slice sc.A mc sc.c, .slice sd.A md sd.c, .slice se.A me se.c, .int .i64 kk, .slice none 0 0]) 30) = wS := ⟨_, rfl⟩
    have B5 : Hid (Below w.heap.size w wS) := Lib.hid (by
      rw [← hwS]
      exact ((HBB.out.trans (B2.out.mono HBB.out.size)).trans ((B3.out.mono (Nat.le_trans HBB.out.size B2.out.size)).trans ((B4.out.mono (Nat.le_trans (Nat.le_trans HBB.out.size B2.out.size) B3.out.size))))).alloc (by
        have h1 := HBB.out.size
        have h2 := B2.out.size
        have h3 := B3.out.size
        have h4 := B4.out.size
        omega) _)
    have HG : Hid (wS.heap[w4.heap.size]? = some (.cells (v.cells c.kind c.K ++ #[.int .i64 kd, .slice sa.A ma sa.c, .slice sb.A mb sb.c, .slice sc.A mc sc.c, .slice sd.A md sd.c, .slice se.A me se.c, .int .i64 kk, .slice none 0 0]) 30 (0, 0))) := Lib.hid (hwS ▸ heap_new w4 _)
    have HCS : Hid (∀ i, i < 2 → ∃ (cv : ConV) (cl : ConL), (∀ (j : Nat) (u : Value), (cv.cells cl.kind cl.K)[j]? = some u → wS.cell? ⟨w4.heap.size, i * 8 + j, none⟩ = some u) ∧ ConIn wS cv cl) := Lib.hid (fun i hi => by
      have b1 : Below wb.heap.size wb wS := by
        rw [← hwS]
        exact (B2.out.trans ((B3.out.mono B2.out.size).trans (B4.out.mono (Nat.le_trans B2.out.size B3.out.size)))).alloc (by
          have h2 := B2.out.size
          have h3 := B3.out.size
          have h4 := B4.out.size
          omega) _
      have b2 : Below w2.heap.size w2 wS := by
        rw [← hwS]
        exact (B3.out.trans (B4.out.mono B3.out.size)).alloc (by
          have h3 := B3.out.size
          have h4 := B4.out.size
          omega) _
      match i, hi with
      | 0, _ =>
        refine ⟨v, c, fun j u hj => ?_, HV.out.below b2⟩
        rw [Nat.zero_mul, Nat.zero_add]
        refine box_cell HG.out ?_
        have hj8 : j < 8 := by
          have := (Array.getElem?_eq_some_iff.1 hj).1
          simpa [ConV.cells] using this
        rw [Array.getElem?_append_left (by simpa [ConV.cells] using hj8)]
        exact hj
      | 1, _ =>
        refine ⟨⟨⟨sa.A, ma, sa.c⟩, ⟨sb.A, mb, sb.c⟩, ⟨sc.A, mc, sc.c⟩, ⟨sd.A, md, sd.c⟩, ⟨se.A, me, se.c⟩, ⟨none, 0, 0⟩⟩, ⟨kd, A.take ma, B.take mb, C.take mc, D.take md, E.take me, kk, []⟩, fun j u hj => ?_, ?_⟩
        · refine box_cell HG.out ?_
          rw [Array.getElem?_append_right (by simp [ConV.cells])]
          simpa [ConV.cells] using hj
        · obtain ⟨q1, q2, q3, q4, q5⟩ := HS5.out
          exact ⟨(q1.below B5.out), q2.below B5.out, q3.below B5.out, q4.below B5.out, q5.below B5.out, IsRows.nil _⟩)
    go_upto_region 6 with fail
    change Code.wp _ _ _ _ (w4.alloc (.cells (v.cells c.kind c.K ++ #[.int .i64 kd, .slice sa.A ma sa.c, .slice sb.A mb sb.c, .slice sc.A mc sc.c, .slice sd.A md sd.c, .slice se.A me se.c, .int .i64 kk, .slice none 0 0]) 30))
    rw [hwS]
    have HXS := Lib.hid (HXC.out.below B5.out)
    have HES := Lib.hid (HE0.out.below B5.out)
    obtain ⟨g, hg⟩ : ∃ g, g = w4.heap.size := ⟨_, rfl⟩
    have HGL : Hid (g < wS.heap.size) := Lib.hid (by rw [hg]; exact (Array.getElem?_eq_some_iff.1 HG.out).1)
    rw [← hg] at HCS ⊢
    clear c0 c1 c2 c3 c4 c5 c6 c7 d0 d1 d2 d3 d4 d5 d6 d7 hwS hg HG HC2 HC4 HC3 B4 B3 B2 HV HBX HXC HE0 HS5 HBB
    go_loopw [50] (fun i wr => ∃ k : Nat, i = .int .i64 (k : Nat) ∧ k ≤ 2 ∧ Hid (Below wS.heap.size wS wr)) (fun i _ => 2 - (intOf i).toNat)
    case atStart => exact ⟨0, rfl, by omega, Lib.hid (Below.refl _ _)⟩
    case round =>
      obtain ⟨k, rfl, hk, HB⟩ := hrel
      by_cases hlt : k < 2
      · obtain ⟨cv, cl, hcc, hin⟩ := HCS.out k hlt
        have HIN := Lib.hid (hin.below HB.out)
        have hgl : g < wr.heap.size := Nat.lt_of_lt_of_le HGL.out HB.out.size
        have x0 : wr.cell? ⟨g, k * 8, none⟩ = some (.int .i64 cl.kind) := (HB.out.cell (p := ⟨g, k * 8, none⟩) HGL.out).trans (hcc 0 _ rfl)
        have x1 : wr.cell? ⟨g, k * 8 + 1, none⟩ = some (.slice cv.a.A cv.a.n cv.a.c) := (HB.out.cell (p := ⟨g, k * 8 + 1, none⟩) HGL.out).trans (hcc 1 _ rfl)
        have x2 : wr.cell? ⟨g, k * 8 + 2, none⟩ = some (.slice cv.b.A cv.b.n cv.b.c) := (HB.out.cell (p := ⟨g, k * 8 + 2, none⟩) HGL.out).trans (hcc 2 _ rfl)
        have x3 : wr.cell? ⟨g, k * 8 + 3, none⟩ = some (.slice cv.c.A cv.c.n cv.c.c) := (HB.out.cell (p := ⟨g, k * 8 + 3, none⟩) HGL.out).trans (hcc 3 _ rfl)
        have x4 : wr.cell? ⟨g, k * 8 + 4, none⟩ = some (.slice cv.d.A cv.d.n cv.d.c) := (HB.out.cell (p := ⟨g, k * 8 + 4, none⟩) HGL.out).trans (hcc 4 _ rfl)
        have x5 : wr.cell? ⟨g, k * 8 + 5, none⟩ = some (.slice cv.e.A cv.e.n cv.e.c) := (HB.out.cell (p := ⟨g, k * 8 + 5, none⟩) HGL.out).trans (hcc 5 _ rfl)
        have x6 : wr.cell? ⟨g, k * 8 + 6, none⟩ = some (.int .i64 cl.K) := (HB.out.cell (p := ⟨g, k * 8 + 6, none⟩) HGL.out).trans (hcc 6 _ rfl)
        have x7 : wr.cell? ⟨g, k * 8 + 7, none⟩ = some (.slice cv.r.A cv.r.n cv.r.c) := (HB.out.cell (p := ⟨g, k * 8 + 7, none⟩) HGL.out).trans (hcc 7 _ rfl)
        clear hcc hin hgl
        go_upto_region 8 with fail
        change Code.wp _ _ _ _ (cBox wr cv cl.kind cl.K)
        obtain ⟨w7, hw7⟩ : ∃ w7, cBox wr cv cl.kind cl.K = w7 := ⟨_, rfl⟩
        have HK7 : Hid (w7.heap[wr.heap.size]? = some (.cells (cv.cells cl.kind cl.K) 30 (0, 0))) := Lib.hid (hw7 ▸ heap_new wr _)
        have B7 : Hid (Below wr.heap.size wr w7) := Lib.hid (hw7 ▸ below1 wr _)
        rw [hw7]
        clear hw7 x0 x1 x2 x3 x4 x5 x6 x7
        have HX7 := Lib.hid ((HXS.out.below HB.out).below B7.out)
        have CN5 := Lib.hid (near_any ⟨x.A, m8, x.c⟩ a8 5 w7 (ints_ns HX7.out) (by omega))
        have CN3 : Hid (∀ W, Below w7.heap.size w7 W → Calls Tryd.prog 7 #[.slice x.A m8 x.c, .int .i64 3] W fun e w' => (∃ y : Sl, e = .returned (.slice y.A y.n y.c) ∧ Row3 w' W.heap.size y (mkL (nearE a8) 3)) ∧ Below W.heap.size W w') := Lib.hid (fun W hW => near_any ⟨x.A, m8, x.c⟩ a8 3 W (ints_ns (HX7.out.below hW)) (by omega))
        go_wp2_with fail
        refine CN5.out.mono ?_
        rintro e w8 ⟨⟨y5, rfl, h5⟩, b8⟩
        have B8 := Lib.hid b8
        have H5 := Lib.hid (ints_own h5 (by rw [mkL_len]; omega))
        clear h5 b8 CN5
        go_wp2_with fail
        refine (CN3.out w8 B8.out).mono ?_
        rintro e w9 ⟨⟨y3, rfl, h3⟩, b9⟩
        have B9 := Lib.hid b9
        have H3 := Lib.hid (ints_own h3 (by rw [mkL_len]; omega))
        clear h3 b9 CN3
        obtain ⟨wI, hwI⟩ : ∃ wI, w9.alloc (.cells #[.slice y5.A y5.n y5.c, .slice x.A m8 x.c, .slice y3.A y3.n y3.c] 27) = wI := ⟨_, rfl⟩
        have HGI : Hid (wI.heap[w9.heap.size]? = some (.cells #[.slice y5.A y5.n y5.c, .slice x.A m8 x.c, .slice y3.A y3.n y3.c] 27 (0, 0))) := Lib.hid (hwI ▸ heap_new w9 _)
        have B9I : Hid (Below w9.heap.size w9 wI) := Lib.hid (hwI ▸ below1 w9 _)
        have B7I : Hid (Below w7.heap.size w7 wI) := Lib.hid (B8.out.trans ((B9.out.mono B8.out.size).trans (B9I.out.mono (Nat.le_trans B8.out.size B9.out.size))))
        have BSI : Hid (Below wS.heap.size wS wI) := Lib.hid (HB.out.trans ((B7.out.mono HB.out.size).trans (B7I.out.mono (Nat.le_trans HB.out.size B7.out.size))))
        have HVS : Hid (∀ i, i < 3 → ∃ (y : Sl) (l : List Int), wI.cell? ⟨w9.heap.size, i, none⟩ = some (.slice y.A y.n y.c) ∧ IsInts wI y l) := Lib.hid (fun i hi => by
          match i, hi with
          | 0, _ => exact ⟨y5, _, box_cell HGI.out rfl, (H5.out.below B9.out).below B9I.out⟩
          | 1, _ => exact ⟨⟨x.A, m8, x.c⟩, _, box_cell HGI.out rfl, HX7.out.below B7I.out⟩
          | 2, _ => exact ⟨y3, _, box_cell HGI.out rfl, H3.out.below B9I.out⟩)
        have HII := Lib.hid ((HIN.out.below B7.out).below B7I.out)
        have HEI := Lib.hid (HES.out.below BSI.out)
        have HKI : Hid (wI.heap[wr.heap.size]? = some (.cells (cv.cells cl.kind cl.K) 30 (0, 0))) := Lib.hid ((B7I.out.block _ (Array.getElem?_eq_some_iff.1 HK7.out).1).trans HK7.out)
        have HGL9 : Hid (w9.heap.size < wI.heap.size) := Lib.hid (Array.getElem?_eq_some_iff.1 HGI.out).1
        go_upto_region 9 with fail
        clear hwI HGI HK7 H5 H3 HX7 HIN B7I B9I B9 B8 B7
        obtain ⟨wo, rfl⟩ : ∃ wo, wo = wr := ⟨_, rfl⟩
        go_loopw [61] (fun i wr => ∃ j : Nat, i = .int .i64 (j : Nat) ∧ j ≤ 3 ∧ Hid (Below wI.heap.size wI wr)) (fun i _ => 3 - (intOf i).toNat)
        case atStart => exact ⟨0, rfl, by omega, Lib.hid (Below.refl _ _)⟩
        case round =>
          obtain ⟨j, rfl, hj, HB2⟩ := hrel
          by_cases hlj : j < 3
          · obtain ⟨y, l, hyc, hyl⟩ := HVS.out j hlj
            have y0 : wr.cell? ⟨w9.heap.size, j, none⟩ = some (.slice y.A y.n y.c) := (HB2.out.cell (p := ⟨w9.heap.size, j, none⟩) HGL9.out).trans hyc
            have hk2 : wr.heap[wo.heap.size]? = some (.cells (cv.cells cl.kind cl.K) 30 (0, 0)) := (HB2.out.block _ (Array.getElem?_eq_some_iff.1 HKI.out).1).trans HKI.out
            have c0 := cell_regrown (box_cell hk2 (j := 0) (x := .int .i64 cl.kind) rfl)
            have c1 := cell_regrown (box_cell hk2 (j := 1) (x := .slice cv.a.A cv.a.n cv.a.c) rfl)
            have c2 := cell_regrown (box_cell hk2 (j := 2) (x := .slice cv.b.A cv.b.n cv.b.c) rfl)
            have c3 := cell_regrown (box_cell hk2 (j := 3) (x := .slice cv.c.A cv.c.n cv.c.c) rfl)
            have c4 := cell_regrown (box_cell hk2 (j := 4) (x := .slice cv.d.A cv.d.n cv.d.c) rfl)
            have c5 := cell_regrown (box_cell hk2 (j := 5) (x := .slice cv.e.A cv.e.n cv.e.c) rfl)
            have c6 := cell_regrown (box_cell hk2 (j := 6) (x := .int .i64 cl.K) rfl)
            have c7 := cell_regrown (box_cell hk2 (j := 7) (x := .slice cv.r.A cv.r.n cv.r.c) rfl)
            have CH := Lib.hid (bo_regrown (w := wr) (fun W hW => gHolds_any cv cl y l W ((HEI.out.below HB2.out).below hW) ((HII.out.below HB2.out).below hW) ((hyl.below HB2.out).below hW)))
            have CA := Lib.hid (bo_regrown (w := wr) (fun W hW => rAny_any cv cl y l W ((HII.out.below HB2.out).below hW) ((hyl.below HB2.out).below hW)))
            generalize holdsE cl l = b at CH CA
            have hbb : (b != b) = false := by simp
            clear hyc hyl hk2
            go_upto_region 11 with fail
            refine wp_region_quiet_below (by kernel_rfl) (by kernel_rfl) ?_
            repeat (first | go_big_quiet_step (first | (go_at_call 8; with_reducible exact CH.out _ _) | (go_at_call 9; with_reducible exact CA.out _ _)) | quiet_step (fail))
            refine wpQuiet_nil ?_
            intro _ hw'
            obtain ⟨⟨dq, osq⟩, hw''⟩ := hw'
            subst hw''
            have HB3 : Hid (Below wI.heap.size wI (grow (redrawn wr dq) osq)) := Lib.hid (HB2.out.trans ((below_regrown wr dq osq).mono HB2.out.size))
            generalize grow (redrawn wr dq) osq = w10 at *
            clear c0 c1 c2 c3 c4 c5 c6 c7 CH CA y0
            go_wp2_with fail
            go_roundw
            case rel => exact ⟨j + 1, by go_num, by omega, HB3⟩
            case measure => simp [intOf]; omega
          · have BF : Hid (Below wS.heap.size wS wr) := Lib.hid (BSI.out.trans (HB2.out.mono BSI.out.size))
            clear HB2 HB
            go_wp2_with fail
            go_roundw
            case rel => exact ⟨k + 1, by go_num, by omega, BF⟩
            case measure => simp [intOf]; omega
      · have CW := Lib.hid (gwakes_any wr (HES.out.below HB.out))
        go_wp2_with fail
        refine CW.out.mono ?_
        rintro e w9 ⟨rfl, b9⟩
        have B9 := Lib.hid ((B5.out.trans (HB.out.mono B5.out.size)).trans (b9.mono (Nat.le_trans B5.out.size HB.out.size)))
        clear b9
        go_wp2_with fail
        go_ret
        exact ⟨rfl, B9.out⟩
end Go.Proofs.YtppiemgdjkehkaaDoor

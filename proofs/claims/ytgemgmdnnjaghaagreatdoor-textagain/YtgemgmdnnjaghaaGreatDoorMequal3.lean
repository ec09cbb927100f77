/- Contracts: rightGoal, Check. -/
import Derived.Test.YtgemgmdnnjaghaaGreatDoorMequal
import Derived.Test.YtgemgmdnnjaghaaGreatDoorMequal2
namespace Go.Proofs.YtgemgmdnnjaghaaGreatDoor
open Go.RowKit Go.Sort Go.Maps

theorem rightGoal_any (v : ModV) (m : ModL) (w : World) (hn : v.n.n = m.names.length) : Calls Tryz.prog 49 #[v.val m.goal m.obj] w fun e w' => e = .returned (.bool (goalB m)) ∧ Below w.heap.size w w' := by
  have HRES : Hid (goalB m = if m.goal == 0 then m.obj == 0 else if m.goal == 1 || m.goal == 2 then decide (0 ≤ m.obj) && decide (m.obj < ((m.names.length : Nat) : Int)) else false) := Lib.hid rfl
  rw [← hn] at HRES
  generalize goalB m = RES at HRES ⊢
  generalize m.goal = gl at *
  generalize m.obj = ob at *
  clear hn
  cases h0 : (gl == 0)
  · cases h1 : (gl == 1)
    · cases h2 : (gl == 2)
      · have HR : Hid (RES = false) := Lib.hid (by rw [HRES.out, h0, h1, h2]; rfl)
        clear HRES
        go_enter Tryz.func49, Tryz.ntmps49
        go_wp2_with fail
        go_ret
        exact ⟨ret_bool HR.out.symm, below1 _ _⟩
      · have HR : Hid (RES = (decide (0 ≤ ob) && decide (ob < ((v.n.n : Nat) : Int)))) := Lib.hid (by rw [HRES.out, h0, h1, h2]; rfl)
        clear HRES
        cases h3 : decide (0 ≤ ob)
        · go_enter Tryz.func49, Tryz.ntmps49
          go_wp2_with fail
          go_ret
          exact ⟨ret_bool (by rw [HR.out, h3]; rfl), below1 _ _⟩
        · go_enter Tryz.func49, Tryz.ntmps49
          go_wp2_with fail
          go_ret
          exact ⟨ret_bool (by rw [HR.out, h3]; rfl), below1 _ _⟩
    · have HR : Hid (RES = (decide (0 ≤ ob) && decide (ob < ((v.n.n : Nat) : Int)))) := Lib.hid (by rw [HRES.out, h0, h1]; rfl)
      clear HRES
      cases h3 : decide (0 ≤ ob)
      · go_enter Tryz.func49, Tryz.ntmps49
        go_wp2_with fail
        go_ret
        exact ⟨ret_bool (by rw [HR.out, h3]; rfl), below1 _ _⟩
      · go_enter Tryz.func49, Tryz.ntmps49
        go_wp2_with fail
        go_ret
        exact ⟨ret_bool (by rw [HR.out, h3]; rfl), below1 _ _⟩
  · have HR : Hid (RES = (ob == 0)) := Lib.hid (by rw [HRES.out, h0]; rfl)
    clear HRES
    go_enter Tryz.func49, Tryz.ntmps49
    go_wp2_with fail
    go_ret
    exact ⟨ret_bool HR.out.symm, below1 _ _⟩

theorem pair_eq {a b c d : Int} (h : (a, b) = (c, d)) : Ending.returned (.tuple #[.int .i64 c, .int .i64 d]) = Ending.returned (.tuple #[.int .i64 a, .int .i64 b]) := by
  injection h with h1 h2
  rw [h1, h2]

set_option maxHeartbeats 4000000 in
set_option maxRecDepth 100000 in
theorem check_any (v : ModV) (m : ModL) (w : World) (hE : EntIn w) (h : ModIn w v m) : Calls Tryz.prog 19 #[v.val m.goal m.obj] w fun e w' => e = .returned (.tuple #[.int .i64 (checkE m).1, .int .i64 (checkE m).2]) ∧ Below w.heap.size w w' := by
  have HM := Lib.hid h
  have HE := Lib.hid hE
  have hnb := h.n.big
  have hcb := h.c.big
  have CV : Hid (m.names.length = m.doms.length → m.names.length ≤ 256 → ∀ W, Below w.heap.size w W → Calls Tryz.prog 48 #[v.val m.goal m.obj] W fun e w' => e = .returned (.int .i64 (firstE (varE m) m.names.length)) ∧ Below W.heap.size W w') := Lib.hid (fun q1 q2 W hW => checkVars_any v m W (h.below hW) q1 q2)
  have CG := Lib.hid (fun W => rightGoal_any v m W h.n.len)
  have K1 := Lib.hid (checkE_len (m := m))
  have K2 := Lib.hid (checkE_many (m := m))
  have K3 := Lib.hid (checkE_var (m := m))
  have K4 := Lib.hid (fun k => checkE_con (m := m) (k := k))
  have K5 := Lib.hid (checkE_end (m := m))
  have HLN : Hid (m.names.length = v.n.n) := Lib.hid h.n.len.symm
  have HLD : Hid (m.doms.length = v.d.n) := Lib.hid h.d.len.symm
  have HLC : Hid (m.cons.length = v.c.n) := Lib.hid h.c.len.symm
  rw [HLN.out, HLD.out] at K1
  rw [HLN.out, HLD.out, HLC.out] at K2 K3 K5
  rw [HLN.out, HLD.out, HLC.out] at K4
  rw [HLN.out, HLD.out] at CV
  generalize checkE m = RES at K1 K2 K3 K4 K5 ⊢
  obtain ⟨R1, R2⟩ := RES
  generalize firstE (varE m) v.n.n = FE at K3 K4 K5 CV
  generalize goalB m = GB at K5 CG
  generalize m.goal = gl at *
  generalize m.obj = ob at *
  clear h hE
  simp only
  by_cases hnd : v.n.n = v.d.n
  · have hndb : (((v.n.n : Nat) : Int) != ((v.d.n : Nat) : Int)) = false := by simp [hnd]
    have HND := Lib.hid hnd
    clear hnd
    by_cases h256 : 256 < v.n.n
    · have HR2 := Lib.hid (K2.out HND.out (.inl h256))
      go_enter Tryz.func19, Tryz.ntmps19
      go_wp2_with fail
      exact bodyPost_ret (v := .tuple #[.int .i64 (-1), .int .i64 12]) (by simp [results, Tryz.results19, go_sem]) rfl ⟨pair_eq HR2.out, below1 _ _⟩
    · by_cases h1024 : 1024 < v.c.n
      · have HR2 := Lib.hid (K2.out HND.out (.inr h1024))
        go_enter Tryz.func19, Tryz.ntmps19
        go_wp2_with fail
        exact bodyPost_ret (v := .tuple #[.int .i64 (-1), .int .i64 12]) (by simp [results, Tryz.results19, go_sem]) rfl ⟨pair_eq HR2.out, below1 _ _⟩
      · have CV2 := Lib.hid (CV.out HND.out (by omega))
        have K3' := Lib.hid (K3.out HND.out (by omega) (by omega))
        have K4' := Lib.hid (fun k => K4.out k HND.out (by omega) (by omega))
        have K5' := Lib.hid (K5.out HND.out (by omega) (by omega))
        clear CV K1 K2 K3 K4 K5
        by_cases hfe : FE = 0
        · have hfeb : (FE != 0) = false := by simp [hfe]
          have K4f := Lib.hid (fun k => K4'.out k hfe)
          have K5f := Lib.hid (K5'.out hfe)
          clear K3' K4' K5' hfe
          go_enter Tryz.func19, Tryz.ntmps19
          go_wp2_with fail
          refine (CV2.out _ (below1 w _)).mono ?_
          rintro e w1 ⟨rfl, b1⟩
          have B1 : Hid (Below (w.heap.size + 1) (w.alloc (.cells (v.cells gl ob) 30)) w1) := Lib.hid (b1.mono (by simp))
          obtain ⟨c0, c1, c2, c3, c4⟩ := box5 B1.out
          clear b1 CV2
          go_wp2_with fail
          go_loopw [33] (fun i wr => ∃ k : Nat, i = .int .i64 (k : Nat) ∧ k ≤ v.c.n ∧ Hid (∀ j, j < k → conE m j = 0) ∧ Hid (Below (w.heap.size + 1) (w.alloc (.cells (v.cells gl ob) 30)) wr)) (fun i _ => v.c.n - (intOf i).toNat)
          case atStart => exact ⟨0, rfl, by omega, Lib.hid (fun j hj => absurd hj (by omega)), B1⟩
          case round =>
            obtain ⟨k, rfl, hk, H0, HB⟩ := hrel
            clear c0 c1 c2 c3 c4
            have hbw := of_boxed HB.out
            by_cases hlt : k < v.c.n
            · obtain ⟨g, o, hA, hg, hcl⟩ := HM.out.c.lies (by omega)
              obtain ⟨cv, hcc, hcin⟩ := hcl k hlt
              have HC8 : Hid (∀ j u, (cv.cells (m.cons.getD k noCon).kind (m.cons.getD k noCon).K)[j]? = some u → wr.cell? ⟨g, o + k * 8 + j, none⟩ = some u) := Lib.hid (fun j u e => (hbw.cell hg).trans (hcc j u e))
              have CR : Hid (∀ W, Below wr.heap.size wr W → Calls Tryz.prog 25 #[cv.val (m.cons.getD k noCon).kind (m.cons.getD k noCon).K, .int .i64 ((v.n.n : Nat) : Int)] W fun e w' => e = .returned (.int .i64 (conE m k)) ∧ Below W.heap.size W w') := Lib.hid (fun W hW => by
                have hw2 : Below w.heap.size w W := hbw.trans (hW.mono hbw.size)
                have := right_any cv (m.cons.getD k noCon) ((m.names.length : Nat) : Int) W (HE.out.below hw2) (hcin.below hw2)
                rw [HLN.out] at this
                unfold conE
                rw [HLN.out]
                exact this)
              have K4k := Lib.hid (K4f.out k hlt H0.out)
              have HN : Hid (conE m k = 0 → ∀ j, j < k + 1 → conE m j = 0) := Lib.hid (fun e j hj => by
                by_cases h : j < k
                · exact H0.out j h
                · obtain rfl : j = k := by omega
                  exact e)
              rw [hA]
              clear hcl hg hcc hcin hbw hA
              generalize (m.cons.getD k noCon).kind = kd at HC8 CR
              generalize (m.cons.getD k noCon).K = kk at HC8 CR
              generalize conE m k = E at CR K4k HN
              have x0 : wr.cell? ⟨g, o + k * 8, none⟩ = some (.int .i64 kd) := HC8.out 0 _ rfl
              have x1 : wr.cell? ⟨g, o + k * 8 + 1, none⟩ = some (.slice cv.a.A cv.a.n cv.a.c) := HC8.out 1 _ rfl
              have x2 : wr.cell? ⟨g, o + k * 8 + 2, none⟩ = some (.slice cv.b.A cv.b.n cv.b.c) := HC8.out 2 _ rfl
              have x3 : wr.cell? ⟨g, o + k * 8 + 3, none⟩ = some (.slice cv.c.A cv.c.n cv.c.c) := HC8.out 3 _ rfl
              have x4 : wr.cell? ⟨g, o + k * 8 + 4, none⟩ = some (.slice cv.d.A cv.d.n cv.d.c) := HC8.out 4 _ rfl
              have x5 : wr.cell? ⟨g, o + k * 8 + 5, none⟩ = some (.slice cv.e.A cv.e.n cv.e.c) := HC8.out 5 _ rfl
              have x6 : wr.cell? ⟨g, o + k * 8 + 6, none⟩ = some (.int .i64 kk) := HC8.out 6 _ rfl
              have x7 : wr.cell? ⟨g, o + k * 8 + 7, none⟩ = some (.slice cv.r.A cv.r.n cv.r.c) := HC8.out 7 _ rfl
              clear HC8
              have HBo : Hid (∀ o, Below (w.heap.size + 1) (w.alloc (.cells (v.cells gl ob) 30)) (wr.alloc o)) := Lib.hid (fun o => HB.out.alloc (by have := HB.out.size; simpa using this) o)
              have y0 : ∀ o, (wr.alloc o).cell? ⟨w.heap.size, 0, none⟩ = some (.slice v.n.A v.n.n v.n.c) := fun o => (box5 (HBo.out o)).1
              by_cases hE0 : E = 0
              · have hb : (E != 0) = false := by simp [hE0]
                have HN2 := Lib.hid (HN.out hE0)
                clear HN K4k hE0
                go_wp2_with fail
                refine (CR.out _ (below1 wr _)).mono ?_
                rintro e w2 ⟨rfl, b2⟩
                have B2 := Lib.hid ((HBo.out _).trans (b2.mono (by have := (HBo.out (.map #[] 0)).size; simpa using this)))
                clear b2
                go_wp2_with fail
                go_roundw
                case rel => exact ⟨k + 1, by go_num, by omega, HN2, B2⟩
                case measure => simp [intOf]; omega
              · have hb : (E != 0) = true := by simpa using hE0
                have HR := Lib.hid (K4k.out hE0)
                clear HN K4k hE0
                go_wp2_with fail
                refine (CR.out _ (below1 wr _)).mono ?_
                rintro e w2 ⟨rfl, b2⟩
                have B2 := Lib.hid ((HBo.out _).trans (b2.mono (by have := (HBo.out (.map #[] 0)).size; simpa using this)))
                clear b2
                go_wp2_with fail
                exact bodyPost_ret (v := .tuple #[.int .i64 ((k : Nat) : Int), .int .i64 E]) (by simp [results, Tryz.results19, go_sem]) rfl ⟨pair_eq HR.out, of_boxed B2.out⟩
            · have HR := Lib.hid (K5f.out (fun j hj => H0.out j (by omega)))
              obtain ⟨c0, c1, c2, c3, c4⟩ := box5 HB.out
              clear H0 hbw
              cases GB
              · go_wp2_with fail
                refine (CG.out _).mono ?_
                rintro e w2 ⟨rfl, b2⟩
                have B2 := Lib.hid ((of_boxed HB.out).trans (b2.mono (of_boxed HB.out).size))
                clear b2
                go_wp2_with fail
                exact bodyPost_ret (v := .tuple #[.int .i64 (-1), .int .i64 17]) (by simp [results, Tryz.results19, go_sem]) rfl ⟨pair_eq HR.out, B2.out⟩
              · go_wp2_with fail
                refine (CG.out _).mono ?_
                rintro e w2 ⟨rfl, b2⟩
                have B2 := Lib.hid ((of_boxed HB.out).trans (b2.mono (of_boxed HB.out).size))
                clear b2
                go_wp2_with fail
                exact bodyPost_ret (v := .tuple #[.int .i64 (-1), .int .i64 0]) (by simp [results, Tryz.results19, go_sem]) rfl ⟨pair_eq HR.out, B2.out⟩
        · have hfeb : (FE != 0) = true := by simpa using hfe
          have HR := Lib.hid (K3'.out hfe)
          clear K3' K4' K5' hfe
          go_enter Tryz.func19, Tryz.ntmps19
          go_wp2_with fail
          refine (CV2.out _ (below1 w _)).mono ?_
          rintro e w1 ⟨rfl, b1⟩
          have B1 : Hid (Below (w.heap.size + 1) (w.alloc (.cells (v.cells gl ob) 30)) w1) := Lib.hid (b1.mono (by simp))
          clear b1
          go_wp2_with fail
          exact bodyPost_ret (v := .tuple #[.int .i64 (-1), .int .i64 FE]) (by simp [results, Tryz.results19, go_sem]) rfl ⟨pair_eq HR.out, of_boxed B1.out⟩
  · have hndb : (((v.n.n : Nat) : Int) != ((v.d.n : Nat) : Int)) = true := by simp; omega
    have HR := Lib.hid (K1.out hnd)
    clear hnd
    go_enter Tryz.func19, Tryz.ntmps19
    go_wp2_with fail
    exact bodyPost_ret (v := .tuple #[.int .i64 (-1), .int .i64 2]) (by simp [results, Tryz.results19, go_sem]) rfl ⟨pair_eq HR.out, below1 _ _⟩
end Go.Proofs.YtgemgmdnnjaghaaGreatDoor

/- Contract: Equal. -/
namespace Go.Proofs.YtgemgmdnnjaghaaGreatDoor
open Go.RowKit Go.Sort Go.Maps

theorem boxes5 {w W : World} {x y : ModV} {g1 o1 g2 o2 : Int} {t : TypeId} (h : Below (w.heap.size + 2) ((w.alloc (.cells (x.cells g1 o1) t)).alloc (.cells (y.cells g2 o2) t)) W) :
    (W.cell? ⟨w.heap.size, 0, none⟩ = some (.slice x.n.A x.n.n x.n.c) ∧ W.cell? ⟨w.heap.size, 1, none⟩ = some (.slice x.d.A x.d.n x.d.c) ∧ W.cell? ⟨w.heap.size, 2, none⟩ = some (.slice x.c.A x.c.n x.c.c) ∧ W.cell? ⟨w.heap.size, 3, none⟩ = some (.int .i64 g1) ∧ W.cell? ⟨w.heap.size, 4, none⟩ = some (.int .i64 o1)) ∧
    (W.cell? ⟨w.heap.size + 1, 0, none⟩ = some (.slice y.n.A y.n.n y.n.c) ∧ W.cell? ⟨w.heap.size + 1, 1, none⟩ = some (.slice y.d.A y.d.n y.d.c) ∧ W.cell? ⟨w.heap.size + 1, 2, none⟩ = some (.slice y.c.A y.c.n y.c.c) ∧ W.cell? ⟨w.heap.size + 1, 3, none⟩ = some (.int .i64 g2) ∧ W.cell? ⟨w.heap.size + 1, 4, none⟩ = some (.int .i64 o2)) := by
  refine ⟨⟨?_, ?_, ?_, ?_, ?_⟩, ⟨?_, ?_, ?_, ?_, ?_⟩⟩ <;> rw [h.cell (by simp)] <;> simp

/-- Are two models the same? -/
def eqMod (a b : ModL) : Bool := a.goal == b.goal && a.obj == b.obj && a.names == b.names && a.doms == b.doms && eqCons a.cons b.cons
theorem eqMod_iff (a b : ModL) : eqMod a b = true ↔ a = b := by
  obtain ⟨n1, d1, c1, g1, o1⟩ := a
  obtain ⟨n2, d2, c2, g2, o2⟩ := b
  simp only [eqMod, Bool.and_eq_true, beq_iff_eq, eqCons_iff, ModL.mk.injEq]
  constructor
  · rintro ⟨⟨⟨⟨h1, h2⟩, h3⟩, h4⟩, h5⟩
    exact ⟨h3, h4, h5, h1, h2⟩
  · rintro ⟨h3, h4, h5, h1, h2⟩
    exact ⟨⟨⟨⟨h1, h2⟩, h3⟩, h4⟩, h5⟩

set_option maxHeartbeats 8000000 in
set_option maxRecDepth 100000 in
theorem equal_any (x y : ModV) (a b : ModL) (w : World) (hx : ModIn w x a) (hy : ModIn w y b) : Calls Tryz.prog 16 #[x.val a.goal a.obj, y.val b.goal b.obj] w fun e w' => e = .returned (.bool (eqMod a b)) ∧ Below w.heap.size w w' := by
  have CN : Hid (∀ W, Below w.heap.size w W → Calls Tryz.prog 40 #[.slice x.n.A x.n.n x.n.c, .slice y.n.A y.n.n y.n.c] W fun e w' => e = .returned (.bool (a.names == b.names)) ∧ Below W.heap.size W w') := Lib.hid (fun W hW => equal_strs x.n y.n a.names b.names W (hx.n.below hW) (hy.n.below hW))
  have CD : Hid (∀ W, Below w.heap.size w W → Calls Tryz.prog 41 #[.slice x.d.A x.d.n x.d.c, .slice y.d.A y.d.n y.d.c] W fun e w' => e = .returned (.bool (a.doms == b.doms)) ∧ Below W.heap.size W w') := Lib.hid (fun W hW => equalLists_any x.d y.d a.doms b.doms W (hx.d.below hW) (hy.d.below hW))
  have CC : Hid (∀ W, Below w.heap.size w W → Calls Tryz.prog 42 #[.slice x.c.A x.c.n x.c.c, .slice y.c.A y.c.n y.c.c, .func (.func 43) #[] #[]] W fun e w' => e = .returned (.bool (eqCons a.cons b.cons)) ∧ Below W.heap.size W w') := Lib.hid (fun W hW => equal_cons x.c y.c a.cons b.cons W (hx.c.below hW) (hy.c.below hW))
  have HRES : Hid (eqMod a b = (a.goal == b.goal && a.obj == b.obj && a.names == b.names && a.doms == b.doms && eqCons a.cons b.cons)) := Lib.hid rfl
  generalize eqMod a b = RES at HRES ⊢
  generalize (a.names == b.names) = tN at HRES CN
  generalize (a.doms == b.doms) = tD at HRES CD
  generalize eqCons a.cons b.cons = tC at HRES CC
  generalize a.goal = g1 at *
  generalize b.goal = g2 at *
  generalize a.obj = o1 at *
  generalize b.obj = o2 at *
  clear hx hy
  cases h1 : (g1 == g2)
  · go_enter Tryz.func16, Tryz.ntmps16
    go_wp2_with fail
    go_ret
    exact ⟨ret_bool (by rw [HRES.out, h1]; first | rfl | trivial | simp), (below1 w _).trans ((below1 _ _).mono (by simp))⟩
  · cases h2 : (o1 == o2)
    · go_enter Tryz.func16, Tryz.ntmps16
      go_wp2_with fail
      go_ret
      exact ⟨ret_bool (by rw [HRES.out, h1, h2]; first | rfl | trivial | simp), (below1 w _).trans ((below1 _ _).mono (by simp))⟩
    · cases tN
      · go_enter Tryz.func16, Tryz.ntmps16
        go_wp2_with fail
        refine (CN.out _ ((below1 w _).trans ((below1 _ _).mono (by simp)))).mono ?_
        rintro e w1 ⟨rfl, b1⟩
        have Bw1 : Hid (Below (w.heap.size + 2) ((w.alloc (.cells (x.cells g1 o1) 30)).alloc (.cells (y.cells g2 o2) 30)) w1) := Lib.hid (b1.mono (by simp))
        clear b1
        obtain ⟨⟨c0, c1, c2, c3, c4⟩, ⟨d0, d1, d2, d3, d4⟩⟩ := boxes5 Bw1.out
        go_wp2_with fail
        go_ret
        exact ⟨ret_bool (by rw [HRES.out, h1, h2]; first | rfl | trivial | simp), of_boxes Bw1.out⟩
      · cases tD
        · go_enter Tryz.func16, Tryz.ntmps16
          go_wp2_with fail
          refine (CN.out _ ((below1 w _).trans ((below1 _ _).mono (by simp)))).mono ?_
          rintro e w1 ⟨rfl, b1⟩
          have Bw1 : Hid (Below (w.heap.size + 2) ((w.alloc (.cells (x.cells g1 o1) 30)).alloc (.cells (y.cells g2 o2) 30)) w1) := Lib.hid (b1.mono (by simp))
          clear b1
          obtain ⟨⟨c0, c1, c2, c3, c4⟩, ⟨d0, d1, d2, d3, d4⟩⟩ := boxes5 Bw1.out
          go_wp2_with fail
          refine (CD.out _ (of_boxes Bw1.out)).mono ?_
          rintro e w2 ⟨rfl, b1⟩
          have Bw2 : Hid (Below (w.heap.size + 2) ((w.alloc (.cells (x.cells g1 o1) 30)).alloc (.cells (y.cells g2 o2) 30)) w2) := Lib.hid (Bw1.out.trans (b1.mono (by have := Bw1.out.size; simpa using this)))
          clear b1 c0 c1 c2 c3 c4 d0 d1 d2 d3 d4
          obtain ⟨⟨c0, c1, c2, c3, c4⟩, ⟨d0, d1, d2, d3, d4⟩⟩ := boxes5 Bw2.out
          go_wp2_with fail
          go_ret
          exact ⟨ret_bool (by rw [HRES.out, h1, h2]; first | rfl | trivial | simp), of_boxes Bw2.out⟩
        · cases tC
          · go_enter Tryz.func16, Tryz.ntmps16
            go_wp2_with fail
            refine (CN.out _ ((below1 w _).trans ((below1 _ _).mono (by simp)))).mono ?_
            rintro e w1 ⟨rfl, b1⟩
            have Bw1 : Hid (Below (w.heap.size + 2) ((w.alloc (.cells (x.cells g1 o1) 30)).alloc (.cells (y.cells g2 o2) 30)) w1) := Lib.hid (b1.mono (by simp))
            clear b1
            obtain ⟨⟨c0, c1, c2, c3, c4⟩, ⟨d0, d1, d2, d3, d4⟩⟩ := boxes5 Bw1.out
            go_wp2_with fail
            refine (CD.out _ (of_boxes Bw1.out)).mono ?_
            rintro e w2 ⟨rfl, b1⟩
            have Bw2 : Hid (Below (w.heap.size + 2) ((w.alloc (.cells (x.cells g1 o1) 30)).alloc (.cells (y.cells g2 o2) 30)) w2) := Lib.hid (Bw1.out.trans (b1.mono (by have := Bw1.out.size; simpa using this)))
            clear b1 c0 c1 c2 c3 c4 d0 d1 d2 d3 d4
            obtain ⟨⟨c0, c1, c2, c3, c4⟩, ⟨d0, d1, d2, d3, d4⟩⟩ := boxes5 Bw2.out
            go_wp2_with fail
            refine (CC.out _ (of_boxes Bw2.out)).mono ?_
            rintro e w3 ⟨rfl, b1⟩
            have Bw3 : Hid (Below (w.heap.size + 2) ((w.alloc (.cells (x.cells g1 o1) 30)).alloc (.cells (y.cells g2 o2) 30)) w3) := Lib.hid (Bw2.out.trans (b1.mono (by have := Bw2.out.size; simpa using this)))
            clear b1 c0 c1 c2 c3 c4 d0 d1 d2 d3 d4
            obtain ⟨⟨c0, c1, c2, c3, c4⟩, ⟨d0, d1, d2, d3, d4⟩⟩ := boxes5 Bw3.out
            go_wp2_with fail
            go_ret
            exact ⟨ret_bool (by rw [HRES.out, h1, h2]; first | rfl | trivial | simp), of_boxes Bw3.out⟩
          · go_enter Tryz.func16, Tryz.ntmps16
            go_wp2_with fail
            refine (CN.out _ ((below1 w _).trans ((below1 _ _).mono (by simp)))).mono ?_
            rintro e w1 ⟨rfl, b1⟩
            have Bw1 : Hid (Below (w.heap.size + 2) ((w.alloc (.cells (x.cells g1 o1) 30)).alloc (.cells (y.cells g2 o2) 30)) w1) := Lib.hid (b1.mono (by simp))
            clear b1
            obtain ⟨⟨c0, c1, c2, c3, c4⟩, ⟨d0, d1, d2, d3, d4⟩⟩ := boxes5 Bw1.out
            go_wp2_with fail
            refine (CD.out _ (of_boxes Bw1.out)).mono ?_
            rintro e w2 ⟨rfl, b1⟩
            have Bw2 : Hid (Below (w.heap.size + 2) ((w.alloc (.cells (x.cells g1 o1) 30)).alloc (.cells (y.cells g2 o2) 30)) w2) := Lib.hid (Bw1.out.trans (b1.mono (by have := Bw1.out.size; simpa using this)))
            clear b1 c0 c1 c2 c3 c4 d0 d1 d2 d3 d4
            obtain ⟨⟨c0, c1, c2, c3, c4⟩, ⟨d0, d1, d2, d3, d4⟩⟩ := boxes5 Bw2.out
            go_wp2_with fail
            refine (CC.out _ (of_boxes Bw2.out)).mono ?_
            rintro e w3 ⟨rfl, b1⟩
            have Bw3 : Hid (Below (w.heap.size + 2) ((w.alloc (.cells (x.cells g1 o1) 30)).alloc (.cells (y.cells g2 o2) 30)) w3) := Lib.hid (Bw2.out.trans (b1.mono (by have := Bw2.out.size; simpa using this)))
            clear b1 c0 c1 c2 c3 c4 d0 d1 d2 d3 d4
            obtain ⟨⟨c0, c1, c2, c3, c4⟩, ⟨d0, d1, d2, d3, d4⟩⟩ := boxes5 Bw3.out
            go_wp2_with fail
            go_ret
            exact ⟨ret_bool (by rw [HRES.out, h1, h2]; first | rfl | trivial | simp), of_boxes Bw3.out⟩
end Go.Proofs.YtgemgmdnnjaghaaGreatDoor

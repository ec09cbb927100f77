/- Contract: rightSizes. -/
import Derived.Test.YtkhmocbfkpbpfaaGreatDoorMsize
import Derived.Lib.QuietBelow
namespace Go.Proofs.YtkhmocbfkpbpfaaGreatDoor
open Go.RowKit Go.Sort

/-- Is all there that a constraint must have, and nothing else? -/
def sizesB (c : ConL) (sh : ByteArray) : Bool := inS (sizeA c sh) (c.A.length : Int) && inS (sizeB c sh) (c.B.length : Int) && inS (sizeC c sh) (c.C.length : Int) && inS (sizeL c sh 100) (c.D.length : Int) && inS (sizeL c sh 101) (c.E.length : Int) && rowsB c sh && (c.K == 0 || hasC sh 107)

theorem sz_regrown {f : Nat} {args : Array Value} {w : World} {s : Int × Int} (h : ∀ W, Calls Tryz.prog f args W (GivesSz W s)) : ∀ d os, Calls Tryz.prog f args (grow (redrawn w d) os) fun e w'' => e = .returned (.agg #[.int .i64 s.1, .int .i64 s.2]) ∧ ∃ p : Regrown, w'' = grow (redrawn w p.d) p.os := fun _ _ => Calls.regrown_of (h _)
theorem bo_regrown {f : Nat} {args : Array Value} {w : World} {b : Bool} (h : ∀ W, Below w.heap.size w W → Calls Tryz.prog f args W fun e w' => e = .returned (.bool b) ∧ Below W.heap.size W w') : ∀ d os, Calls Tryz.prog f args (grow (redrawn w d) os) fun e w'' => e = .returned (.bool b) ∧ ∃ p : Regrown, w'' = grow (redrawn w p.d) p.os := fun d os => Calls.regrown_of (h _ (below_regrown _ d os))

/-- The boxed constraint, in every world that grows out of this one. -/
structure ConBox (w : World) (g : Nat) (v : ConV) (kd kk : Int) : Prop where
  c0 : ∀ d os, (grow (redrawn w d) os).cell? ⟨g, 0, none⟩ = some (.int .i64 kd)
  c1 : ∀ d os, (grow (redrawn w d) os).cell? ⟨g, 1, none⟩ = some (.slice v.a.A v.a.n v.a.c)
  c2 : ∀ d os, (grow (redrawn w d) os).cell? ⟨g, 2, none⟩ = some (.slice v.b.A v.b.n v.b.c)
  c3 : ∀ d os, (grow (redrawn w d) os).cell? ⟨g, 3, none⟩ = some (.slice v.c.A v.c.n v.c.c)
  c4 : ∀ d os, (grow (redrawn w d) os).cell? ⟨g, 4, none⟩ = some (.slice v.d.A v.d.n v.d.c)
  c5 : ∀ d os, (grow (redrawn w d) os).cell? ⟨g, 5, none⟩ = some (.slice v.e.A v.e.n v.e.c)
  c6 : ∀ d os, (grow (redrawn w d) os).cell? ⟨g, 6, none⟩ = some (.int .i64 kk)
  c7 : ∀ d os, (grow (redrawn w d) os).cell? ⟨g, 7, none⟩ = some (.slice v.r.A v.r.n v.r.c)
theorem ConBox.new (w : World) (v : ConV) (kd kk : Int) (t : TypeId) : ConBox (w.alloc (.cells (v.cells kd kk) t)) w.heap.size v kd kk :=
  ⟨cell_regrown (by simp), cell_regrown (by simp), cell_regrown (by simp), cell_regrown (by simp), cell_regrown (by simp), cell_regrown (by simp), cell_regrown (by simp), cell_regrown (by simp)⟩

set_option maxHeartbeats 16000000 in
set_option maxRecDepth 100000 in
theorem rightSizes_any (v : ConV) (c : ConL) (sh : ByteArray) (w : World) (h : ConIn w v c) : Calls Tryz.prog 168 #[v.val c.kind c.K, .string sh] w fun e w' => e = .returned (.bool (sizesB c sh)) ∧ Below w.heap.size w w' := by
  obtain ⟨wb, hwb⟩ : ∃ wb, w.alloc (.cells (v.cells c.kind c.K) 32) = wb := ⟨_, rfl⟩
  have hbb : Below w.heap.size w wb := hwb ▸ below1 w _
  obtain ⟨b0, b1, b2, b3, b4, b5, b6, b7⟩ : ConBox wb w.heap.size v c.kind c.K := hwb ▸ ConBox.new w v c.kind c.K _
  have CA := Lib.hid (sz_regrown (w := wb) (fun W => sizeOfA_any v c sh W))
  have CB := Lib.hid (sz_regrown (w := wb) (fun W => sizeOfB_any v c sh W h.a.len h.a.big))
  have CC := Lib.hid (sz_regrown (w := wb) (fun W => sizeOfC_any v c sh W h.a.len))
  have CD := Lib.hid (sz_regrown (w := wb) (fun W => sizeLikeC_any v c sh 100 W h.c.len))
  have CE := Lib.hid (sz_regrown (w := wb) (fun W => sizeLikeC_any v c sh 101 W h.c.len))
  have CR := Lib.hid (bo_regrown (w := wb) (fun W hW => rightRows_any v c sh W (h.below (hbb.trans (hW.mono hbb.size)))))
  have CK := Lib.hid (bo_regrown (w := wb) (fun W _ => (contains_one sh 107 W).mono fun _ _ q => ⟨q.1, q.2 ▸ Below.refl _ _⟩))
  have HA := Lib.hid (bo_regrown (w := wb) (fun W _ => has_any (sizeA c sh) ((v.a.n : Nat) : Int) W))
  have HB := Lib.hid (bo_regrown (w := wb) (fun W _ => has_any (sizeB c sh) ((v.b.n : Nat) : Int) W))
  have HC := Lib.hid (bo_regrown (w := wb) (fun W _ => has_any (sizeC c sh) ((v.c.n : Nat) : Int) W))
  have HD := Lib.hid (bo_regrown (w := wb) (fun W _ => has_any (sizeL c sh 100) ((v.d.n : Nat) : Int) W))
  have HE := Lib.hid (bo_regrown (w := wb) (fun W _ => has_any (sizeL c sh 101) ((v.e.n : Nat) : Int) W))
  unfold sizesB
  rw [← h.a.len, ← h.b.len, ← h.c.len, ← h.d.len, ← h.e.len]
  generalize inS (sizeA c sh) ((v.a.n : Nat) : Int) = tA at HA ⊢
  generalize inS (sizeB c sh) ((v.b.n : Nat) : Int) = tB at HB ⊢
  generalize inS (sizeC c sh) ((v.c.n : Nat) : Int) = tC at HC ⊢
  generalize inS (sizeL c sh 100) ((v.d.n : Nat) : Int) = tD at HD ⊢
  generalize inS (sizeL c sh 101) ((v.e.n : Nat) : Int) = tE at HE ⊢
  generalize rowsB c sh = tR at CR ⊢
  generalize hasC sh 107 = tK at CK ⊢
  generalize sizeA c sh = sA at CA HA
  generalize sizeB c sh = sB at CB HB
  generalize sizeC c sh = sC at CC HC
  generalize sizeL c sh 100 = sD at CD HD
  generalize sizeL c sh 101 = sE at CE HE
  obtain ⟨sA1, sA2⟩ := sA
  obtain ⟨sB1, sB2⟩ := sB
  obtain ⟨sC1, sC2⟩ := sC
  obtain ⟨sD1, sD2⟩ := sD
  obtain ⟨sE1, sE2⟩ := sE
  simp only at CA CB CC CD CE HA HB HC HD HE
  have HBB := Lib.hid hbb
  have HWB := Lib.hid hwb
  clear hbb hwb h
  generalize c.kind = kd at *
  generalize hk0 : (c.K == 0) = tZ
  generalize c.K = kk at *
  cases tA
  · go_enter Tryz.func168, Tryz.ntmps168
    go_wp2_with fail
    change Code.wp _ _ _ _ (w.alloc (.cells (v.cells kd kk) 32))
    rw [HWB.out]
    refine wp_region_quiet_below (by kernel_rfl) (by kernel_rfl) ?_
    repeat (first | go_big_quiet_step (first | (go_at_call 220; with_reducible exact CA.out _ _) | (go_at_call 222; with_reducible exact CB.out _ _) | (go_at_call 223; with_reducible exact CC.out _ _) | (go_at_call 224; with_reducible exact CD.out _ _) | (go_at_call 224; with_reducible exact CE.out _ _) | (go_at_call 225; with_reducible exact CR.out _ _) | (go_at_call 226; with_reducible exact CK.out _ _) | (go_at_call 221; with_reducible exact HA.out _ _) | (go_at_call 221; with_reducible exact HB.out _ _) | (go_at_call 221; with_reducible exact HC.out _ _) | (go_at_call 221; with_reducible exact HD.out _ _) | (go_at_call 221; with_reducible exact HE.out _ _)) | quiet_step (first | (go_at_call 220; with_reducible exact CA.out _ _) | (go_at_call 222; with_reducible exact CB.out _ _) | (go_at_call 223; with_reducible exact CC.out _ _) | (go_at_call 224; with_reducible exact CD.out _ _) | (go_at_call 224; with_reducible exact CE.out _ _) | (go_at_call 225; with_reducible exact CR.out _ _) | (go_at_call 226; with_reducible exact CK.out _ _) | (go_at_call 221; with_reducible exact HA.out _ _) | (go_at_call 221; with_reducible exact HB.out _ _) | (go_at_call 221; with_reducible exact HC.out _ _) | (go_at_call 221; with_reducible exact HD.out _ _) | (go_at_call 221; with_reducible exact HE.out _ _)))
    refine wpQuiet_nil ?_
    intro _ hw'
    obtain ⟨⟨dq, osq⟩, hw''⟩ := hw'
    subst hw''
    have HN5 := Lib.hid (HBB.out.trans ((below_regrown wb dq osq).mono HBB.out.size))
    generalize grow (redrawn wb dq) osq = W6 at *
    go_wp2_with fail
    go_ret
    exact ⟨ret_bool (by simp), HN5.out⟩
  · skip
    cases tB
    · go_enter Tryz.func168, Tryz.ntmps168
      go_wp2_with fail
      change Code.wp _ _ _ _ (w.alloc (.cells (v.cells kd kk) 32))
      rw [HWB.out]
      refine wp_region_quiet_below (by kernel_rfl) (by kernel_rfl) ?_
      repeat (first | go_big_quiet_step (first | (go_at_call 220; with_reducible exact CA.out _ _) | (go_at_call 222; with_reducible exact CB.out _ _) | (go_at_call 223; with_reducible exact CC.out _ _) | (go_at_call 224; with_reducible exact CD.out _ _) | (go_at_call 224; with_reducible exact CE.out _ _) | (go_at_call 225; with_reducible exact CR.out _ _) | (go_at_call 226; with_reducible exact CK.out _ _) | (go_at_call 221; with_reducible exact HA.out _ _) | (go_at_call 221; with_reducible exact HB.out _ _) | (go_at_call 221; with_reducible exact HC.out _ _) | (go_at_call 221; with_reducible exact HD.out _ _) | (go_at_call 221; with_reducible exact HE.out _ _)) | quiet_step (first | (go_at_call 220; with_reducible exact CA.out _ _) | (go_at_call 222; with_reducible exact CB.out _ _) | (go_at_call 223; with_reducible exact CC.out _ _) | (go_at_call 224; with_reducible exact CD.out _ _) | (go_at_call 224; with_reducible exact CE.out _ _) | (go_at_call 225; with_reducible exact CR.out _ _) | (go_at_call 226; with_reducible exact CK.out _ _) | (go_at_call 221; with_reducible exact HA.out _ _) | (go_at_call 221; with_reducible exact HB.out _ _) | (go_at_call 221; with_reducible exact HC.out _ _) | (go_at_call 221; with_reducible exact HD.out _ _) | (go_at_call 221; with_reducible exact HE.out _ _)))
      refine wpQuiet_nil ?_
      intro _ hw'
      obtain ⟨⟨dq, osq⟩, hw''⟩ := hw'
      subst hw''
      have HN5 := Lib.hid (HBB.out.trans ((below_regrown wb dq osq).mono HBB.out.size))
      generalize grow (redrawn wb dq) osq = W6 at *
      go_wp2_with fail
      go_ret
      exact ⟨ret_bool (by simp), HN5.out⟩
    · skip
      cases tC
      · go_enter Tryz.func168, Tryz.ntmps168
        go_wp2_with fail
        change Code.wp _ _ _ _ (w.alloc (.cells (v.cells kd kk) 32))
        rw [HWB.out]
        refine wp_region_quiet_below (by kernel_rfl) (by kernel_rfl) ?_
        repeat (first | go_big_quiet_step (first | (go_at_call 220; with_reducible exact CA.out _ _) | (go_at_call 222; with_reducible exact CB.out _ _) | (go_at_call 223; with_reducible exact CC.out _ _) | (go_at_call 224; with_reducible exact CD.out _ _) | (go_at_call 224; with_reducible exact CE.out _ _) | (go_at_call 225; with_reducible exact CR.out _ _) | (go_at_call 226; with_reducible exact CK.out _ _) | (go_at_call 221; with_reducible exact HA.out _ _) | (go_at_call 221; with_reducible exact HB.out _ _) | (go_at_call 221; with_reducible exact HC.out _ _) | (go_at_call 221; with_reducible exact HD.out _ _) | (go_at_call 221; with_reducible exact HE.out _ _)) | quiet_step (first | (go_at_call 220; with_reducible exact CA.out _ _) | (go_at_call 222; with_reducible exact CB.out _ _) | (go_at_call 223; with_reducible exact CC.out _ _) | (go_at_call 224; with_reducible exact CD.out _ _) | (go_at_call 224; with_reducible exact CE.out _ _) | (go_at_call 225; with_reducible exact CR.out _ _) | (go_at_call 226; with_reducible exact CK.out _ _) | (go_at_call 221; with_reducible exact HA.out _ _) | (go_at_call 221; with_reducible exact HB.out _ _) | (go_at_call 221; with_reducible exact HC.out _ _) | (go_at_call 221; with_reducible exact HD.out _ _) | (go_at_call 221; with_reducible exact HE.out _ _)))
        refine wpQuiet_nil ?_
        intro _ hw'
        obtain ⟨⟨dq, osq⟩, hw''⟩ := hw'
        subst hw''
        have HN5 := Lib.hid (HBB.out.trans ((below_regrown wb dq osq).mono HBB.out.size))
        generalize grow (redrawn wb dq) osq = W6 at *
        go_wp2_with fail
        go_ret
        exact ⟨ret_bool (by simp), HN5.out⟩
      · skip
        cases tD
        · go_enter Tryz.func168, Tryz.ntmps168
          go_wp2_with fail
          change Code.wp _ _ _ _ (w.alloc (.cells (v.cells kd kk) 32))
          rw [HWB.out]
          refine wp_region_quiet_below (by kernel_rfl) (by kernel_rfl) ?_
          repeat (first | go_big_quiet_step (first | (go_at_call 220; with_reducible exact CA.out _ _) | (go_at_call 222; with_reducible exact CB.out _ _) | (go_at_call 223; with_reducible exact CC.out _ _) | (go_at_call 224; with_reducible exact CD.out _ _) | (go_at_call 224; with_reducible exact CE.out _ _) | (go_at_call 225; with_reducible exact CR.out _ _) | (go_at_call 226; with_reducible exact CK.out _ _) | (go_at_call 221; with_reducible exact HA.out _ _) | (go_at_call 221; with_reducible exact HB.out _ _) | (go_at_call 221; with_reducible exact HC.out _ _) | (go_at_call 221; with_reducible exact HD.out _ _) | (go_at_call 221; with_reducible exact HE.out _ _)) | quiet_step (first | (go_at_call 220; with_reducible exact CA.out _ _) | (go_at_call 222; with_reducible exact CB.out _ _) | (go_at_call 223; with_reducible exact CC.out _ _) | (go_at_call 224; with_reducible exact CD.out _ _) | (go_at_call 224; with_reducible exact CE.out _ _) | (go_at_call 225; with_reducible exact CR.out _ _) | (go_at_call 226; with_reducible exact CK.out _ _) | (go_at_call 221; with_reducible exact HA.out _ _) | (go_at_call 221; with_reducible exact HB.out _ _) | (go_at_call 221; with_reducible exact HC.out _ _) | (go_at_call 221; with_reducible exact HD.out _ _) | (go_at_call 221; with_reducible exact HE.out _ _)))
          refine wpQuiet_nil ?_
          intro _ hw'
          obtain ⟨⟨dq, osq⟩, hw''⟩ := hw'
          subst hw''
          have HN5 := Lib.hid (HBB.out.trans ((below_regrown wb dq osq).mono HBB.out.size))
          generalize grow (redrawn wb dq) osq = W6 at *
          go_wp2_with fail
          go_ret
          exact ⟨ret_bool (by simp), HN5.out⟩
        · skip
          cases tE
          · go_enter Tryz.func168, Tryz.ntmps168
            go_wp2_with fail
            change Code.wp _ _ _ _ (w.alloc (.cells (v.cells kd kk) 32))
            rw [HWB.out]
            refine wp_region_quiet_below (by kernel_rfl) (by kernel_rfl) ?_
            repeat (first | go_big_quiet_step (first | (go_at_call 220; with_reducible exact CA.out _ _) | (go_at_call 222; with_reducible exact CB.out _ _) | (go_at_call 223; with_reducible exact CC.out _ _) | (go_at_call 224; with_reducible exact CD.out _ _) | (go_at_call 224; with_reducible exact CE.out _ _) | (go_at_call 225; with_reducible exact CR.out _ _) | (go_at_call 226; with_reducible exact CK.out _ _) | (go_at_call 221; with_reducible exact HA.out _ _) | (go_at_call 221; with_reducible exact HB.out _ _) | (go_at_call 221; with_reducible exact HC.out _ _) | (go_at_call 221; with_reducible exact HD.out _ _) | (go_at_call 221; with_reducible exact HE.out _ _)) | quiet_step (first | (go_at_call 220; with_reducible exact CA.out _ _) | (go_at_call 222; with_reducible exact CB.out _ _) | (go_at_call 223; with_reducible exact CC.out _ _) | (go_at_call 224; with_reducible exact CD.out _ _) | (go_at_call 224; with_reducible exact CE.out _ _) | (go_at_call 225; with_reducible exact CR.out _ _) | (go_at_call 226; with_reducible exact CK.out _ _) | (go_at_call 221; with_reducible exact HA.out _ _) | (go_at_call 221; with_reducible exact HB.out _ _) | (go_at_call 221; with_reducible exact HC.out _ _) | (go_at_call 221; with_reducible exact HD.out _ _) | (go_at_call 221; with_reducible exact HE.out _ _)))
            refine wpQuiet_nil ?_
            intro _ hw'
            obtain ⟨⟨dq, osq⟩, hw''⟩ := hw'
            subst hw''
            have HN5 := Lib.hid (HBB.out.trans ((below_regrown wb dq osq).mono HBB.out.size))
            generalize grow (redrawn wb dq) osq = W6 at *
            go_wp2_with fail
            go_ret
            exact ⟨ret_bool (by simp), HN5.out⟩
          · skip
            cases tR
            · go_enter Tryz.func168, Tryz.ntmps168
              go_wp2_with fail
              change Code.wp _ _ _ _ (w.alloc (.cells (v.cells kd kk) 32))
              rw [HWB.out]
              refine wp_region_quiet_below (by kernel_rfl) (by kernel_rfl) ?_
              repeat (first | go_big_quiet_step (first | (go_at_call 220; with_reducible exact CA.out _ _) | (go_at_call 222; with_reducible exact CB.out _ _) | (go_at_call 223; with_reducible exact CC.out _ _) | (go_at_call 224; with_reducible exact CD.out _ _) | (go_at_call 224; with_reducible exact CE.out _ _) | (go_at_call 225; with_reducible exact CR.out _ _) | (go_at_call 226; with_reducible exact CK.out _ _) | (go_at_call 221; with_reducible exact HA.out _ _) | (go_at_call 221; with_reducible exact HB.out _ _) | (go_at_call 221; with_reducible exact HC.out _ _) | (go_at_call 221; with_reducible exact HD.out _ _) | (go_at_call 221; with_reducible exact HE.out _ _)) | quiet_step (first | (go_at_call 220; with_reducible exact CA.out _ _) | (go_at_call 222; with_reducible exact CB.out _ _) | (go_at_call 223; with_reducible exact CC.out _ _) | (go_at_call 224; with_reducible exact CD.out _ _) | (go_at_call 224; with_reducible exact CE.out _ _) | (go_at_call 225; with_reducible exact CR.out _ _) | (go_at_call 226; with_reducible exact CK.out _ _) | (go_at_call 221; with_reducible exact HA.out _ _) | (go_at_call 221; with_reducible exact HB.out _ _) | (go_at_call 221; with_reducible exact HC.out _ _) | (go_at_call 221; with_reducible exact HD.out _ _) | (go_at_call 221; with_reducible exact HE.out _ _)))
              refine wpQuiet_nil ?_
              intro _ hw'
              obtain ⟨⟨dq, osq⟩, hw''⟩ := hw'
              subst hw''
              have HN5 := Lib.hid (HBB.out.trans ((below_regrown wb dq osq).mono HBB.out.size))
              generalize grow (redrawn wb dq) osq = W6 at *
              go_wp2_with fail
              go_ret
              exact ⟨ret_bool (by simp), HN5.out⟩
            · skip
              cases tZ
              · cases tK
                · go_enter Tryz.func168, Tryz.ntmps168
                  go_wp2_with fail
                  change Code.wp _ _ _ _ (w.alloc (.cells (v.cells kd kk) 32))
                  rw [HWB.out]
                  refine wp_region_quiet_below (by kernel_rfl) (by kernel_rfl) ?_
                  repeat (first | go_big_quiet_step (first | (go_at_call 220; with_reducible exact CA.out _ _) | (go_at_call 222; with_reducible exact CB.out _ _) | (go_at_call 223; with_reducible exact CC.out _ _) | (go_at_call 224; with_reducible exact CD.out _ _) | (go_at_call 224; with_reducible exact CE.out _ _) | (go_at_call 225; with_reducible exact CR.out _ _) | (go_at_call 226; with_reducible exact CK.out _ _) | (go_at_call 221; with_reducible exact HA.out _ _) | (go_at_call 221; with_reducible exact HB.out _ _) | (go_at_call 221; with_reducible exact HC.out _ _) | (go_at_call 221; with_reducible exact HD.out _ _) | (go_at_call 221; with_reducible exact HE.out _ _)) | quiet_step (first | (go_at_call 220; with_reducible exact CA.out _ _) | (go_at_call 222; with_reducible exact CB.out _ _) | (go_at_call 223; with_reducible exact CC.out _ _) | (go_at_call 224; with_reducible exact CD.out _ _) | (go_at_call 224; with_reducible exact CE.out _ _) | (go_at_call 225; with_reducible exact CR.out _ _) | (go_at_call 226; with_reducible exact CK.out _ _) | (go_at_call 221; with_reducible exact HA.out _ _) | (go_at_call 221; with_reducible exact HB.out _ _) | (go_at_call 221; with_reducible exact HC.out _ _) | (go_at_call 221; with_reducible exact HD.out _ _) | (go_at_call 221; with_reducible exact HE.out _ _)))
                  refine wpQuiet_nil ?_
                  intro _ hw'
                  obtain ⟨⟨dq, osq⟩, hw''⟩ := hw'
                  subst hw''
                  have HN5 := Lib.hid (HBB.out.trans ((below_regrown wb dq osq).mono HBB.out.size))
                  generalize grow (redrawn wb dq) osq = W6 at *
                  go_wp2_with fail
                  go_ret
                  exact ⟨ret_bool (by simp), HN5.out⟩
                · go_enter Tryz.func168, Tryz.ntmps168
                  go_wp2_with fail
                  change Code.wp _ _ _ _ (w.alloc (.cells (v.cells kd kk) 32))
                  rw [HWB.out]
                  refine wp_region_quiet_below (by kernel_rfl) (by kernel_rfl) ?_
                  repeat (first | go_big_quiet_step (first | (go_at_call 220; with_reducible exact CA.out _ _) | (go_at_call 222; with_reducible exact CB.out _ _) | (go_at_call 223; with_reducible exact CC.out _ _) | (go_at_call 224; with_reducible exact CD.out _ _) | (go_at_call 224; with_reducible exact CE.out _ _) | (go_at_call 225; with_reducible exact CR.out _ _) | (go_at_call 226; with_reducible exact CK.out _ _) | (go_at_call 221; with_reducible exact HA.out _ _) | (go_at_call 221; with_reducible exact HB.out _ _) | (go_at_call 221; with_reducible exact HC.out _ _) | (go_at_call 221; with_reducible exact HD.out _ _) | (go_at_call 221; with_reducible exact HE.out _ _)) | quiet_step (first | (go_at_call 220; with_reducible exact CA.out _ _) | (go_at_call 222; with_reducible exact CB.out _ _) | (go_at_call 223; with_reducible exact CC.out _ _) | (go_at_call 224; with_reducible exact CD.out _ _) | (go_at_call 224; with_reducible exact CE.out _ _) | (go_at_call 225; with_reducible exact CR.out _ _) | (go_at_call 226; with_reducible exact CK.out _ _) | (go_at_call 221; with_reducible exact HA.out _ _) | (go_at_call 221; with_reducible exact HB.out _ _) | (go_at_call 221; with_reducible exact HC.out _ _) | (go_at_call 221; with_reducible exact HD.out _ _) | (go_at_call 221; with_reducible exact HE.out _ _)))
                  refine wpQuiet_nil ?_
                  intro _ hw'
                  obtain ⟨⟨dq, osq⟩, hw''⟩ := hw'
                  subst hw''
                  have HN5 := Lib.hid (HBB.out.trans ((below_regrown wb dq osq).mono HBB.out.size))
                  generalize grow (redrawn wb dq) osq = W6 at *
                  go_wp2_with fail
                  go_ret
                  exact ⟨ret_bool (by simp), HN5.out⟩
              · go_enter Tryz.func168, Tryz.ntmps168
                go_wp2_with fail
                change Code.wp _ _ _ _ (w.alloc (.cells (v.cells kd kk) 32))
                rw [HWB.out]
                refine wp_region_quiet_below (by kernel_rfl) (by kernel_rfl) ?_
                repeat (first | go_big_quiet_step (first | (go_at_call 220; with_reducible exact CA.out _ _) | (go_at_call 222; with_reducible exact CB.out _ _) | (go_at_call 223; with_reducible exact CC.out _ _) | (go_at_call 224; with_reducible exact CD.out _ _) | (go_at_call 224; with_reducible exact CE.out _ _) | (go_at_call 225; with_reducible exact CR.out _ _) | (go_at_call 226; with_reducible exact CK.out _ _) | (go_at_call 221; with_reducible exact HA.out _ _) | (go_at_call 221; with_reducible exact HB.out _ _) | (go_at_call 221; with_reducible exact HC.out _ _) | (go_at_call 221; with_reducible exact HD.out _ _) | (go_at_call 221; with_reducible exact HE.out _ _)) | quiet_step (first | (go_at_call 220; with_reducible exact CA.out _ _) | (go_at_call 222; with_reducible exact CB.out _ _) | (go_at_call 223; with_reducible exact CC.out _ _) | (go_at_call 224; with_reducible exact CD.out _ _) | (go_at_call 224; with_reducible exact CE.out _ _) | (go_at_call 225; with_reducible exact CR.out _ _) | (go_at_call 226; with_reducible exact CK.out _ _) | (go_at_call 221; with_reducible exact HA.out _ _) | (go_at_call 221; with_reducible exact HB.out _ _) | (go_at_call 221; with_reducible exact HC.out _ _) | (go_at_call 221; with_reducible exact HD.out _ _) | (go_at_call 221; with_reducible exact HE.out _ _)))
                refine wpQuiet_nil ?_
                intro _ hw'
                obtain ⟨⟨dq, osq⟩, hw''⟩ := hw'
                subst hw''
                have HN5 := Lib.hid (HBB.out.trans ((below_regrown wb dq osq).mono HBB.out.size))
                generalize grow (redrawn wb dq) osq = W6 at *
                go_wp2_with fail
                go_ret
                exact ⟨ret_bool (by simp), HN5.out⟩
end Go.Proofs.YtkhmocbfkpbpfaaGreatDoor

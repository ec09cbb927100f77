/- Contract: Right. -/
import Derived.Test.YtppiemgdjkehkaaDoorMnum
namespace Go.Proofs.YtppiemgdjkehkaaDoor
open Go.RowKit Go.Sort

/-- What Right tells. -/
def rightE (c : ConL) (vars : Int) : Int :=
  if (foundF (kindP c.kind)).2 = false then 9
  else if sizesB c ⟨(foundF (kindP c.kind)).1.shape.toArray⟩ = false then 10
  else if (c.A.any (outV vars) || c.B.any (outV vars)) = true then 7
  else if numsB c = false then 11 else 0

theorem found21 : (foundF (kindP 21)).1.shape = [86, 99, 100, 101] := by kernel_rfl
theorem sizes21 {c : ConL} (h : c.kind = 21) (hs : sizesB c ⟨(foundF (kindP c.kind)).1.shape.toArray⟩ = true) : c.D.length = c.C.length ∧ c.E.length = c.C.length := by
  rw [h, found21] at hs
  unfold sizesB at hs
  have h100 : hasC ⟨([86, 99, 100, 101] : Bs).toArray⟩ 100 = true := by kernel_rfl
  have h101 : hasC ⟨([86, 99, 100, 101] : Bs).toArray⟩ 101 = true := by kernel_rfl
  unfold sizeL at hs
  rw [h100, h101] at hs
  simp only [Bool.and_eq_true, inS, if_true, decide_eq_true_eq] at hs
  omega

theorem box8o {w W : World} {v : ConV} {kd kk : Int} {t : TypeId} (h : Below (w.heap.size + 1) (w.alloc (.cells (v.cells kd kk) t)) W) :
    (∀ o, (W.alloc o).cell? ⟨w.heap.size, 0, none⟩ = some (.int .i64 kd)) ∧ (∀ o, (W.alloc o).cell? ⟨w.heap.size, 1, none⟩ = some (.slice v.a.A v.a.n v.a.c)) ∧ (∀ o, (W.alloc o).cell? ⟨w.heap.size, 2, none⟩ = some (.slice v.b.A v.b.n v.b.c)) ∧ (∀ o, (W.alloc o).cell? ⟨w.heap.size, 3, none⟩ = some (.slice v.c.A v.c.n v.c.c)) ∧ (∀ o, (W.alloc o).cell? ⟨w.heap.size, 4, none⟩ = some (.slice v.d.A v.d.n v.d.c)) ∧ (∀ o, (W.alloc o).cell? ⟨w.heap.size, 5, none⟩ = some (.slice v.e.A v.e.n v.e.c)) ∧ (∀ o, (W.alloc o).cell? ⟨w.heap.size, 6, none⟩ = some (.int .i64 kk)) ∧ (∀ o, (W.alloc o).cell? ⟨w.heap.size, 7, none⟩ = some (.slice v.r.A v.r.n v.r.c)) := by
  have hs : (w.alloc (.cells (v.cells kd kk) t)).heap.size ≤ W.heap.size := h.size
  have hs' : w.heap.size + 1 ≤ W.heap.size := by simpa using hs
  have q : ∀ o, Below (w.heap.size + 1) (w.alloc (.cells (v.cells kd kk) t)) (W.alloc o) := fun o => h.alloc hs' o
  refine ⟨fun o => ?_, fun o => ?_, fun o => ?_, fun o => ?_, fun o => ?_, fun o => ?_, fun o => ?_, fun o => ?_⟩ <;> rw [(q o).cell (by simp)] <;> simp

set_option maxHeartbeats 8000000 in
set_option maxRecDepth 100000 in
theorem right_any (v : ConV) (c : ConL) (vars : Int) (w : World) (hE : EntIn w) (h : ConIn w v c) : Calls Tryd.prog 26 #[v.val c.kind c.K, .int .i64 vars] w fun e w' => e = .returned (.int .i64 (rightE c vars)) ∧ Below w.heap.size w w' := by
  have C0 : Hid (∀ o, Calls Tryd.prog 41 #[.int .i64 c.kind] (w.alloc o) fun e w' => e = .returned (.tuple #[(foundF (kindP c.kind)).1.val, .bool (foundF (kindP c.kind)).2]) ∧ Below (w.alloc o).heap.size (w.alloc o) w') := Lib.hid (fun o => entryOf_any c.kind _ (hE.below (below1 w o)))
  have C1 : Hid (∀ W, Below w.heap.size w W → Calls Tryd.prog 42 #[v.val c.kind c.K, .string ⟨(foundF (kindP c.kind)).1.shape.toArray⟩] W fun e w' => e = .returned (.bool (sizesB c ⟨(foundF (kindP c.kind)).1.shape.toArray⟩)) ∧ Below W.heap.size W w') := Lib.hid (fun W hW => rightSizes_any v c _ W (h.below hW))
  have C2 : Hid (∀ W, Below w.heap.size w W → Calls Tryd.prog 43 #[.slice v.a.A v.a.n v.a.c, .int .i64 vars] W fun e w' => e = .returned (.bool (!c.A.any (outV vars))) ∧ Below W.heap.size W w') := Lib.hid (fun W hW => places_any v.a c.A vars W (h.a.below hW))
  have C3 : Hid (∀ W, Below w.heap.size w W → Calls Tryd.prog 43 #[.slice v.b.A v.b.n v.b.c, .int .i64 vars] W fun e w' => e = .returned (.bool (!c.B.any (outV vars))) ∧ Below W.heap.size W w') := Lib.hid (fun W hW => places_any v.b c.B vars W (h.b.below hW))
  have C4 : Hid (sizesB c ⟨(foundF (kindP c.kind)).1.shape.toArray⟩ = true → ∀ W, Below w.heap.size w W → Calls Tryd.prog 44 #[v.val c.kind c.K] W fun e w' => e = .returned (.bool (numsB c)) ∧ Below W.heap.size W w') := Lib.hid (fun q W hW => rightNumbers_any v c W (h.below hW) (fun e => sizes21 e q))
  unfold rightE
  generalize foundF (kindP c.kind) = fd at C0 C1 C4 ⊢
  obtain ⟨en, ok⟩ := fd
  unfold Ent.val at C0
  simp only at C0 C1 C4 ⊢
  generalize sizesB c ⟨en.shape.toArray⟩ = t1 at C1 C4 ⊢
  generalize c.A.any (outV vars) = t2 at C2 ⊢
  generalize c.B.any (outV vars) = t3 at C3 ⊢
  generalize numsB c = t4 at C4 ⊢
  generalize c.kind = kd at *
  generalize c.K = kk at *
  clear h hE
  cases ok
  · go_enter Tryd.func26, Tryd.ntmps26
    go_wp2_with fail
    refine (C0.out _).mono ?_
    rintro e w1 ⟨rfl, b1⟩
    have B1 := Lib.hid ((below1 w _).trans (b1.mono (by simp)))
    clear b1
    go_wp2_with fail
    go_ret
    exact ⟨rfl, B1.out.alloc B1.out.size _⟩
  · cases t1
    · go_enter Tryd.func26, Tryd.ntmps26
      go_wp2_with fail
      refine (C0.out _).mono ?_
      rintro e w1 ⟨rfl, b1⟩
      have B0 : Hid (Below (w.heap.size + 1) (w.alloc (.cells (v.cells kd kk) 30)) w1) := Lib.hid (b1.mono (by simp))
      have B1 : Hid (∀ o, Below (w.heap.size + 1) (w.alloc (.cells (v.cells kd kk) 30)) (w1.alloc o)) := Lib.hid (fun o => B0.out.alloc (by have := B0.out.size; simpa using this) _)
      obtain ⟨c0, c1, c2, c3, c4, c5, c6, c7⟩ := box8o B0.out
      clear b1
      go_wp2_with fail
      refine (C1.out _ (of_boxed (B1.out _))).mono ?_
      rintro e w2 ⟨rfl, b1⟩
      have B2 : Hid (Below (w.heap.size + 1) (w.alloc (.cells (v.cells kd kk) 30)) w2) := Lib.hid ((B1.out _).trans (b1.mono (by have := (B1.out (.cells #[.int .i64 ((en.k : Nat) : Int), .string ⟨en.word.toArray⟩, .string ⟨en.shape.toArray⟩] 62)).size; simpa using this)))
      clear b1 c0 c1 c2 c3 c4 c5 c6 c7
      obtain ⟨c0, c1, c2, c3, c4, c5, c6, c7⟩ := box8 B2.out
      go_wp2_with fail
      go_ret
      exact ⟨rfl, of_boxed B2.out⟩
    · have C4' := Lib.hid (C4.out rfl)
      clear C4
      cases t2
      · cases t3
        · cases t4
          · go_enter Tryd.func26, Tryd.ntmps26
            go_wp2_with fail
            refine (C0.out _).mono ?_
            rintro e w1 ⟨rfl, b1⟩
            have B0 : Hid (Below (w.heap.size + 1) (w.alloc (.cells (v.cells kd kk) 30)) w1) := Lib.hid (b1.mono (by simp))
            have B1 : Hid (∀ o, Below (w.heap.size + 1) (w.alloc (.cells (v.cells kd kk) 30)) (w1.alloc o)) := Lib.hid (fun o => B0.out.alloc (by have := B0.out.size; simpa using this) _)
            obtain ⟨c0, c1, c2, c3, c4, c5, c6, c7⟩ := box8o B0.out
            clear b1
            go_wp2_with fail
            refine (C1.out _ (of_boxed (B1.out _))).mono ?_
            rintro e w2 ⟨rfl, b1⟩
            have B2 : Hid (Below (w.heap.size + 1) (w.alloc (.cells (v.cells kd kk) 30)) w2) := Lib.hid ((B1.out _).trans (b1.mono (by have := (B1.out (.cells #[.int .i64 ((en.k : Nat) : Int), .string ⟨en.word.toArray⟩, .string ⟨en.shape.toArray⟩] 62)).size; simpa using this)))
            clear b1 c0 c1 c2 c3 c4 c5 c6 c7
            obtain ⟨c0, c1, c2, c3, c4, c5, c6, c7⟩ := box8 B2.out
            go_wp2_with fail
            refine (C2.out _ (of_boxed B2.out)).mono ?_
            rintro e w3 ⟨rfl, b1⟩
            have B3 : Hid (Below (w.heap.size + 1) (w.alloc (.cells (v.cells kd kk) 30)) w3) := Lib.hid (B2.out.trans (b1.mono (by have := B2.out.size; simpa using this)))
            clear b1 c0 c1 c2 c3 c4 c5 c6 c7
            obtain ⟨c0, c1, c2, c3, c4, c5, c6, c7⟩ := box8 B3.out
            go_wp2_with fail
            refine (C3.out _ (of_boxed B3.out)).mono ?_
            rintro e w4 ⟨rfl, b1⟩
            have B4 : Hid (Below (w.heap.size + 1) (w.alloc (.cells (v.cells kd kk) 30)) w4) := Lib.hid (B3.out.trans (b1.mono (by have := B3.out.size; simpa using this)))
            clear b1 c0 c1 c2 c3 c4 c5 c6 c7
            obtain ⟨c0, c1, c2, c3, c4, c5, c6, c7⟩ := box8 B4.out
            go_wp2_with fail
            refine (C4'.out _ (of_boxed B4.out)).mono ?_
            rintro e w5 ⟨rfl, b1⟩
            have B5 : Hid (Below (w.heap.size + 1) (w.alloc (.cells (v.cells kd kk) 30)) w5) := Lib.hid (B4.out.trans (b1.mono (by have := B4.out.size; simpa using this)))
            clear b1 c0 c1 c2 c3 c4 c5 c6 c7
            obtain ⟨c0, c1, c2, c3, c4, c5, c6, c7⟩ := box8 B5.out
            go_wp2_with fail
            go_ret
            exact ⟨rfl, of_boxed B5.out⟩
          · go_enter Tryd.func26, Tryd.ntmps26
            go_wp2_with fail
            refine (C0.out _).mono ?_
            rintro e w1 ⟨rfl, b1⟩
            have B0 : Hid (Below (w.heap.size + 1) (w.alloc (.cells (v.cells kd kk) 30)) w1) := Lib.hid (b1.mono (by simp))
            have B1 : Hid (∀ o, Below (w.heap.size + 1) (w.alloc (.cells (v.cells kd kk) 30)) (w1.alloc o)) := Lib.hid (fun o => B0.out.alloc (by have := B0.out.size; simpa using this) _)
            obtain ⟨c0, c1, c2, c3, c4, c5, c6, c7⟩ := box8o B0.out
            clear b1
            go_wp2_with fail
            refine (C1.out _ (of_boxed (B1.out _))).mono ?_
            rintro e w2 ⟨rfl, b1⟩
            have B2 : Hid (Below (w.heap.size + 1) (w.alloc (.cells (v.cells kd kk) 30)) w2) := Lib.hid ((B1.out _).trans (b1.mono (by have := (B1.out (.cells #[.int .i64 ((en.k : Nat) : Int), .string ⟨en.word.toArray⟩, .string ⟨en.shape.toArray⟩] 62)).size; simpa using this)))
            clear b1 c0 c1 c2 c3 c4 c5 c6 c7
            obtain ⟨c0, c1, c2, c3, c4, c5, c6, c7⟩ := box8 B2.out
            go_wp2_with fail
            refine (C2.out _ (of_boxed B2.out)).mono ?_
            rintro e w3 ⟨rfl, b1⟩
            have B3 : Hid (Below (w.heap.size + 1) (w.alloc (.cells (v.cells kd kk) 30)) w3) := Lib.hid (B2.out.trans (b1.mono (by have := B2.out.size; simpa using this)))
            clear b1 c0 c1 c2 c3 c4 c5 c6 c7
            obtain ⟨c0, c1, c2, c3, c4, c5, c6, c7⟩ := box8 B3.out
            go_wp2_with fail
            refine (C3.out _ (of_boxed B3.out)).mono ?_
            rintro e w4 ⟨rfl, b1⟩
            have B4 : Hid (Below (w.heap.size + 1) (w.alloc (.cells (v.cells kd kk) 30)) w4) := Lib.hid (B3.out.trans (b1.mono (by have := B3.out.size; simpa using this)))
            clear b1 c0 c1 c2 c3 c4 c5 c6 c7
            obtain ⟨c0, c1, c2, c3, c4, c5, c6, c7⟩ := box8 B4.out
            go_wp2_with fail
            refine (C4'.out _ (of_boxed B4.out)).mono ?_
            rintro e w5 ⟨rfl, b1⟩
            have B5 : Hid (Below (w.heap.size + 1) (w.alloc (.cells (v.cells kd kk) 30)) w5) := Lib.hid (B4.out.trans (b1.mono (by have := B4.out.size; simpa using this)))
            clear b1 c0 c1 c2 c3 c4 c5 c6 c7
            obtain ⟨c0, c1, c2, c3, c4, c5, c6, c7⟩ := box8 B5.out
            go_wp2_with fail
            go_ret
            exact ⟨rfl, of_boxed B5.out⟩
        · go_enter Tryd.func26, Tryd.ntmps26
          go_wp2_with fail
          refine (C0.out _).mono ?_
          rintro e w1 ⟨rfl, b1⟩
          have B0 : Hid (Below (w.heap.size + 1) (w.alloc (.cells (v.cells kd kk) 30)) w1) := Lib.hid (b1.mono (by simp))
          have B1 : Hid (∀ o, Below (w.heap.size + 1) (w.alloc (.cells (v.cells kd kk) 30)) (w1.alloc o)) := Lib.hid (fun o => B0.out.alloc (by have := B0.out.size; simpa using this) _)
          obtain ⟨c0, c1, c2, c3, c4, c5, c6, c7⟩ := box8o B0.out
          clear b1
          go_wp2_with fail
          refine (C1.out _ (of_boxed (B1.out _))).mono ?_
          rintro e w2 ⟨rfl, b1⟩
          have B2 : Hid (Below (w.heap.size + 1) (w.alloc (.cells (v.cells kd kk) 30)) w2) := Lib.hid ((B1.out _).trans (b1.mono (by have := (B1.out (.cells #[.int .i64 ((en.k : Nat) : Int), .string ⟨en.word.toArray⟩, .string ⟨en.shape.toArray⟩] 62)).size; simpa using this)))
          clear b1 c0 c1 c2 c3 c4 c5 c6 c7
          obtain ⟨c0, c1, c2, c3, c4, c5, c6, c7⟩ := box8 B2.out
          go_wp2_with fail
          refine (C2.out _ (of_boxed B2.out)).mono ?_
          rintro e w3 ⟨rfl, b1⟩
          have B3 : Hid (Below (w.heap.size + 1) (w.alloc (.cells (v.cells kd kk) 30)) w3) := Lib.hid (B2.out.trans (b1.mono (by have := B2.out.size; simpa using this)))
          clear b1 c0 c1 c2 c3 c4 c5 c6 c7
          obtain ⟨c0, c1, c2, c3, c4, c5, c6, c7⟩ := box8 B3.out
          go_wp2_with fail
          refine (C3.out _ (of_boxed B3.out)).mono ?_
          rintro e w4 ⟨rfl, b1⟩
          have B4 : Hid (Below (w.heap.size + 1) (w.alloc (.cells (v.cells kd kk) 30)) w4) := Lib.hid (B3.out.trans (b1.mono (by have := B3.out.size; simpa using this)))
          clear b1 c0 c1 c2 c3 c4 c5 c6 c7
          obtain ⟨c0, c1, c2, c3, c4, c5, c6, c7⟩ := box8 B4.out
          go_wp2_with fail
          go_ret
          exact ⟨rfl, of_boxed B4.out⟩
      · go_enter Tryd.func26, Tryd.ntmps26
        go_wp2_with fail
        refine (C0.out _).mono ?_
        rintro e w1 ⟨rfl, b1⟩
        have B0 : Hid (Below (w.heap.size + 1) (w.alloc (.cells (v.cells kd kk) 30)) w1) := Lib.hid (b1.mono (by simp))
        have B1 : Hid (∀ o, Below (w.heap.size + 1) (w.alloc (.cells (v.cells kd kk) 30)) (w1.alloc o)) := Lib.hid (fun o => B0.out.alloc (by have := B0.out.size; simpa using this) _)
        obtain ⟨c0, c1, c2, c3, c4, c5, c6, c7⟩ := box8o B0.out
        clear b1
        go_wp2_with fail
        refine (C1.out _ (of_boxed (B1.out _))).mono ?_
        rintro e w2 ⟨rfl, b1⟩
        have B2 : Hid (Below (w.heap.size + 1) (w.alloc (.cells (v.cells kd kk) 30)) w2) := Lib.hid ((B1.out _).trans (b1.mono (by have := (B1.out (.cells #[.int .i64 ((en.k : Nat) : Int), .string ⟨en.word.toArray⟩, .string ⟨en.shape.toArray⟩] 62)).size; simpa using this)))
        clear b1 c0 c1 c2 c3 c4 c5 c6 c7
        obtain ⟨c0, c1, c2, c3, c4, c5, c6, c7⟩ := box8 B2.out
        go_wp2_with fail
        refine (C2.out _ (of_boxed B2.out)).mono ?_
        rintro e w3 ⟨rfl, b1⟩
        have B3 : Hid (Below (w.heap.size + 1) (w.alloc (.cells (v.cells kd kk) 30)) w3) := Lib.hid (B2.out.trans (b1.mono (by have := B2.out.size; simpa using this)))
        clear b1 c0 c1 c2 c3 c4 c5 c6 c7
        obtain ⟨c0, c1, c2, c3, c4, c5, c6, c7⟩ := box8 B3.out
        go_wp2_with fail
        go_ret
        exact ⟨rfl, of_boxed B3.out⟩
end Go.Proofs.YtppiemgdjkehkaaDoor

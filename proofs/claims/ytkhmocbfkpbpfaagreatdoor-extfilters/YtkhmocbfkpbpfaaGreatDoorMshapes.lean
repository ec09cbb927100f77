/- Contract: Right. -/
import Derived.Test.YtkhmocbfkpbpfaaGreatDoorMnum
import Derived.BigRegion
namespace Go.Proofs.YtkhmocbfkpbpfaaGreatDoor
open Go.RowKit Go.Sort

/-- What Right tells. -/
def rightE (c : ConL) (vars : Int) : Int :=
  if (foundF (kindP c.kind)).2 = false then 9
  else if sizesB c ⟨(foundF (kindP c.kind)).1.shape.toArray⟩ = false then 10
  else if (c.A.any (outV vars) || c.B.any (outV vars)) = true then 7
  else if numsB c = false then 11 else 0

theorem found21 : (foundF (kindP 21)).1.shape = [86, 99, 100, 101] := by kernel_rfl
theorem sizes21 {c : ConL} (h : c.kind = 21) (hs : sizesB c ⟨(foundF (kindP c.kind)).1.shape.toArray⟩ = true) : c.D.length = c.C.length ∧ c.E.length = c.C.length := by
  rw [h, found21] at hs
  unfold sizesB at hs
  have h100 : hasC ⟨([86, 99, 100, 101] : Bs).toArray⟩ 100 = true := by kernel_rfl
  have h101 : hasC ⟨([86, 99, 100, 101] : Bs).toArray⟩ 101 = true := by kernel_rfl
  unfold sizeL at hs
  rw [h100, h101] at hs
  simp only [Bool.and_eq_true, inS, if_true, decide_eq_true_eq] at hs
  omega

theorem box8o {w W : World} {v : ConV} {kd kk : Int} {t : TypeId} (h : Below (w.heap.size + 1) (w.alloc (.cells (v.cells kd kk) t)) W) :
    (∀ o, (W.alloc o).cell? ⟨w.heap.size, 0, none⟩ = some (.int .i64 kd)) ∧ (∀ o, (W.alloc o).cell? ⟨w.heap.size, 1, none⟩ = some (.slice v.a.A v.a.n v.a.c)) ∧ (∀ o, (W.alloc o).cell? ⟨w.heap.size, 2, none⟩ = some (.slice v.b.A v.b.n v.b.c)) ∧ (∀ o, (W.alloc o).cell? ⟨w.heap.size, 3, none⟩ = some (.slice v.c.A v.c.n v.c.c)) ∧ (∀ o, (W.alloc o).cell? ⟨w.heap.size, 4, none⟩ = some (.slice v.d.A v.d.n v.d.c)) ∧ (∀ o, (W.alloc o).cell? ⟨w.heap.size, 5, none⟩ = some (.slice v.e.A v.e.n v.e.c)) ∧ (∀ o, (W.alloc o).cell? ⟨w.heap.size, 6, none⟩ = some (.int .i64 kk)) ∧ (∀ o, (W.alloc o).cell? ⟨w.heap.size, 7, none⟩ = some (.slice v.r.A v.r.n v.r.c)) := by
  have hs : (w.alloc (.cells (v.cells kd kk) t)).heap.size ≤ W.heap.size := h.size
  have hs' : w.heap.size + 1 ≤ W.heap.size := by simpa using hs
  have q : ∀ o, Below (w.heap.size + 1) (w.alloc (.cells (v.cells kd kk) t)) (W.alloc o) := fun o => h.alloc hs' o
  refine ⟨fun o => ?_, fun o => ?_, fun o => ?_, fun o => ?_, fun o => ?_, fun o => ?_, fun o => ?_, fun o => ?_⟩ <;> rw [(q o).cell (by simp)] <;> simp

set_option maxHeartbeats 8000000 in
set_option maxRecDepth 100000 in
theorem right_any (v : ConV) (c : ConL) (vars : Int) (w : World) (hE : EntIn w) (h : ConIn w v c) : Calls Tryz.prog 112 #[v.val c.kind c.K, .int .i64 vars] w fun e w' => e = .returned (.int .i64 (rightE c vars)) ∧ Below w.heap.size w w' := by
  have C0 : Hid (∀ o, Calls Tryz.prog 167 #[.int .i64 c.kind] (w.alloc o) fun e w' => e = .returned (.tuple #[(foundF (kindP c.kind)).1.val, .bool (foundF (kindP c.kind)).2]) ∧ Below (w.alloc o).heap.size (w.alloc o) w') := Lib.hid (fun o => entryOf_any c.kind _ (hE.below (below1 w o)))
  have C1 : Hid (∀ W, Below w.heap.size w W → Calls Tryz.prog 168 #[v.val c.kind c.K, .string ⟨(foundF (kindP c.kind)).1.shape.toArray⟩] W fun e w' => e = .returned (.bool (sizesB c ⟨(foundF (kindP c.kind)).1.shape.toArray⟩)) ∧ Below W.heap.size W w') := Lib.hid (fun W hW => rightSizes_any v c _ W (h.below hW))
  have C2 : Hid (∀ W, Below w.heap.size w W → Calls Tryz.prog 169 #[.slice v.a.A v.a.n v.a.c, .int .i64 vars] W fun e w' => e = .returned (.bool (!c.A.any (outV vars))) ∧ Below W.heap.size W w') := Lib.hid (fun W hW => places_any v.a c.A vars W (h.a.below hW))
  have C3 : Hid (∀ W, Below w.heap.size w W → Calls Tryz.prog 169 #[.slice v.b.A v.b.n v.b.c, .int .i64 vars] W fun e w' => e = .returned (.bool (!c.B.any (outV vars))) ∧ Below W.heap.size W w') := Lib.hid (fun W hW => places_any v.b c.B vars W (h.b.below hW))
  have C4 : Hid (sizesB c ⟨(foundF (kindP c.kind)).1.shape.toArray⟩ = true → ∀ W, Below w.heap.size w W → Calls Tryz.prog 170 #[v.val c.kind c.K] W fun e w' => e = .returned (.bool (numsB c)) ∧ Below W.heap.size W w') := Lib.hid (fun q W hW => rightNumbers_any v c W (h.below hW) (fun e => sizes21 e q))
  unfold rightE
  generalize foundF (kindP c.kind) = fd at C0 C1 C4 ⊢
  obtain ⟨en, ok⟩ := fd
  unfold Ent.val at C0
  simp only at C0 C1 C4 ⊢
  generalize sizesB c ⟨en.shape.toArray⟩ = t1 at C1 C4 ⊢
  generalize c.A.any (outV vars) = t2 at C2 ⊢
  generalize c.B.any (outV vars) = t3 at C3 ⊢
  generalize numsB c = t4 at C4 ⊢
  generalize c.kind = kd at *
  generalize c.K = kk at *
  clear h hE
  cases ok
  · go_enter Tryz.func112, Tryz.ntmps112
    go_wp2_with fail
    refine (C0.out _).mono ?_
    rintro e w1 ⟨rfl, b1⟩
    have B1 := Lib.hid ((below1 w _).trans (b1.mono (by simp)))
    clear b1
    go_wp2_with fail
    go_ret
    exact ⟨rfl, B1.out.alloc B1.out.size _⟩
  · cases t1
    · go_enter Tryz.func112, Tryz.ntmps112
      go_wp2_with fail
      refine (C0.out _).mono ?_
      rintro e w1 ⟨rfl, b1⟩
      have B0 : Hid (Below (w.heap.size + 1) (w.alloc (.cells (v.cells kd kk) 32)) w1) := Lib.hid (b1.mono (by simp))
      have B1 : Hid (∀ o, Below (w.heap.size + 1) (w.alloc (.cells (v.cells kd kk) 32)) (w1.alloc o)) := Lib.hid (fun o => B0.out.alloc (by have := B0.out.size; simpa using this) _)
      obtain ⟨c0, c1, c2, c3, c4, c5, c6, c7⟩ := box8o B0.out
      clear b1
      go_wp2_with fail
      refine (C1.out _ (of_boxed (B1.out _))).mono ?_
      rintro e w2 ⟨rfl, b1⟩
      have B2 : Hid (Below (w.heap.size + 1) (w.alloc (.cells (v.cells kd kk) 32)) w2) := Lib.hid ((B1.out _).trans (b1.mono (by have := (B1.out (.cells #[.int .i64 ((en.k : Nat) : Int), .string ⟨en.word.toArray⟩, .string ⟨en.shape.toArray⟩] 168)).size; simpa using this)))
      clear b1 c0 c1 c2 c3 c4 c5 c6 c7
      obtain ⟨c0, c1, c2, c3, c4, c5, c6, c7⟩ := box8 B2.out
      go_wp2_with fail
      go_ret
      exact ⟨rfl, of_boxed B2.out⟩
    · have C4' := Lib.hid (C4.out rfl)
      clear C4
      cases t2
      · cases t3
        · cases t4
          · go_enter Tryz.func112, Tryz.ntmps112
            go_wp2_with fail
            refine (C0.out _).mono ?_
            rintro e w1 ⟨rfl, b1⟩
            have B0 : Hid (Below (w.heap.size + 1) (w.alloc (.cells (v.cells kd kk) 32)) w1) := Lib.hid (b1.mono (by simp))
            have B1 : Hid (∀ o, Below (w.heap.size + 1) (w.alloc (.cells (v.cells kd kk) 32)) (w1.alloc o)) := Lib.hid (fun o => B0.out.alloc (by have := B0.out.size; simpa using this) _)
            obtain ⟨c0, c1, c2, c3, c4, c5, c6, c7⟩ := box8o B0.out
            clear b1
            go_wp2_with fail
            refine (C1.out _ (of_boxed (B1.out _))).mono ?_
            rintro e w2 ⟨rfl, b1⟩
            have B2 : Hid (Below (w.heap.size + 1) (w.alloc (.cells (v.cells kd kk) 32)) w2) := Lib.hid ((B1.out _).trans (b1.mono (by have := (B1.out (.cells #[.int .i64 ((en.k : Nat) : Int), .string ⟨en.word.toArray⟩, .string ⟨en.shape.toArray⟩] 168)).size; simpa using this)))
            clear b1 c0 c1 c2 c3 c4 c5 c6 c7
            obtain ⟨c0, c1, c2, c3, c4, c5, c6, c7⟩ := box8 B2.out
            go_wp2_with fail
            refine (C2.out _ (of_boxed B2.out)).mono ?_
            rintro e w3 ⟨rfl, b1⟩
            have B3 : Hid (Below (w.heap.size + 1) (w.alloc (.cells (v.cells kd kk) 32)) w3) := Lib.hid (B2.out.trans (b1.mono (by have := B2.out.size; simpa using this)))
            clear b1 c0 c1 c2 c3 c4 c5 c6 c7
            obtain ⟨c0, c1, c2, c3, c4, c5, c6, c7⟩ := box8 B3.out
            go_wp2_with fail
            refine (C3.out _ (of_boxed B3.out)).mono ?_
            rintro e w4 ⟨rfl, b1⟩
            have B4 : Hid (Below (w.heap.size + 1) (w.alloc (.cells (v.cells kd kk) 32)) w4) := Lib.hid (B3.out.trans (b1.mono (by have := B3.out.size; simpa using this)))
            clear b1 c0 c1 c2 c3 c4 c5 c6 c7
            obtain ⟨c0, c1, c2, c3, c4, c5, c6, c7⟩ := box8 B4.out
            go_wp2_with fail
            refine (C4'.out _ (of_boxed B4.out)).mono ?_
            rintro e w5 ⟨rfl, b1⟩
            have B5 : Hid (Below (w.heap.size + 1) (w.alloc (.cells (v.cells kd kk) 32)) w5) := Lib.hid (B4.out.trans (b1.mono (by have := B4.out.size; simpa using this)))
            clear b1 c0 c1 c2 c3 c4 c5 c6 c7
            obtain ⟨c0, c1, c2, c3, c4, c5, c6, c7⟩ := box8 B5.out
            go_wp2_with fail
            go_ret
            exact ⟨rfl, of_boxed B5.out⟩
          · go_enter Tryz.func112, Tryz.ntmps112
            go_wp2_with fail
            refine (C0.out _).mono ?_
            rintro e w1 ⟨rfl, b1⟩
            have B0 : Hid (Below (w.heap.size + 1) (w.alloc (.cells (v.cells kd kk) 32)) w1) := Lib.hid (b1.mono (by simp))
            have B1 : Hid (∀ o, Below (w.heap.size + 1) (w.alloc (.cells (v.cells kd kk) 32)) (w1.alloc o)) := Lib.hid (fun o => B0.out.alloc (by have := B0.out.size; simpa using this) _)
            obtain ⟨c0, c1, c2, c3, c4, c5, c6, c7⟩ := box8o B0.out
            clear b1
            go_wp2_with fail
            refine (C1.out _ (of_boxed (B1.out _))).mono ?_
            rintro e w2 ⟨rfl, b1⟩
            have B2 : Hid (Below (w.heap.size + 1) (w.alloc (.cells (v.cells kd kk) 32)) w2) := Lib.hid ((B1.out _).trans (b1.mono (by have := (B1.out (.cells #[.int .i64 ((en.k : Nat) : Int), .string ⟨en.word.toArray⟩, .string ⟨en.shape.toArray⟩] 168)).size; simpa using this)))
            clear b1 c0 c1 c2 c3 c4 c5 c6 c7
            obtain ⟨c0, c1, c2, c3, c4, c5, c6, c7⟩ := box8 B2.out
            go_wp2_with fail
            refine (C2.out _ (of_boxed B2.out)).mono ?_
            rintro e w3 ⟨rfl, b1⟩
            have B3 : Hid (Below (w.heap.size + 1) (w.alloc (.cells (v.cells kd kk) 32)) w3) := Lib.hid (B2.out.trans (b1.mono (by have := B2.out.size; simpa using this)))
            clear b1 c0 c1 c2 c3 c4 c5 c6 c7
            obtain ⟨c0, c1, c2, c3, c4, c5, c6, c7⟩ := box8 B3.out
            go_wp2_with fail
            refine (C3.out _ (of_boxed B3.out)).mono ?_
            rintro e w4 ⟨rfl, b1⟩
            have B4 : Hid (Below (w.heap.size + 1) (w.alloc (.cells (v.cells kd kk) 32)) w4) := Lib.hid (B3.out.trans (b1.mono (by have := B3.out.size; simpa using this)))
            clear b1 c0 c1 c2 c3 c4 c5 c6 c7
            obtain ⟨c0, c1, c2, c3, c4, c5, c6, c7⟩ := box8 B4.out
            go_wp2_with fail
            refine (C4'.out _ (of_boxed B4.out)).mono ?_
            rintro e w5 ⟨rfl, b1⟩
            have B5 : Hid (Below (w.heap.size + 1) (w.alloc (.cells (v.cells kd kk) 32)) w5) := Lib.hid (B4.out.trans (b1.mono (by have := B4.out.size; simpa using this)))
            clear b1 c0 c1 c2 c3 c4 c5 c6 c7
            obtain ⟨c0, c1, c2, c3, c4, c5, c6, c7⟩ := box8 B5.out
            go_wp2_with fail
            go_ret
            exact ⟨rfl, of_boxed B5.out⟩
        · go_enter Tryz.func112, Tryz.ntmps112
          go_wp2_with fail
          refine (C0.out _).mono ?_
          rintro e w1 ⟨rfl, b1⟩
          have B0 : Hid (Below (w.heap.size + 1) (w.alloc (.cells (v.cells kd kk) 32)) w1) := Lib.hid (b1.mono (by simp))
          have B1 : Hid (∀ o, Below (w.heap.size + 1) (w.alloc (.cells (v.cells kd kk) 32)) (w1.alloc o)) := Lib.hid (fun o => B0.out.alloc (by have := B0.out.size; simpa using this) _)
          obtain ⟨c0, c1, c2, c3, c4, c5, c6, c7⟩ := box8o B0.out
          clear b1
          go_wp2_with fail
          refine (C1.out _ (of_boxed (B1.out _))).mono ?_
          rintro e w2 ⟨rfl, b1⟩
          have B2 : Hid (Below (w.heap.size + 1) (w.alloc (.cells (v.cells kd kk) 32)) w2) := Lib.hid ((B1.out _).trans (b1.mono (by have := (B1.out (.cells #[.int .i64 ((en.k : Nat) : Int), .string ⟨en.word.toArray⟩, .string ⟨en.shape.toArray⟩] 168)).size; simpa using this)))
          clear b1 c0 c1 c2 c3 c4 c5 c6 c7
          obtain ⟨c0, c1, c2, c3, c4, c5, c6, c7⟩ := box8 B2.out
          go_wp2_with fail
          refine (C2.out _ (of_boxed B2.out)).mono ?_
          rintro e w3 ⟨rfl, b1⟩
          have B3 : Hid (Below (w.heap.size + 1) (w.alloc (.cells (v.cells kd kk) 32)) w3) := Lib.hid (B2.out.trans (b1.mono (by have := B2.out.size; simpa using this)))
          clear b1 c0 c1 c2 c3 c4 c5 c6 c7
          obtain ⟨c0, c1, c2, c3, c4, c5, c6, c7⟩ := box8 B3.out
          go_wp2_with fail
          refine (C3.out _ (of_boxed B3.out)).mono ?_
          rintro e w4 ⟨rfl, b1⟩
          have B4 : Hid (Below (w.heap.size + 1) (w.alloc (.cells (v.cells kd kk) 32)) w4) := Lib.hid (B3.out.trans (b1.mono (by have := B3.out.size; simpa using this)))
          clear b1 c0 c1 c2 c3 c4 c5 c6 c7
          obtain ⟨c0, c1, c2, c3, c4, c5, c6, c7⟩ := box8 B4.out
          go_wp2_with fail
          go_ret
          exact ⟨rfl, of_boxed B4.out⟩
      · go_enter Tryz.func112, Tryz.ntmps112
        go_wp2_with fail
        refine (C0.out _).mono ?_
        rintro e w1 ⟨rfl, b1⟩
        have B0 : Hid (Below (w.heap.size + 1) (w.alloc (.cells (v.cells kd kk) 32)) w1) := Lib.hid (b1.mono (by simp))
        have B1 : Hid (∀ o, Below (w.heap.size + 1) (w.alloc (.cells (v.cells kd kk) 32)) (w1.alloc o)) := Lib.hid (fun o => B0.out.alloc (by have := B0.out.size; simpa using this) _)
        obtain ⟨c0, c1, c2, c3, c4, c5, c6, c7⟩ := box8o B0.out
        clear b1
        go_wp2_with fail
        refine (C1.out _ (of_boxed (B1.out _))).mono ?_
        rintro e w2 ⟨rfl, b1⟩
        have B2 : Hid (Below (w.heap.size + 1) (w.alloc (.cells (v.cells kd kk) 32)) w2) := Lib.hid ((B1.out _).trans (b1.mono (by have := (B1.out (.cells #[.int .i64 ((en.k : Nat) : Int), .string ⟨en.word.toArray⟩, .string ⟨en.shape.toArray⟩] 168)).size; simpa using this)))
        clear b1 c0 c1 c2 c3 c4 c5 c6 c7
        obtain ⟨c0, c1, c2, c3, c4, c5, c6, c7⟩ := box8 B2.out
        go_wp2_with fail
        refine (C2.out _ (of_boxed B2.out)).mono ?_
        rintro e w3 ⟨rfl, b1⟩
        have B3 : Hid (Below (w.heap.size + 1) (w.alloc (.cells (v.cells kd kk) 32)) w3) := Lib.hid (B2.out.trans (b1.mono (by have := B2.out.size; simpa using this)))
        clear b1 c0 c1 c2 c3 c4 c5 c6 c7
        obtain ⟨c0, c1, c2, c3, c4, c5, c6, c7⟩ := box8 B3.out
        go_wp2_with fail
        go_ret
        exact ⟨rfl, of_boxed B3.out⟩
end Go.Proofs.YtkhmocbfkpbpfaaGreatDoor

/- Whether a constraint holds of values. No walk. -/
namespace Go.Proofs.YtkhmocbfkpbpfaaGreatDoor
open Go.RowKit

def atE (a : List Int) (v : Int) : Int := a.getD v.toNat 0
/-- The values of variables. -/
def valsE (l a : List Int) : List Int := l.map (atE a)
def sumN (f : Nat → Int) : Nat → Int
  | 0 => 0
  | k + 1 => sumN f k + f k
def noneN (p : Nat → Bool) (n : Nat) : Bool := !(List.range n).any p
def justB (b : Int) (so : Bool) : Bool := if so then b == 1 else b == 0
def placeB (v n : Int) : Bool := decide (1 ≤ v) && decide (v ≤ n)
def linB (c : ConL) (t : Int) (y : List Int) : Bool :=
  if c.kind = 1 then t == c.K else if c.kind = 2 then decide (t ≤ c.K) else if c.kind = 3 then t != c.K else justB (y.getD 0 0) (decide (t ≤ c.K))
def dotE (C x : List Int) : Int := sumN (fun i => C.getD i 0 * x.getD i 0) C.length
def worksB (k : Int) (x : List Int) : Bool :=
  if k = 5 then x.getD 0 0 * x.getD 1 0 == x.getD 2 0
  else if k = 6 then x.getD 1 0 != 0 && (x.getD 0 0).tdiv (x.getD 1 0) == x.getD 2 0
  else if k = 7 then x.getD 1 0 != 0 && (x.getD 0 0).tmod (x.getD 1 0) == x.getD 2 0
  else if k = 8 then max (x.getD 0 0) (-(x.getD 0 0)) == x.getD 1 0
  else if k = 9 then min (x.getD 0 0) (x.getD 1 0) == x.getD 2 0
  else max (x.getD 0 0) (x.getD 1 0) == x.getD 2 0
def toldB (k K x b : Int) : Bool :=
  if k = 13 then justB b (x == K) else if k = 14 then justB b (decide (x ≤ K))
  else if k = 15 then b == 0 || b == 1 && x == K else b == 0 || b == 1 && decide (x ≤ K)
def needF (c : ConL) (x : List Int) (t : Int) (i : Nat) : Int := if decide (x.getD i 0 ≤ t) && decide (t < x.getD i 0 + c.C.getD i 0) then c.D.getD i 0 else 0
def needE (c : ConL) (x : List Int) (t : Int) : Int := sumN (needF c x t) x.length
/-- The places gone through: so many steps are left, so many done. -/
def roundF (x : List Int) : Nat → Nat → Int → Bool
  | 0, _, _ => false
  | k + 1, s, at_ => if placeB (atE x (at_ - 1)) x.length = false then false else if atE x (at_ - 1) = 1 then s + 1 == x.length else roundF x k (s + 1) (atE x (at_ - 1))
def countE (x : List Int) (v : Int) : Int := sumN (fun i => if x.getD i 0 == v then 1 else 0) x.length
def lexB : List Int → List Int → Bool
  | [], _ => true
  | _ :: _, [] => false
  | a :: s, b :: t => if a < b then true else if b < a then false else lexB s t
def backB (x y : List Int) (i : Nat) : Bool := placeB (x.getD i 0) y.length && atE y (x.getD i 0 - 1) == (i : Int) + 1
def diffP (x : List Int) (i : Nat) : Bool := (x.take i).any (· == x.getD i 0)
def cumP (c : ConL) (x : List Int) (i : Nat) : Bool := decide (c.K < needE c x (x.getD i 0))
def gccP (c : ConL) (x : List Int) (i : Nat) : Bool := decide (countE x (c.C.getD i 0) < c.D.getD i 0) || decide (c.E.getD i 0 < countE x (c.C.getD i 0))
def invP (x y : List Int) (i : Nat) : Bool := !backB x y i || !backB y x i
/-- Does what a kind says hold of the values of A and B? -/
def meetsB (c : ConL) (x y : List Int) : Bool :=
  if 1 ≤ c.kind ∧ c.kind ≤ 4 then linB c (dotE c.C x) y
  else if 5 ≤ c.kind ∧ c.kind ≤ 10 then worksB c.kind x
  else if c.kind = 11 then placeB (x.getD 0 0) c.C.length && atE c.C (x.getD 0 0 - 1) == x.getD 1 0
  else if c.kind = 12 then x.any (· == 1) || y.any (· == 0)
  else if 13 ≤ c.kind ∧ c.kind ≤ 16 then toldB c.kind c.K (x.getD 0 0) (y.getD 0 0)
  else if c.kind = 17 then noneN (diffP x) x.length
  else if c.kind = 18 then c.rows.any (fun r => r == x)
  else if c.kind = 19 then noneN (cumP c x) x.length
  else if c.kind = 20 then roundF x x.length 0 1
  else if c.kind = 21 then noneN (gccP c x) c.C.length
  else if c.kind = 22 then lexB x y
  else if c.kind = 23 then noneN (invP x y) x.length
  else false
def holdsB (c : ConL) (a : List Int) : Bool := rightE c (a.length : Nat) == 0 && meetsB c (valsE c.A a) (valsE c.B a)
/-- What Holds tells. -/
def holdsE (c : ConL) (a : List Int) : Bool := !a.any (outB (-1000000) 1000000) && holdsB c a

/-! What a constraint that may be has, kind by kind. -/
structure ConR (n : Nat) (c : ConL) : Prop where
  k1 : 1 ≤ c.kind
  k23 : c.kind ≤ 23
  pa : ∀ v ∈ c.A, 0 ≤ v ∧ v < (n : Int)
  pb : ∀ v ∈ c.B, 0 ≤ v ∧ v < (n : Int)
  pc : ∀ v ∈ c.C, -1000000 ≤ v ∧ v ≤ 1000000
  pd : ∀ v ∈ c.D, 0 ≤ v ∧ v ≤ 1000000
  a64 : c.A.length ≤ 64
  a1 : c.kind ≠ 12 → 1 ≤ c.A.length
  b64 : c.B.length ≤ 64
  lin : c.kind ≤ 4 → c.C.length = c.A.length
  reif : c.kind = 4 → c.B.length = 1
  three : 5 ≤ c.kind → c.kind ≤ 10 → c.kind ≠ 8 → c.A.length = 3
  two : c.kind = 8 ∨ c.kind = 11 → c.A.length = 2
  c64 : c.C.length ≤ 64
  c11 : c.kind = 11 → 1 ≤ c.C.length
  told : 13 ≤ c.kind → c.kind ≤ 16 → c.A.length = 1 ∧ c.B.length = 1
  cum : c.kind = 19 → c.C.length = c.A.length ∧ c.D.length = c.A.length
  gcc : c.kind = 21 → c.D.length = c.C.length ∧ c.E.length = c.C.length
  pair : 22 ≤ c.kind → c.B.length = c.A.length
  rows : c.kind = 18 → ∀ r ∈ c.rows, r.length = c.A.length
end Go.Proofs.YtkhmocbfkpbpfaaGreatDoor

/- slices.Equal over numbers (as Mequal has it, without what Mequal imports). -/
namespace Go.Proofs.YtkhmocbfkpbpfaaGreatDoor
open Go.RowKit Go.Sort

section
variable {α : Type} [BEq α] [LawfulBEq α]
def galikeTo (L K : List α) (z : α) (k : Nat) : Prop := ∀ j, j < k → L.getD j z = K.getD j z
theorem galike_yes {L K : List α} (z : α) (hl : L.length = K.length) (h : galikeTo L K z L.length) : (L == K) = true := by
  rw [beq_iff_eq]
  apply List.ext_getElem hl
  intro i h1 h2
  have := h i h1
  rw [List.getD_eq_getElem?_getD, List.getD_eq_getElem?_getD, List.getElem?_eq_getElem h1, List.getElem?_eq_getElem h2] at this
  exact this
theorem galike_no {L K : List α} {k : Nat} (z : α) (h : L.getD k z ≠ K.getD k z) : (L == K) = false := by
  rw [beq_eq_false_iff_ne]
  intro e
  exact h (by rw [e])
theorem galike_len {L K : List α} (h : L.length ≠ K.length) : (L == K) = false := by
  rw [beq_eq_false_iff_ne]
  intro e
  exact h (by rw [e])
end

set_option maxHeartbeats 2000000 in
theorem gequal_ints (x y : Sl) (L K : List Int) (w : World) (hx : IsInts w x L) (hy : IsInts w y K) : Calls Tryz.prog 64 #[.slice x.A x.n x.c, .slice y.A y.n y.c] w fun e w' => e = .returned (.bool (L == K)) ∧ Below w.heap.size w w' := by
  have HX := Lib.hid hx
  have HY := Lib.hid hy
  have S1 := Lib.hid (galike_yes (L := L) (K := K) 0)
  have S2 := Lib.hid (fun k => galike_no (L := L) (K := K) (k := k) 0)
  have S3 := Lib.hid (galike_len (L := L) (K := K))
  rw [← hx.len, ← hy.len] at S1 S3
  have hxb := hx.big
  generalize (L == K) = RES at S1 S2 S3 ⊢
  obtain ⟨xA, xn, xc⟩ := x
  obtain ⟨yA, yn, yc⟩ := y
  simp only at *
  clear hx hy
  by_cases hl : xn = yn
  · subst hl
    have hlb : (((xn : Nat) : Int) != ((xn : Nat) : Int)) = false := by simp
    have S1' := Lib.hid (S1.out rfl)
    clear S1 S3
    go_enter Tryz.func64, Tryz.ntmps64
    go_wp2_with fail
    go_loopw [13] (fun i wr => ∃ k : Nat, i = .int .i64 (k : Nat) ∧ k ≤ xn ∧ Hid (galikeTo L K 0 k) ∧ Hid (Below w.heap.size w wr)) (fun i _ => xn - (intOf i).toNat)
    case atStart => exact ⟨0, rfl, by omega, Lib.hid (fun j hj => absurd hj (by omega)), Lib.hid (Below.refl _ _)⟩
    case round =>
      obtain ⟨k, rfl, hk, H0, HB⟩ := hrel
      by_cases hlt : k < xn
      · obtain ⟨ad, eA, hb1, hc1⟩ := HX.out.lies (by simp only; omega)
        obtain ⟨bd, eB, hb2, hc2⟩ := HY.out.lies (by simp only; omega)
        simp only at eA eB
        subst eA eB
        have z1 : ∀ d os, (grow (redrawn wr d) os).cell? (ad.add k) = some (.int .i64 (L.getD k 0)) := cell_regrown ((HB.out.cell (by rw [add_block]; exact hb1)).trans (hc1 k hlt))
        have z2 : ∀ d os, (grow (redrawn wr d) os).cell? (bd.add k) = some (.int .i64 (K.getD k 0)) := cell_regrown ((HB.out.cell (by rw [add_block]; exact hb2)).trans (hc2 k hlt))
        have HN : Hid (L.getD k 0 = K.getD k 0 → galikeTo L K 0 (k + 1)) := Lib.hid (fun e j hj => by
          by_cases h : j < k
          · exact H0.out j h
          · obtain rfl : j = k := by omega
            exact e)
        have S2k := Lib.hid (S2.out k)
        clear hc1 hc2 hb1 hb2
        generalize L.getD k 0 = a at z1 HN S2k
        generalize K.getD k 0 = b at z2 HN S2k
        by_cases hab : a = b
        · have HN2 := Lib.hid (HN.out hab)
          have hq : (a != b) = false := by simp [hab]
          clear hab
          clear HN S2k
          go_wp2_with fail
          refine wp_region_quiet_below (by kernel_rfl) (by kernel_rfl) ?_
          repeat (first | go_big_quiet_step (fail) | quiet_step (fail))
          refine wpQuiet_nil ?_
          intro _ hw'
          obtain ⟨⟨dq, osq⟩, hw''⟩ := hw'
          subst hw''
          have B6 : Hid (Below w.heap.size w (grow (redrawn wr dq) osq)) := Lib.hid (HB.out.trans ((below_regrown wr dq osq).mono HB.out.size))
          generalize grow (redrawn wr dq) osq = W6 at *
          clear z1 z2
          go_wp2_with fail
          go_roundw
          case rel => exact ⟨k + 1, by go_num, by omega, HN2, B6⟩
          case measure => simp [intOf]; omega
        · have HR := Lib.hid (S2k.out hab)
          have hq : (a != b) = true := by simpa using hab
          clear hab
          clear HN S2k
          go_wp2_with fail
          refine wp_region_quiet_below (by kernel_rfl) (by kernel_rfl) ?_
          repeat (first | go_big_quiet_step (fail) | quiet_step (fail))
          refine wpQuiet_nil ?_
          intro _ hw'
          obtain ⟨⟨dq, osq⟩, hw''⟩ := hw'
          subst hw''
          have B6 : Hid (Below w.heap.size w (grow (redrawn wr dq) osq)) := Lib.hid (HB.out.trans ((below_regrown wr dq osq).mono HB.out.size))
          generalize grow (redrawn wr dq) osq = W6 at *
          clear z1 z2
          go_wp2_with fail
          go_ret
          exact ⟨ret_bool HR.out.symm, B6.out⟩
      · have HR := Lib.hid (S1'.out (by have := H0.out; rwa [show k = xn by omega] at this))
        clear H0
        go_wp2_with fail
        go_ret
        exact ⟨ret_bool HR.out.symm, HB.out⟩
  · have hlb : (((xn : Nat) : Int) != ((yn : Nat) : Int)) = true := by simp; omega
    have HR := Lib.hid (S3.out hl)
    clear hl
    go_enter Tryz.func64, Tryz.ntmps64
    go_wp2_with fail
    go_ret
    exact ⟨ret_bool HR.out.symm, Below.refl _ _⟩

end Go.Proofs.YtkhmocbfkpbpfaaGreatDoor

/- The document's own small functions: has, list, in, Shapes, Words. -/
namespace Go.Proofs.YtkhmocbfkpbpfaaGreatDoor
open Go.RowKit Go.Sort

def listB (n one all : Int) : Bool := if 0 < all then decide (1 ≤ n) && decide (n ≤ 64) else n == one

theorem refList_any (n one all : Int) (w : World) : Calls Tryz.prog 179 #[.int .i64 n, .int .i64 one, .int .i64 all] w fun e w' => e = .returned (.bool (listB n one all)) ∧ w = w' := by
  unfold listB
  by_cases h0 : 0 < all
  · rw [if_pos h0]
    by_cases h1 : 1 ≤ n
    · go_enter Tryz.func179, Tryz.ntmps179
      go_wp2_with fail
      go_ret
      exact ⟨ret_bool (by simp <;> omega), rfl⟩
    · go_enter Tryz.func179, Tryz.ntmps179
      go_wp2_with fail
      go_ret
      exact ⟨ret_bool (by simp <;> omega), rfl⟩
  · rw [if_neg h0]
    go_enter Tryz.func179, Tryz.ntmps179
    go_wp2_with fail
    go_ret
    exact ⟨rfl, rfl⟩

theorem count_take_succ (l : Bs) (c : UInt8) (k : Nat) (h : k < l.length) : (l.take (k + 1)).count c = (l.take k).count c + (if l[k] == c then 1 else 0) := by
  rw [List.take_add_one, List.getElem?_eq_getElem h, Option.toList_some, List.count_append, List.count_singleton]
theorem count_le (l : Bs) (c : UInt8) (k : Nat) : (l.take k).count c ≤ k := Nat.le_trans List.count_le_length (by rw [List.length_take]; omega)

set_option maxHeartbeats 1000000 in
theorem refHas_any (s : ByteArray) (c : UInt8) (w : World) (hs : s.size ≤ 4611686018427387904) : Calls Tryz.prog 73 #[.string s, .int .u8 ((c.toNat : Nat) : Int)] w fun e w' => e = .returned (.int .i64 (((bl s).count c : Nat) : Int)) ∧ w = w' := by
  go_enter Tryz.func73, Tryz.ntmps73
  go_wp2_with fail
  go_loopw [5, 6] (fun n i wr => ∃ k : Nat, i = .int .i64 (k : Nat) ∧ k ≤ s.size ∧ n = .int .i64 ((((bl s).take k).count c : Nat) : Int) ∧ Hid (w = wr)) (fun _ i _ => s.size - (intOf i).toNat)
  case atStart => exact ⟨0, rfl, by omega, by simp, Lib.hid rfl⟩
  case round =>
    obtain ⟨k, rfl, hk, rfl, HW⟩ := hrel
    have hcl := count_le (bl s) c k
    by_cases hlt : k < s.size
    · have HS := Lib.hid (count_take_succ (bl s) c k hlt)
      have hg : (bl s)[k]'hlt = s[k]'hlt := rfl
      rw [hg] at HS
      generalize ((bl s).take k).count c = m at HS hcl
      generalize hx : s[k]'hlt = x at HS
      by_cases hxc : x = c
      · have hb : (((x.toNat : Nat) : Int) == ((c.toNat : Nat) : Int)) = true := by simp [hxc]
        have HS2 : Hid (((bl s).take (k + 1)).count c = m + 1) := Lib.hid (by rw [HS.out, if_pos (by simpa using hxc)])
        clear hxc HS
        go_wp2_with fail
        go_roundw
        case rel => exact ⟨k + 1, by go_num, by omega, by rw [HS2.out]; go_num, HW⟩
        case measure => simp [intOf]; omega
      · have hb : (((x.toNat : Nat) : Int) == ((c.toNat : Nat) : Int)) = false := by
          rw [beq_eq_false_iff_ne]
          intro e
          exact hxc (UInt8.toNat_inj.1 (by omega))
        have HS2 : Hid (((bl s).take (k + 1)).count c = m) := Lib.hid (by rw [HS.out, if_neg (by simpa using hxc)]; rfl)
        clear hxc HS
        go_wp2_with fail
        go_roundw
        case rel => exact ⟨k + 1, by go_num, by omega, by rw [HS2.out], HW⟩
        case measure => simp [intOf]; omega
    · have HE : Hid ((bl s).take k = bl s) := Lib.hid (List.take_of_length_le (by rw [bl_len]; omega))
      rw [HE.out]
      clear HE hcl
      go_wp2_with fail
      go_ret
      exact ⟨rfl, HW.out⟩

set_option maxHeartbeats 1000000 in
theorem refIn_any (x : Sl) (L : List Int) (low high : Int) (w : World) (h : IsInts w x L) :
    Calls Tryz.prog 130 #[.slice x.A x.n x.c, .int .i64 low, .int .i64 high] w fun e w' => e = .returned (.bool (!L.any (outB low high))) ∧ w = w' := by
  obtain ⟨A, n, c⟩ := x
  obtain ⟨hn, hL, hlen, hcap⟩ := h
  simp only at hn hL hlen ⊢
  have HL := Lib.hid hL
  have Hn := Lib.hid hn.symm
  clear hL hn
  go_enter Tryz.func130, Tryz.ntmps130
  go_wp2_with fail
  go_loopw [7] (fun i wr => ∃ k : Nat, i = .int .i64 (k : Nat) ∧ k ≤ n ∧ Hid (anyTo (outB low high) L k) ∧ Hid (w = wr)) (fun i _ => n - (intOf i).toNat)
  case atStart => exact ⟨0, rfl, by omega, Lib.hid (fun j hj => absurd hj (by omega)), Lib.hid rfl⟩
  case round =>
    obtain ⟨k, rfl, hk, H0, HB⟩ := hrel
    by_cases hlt : k < n
    · obtain ⟨ad, rfl, hbk, hcl⟩ := HL.out (by omega)
      have hck : wr.cell? (ad.add k) = some (.int .i64 (L.getD k 0)) := by rw [← HB.out]; exact hcl k hlt
      have HY := Lib.hid (any_yes (p := outB low high) (L := L) (k := k) (by rw [Hn.out]; exact hlt))
      have HN : Hid (outB low high (L.getD k 0) = false → anyTo (outB low high) L (k + 1)) := Lib.hid (fun e j hj => by
        by_cases h : j < k
        · exact H0.out j h
        · obtain rfl : j = k := by omega
          exact e)
      clear hcl hbk
      generalize L.getD k 0 = y at hck HY HN
      cases h1 : decide (y < low)
      · cases h2 : decide (high < y)
        · have HN2 := Lib.hid (HN.out (by simp [outB, h1, h2]))
          clear HN HY
          go_wp2_with fail
          go_roundw
          case rel => exact ⟨k + 1, by go_num, by omega, HN2, HB⟩
          case measure => simp [intOf]; omega
        · have HY2 := Lib.hid (HY.out (by simp [outB, h2]))
          clear HN HY
          go_wp2_with fail
          go_ret
          exact ⟨ret_bool (by rw [HY2.out]; rfl), HB.out⟩
      · have HY2 := Lib.hid (HY.out (by simp [outB, h1]))
        clear HN HY
        go_wp2_with fail
        go_ret
        exact ⟨ret_bool (by rw [HY2.out]; rfl), HB.out⟩
    · have HN : Hid (L.any (outB low high) = false) := Lib.hid (any_no (by rw [Hn.out]; have := H0.out; rwa [show k = n by omega] at this))
      clear H0
      go_wp2_with fail
      go_ret
      exact ⟨ret_bool (by rw [HN.out]; rfl), HB.out⟩
end Go.Proofs.YtkhmocbfkpbpfaaGreatDoor

/- The document's lists of words and shapes. -/
namespace Go.Proofs.YtkhmocbfkpbpfaaGreatDoor
open Go.RowKit Go.Sort

def shapesL : List Bs := [] :: ents.map Ent.shape
def wordsL : List Bs := [] :: ents.map Ent.word
def strV (b : Bs) : Value := .string ⟨b.toArray⟩
/-- A slice of texts. -/
structure IsStrs (w : World) (x : Sl) (l : List Bs) : Prop where
  len : x.n = l.length
  lies : Lies w x.A x.n (fun j => strV (l.getD j []))
  big : x.n ≤ 4611686018427387903
  cap : x.n ≤ x.c
theorem IsStrs.below {w w' : World} {x : Sl} {l : List Bs} (h : IsStrs w x l) (hb : Below w.heap.size w w') : IsStrs w' x l := ⟨h.len, h.lies.below hb, h.big, h.cap⟩

theorem strs_new (w : World) (l : List Bs) (t : TypeId) (hl : l.length ≤ 4611686018427387903) : IsStrs (w.alloc (.cells (l.map strV).toArray t)) ⟨some ⟨w.heap.size, 0, none⟩, l.length, l.length⟩ l := by
  refine ⟨rfl, fun _ => ⟨_, rfl, by simp, fun j hj => ?_⟩, hl, Nat.le_refl _⟩
  rw [Addr.add_mid, Nat.zero_add]
  have hj' : j < l.length := hj
  simp [hj', List.getD_eq_getElem?_getD]

set_option maxRecDepth 100000 in
theorem shapes_any (w : World) : Calls Tryz.prog 72 #[] w fun e w' => (∃ x : Sl, e = .returned (.slice x.A x.n x.c) ∧ IsStrs w' x shapesL) ∧ Below w.heap.size w w' := by
  go_enter Tryz.func72, Tryz.ntmps72
  go_wp2_with fail
  go_ret
  exact ⟨⟨⟨some ⟨w.heap.size, 0, none⟩, 24, 24⟩, rfl, strs_new w shapesL _ (by decide)⟩, below1 _ _⟩

def cntI (sh : ByteArray) (x : UInt8) : Int := (((bl sh).count x : Nat) : Int)
def lenI (l : List Int) : Int := ((l.length : Nat) : Int)

/-- Are all lists as they must be? As the document asks it. -/
def arityB (c : ConL) (sh : ByteArray) : Bool :=
  if (c.K != 0 && cntI sh 107 == 0) = true then false
  else if (c.kind == 12) = true then decide (1 ≤ lenI c.A + lenI c.B) && decide (lenI c.A ≤ 64) && decide (lenI c.B ≤ 64) && lenI c.C == 0 && lenI c.D == 0 && lenI c.E == 0 && ((c.rows.length : Nat) : Int) == 0
  else if (!listB (lenI c.A) (cntI sh 118) (cntI sh 86) || !listB (lenI c.B) (cntI sh 119) (cntI sh 87) || !listB (lenI c.C) 0 (cntI sh 99) || !listB (lenI c.D) 0 (cntI sh 100) || !listB (lenI c.E) 0 (cntI sh 101)) = true then false
  else if (cntI sh 114 == 0 && decide (0 < ((c.rows.length : Nat) : Int)) || decide (0 < cntI sh 114) && (decide (((c.rows.length : Nat) : Int) < 1) || decide (1024 < ((c.rows.length : Nat) : Int)))) = true then false
  else if (decide (c.kind ≤ 4) && lenI c.C != lenI c.A) = true then false
  else if (c.kind == 19 && (lenI c.C != lenI c.A || lenI c.D != lenI c.A) || c.kind == 21 && (lenI c.D != lenI c.C || lenI c.E != lenI c.C) || decide (22 ≤ c.kind) && lenI c.B != lenI c.A) = true then false
  else !c.rows.any (fun r => r.length != c.A.length)

def secD (c : ConL) : Int := if c.kind = 19 ∨ c.kind = 21 then 0 else -1000000
/-- Are all numbers within their bounds? As the document asks it. -/
def coefsB (c : ConL) : Bool := !c.C.any (outB (lowC c) 1000000) && !c.D.any (outB (secD c) 1000000) && !c.E.any (outB (secD c) 1000000) && !outB (lowK c) 9999999999 c.K && !c.rows.any (fun r => r.any (outB (-1000000) 1000000)) && (c.kind != 21 || countsB c)

end Go.Proofs.YtkhmocbfkpbpfaaGreatDoor

/- Contract: Right. -/
import Derived.Test.YtmamgaaeeonfmaaGreatDoorMnum
import Derived.Test.YtmamgaaeeonfmaaGreatDoorDRefOf
import Derived.Test.YtmamgaaeeonfmaaGreatDoorLexname
import Derived.BigRegion
namespace Go.Proofs.YtmamgaaeeonfmaaGreatDoor
open Go.RowKit Go.Sort

/-- What Right tells. -/
def rightE (c : ConL) (vars : Int) : Int :=
  if (foundF (kindP c.kind)).2 = false then 9
  else if sizesB c ⟨(foundF (kindP c.kind)).1.shape.toArray⟩ = false then 10
  else if (c.A.any (outV vars) || c.B.any (outV vars)) = true then 7
  else if numsB c = false then 11 else 0

theorem found21 : (foundF (kindP 21)).1.shape = [86, 99, 100, 101] := by kernel_rfl
theorem sizes21 {c : ConL} (h : c.kind = 21) (hs : sizesB c ⟨(foundF (kindP c.kind)).1.shape.toArray⟩ = true) : c.D.length = c.C.length ∧ c.E.length = c.C.length := by
  rw [h, found21] at hs
  unfold sizesB at hs
  have h100 : hasC ⟨([86, 99, 100, 101] : Bs).toArray⟩ 100 = true := by kernel_rfl
  have h101 : hasC ⟨([86, 99, 100, 101] : Bs).toArray⟩ 101 = true := by kernel_rfl
  unfold sizeL at hs
  rw [h100, h101] at hs
  simp only [Bool.and_eq_true, inS, if_true, decide_eq_true_eq] at hs
  omega

theorem box8o {w W : World} {v : ConV} {kd kk : Int} {t : TypeId} (h : Below (w.heap.size + 1) (w.alloc (.cells (v.cells kd kk) t)) W) :
    (∀ o, (W.alloc o).cell? ⟨w.heap.size, 0, none⟩ = some (.int .i64 kd)) ∧ (∀ o, (W.alloc o).cell? ⟨w.heap.size, 1, none⟩ = some (.slice v.a.A v.a.n v.a.c)) ∧ (∀ o, (W.alloc o).cell? ⟨w.heap.size, 2, none⟩ = some (.slice v.b.A v.b.n v.b.c)) ∧ (∀ o, (W.alloc o).cell? ⟨w.heap.size, 3, none⟩ = some (.slice v.c.A v.c.n v.c.c)) ∧ (∀ o, (W.alloc o).cell? ⟨w.heap.size, 4, none⟩ = some (.slice v.d.A v.d.n v.d.c)) ∧ (∀ o, (W.alloc o).cell? ⟨w.heap.size, 5, none⟩ = some (.slice v.e.A v.e.n v.e.c)) ∧ (∀ o, (W.alloc o).cell? ⟨w.heap.size, 6, none⟩ = some (.int .i64 kk)) ∧ (∀ o, (W.alloc o).cell? ⟨w.heap.size, 7, none⟩ = some (.slice v.r.A v.r.n v.r.c)) := by
  have hs : (w.alloc (.cells (v.cells kd kk) t)).heap.size ≤ W.heap.size := h.size
  have hs' : w.heap.size + 1 ≤ W.heap.size := by simpa using hs
  have q : ∀ o, Below (w.heap.size + 1) (w.alloc (.cells (v.cells kd kk) t)) (W.alloc o) := fun o => h.alloc hs' o
  refine ⟨fun o => ?_, fun o => ?_, fun o => ?_, fun o => ?_, fun o => ?_, fun o => ?_, fun o => ?_, fun o => ?_⟩ <;> rw [(q o).cell (by simp)] <;> simp

set_option maxHeartbeats 8000000 in
set_option maxRecDepth 100000 in
theorem right_any (v : ConV) (c : ConL) (vars : Int) (w : World) (hE : EntIn w) (h : ConIn w v c) : Calls Tryz.prog 20 #[v.val c.kind c.K, .int .i64 vars] w fun e w' => e = .returned (.int .i64 (rightE c vars)) ∧ Below w.heap.size w w' := by
  have C0 : Hid (∀ o, Calls Tryz.prog 37 #[.int .i64 c.kind] (w.alloc o) fun e w' => e = .returned (.tuple #[(foundF (kindP c.kind)).1.val, .bool (foundF (kindP c.kind)).2]) ∧ Below (w.alloc o).heap.size (w.alloc o) w') := Lib.hid (fun o => entryOf_any c.kind _ (hE.below (below1 w o)))
  have C1 : Hid (∀ W, Below w.heap.size w W → Calls Tryz.prog 38 #[v.val c.kind c.K, .string ⟨(foundF (kindP c.kind)).1.shape.toArray⟩] W fun e w' => e = .returned (.bool (sizesB c ⟨(foundF (kindP c.kind)).1.shape.toArray⟩)) ∧ Below W.heap.size W w') := Lib.hid (fun W hW => rightSizes_any v c _ W (h.below hW))
  have C2 : Hid (∀ W, Below w.heap.size w W → Calls Tryz.prog 39 #[.slice v.a.A v.a.n v.a.c, .int .i64 vars] W fun e w' => e = .returned (.bool (!c.A.any (outV vars))) ∧ Below W.heap.size W w') := Lib.hid (fun W hW => places_any v.a c.A vars W (h.a.below hW))
  have C3 : Hid (∀ W, Below w.heap.size w W → Calls Tryz.prog 39 #[.slice v.b.A v.b.n v.b.c, .int .i64 vars] W fun e w' => e = .returned (.bool (!c.B.any (outV vars))) ∧ Below W.heap.size W w') := Lib.hid (fun W hW => places_any v.b c.B vars W (h.b.below hW))
  have C4 : Hid (sizesB c ⟨(foundF (kindP c.kind)).1.shape.toArray⟩ = true → ∀ W, Below w.heap.size w W → Calls Tryz.prog 40 #[v.val c.kind c.K] W fun e w' => e = .returned (.bool (numsB c)) ∧ Below W.heap.size W w') := Lib.hid (fun q W hW => rightNumbers_any v c W (h.below hW) (fun e => sizes21 e q))
  unfold rightE
  generalize foundF (kindP c.kind) = fd at C0 C1 C4 ⊢
  obtain ⟨en, ok⟩ := fd
  unfold Ent.val at C0
  simp only at C0 C1 C4 ⊢
  generalize sizesB c ⟨en.shape.toArray⟩ = t1 at C1 C4 ⊢
  generalize c.A.any (outV vars) = t2 at C2 ⊢
  generalize c.B.any (outV vars) = t3 at C3 ⊢
  generalize numsB c = t4 at C4 ⊢
  generalize c.kind = kd at *
  generalize c.K = kk at *
  clear h hE
  cases ok
  · go_enter Tryz.func20, Tryz.ntmps20
    go_wp2_with fail
    refine (C0.out _).mono ?_
    rintro e w1 ⟨rfl, b1⟩
    have B1 := Lib.hid ((below1 w _).trans (b1.mono (by simp)))
    clear b1
    go_wp2_with fail
    go_ret
    exact ⟨rfl, B1.out.alloc B1.out.size _⟩
  · cases t1
    · go_enter Tryz.func20, Tryz.ntmps20
      go_wp2_with fail
      refine (C0.out _).mono ?_
      rintro e w1 ⟨rfl, b1⟩
      have B0 : Hid (Below (w.heap.size + 1) (w.alloc (.cells (v.cells kd kk) 51)) w1) := Lib.hid (b1.mono (by simp))
      have B1 : Hid (∀ o, Below (w.heap.size + 1) (w.alloc (.cells (v.cells kd kk) 51)) (w1.alloc o)) := Lib.hid (fun o => B0.out.alloc (by have := B0.out.size; simpa using this) _)
      obtain ⟨c0, c1, c2, c3, c4, c5, c6, c7⟩ := box8o B0.out
      clear b1
      go_wp2_with fail
      refine (C1.out _ (of_boxed (B1.out _))).mono ?_
      rintro e w2 ⟨rfl, b1⟩
      have B2 : Hid (Below (w.heap.size + 1) (w.alloc (.cells (v.cells kd kk) 51)) w2) := Lib.hid ((B1.out _).trans (b1.mono (by have := (B1.out (.cells #[.int .i64 ((en.k : Nat) : Int), .string ⟨en.word.toArray⟩, .string ⟨en.shape.toArray⟩] 75)).size; simpa using this)))
      clear b1 c0 c1 c2 c3 c4 c5 c6 c7
      obtain ⟨c0, c1, c2, c3, c4, c5, c6, c7⟩ := box8 B2.out
      go_wp2_with fail
      go_ret
      exact ⟨rfl, of_boxed B2.out⟩
    · have C4' := Lib.hid (C4.out rfl)
      clear C4
      cases t2
      · cases t3
        · cases t4
          · go_enter Tryz.func20, Tryz.ntmps20
            go_wp2_with fail
            refine (C0.out _).mono ?_
            rintro e w1 ⟨rfl, b1⟩
            have B0 : Hid (Below (w.heap.size + 1) (w.alloc (.cells (v.cells kd kk) 51)) w1) := Lib.hid (b1.mono (by simp))
            have B1 : Hid (∀ o, Below (w.heap.size + 1) (w.alloc (.cells (v.cells kd kk) 51)) (w1.alloc o)) := Lib.hid (fun o => B0.out.alloc (by have := B0.out.size; simpa using this) _)
            obtain ⟨c0, c1, c2, c3, c4, c5, c6, c7⟩ := box8o B0.out
            clear b1
            go_wp2_with fail
            refine (C1.out _ (of_boxed (B1.out _))).mono ?_
            rintro e w2 ⟨rfl, b1⟩
            have B2 : Hid (Below (w.heap.size + 1) (w.alloc (.cells (v.cells kd kk) 51)) w2) := Lib.hid ((B1.out _).trans (b1.mono (by have := (B1.out (.cells #[.int .i64 ((en.k : Nat) : Int), .string ⟨en.word.toArray⟩, .string ⟨en.shape.toArray⟩] 75)).size; simpa using this)))
            clear b1 c0 c1 c2 c3 c4 c5 c6 c7
            obtain ⟨c0, c1, c2, c3, c4, c5, c6, c7⟩ := box8 B2.out
            go_wp2_with fail
            refine (C2.out _ (of_boxed B2.out)).mono ?_
            rintro e w3 ⟨rfl, b1⟩
            have B3 : Hid (Below (w.heap.size + 1) (w.alloc (.cells (v.cells kd kk) 51)) w3) := Lib.hid (B2.out.trans (b1.mono (by have := B2.out.size; simpa using this)))
            clear b1 c0 c1 c2 c3 c4 c5 c6 c7
            obtain ⟨c0, c1, c2, c3, c4, c5, c6, c7⟩ := box8 B3.out
            go_wp2_with fail
            refine (C3.out _ (of_boxed B3.out)).mono ?_
            rintro e w4 ⟨rfl, b1⟩
            have B4 : Hid (Below (w.heap.size + 1) (w.alloc (.cells (v.cells kd kk) 51)) w4) := Lib.hid (B3.out.trans (b1.mono (by have := B3.out.size; simpa using this)))
            clear b1 c0 c1 c2 c3 c4 c5 c6 c7
            obtain ⟨c0, c1, c2, c3, c4, c5, c6, c7⟩ := box8 B4.out
            go_wp2_with fail
            refine (C4'.out _ (of_boxed B4.out)).mono ?_
            rintro e w5 ⟨rfl, b1⟩
            have B5 : Hid (Below (w.heap.size + 1) (w.alloc (.cells (v.cells kd kk) 51)) w5) := Lib.hid (B4.out.trans (b1.mono (by have := B4.out.size; simpa using this)))
            clear b1 c0 c1 c2 c3 c4 c5 c6 c7
            obtain ⟨c0, c1, c2, c3, c4, c5, c6, c7⟩ := box8 B5.out
            go_wp2_with fail
            go_ret
            exact ⟨rfl, of_boxed B5.out⟩
          · go_enter Tryz.func20, Tryz.ntmps20
            go_wp2_with fail
            refine (C0.out _).mono ?_
            rintro e w1 ⟨rfl, b1⟩
            have B0 : Hid (Below (w.heap.size + 1) (w.alloc (.cells (v.cells kd kk) 51)) w1) := Lib.hid (b1.mono (by simp))
            have B1 : Hid (∀ o, Below (w.heap.size + 1) (w.alloc (.cells (v.cells kd kk) 51)) (w1.alloc o)) := Lib.hid (fun o => B0.out.alloc (by have := B0.out.size; simpa using this) _)
            obtain ⟨c0, c1, c2, c3, c4, c5, c6, c7⟩ := box8o B0.out
            clear b1
            go_wp2_with fail
            refine (C1.out _ (of_boxed (B1.out _))).mono ?_
            rintro e w2 ⟨rfl, b1⟩
            have B2 : Hid (Below (w.heap.size + 1) (w.alloc (.cells (v.cells kd kk) 51)) w2) := Lib.hid ((B1.out _).trans (b1.mono (by have := (B1.out (.cells #[.int .i64 ((en.k : Nat) : Int), .string ⟨en.word.toArray⟩, .string ⟨en.shape.toArray⟩] 75)).size; simpa using this)))
            clear b1 c0 c1 c2 c3 c4 c5 c6 c7
            obtain ⟨c0, c1, c2, c3, c4, c5, c6, c7⟩ := box8 B2.out
            go_wp2_with fail
            refine (C2.out _ (of_boxed B2.out)).mono ?_
            rintro e w3 ⟨rfl, b1⟩
            have B3 : Hid (Below (w.heap.size + 1) (w.alloc (.cells (v.cells kd kk) 51)) w3) := Lib.hid (B2.out.trans (b1.mono (by have := B2.out.size; simpa using this)))
            clear b1 c0 c1 c2 c3 c4 c5 c6 c7
            obtain ⟨c0, c1, c2, c3, c4, c5, c6, c7⟩ := box8 B3.out
            go_wp2_with fail
            refine (C3.out _ (of_boxed B3.out)).mono ?_
            rintro e w4 ⟨rfl, b1⟩
            have B4 : Hid (Below (w.heap.size + 1) (w.alloc (.cells (v.cells kd kk) 51)) w4) := Lib.hid (B3.out.trans (b1.mono (by have := B3.out.size; simpa using this)))
            clear b1 c0 c1 c2 c3 c4 c5 c6 c7
            obtain ⟨c0, c1, c2, c3, c4, c5, c6, c7⟩ := box8 B4.out
            go_wp2_with fail
            refine (C4'.out _ (of_boxed B4.out)).mono ?_
            rintro e w5 ⟨rfl, b1⟩
            have B5 : Hid (Below (w.heap.size + 1) (w.alloc (.cells (v.cells kd kk) 51)) w5) := Lib.hid (B4.out.trans (b1.mono (by have := B4.out.size; simpa using this)))
            clear b1 c0 c1 c2 c3 c4 c5 c6 c7
            obtain ⟨c0, c1, c2, c3, c4, c5, c6, c7⟩ := box8 B5.out
            go_wp2_with fail
            go_ret
            exact ⟨rfl, of_boxed B5.out⟩
        · go_enter Tryz.func20, Tryz.ntmps20
          go_wp2_with fail
          refine (C0.out _).mono ?_
          rintro e w1 ⟨rfl, b1⟩
          have B0 : Hid (Below (w.heap.size + 1) (w.alloc (.cells (v.cells kd kk) 51)) w1) := Lib.hid (b1.mono (by simp))
          have B1 : Hid (∀ o, Below (w.heap.size + 1) (w.alloc (.cells (v.cells kd kk) 51)) (w1.alloc o)) := Lib.hid (fun o => B0.out.alloc (by have := B0.out.size; simpa using this) _)
          obtain ⟨c0, c1, c2, c3, c4, c5, c6, c7⟩ := box8o B0.out
          clear b1
          go_wp2_with fail
          refine (C1.out _ (of_boxed (B1.out _))).mono ?_
          rintro e w2 ⟨rfl, b1⟩
          have B2 : Hid (Below (w.heap.size + 1) (w.alloc (.cells (v.cells kd kk) 51)) w2) := Lib.hid ((B1.out _).trans (b1.mono (by have := (B1.out (.cells #[.int .i64 ((en.k : Nat) : Int), .string ⟨en.word.toArray⟩, .string ⟨en.shape.toArray⟩] 75)).size; simpa using this)))
          clear b1 c0 c1 c2 c3 c4 c5 c6 c7
          obtain ⟨c0, c1, c2, c3, c4, c5, c6, c7⟩ := box8 B2.out
          go_wp2_with fail
          refine (C2.out _ (of_boxed B2.out)).mono ?_
          rintro e w3 ⟨rfl, b1⟩
          have B3 : Hid (Below (w.heap.size + 1) (w.alloc (.cells (v.cells kd kk) 51)) w3) := Lib.hid (B2.out.trans (b1.mono (by have := B2.out.size; simpa using this)))
          clear b1 c0 c1 c2 c3 c4 c5 c6 c7
          obtain ⟨c0, c1, c2, c3, c4, c5, c6, c7⟩ := box8 B3.out
          go_wp2_with fail
          refine (C3.out _ (of_boxed B3.out)).mono ?_
          rintro e w4 ⟨rfl, b1⟩
          have B4 : Hid (Below (w.heap.size + 1) (w.alloc (.cells (v.cells kd kk) 51)) w4) := Lib.hid (B3.out.trans (b1.mono (by have := B3.out.size; simpa using this)))
          clear b1 c0 c1 c2 c3 c4 c5 c6 c7
          obtain ⟨c0, c1, c2, c3, c4, c5, c6, c7⟩ := box8 B4.out
          go_wp2_with fail
          go_ret
          exact ⟨rfl, of_boxed B4.out⟩
      · go_enter Tryz.func20, Tryz.ntmps20
        go_wp2_with fail
        refine (C0.out _).mono ?_
        rintro e w1 ⟨rfl, b1⟩
        have B0 : Hid (Below (w.heap.size + 1) (w.alloc (.cells (v.cells kd kk) 51)) w1) := Lib.hid (b1.mono (by simp))
        have B1 : Hid (∀ o, Below (w.heap.size + 1) (w.alloc (.cells (v.cells kd kk) 51)) (w1.alloc o)) := Lib.hid (fun o => B0.out.alloc (by have := B0.out.size; simpa using this) _)
        obtain ⟨c0, c1, c2, c3, c4, c5, c6, c7⟩ := box8o B0.out
        clear b1
        go_wp2_with fail
        refine (C1.out _ (of_boxed (B1.out _))).mono ?_
        rintro e w2 ⟨rfl, b1⟩
        have B2 : Hid (Below (w.heap.size + 1) (w.alloc (.cells (v.cells kd kk) 51)) w2) := Lib.hid ((B1.out _).trans (b1.mono (by have := (B1.out (.cells #[.int .i64 ((en.k : Nat) : Int), .string ⟨en.word.toArray⟩, .string ⟨en.shape.toArray⟩] 75)).size; simpa using this)))
        clear b1 c0 c1 c2 c3 c4 c5 c6 c7
        obtain ⟨c0, c1, c2, c3, c4, c5, c6, c7⟩ := box8 B2.out
        go_wp2_with fail
        refine (C2.out _ (of_boxed B2.out)).mono ?_
        rintro e w3 ⟨rfl, b1⟩
        have B3 : Hid (Below (w.heap.size + 1) (w.alloc (.cells (v.cells kd kk) 51)) w3) := Lib.hid (B2.out.trans (b1.mono (by have := B2.out.size; simpa using this)))
        clear b1 c0 c1 c2 c3 c4 c5 c6 c7
        obtain ⟨c0, c1, c2, c3, c4, c5, c6, c7⟩ := box8 B3.out
        go_wp2_with fail
        go_ret
        exact ⟨rfl, of_boxed B3.out⟩
end Go.Proofs.YtmamgaaeeonfmaaGreatDoor

/- The document's own small functions: has, list, in, Shapes, Words. -/
namespace Go.Proofs.YtmamgaaeeonfmaaGreatDoor
open Go.RowKit Go.Sort

def listB (n one all : Int) : Bool := if 0 < all then decide (1 ≤ n) && decide (n ≤ 64) else n == one

theorem count_take_succ (l : Bs) (c : UInt8) (k : Nat) (h : k < l.length) : (l.take (k + 1)).count c = (l.take k).count c + (if l[k] == c then 1 else 0) := by
  rw [List.take_add_one, List.getElem?_eq_getElem h, Option.toList_some, List.count_append, List.count_singleton]
theorem count_le (l : Bs) (c : UInt8) (k : Nat) : (l.take k).count c ≤ k := Nat.le_trans List.count_le_length (by rw [List.length_take]; omega)

end Go.Proofs.YtmamgaaeeonfmaaGreatDoor

/- The document's lists of words and shapes. -/
namespace Go.Proofs.YtmamgaaeeonfmaaGreatDoor
open Go.RowKit Go.Sort

def shapesL : List Bs := [] :: ents.map Ent.shape
def wordsL : List Bs := [] :: ents.map Ent.word
def strV (b : Bs) : Value := .string ⟨b.toArray⟩
/-- A slice of texts. -/
structure IsStrs (w : World) (x : Sl) (l : List Bs) : Prop where
  len : x.n = l.length
  lies : Lies w x.A x.n (fun j => strV (l.getD j []))
  big : x.n ≤ 4611686018427387903
  cap : x.n ≤ x.c
theorem IsStrs.below {w w' : World} {x : Sl} {l : List Bs} (h : IsStrs w x l) (hb : Below w.heap.size w w') : IsStrs w' x l := ⟨h.len, h.lies.below hb, h.big, h.cap⟩

theorem strs_new (w : World) (l : List Bs) (t : TypeId) (hl : l.length ≤ 4611686018427387903) : IsStrs (w.alloc (.cells (l.map strV).toArray t)) ⟨some ⟨w.heap.size, 0, none⟩, l.length, l.length⟩ l := by
  refine ⟨rfl, fun _ => ⟨_, rfl, by simp, fun j hj => ?_⟩, hl, Nat.le_refl _⟩
  rw [Addr.add_mid, Nat.zero_add]
  have hj' : j < l.length := hj
  simp [hj', List.getD_eq_getElem?_getD]

def cntI (sh : ByteArray) (x : UInt8) : Int := (((bl sh).count x : Nat) : Int)
def lenI (l : List Int) : Int := ((l.length : Nat) : Int)

/-- Are all lists as they must be? As the document asks it. -/
def arityB (c : ConL) (sh : ByteArray) : Bool :=
  if (c.K != 0 && cntI sh 107 == 0) = true then false
  else if (c.kind == 12) = true then decide (1 ≤ lenI c.A + lenI c.B) && decide (lenI c.A ≤ 64) && decide (lenI c.B ≤ 64) && lenI c.C == 0 && lenI c.D == 0 && lenI c.E == 0 && ((c.rows.length : Nat) : Int) == 0
  else if (!listB (lenI c.A) (cntI sh 118) (cntI sh 86) || !listB (lenI c.B) (cntI sh 119) (cntI sh 87) || !listB (lenI c.C) 0 (cntI sh 99) || !listB (lenI c.D) 0 (cntI sh 100) || !listB (lenI c.E) 0 (cntI sh 101)) = true then false
  else if (cntI sh 114 == 0 && decide (0 < ((c.rows.length : Nat) : Int)) || decide (0 < cntI sh 114) && (decide (((c.rows.length : Nat) : Int) < 1) || decide (1024 < ((c.rows.length : Nat) : Int)))) = true then false
  else if (decide (c.kind ≤ 4) && lenI c.C != lenI c.A) = true then false
  else if (c.kind == 19 && (lenI c.C != lenI c.A || lenI c.D != lenI c.A) || c.kind == 21 && (lenI c.D != lenI c.C || lenI c.E != lenI c.C) || decide (22 ≤ c.kind) && lenI c.B != lenI c.A) = true then false
  else !c.rows.any (fun r => r.length != c.A.length)

def secD (c : ConL) : Int := if c.kind = 19 ∨ c.kind = 21 then 0 else -1000000
/-- Are all numbers within their bounds? As the document asks it. -/
def coefsB (c : ConL) : Bool := !c.C.any (outB (lowC c) 1000000) && !c.D.any (outB (secD c) 1000000) && !c.E.any (outB (secD c) 1000000) && !outB (lowK c) 9999999999 c.K && !c.rows.any (fun r => r.any (outB (-1000000) 1000000)) && (c.kind != 21 || countsB c)

end Go.Proofs.YtmamgaaeeonfmaaGreatDoor

/- A model in memory; what Check tells. No walk. -/
namespace Go.Proofs.YtmamgaaeeonfmaaGreatDoor
open Go.RowKit

def noCon : ConL := ⟨0, [], [], [], [], [], 0, []⟩
/-- A slice of constraints. -/
structure IsCons (w : World) (x : Sl) (L : List ConL) : Prop where
  len : x.n = L.length
  big : x.n ≤ 4611686018427387903
  cap : x.n ≤ x.c
  lies : 0 < x.n → ∃ g o, x.A = some ⟨g, o, none⟩ ∧ g < w.heap.size ∧ ∀ i, i < x.n → ∃ v : ConV, (∀ j u, (v.cells (L.getD i noCon).kind (L.getD i noCon).K)[j]? = some u → w.cell? ⟨g, o + i * 8 + j, none⟩ = some u) ∧ ConIn w v (L.getD i noCon)
theorem IsCons.below {w w' : World} {x : Sl} {L : List ConL} (h : IsCons w x L) (hb : Below w.heap.size w w') : IsCons w' x L := by
  refine ⟨h.len, h.big, h.cap, fun h0 => ?_⟩
  obtain ⟨g, o, e, hg, hc⟩ := h.lies h0
  refine ⟨g, o, e, Nat.lt_of_lt_of_le hg hb.size, fun i hi => ?_⟩
  obtain ⟨v, h1, h2⟩ := hc i hi
  exact ⟨v, fun j u hj => (hb.cell hg).trans (h1 j u hj), h2.below hb⟩
theorem IsCons.nil (w : World) : IsCons w ⟨none, 0, 0⟩ [] := ⟨rfl, by simp, Nat.le_refl _, fun h => absurd h (by simp)⟩
theorem IsStrs.nil (w : World) : IsStrs w ⟨none, 0, 0⟩ [] := ⟨rfl, Lies.none _ _ _, by simp, Nat.le_refl _⟩

/-- A model, as lists. -/
structure ModL where
  names : List Bs
  doms : List (List Int)
  cons : List ConL
  goal : Int
  obj : Int
structure ModV where
  n : Sl
  d : Sl
  c : Sl
abbrev ModV.cells (v : ModV) (goal obj : Int) : Array Value := #[.slice v.n.A v.n.n v.n.c, .slice v.d.A v.d.n v.d.c, .slice v.c.A v.c.n v.c.c, .int .i64 goal, .int .i64 obj]
abbrev ModV.val (v : ModV) (goal obj : Int) : Value := .agg #[.slice v.n.A v.n.n v.n.c, .slice v.d.A v.d.n v.d.c, .slice v.c.A v.c.n v.c.c, .int .i64 goal, .int .i64 obj]
structure ModIn (w : World) (v : ModV) (m : ModL) : Prop where
  n : IsStrs w v.n m.names
  d : IsRows w v.d m.doms
  c : IsCons w v.c m.cons
  short : ∀ l ∈ m.doms, l.length ≤ 1000000
  brief : ∀ b ∈ m.names, b.length ≤ 4611686018427387903
theorem ModIn.below {w w' : World} {v : ModV} {m : ModL} (h : ModIn w v m) (hb : Below w.heap.size w w') : ModIn w' v m := ⟨h.n.below hb, h.d.below hb, h.c.below hb, h.short, h.brief⟩

/-- The first error of some, one by one. -/
def firstE (f : Nat → Int) (n : Nat) : Int := match (List.range n).find? (fun i => f i != 0) with
  | some i => f i
  | none => 0
/-- The first place of an error, and the error. -/
def firstP (f : Nat → Int) (n : Nat) : Option (Nat × Int) := ((List.range n).find? (fun i => f i != 0)).map fun i => (i, f i)
theorem find_range {f : Nat → Int} {n k : Nat} (hk : k < n) (h0 : ∀ j, j < k → f j = 0) (h1 : f k ≠ 0) : (List.range n).find? (fun i => f i != 0) = some k := by
  rw [List.find?_range_eq_some]
  exact ⟨by simpa using h1, by simpa using hk, fun j hj => by simp [h0 j hj]⟩
theorem find_range_no {f : Nat → Int} {n : Nat} (h0 : ∀ j, j < n → f j = 0) : (List.range n).find? (fun i => f i != 0) = none := by
  rw [List.find?_eq_none]
  intro j hj
  simp [h0 j (List.mem_range.1 hj)]
theorem firstE_at {f : Nat → Int} {n k : Nat} (hk : k < n) (h0 : ∀ j, j < k → f j = 0) (h1 : f k ≠ 0) : firstE f n = f k := by
  unfold firstE
  rw [find_range hk h0 h1]
theorem firstE_no {f : Nat → Int} {n : Nat} (h0 : ∀ j, j < n → f j = 0) : firstE f n = 0 := by
  unfold firstE
  rw [find_range_no h0]
theorem firstP_at {f : Nat → Int} {n k : Nat} (hk : k < n) (h0 : ∀ j, j < k → f j = 0) (h1 : f k ≠ 0) : firstP f n = some (k, f k) := by
  unfold firstP
  rw [find_range hk h0 h1]
  rfl
theorem firstP_no {f : Nat → Int} {n : Nat} (h0 : ∀ j, j < n → f j = 0) : firstP f n = none := by
  unfold firstP
  rw [find_range_no h0]
  rfl

/-- May a variable have this name? -/
def mayNameB (b : Bs) : Bool := !(b == [118, 97, 114]) && !(b == [99, 111, 110, 115, 116, 114, 97, 105, 110, 116]) && !(b == [115, 111, 108, 118, 101]) && nameB b
/-- Does a list rise? Up to a place. -/
def riseTo (l : List Int) (k : Nat) : Prop := ∀ i, 1 ≤ i → i < k → l.getD (i - 1) 0 < l.getD i 0
def riseB (l : List Int) : Bool := (List.range l.length).all fun i => i == 0 || decide (l.getD (i - 1) 0 < l.getD i 0)
theorem rise_yes {l : List Int} (h : riseTo l l.length) : riseB l = true := by
  unfold riseB
  rw [List.all_eq_true]
  intro i hi
  have hi' := List.mem_range.1 hi
  by_cases h0 : i = 0
  · simp [h0]
  · have := h i (by omega) hi'
    rw [decide_eq_true this, Bool.or_true]
theorem rise_no {l : List Int} {i : Nat} (h1 : 1 ≤ i) (hi : i < l.length) (h : ¬ l.getD (i - 1) 0 < l.getD i 0) : riseB l = false := by
  unfold riseB
  rw [List.all_eq_false]
  refine ⟨i, List.mem_range.2 hi, ?_⟩
  have : (i == 0) = false := by simp; omega
  rw [this, decide_eq_false h]
  decide
theorem rise_pair {l : List Int} (h : riseB l = true) : riseTo l l.length := by
  intro i h1 hi
  unfold riseB at h
  have := List.all_eq_true.1 h i (List.mem_range.2 hi)
  have h0 : (i == 0) = false := by simp; omega
  rw [h0, Bool.false_or, decide_eq_true_eq] at this
  exact this
/-- Is a list a domain's? -/
def mayListB (l : List Int) : Bool := riseB l && (ofErr l == 0)

theorem take_getD1 (zs : List Int) (k : Nat) (h : k < zs.length) : zs.take (k + 1) = zs.take k ++ [zs.getD k 0] := take_getD zs k h
theorem rise_lt {l : List Int} (h : riseTo l l.length) : ∀ k, k < l.length → ∀ u ∈ l.take k, u < l.getD k 0 := by
  intro k
  induction k with
  | zero => intro _ u hu; simp at hu
  | succ k ih =>
    intro hk u hu
    have h1 := h (k + 1) (by omega) hk
    rw [show k + 1 - 1 = k by omega] at h1
    rw [take_getD1 l k (by omega)] at hu
    rcases List.mem_append.1 hu with hu | hu
    · have := ih (by omega) u hu
      omega
    · rw [List.mem_singleton.1 hu]
      exact h1
theorem set_of_rise {l : List Int} (h : riseTo l l.length) : setOf l = l := by
  have key : ∀ k, k ≤ l.length → setOf (l.take k) = l.take k := by
    intro k
    induction k with
    | zero => intro _; rfl
    | succ k ih =>
      intro hk
      rw [setOf_snoc l k (by omega), ih (by omega), take_getD1 l k (by omega)]
      have := ins_end (l.getD k 0) (l.take k) [] (rise_lt h k (by omega))
      rw [List.append_nil] at this
      rw [this]
      rfl
  have := key l.length (Nat.le_refl _)
  rwa [List.take_length] at this
theorem rise_of_set {l : List Int} (h : setOf l = l) : riseTo l l.length := by
  have hp := rising_setOf l
  rw [h] at hp
  intro i h1 hi
  rw [List.getD_eq_getElem?_getD, List.getD_eq_getElem?_getD, List.getElem?_eq_getElem hi, List.getElem?_eq_getElem (by omega : i - 1 < l.length)]
  exact List.pairwise_iff_getElem.1 hp (i - 1) i (by omega) hi (by omega)
/-- As the document asks it. -/
theorem list_same (l : List Int) : (ofErr l != 0 || !(ofL l == l)) = !mayListB l := by
  unfold mayListB
  by_cases he : ofErr l = 0
  · rw [ofL_ok l he]
    have e1 : (ofErr l != 0) = false := by simp [he]
    have e2 : (ofErr l == 0) = true := by simp [he]
    rw [e1, e2, Bool.false_or, Bool.and_true]
    congr 1
    rw [Bool.eq_iff_iff, beq_iff_eq]
    exact ⟨fun h => rise_yes (rise_of_set h), fun h => set_of_rise (rise_pair h)⟩
  · have e1 : (ofErr l != 0) = true := by simpa using he
    have e2 : (ofErr l == 0) = false := by simpa using he
    rw [e1, e2, Bool.true_or, Bool.and_false]
    rfl

def varE (m : ModL) (i : Nat) : Int := if mayNameB (m.names.getD i []) = false then 7 else if (m.names.take i).any (· == m.names.getD i []) = true then 8 else if mayListB (m.doms.getD i []) = false then 3 else 0
def conE (m : ModL) (i : Nat) : Int := rightE (m.cons.getD i noCon) (m.names.length : Nat)
def goalB (m : ModL) : Bool := if m.goal == 0 then m.obj == 0 else if m.goal == 1 || m.goal == 2 then decide (0 ≤ m.obj) && decide (m.obj < ((m.names.length : Nat) : Int)) else false
/-- What Check tells. -/
def checkE (m : ModL) : Int × Int :=
  if m.names.length ≠ m.doms.length then (-1, 2)
  else if 256 < m.names.length ∨ 1024 < m.cons.length then (-1, 12)
  else if firstE (varE m) m.names.length ≠ 0 then (-1, firstE (varE m) m.names.length)
  else match firstP (conE m) m.cons.length with
    | some (i, e) => ((i : Nat), e)
    | none => if goalB m = false then (-1, 17) else (-1, 0)

section
variable {m : ModL}
theorem checkE_len (h : m.names.length ≠ m.doms.length) : checkE m = (-1, 2) := by unfold checkE; rw [if_pos h]
theorem checkE_many (h : m.names.length = m.doms.length) (h2 : 256 < m.names.length ∨ 1024 < m.cons.length) : checkE m = (-1, 12) := by unfold checkE; rw [if_neg (by omega), if_pos h2]
theorem checkE_var (h : m.names.length = m.doms.length) (h2 : m.names.length ≤ 256) (h3 : m.cons.length ≤ 1024) (h4 : firstE (varE m) m.names.length ≠ 0) : checkE m = (-1, firstE (varE m) m.names.length) := by unfold checkE; rw [if_neg (by omega), if_neg (by omega), if_pos h4]
theorem checkE_con (h : m.names.length = m.doms.length) (h2 : m.names.length ≤ 256) (h3 : m.cons.length ≤ 1024) (h4 : firstE (varE m) m.names.length = 0) {k : Nat} (hk : k < m.cons.length) (h5 : ∀ j, j < k → conE m j = 0) (h6 : conE m k ≠ 0) : checkE m = (((k : Nat) : Int), conE m k) := by
  unfold checkE
  rw [if_neg (by omega), if_neg (by omega), if_neg (by simpa using h4), firstP_at hk h5 h6]
theorem checkE_end (h : m.names.length = m.doms.length) (h2 : m.names.length ≤ 256) (h3 : m.cons.length ≤ 1024) (h4 : firstE (varE m) m.names.length = 0) (h5 : ∀ j, j < m.cons.length → conE m j = 0) : checkE m = (-1, if goalB m = false then 17 else 0) := by
  unfold checkE
  rw [if_neg (by omega), if_neg (by omega), if_neg (by simpa using h4), firstP_no h5]
  cases goalB m <;> rfl
end
end Go.Proofs.YtmamgaaeeonfmaaGreatDoor

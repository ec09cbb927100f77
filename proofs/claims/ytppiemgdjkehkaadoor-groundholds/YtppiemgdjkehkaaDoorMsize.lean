/- Contracts: how many elements lists must have. -/
import Derived.Test.YtppiemgdjkehkaaDoorMrows
import Derived.Lib.MinMax
namespace Go.Proofs.YtppiemgdjkehkaaDoor
open Go.RowKit

def szV (s : Int × Int) : Value := .agg #[.int .i64 s.1, .int .i64 s.2]
def inS (s : Int × Int) (n : Int) : Bool := decide (s.1 ≤ n) && decide (n ≤ s.2)

/-- What a call leaves that hands back a pair of numbers. -/
def GivesSz (w : World) (s : Int × Int) (e : Ending) (w' : World) : Prop := e = .returned (.agg #[.int .i64 s.1, .int .i64 s.2]) ∧ Below w.heap.size w w'

theorem out2_below {B : Nat} {a w : World} (h : Below B a w) (g : Nat) (hg : B ≤ g) (v0 v1 : Value) :
    Below B a ((w.setCell ⟨g, 0, none⟩ v0).setCell ⟨g, 1, none⟩ v1) :=
  (h.setCell (p := ⟨g, 0, none⟩) hg v0).setCell (p := ⟨g, 1, none⟩) hg v1
theorem out2_cells (w : World) (g : Nat) (u0 u1 v0 v1 : Value) (h0 : w.cell? ⟨g, 0, none⟩ = some u0) (h1 : w.cell? ⟨g, 1, none⟩ = some u1) :
    ((w.setCell ⟨g, 0, none⟩ v0).setCell ⟨g, 1, none⟩ v1).cell? ⟨g, 0, none⟩ = some v0 ∧ ((w.setCell ⟨g, 0, none⟩ v0).setCell ⟨g, 1, none⟩ v1).cell? ⟨g, 1, none⟩ = some v1 := by
  refine ⟨?_, ?_⟩
  · rw [World.cell?_setCell_other _ _ _ _ (by simp)]
    exact World.cell?_setCell_same _ _ _ h0
  · refine World.cell?_setCell_same (u := u1) _ _ _ ?_
    rw [World.cell?_setCell_other _ _ _ _ (by simp)]
    exact h1
/-- A box of two cells, and of eight. -/
theorem boxed2 {w W : World} {a b : Value} {t : TypeId} (h : Below (w.heap.size + 1) (w.alloc (.cells #[a, b] t)) W) :
    W.cell? ⟨w.heap.size, 0, none⟩ = some a ∧ W.cell? ⟨w.heap.size, 1, none⟩ = some b ∧ W.frozen? ⟨w.heap.size, 0, none⟩ = false ∧ W.frozen? ⟨w.heap.size, 1, none⟩ = false :=
  ⟨by rw [h.cell (by simp)]; simp, by rw [h.cell (by simp)]; simp, by rw [h.frozen (by simp)]; simp, by rw [h.frozen (by simp)]; simp⟩

theorem just_any (n : Int) (w : World) : Calls Tryd.prog 86 #[.int .i64 n] w (GivesSz w (n, n)) := by
  go_enter Tryd.func86, Tryd.ntmps86
  go_wp2
  exact bodyPost_ret (v := .agg #[.int .i64 n, .int .i64 n]) (by simp [results, Tryd.results86, go_sem]) rfl ⟨rfl, below1 _ _⟩
theorem some_any (w : World) : Calls Tryd.prog 87 #[] w (GivesSz w (1, 64)) := by
  go_enter Tryd.func87, Tryd.ntmps87
  go_wp2
  exact bodyPost_ret (v := .agg #[.int .i64 1, .int .i64 64]) (by simp [results, Tryd.results87, go_sem]) rfl ⟨rfl, below1 _ _⟩
theorem has_any (s : Int × Int) (n : Int) (w : World) : Calls Tryd.prog 70 #[.agg #[.int .i64 s.1, .int .i64 s.2], .int .i64 n] w fun e w' => e = .returned (.bool (inS s n)) ∧ Below w.heap.size w w' := by
  obtain ⟨l, m⟩ := s
  unfold inS
  by_cases h0 : l ≤ n
  · go_enter Tryd.func70, Tryd.ntmps70
    go_wp2_with fail
    go_ret
    exact ⟨ret_bool (by simp <;> omega), below1 _ _⟩
  · go_enter Tryd.func70, Tryd.ntmps70
    go_wp2_with fail
    go_ret
    exact ⟨ret_bool (by simp <;> omega), below1 _ _⟩

def sizeA (c : ConL) (sh : ByteArray) : Int × Int := if c.kind = 12 then (0, 64) else if 0 < (bl sh).count 118 then (((bl sh).count 118 : Nat), ((bl sh).count 118 : Nat)) else (1, 64)
def sizeB (c : ConL) (sh : ByteArray) : Int × Int := if c.kind = 12 then (max 0 (1 - (c.A.length : Int)), 64) else if hasC sh 87 then ((c.A.length : Nat), (c.A.length : Nat)) else if hasC sh 119 then (1, 1) else (0, 0)
def sizeC (c : ConL) (sh : ByteArray) : Int × Int := if hasC sh 99 then (if c.kind = 11 ∨ c.kind = 21 then (1, 64) else ((c.A.length : Nat), (c.A.length : Nat))) else (0, 0)
def sizeL (c : ConL) (sh : ByteArray) (x : UInt8) : Int × Int := if hasC sh x then ((c.C.length : Nat), (c.C.length : Nat)) else (0, 0)

theorem sizeOfA_any (v : ConV) (c : ConL) (sh : ByteArray) (w : World) : Calls Tryd.prog 69 #[v.val c.kind c.K, .string sh] w (GivesSz w (sizeA c sh)) := by
  have C0 := Lib.hid (fun W => count_one sh 118 W)
  have C1 := Lib.hid just_any
  have C2 := Lib.hid some_any
  unfold sizeA
  generalize (bl sh).count 118 = N at C0 ⊢
  generalize c.kind = kd at *
  generalize c.K = kk at *
  by_cases h12 : kd = 12
  · rw [if_pos h12]
    have hb : (kd == 12) = true := by simpa using h12
    clear h12
    go_enter Tryd.func69, Tryd.ntmps69
    go_wp2_with fail
    exact bodyPost_ret (v := .agg #[.int .i64 0, .int .i64 64]) (by simp [results, Tryd.results69, go_sem]) rfl ⟨rfl, (below1 _ _).trans ((below1 _ _).mono (by simp))⟩
  · rw [if_neg h12]
    have hb : (kd == 12) = false := by simpa using h12
    clear h12
    by_cases h0 : 0 < N
    · rw [if_pos h0]
      go_enter Tryd.func69, Tryd.ntmps69
      go_wp2_with fail
      refine (C0.out _).mono ?_
      rintro e w1 ⟨rfl, rfl⟩
      go_wp2_with fail
      refine (C1.out (N : Nat) _).mono ?_
      rintro e w2 ⟨rfl, b2⟩
      have b3 : Below ((w.alloc (.cells (v.cells kd kk) 30)).heap.size + 1) _ w2 := b2.mono (by simp)
      obtain ⟨q0, q1, f0, f1⟩ := boxed2 b3
      simp only [World.size_alloc] at q0 q1 f0 f1
      have B1 : Hid (Below w.heap.size w w2) := Lib.hid ((below1 w _).trans ((of_boxed b3).mono (by simp)))
      clear b2 b3
      go_wp2_with fail
      obtain ⟨p0, p1⟩ := out2_cells w2 (w.heap.size + 1) _ _ (.int .i64 ((N : Nat) : Int)) (.int .i64 ((N : Nat) : Int)) q0 q1
      exact bodyPost_ret (v := .agg #[.int .i64 ((N : Nat) : Int), .int .i64 ((N : Nat) : Int)]) (by simp [results, Tryd.results69, go_sem, p0, p1]) rfl ⟨rfl, out2_below B1.out _ (by omega) _ _⟩
    · rw [if_neg h0]
      go_enter Tryd.func69, Tryd.ntmps69
      go_wp2_with fail
      refine (C0.out _).mono ?_
      rintro e w1 ⟨rfl, rfl⟩
      go_wp2_with fail
      refine (C2.out _).mono ?_
      rintro e w2 ⟨rfl, b2⟩
      have b3 : Below ((w.alloc (.cells (v.cells kd kk) 30)).heap.size + 1) _ w2 := b2.mono (by simp)
      obtain ⟨q0, q1, f0, f1⟩ := boxed2 b3
      simp only [World.size_alloc] at q0 q1 f0 f1
      have B1 : Hid (Below w.heap.size w w2) := Lib.hid ((below1 w _).trans ((of_boxed b3).mono (by simp)))
      clear b2 b3
      go_wp2_with fail
      obtain ⟨p0, p1⟩ := out2_cells w2 (w.heap.size + 1) _ _ (.int .i64 1) (.int .i64 64) q0 q1
      exact bodyPost_ret (v := .agg #[.int .i64 1, .int .i64 64]) (by simp [results, Tryd.results69, go_sem, p0, p1]) rfl ⟨rfl, out2_below B1.out _ (by omega) _ _⟩

theorem sizeOfB_any (v : ConV) (c : ConL) (sh : ByteArray) (w : World) (hl : v.a.n = c.A.length) (hn : v.a.n ≤ 4611686018427387903) : Calls Tryd.prog 71 #[v.val c.kind c.K, .string sh] w (GivesSz w (sizeB c sh)) := by
  have C0 := Lib.hid (fun W => contains_one sh 87 W)
  have C3 := Lib.hid (fun W => contains_one sh 119 W)
  have C1 := Lib.hid just_any
  unfold sizeB
  rw [← hl]
  clear hl
  generalize c.kind = kd at *
  generalize c.K = kk at *
  by_cases h12 : kd = 12
  · rw [if_pos h12]
    have hb : (kd == 12) = true := by simpa using h12
    clear h12
    go_enter Tryd.func71, Tryd.ntmps71
    go_wp2_with fail
    exact bodyPost_ret (v := .agg #[.int .i64 (max 0 (1 - ((v.a.n : Nat) : Int))), .int .i64 64]) (by simp [results, Tryd.results71, go_sem]) rfl ⟨rfl, (below1 _ _).trans ((below1 _ _).mono (by simp))⟩
  · rw [if_neg h12]
    have hb : (kd == 12) = false := by simpa using h12
    clear h12
    cases h87 : hasC sh 87 <;> rw [h87] at C0
    · cases h119 : hasC sh 119 <;> rw [h119] at C3
      · go_enter Tryd.func71, Tryd.ntmps71
        go_wp2_with fail
        refine (C0.out _).mono ?_
        rintro e w1 ⟨rfl, rfl⟩
        go_wp2_with fail
        refine (C3.out _).mono ?_
        rintro e w1 ⟨rfl, rfl⟩
        go_wp2_with fail
        exact bodyPost_ret (v := .agg #[.int .i64 0, .int .i64 0]) (by simp [results, Tryd.results71, go_sem]) rfl ⟨rfl, (below1 _ _).trans ((below1 _ _).mono (by simp))⟩
      · go_enter Tryd.func71, Tryd.ntmps71
        go_wp2_with fail
        refine (C0.out _).mono ?_
        rintro e w1 ⟨rfl, rfl⟩
        go_wp2_with fail
        refine (C3.out _).mono ?_
        rintro e w1 ⟨rfl, rfl⟩
        go_wp2_with fail
        refine (C1.out 1 _).mono ?_
        rintro e w2 ⟨rfl, b2⟩
        have b3 : Below ((w.alloc (.cells (v.cells kd kk) 30)).heap.size + 1) _ w2 := b2.mono (by simp)
        obtain ⟨q0, q1, f0, f1⟩ := boxed2 b3
        simp only [World.size_alloc] at q0 q1 f0 f1
        have B1 : Hid (Below w.heap.size w w2) := Lib.hid ((below1 w _).trans ((of_boxed b3).mono (by simp)))
        clear b2 b3
        go_wp2_with fail
        obtain ⟨p0, p1⟩ := out2_cells w2 (w.heap.size + 1) _ _ (.int .i64 1) (.int .i64 1) q0 q1
        exact bodyPost_ret (v := .agg #[.int .i64 1, .int .i64 1]) (by simp [results, Tryd.results71, go_sem, p0, p1]) rfl ⟨rfl, out2_below B1.out _ (by omega) _ _⟩
    · go_enter Tryd.func71, Tryd.ntmps71
      go_wp2_with fail
      refine (C0.out _).mono ?_
      rintro e w1 ⟨rfl, rfl⟩
      go_wp2_with fail
      refine (C1.out (v.a.n : Nat) _).mono ?_
      rintro e w2 ⟨rfl, b2⟩
      have b3 : Below ((w.alloc (.cells (v.cells kd kk) 30)).heap.size + 1) _ w2 := b2.mono (by simp)
      obtain ⟨q0, q1, f0, f1⟩ := boxed2 b3
      simp only [World.size_alloc] at q0 q1 f0 f1
      have B1 : Hid (Below w.heap.size w w2) := Lib.hid ((below1 w _).trans ((of_boxed b3).mono (by simp)))
      clear b2 b3
      go_wp2_with fail
      obtain ⟨p0, p1⟩ := out2_cells w2 (w.heap.size + 1) _ _ (.int .i64 ((v.a.n : Nat) : Int)) (.int .i64 ((v.a.n : Nat) : Int)) q0 q1
      exact bodyPost_ret (v := .agg #[.int .i64 ((v.a.n : Nat) : Int), .int .i64 ((v.a.n : Nat) : Int)]) (by simp [results, Tryd.results71, go_sem, p0, p1]) rfl ⟨rfl, out2_below B1.out _ (by omega) _ _⟩

theorem sizeOfC_any (v : ConV) (c : ConL) (sh : ByteArray) (w : World) (hl : v.a.n = c.A.length) : Calls Tryd.prog 72 #[v.val c.kind c.K, .string sh] w (GivesSz w (sizeC c sh)) := by
  have C0 := Lib.hid (fun W => contains_one sh 99 W)
  have C1 := Lib.hid just_any
  have C2 := Lib.hid some_any
  unfold sizeC
  rw [← hl]
  clear hl
  generalize c.kind = kd at *
  generalize c.K = kk at *
  cases h99 : hasC sh 99 <;> rw [h99] at C0
  · go_enter Tryd.func72, Tryd.ntmps72
    go_wp2_with fail
    refine (C0.out _).mono ?_
    rintro e w1 ⟨rfl, rfl⟩
    go_wp2_with fail
    exact bodyPost_ret (v := .agg #[.int .i64 0, .int .i64 0]) (by simp [results, Tryd.results72, go_sem]) rfl ⟨rfl, (below1 _ _).trans ((below1 _ _).mono (by simp))⟩
  · by_cases h11 : kd = 11
    · rw [if_pos rfl, if_pos (.inl h11)]
      have hb : (kd == 11) = true := by simpa using h11
      clear h11
      go_enter Tryd.func72, Tryd.ntmps72
      go_wp2_with fail
      refine (C0.out _).mono ?_
      rintro e w1 ⟨rfl, rfl⟩
      go_wp2_with fail
      refine (C2.out _).mono ?_
      rintro e w2 ⟨rfl, b2⟩
      have b3 : Below ((w.alloc (.cells (v.cells kd kk) 30)).heap.size + 1) _ w2 := b2.mono (by simp)
      obtain ⟨q0, q1, f0, f1⟩ := boxed2 b3
      simp only [World.size_alloc] at q0 q1 f0 f1
      have B1 : Hid (Below w.heap.size w w2) := Lib.hid ((below1 w _).trans ((of_boxed b3).mono (by simp)))
      clear b2 b3
      go_wp2_with fail
      obtain ⟨p0, p1⟩ := out2_cells w2 (w.heap.size + 1) _ _ (.int .i64 1) (.int .i64 64) q0 q1
      exact bodyPost_ret (v := .agg #[.int .i64 1, .int .i64 64]) (by simp [results, Tryd.results72, go_sem, p0, p1]) rfl ⟨rfl, out2_below B1.out _ (by omega) _ _⟩
    · have hb : (kd == 11) = false := by simpa using h11
      by_cases h21 : kd = 21
      · rw [if_pos rfl, if_pos (.inr h21)]
        have hb2 : (kd == 21) = true := by simpa using h21
        clear h11 h21
        go_enter Tryd.func72, Tryd.ntmps72
        go_wp2_with fail
        refine (C0.out _).mono ?_
        rintro e w1 ⟨rfl, rfl⟩
        go_wp2_with fail
        refine (C2.out _).mono ?_
        rintro e w2 ⟨rfl, b2⟩
        have b3 : Below ((w.alloc (.cells (v.cells kd kk) 30)).heap.size + 1) _ w2 := b2.mono (by simp)
        obtain ⟨q0, q1, f0, f1⟩ := boxed2 b3
        simp only [World.size_alloc] at q0 q1 f0 f1
        have B1 : Hid (Below w.heap.size w w2) := Lib.hid ((below1 w _).trans ((of_boxed b3).mono (by simp)))
        clear b2 b3
        go_wp2_with fail
        obtain ⟨p0, p1⟩ := out2_cells w2 (w.heap.size + 1) _ _ (.int .i64 1) (.int .i64 64) q0 q1
        exact bodyPost_ret (v := .agg #[.int .i64 1, .int .i64 64]) (by simp [results, Tryd.results72, go_sem, p0, p1]) rfl ⟨rfl, out2_below B1.out _ (by omega) _ _⟩
      · rw [if_pos rfl, if_neg (by omega)]
        have hb2 : (kd == 21) = false := by simpa using h21
        clear h11 h21
        go_enter Tryd.func72, Tryd.ntmps72
        go_wp2_with fail
        refine (C0.out _).mono ?_
        rintro e w1 ⟨rfl, rfl⟩
        go_wp2_with fail
        refine (C1.out (v.a.n : Nat) _).mono ?_
        rintro e w2 ⟨rfl, b2⟩
        have b3 : Below ((w.alloc (.cells (v.cells kd kk) 30)).heap.size + 1) _ w2 := b2.mono (by simp)
        obtain ⟨q0, q1, f0, f1⟩ := boxed2 b3
        simp only [World.size_alloc] at q0 q1 f0 f1
        have B1 : Hid (Below w.heap.size w w2) := Lib.hid ((below1 w _).trans ((of_boxed b3).mono (by simp)))
        clear b2 b3
        go_wp2_with fail
        obtain ⟨p0, p1⟩ := out2_cells w2 (w.heap.size + 1) _ _ (.int .i64 ((v.a.n : Nat) : Int)) (.int .i64 ((v.a.n : Nat) : Int)) q0 q1
        exact bodyPost_ret (v := .agg #[.int .i64 ((v.a.n : Nat) : Int), .int .i64 ((v.a.n : Nat) : Int)]) (by simp [results, Tryd.results72, go_sem, p0, p1]) rfl ⟨rfl, out2_below B1.out _ (by omega) _ _⟩

theorem sizeLikeC_any (v : ConV) (c : ConL) (sh : ByteArray) (x : UInt8) (w : World) (hl : v.c.n = c.C.length) : Calls Tryd.prog 73 #[v.val c.kind c.K, .string sh, .string ⟨#[x]⟩] w (GivesSz w (sizeL c sh x)) := by
  have C0 := Lib.hid (fun W => contains_one sh x W)
  have C1 := Lib.hid just_any
  unfold sizeL
  rw [← hl]
  clear hl
  generalize c.kind = kd at *
  generalize c.K = kk at *
  cases h99 : hasC sh x <;> rw [h99] at C0
  · go_enter Tryd.func73, Tryd.ntmps73
    go_wp2_with fail
    refine (C0.out _).mono ?_
    rintro e w1 ⟨rfl, rfl⟩
    go_wp2_with fail
    exact bodyPost_ret (v := .agg #[.int .i64 0, .int .i64 0]) (by simp [results, Tryd.results73, go_sem]) rfl ⟨rfl, (below1 _ _).trans ((below1 _ _).mono (by simp))⟩
  · go_enter Tryd.func73, Tryd.ntmps73
    go_wp2_with fail
    refine (C0.out _).mono ?_
    rintro e w1 ⟨rfl, rfl⟩
    go_wp2_with fail
    refine (C1.out (v.c.n : Nat) _).mono ?_
    rintro e w2 ⟨rfl, b2⟩
    have b3 : Below ((w.alloc (.cells (v.cells kd kk) 30)).heap.size + 1) _ w2 := b2.mono (by simp)
    obtain ⟨q0, q1, f0, f1⟩ := boxed2 b3
    simp only [World.size_alloc] at q0 q1 f0 f1
    have B1 : Hid (Below w.heap.size w w2) := Lib.hid ((below1 w _).trans ((of_boxed b3).mono (by simp)))
    clear b2 b3
    go_wp2_with fail
    obtain ⟨p0, p1⟩ := out2_cells w2 (w.heap.size + 1) _ _ (.int .i64 ((v.c.n : Nat) : Int)) (.int .i64 ((v.c.n : Nat) : Int)) q0 q1
    exact bodyPost_ret (v := .agg #[.int .i64 ((v.c.n : Nat) : Int), .int .i64 ((v.c.n : Nat) : Int)]) (by simp [results, Tryd.results73, go_sem, p0, p1]) rfl ⟨rfl, out2_below B1.out _ (by omega) _ _⟩
end Go.Proofs.YtppiemgdjkehkaaDoor

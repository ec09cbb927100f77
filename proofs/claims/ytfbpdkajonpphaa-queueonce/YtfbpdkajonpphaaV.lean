/- An argument of type []Act (layer 4's), opened; a queue and the reference's list side by side. No walk. -/
import Derived.Test.YtfbpdkajonpphaaRo
import Derived.Deep.Slices
import Derived.ProofKit
import Derived.OpenShut
namespace Go.Proofs.Ytfbpdkajonpphaa
open Go.ChangeShapes Go.WideShapes Go.ChangeAt Go.RowKit Go.Deep

theorem add_block (a : Addr) (n : Nat) : (a.add n).block = a.block := by unfold Addr.add; split <;> rfl
theorem add_add4 (a : Addr) (n m : Nat) : (a.add n).add m = a.add (n + m) := by
  unfold Addr.add
  by_cases h1 : n = 0
  · subst h1; simp
  · by_cases h2 : m = 0
    · subst h2; simp
    · simp [h1, h2, Nat.add_assoc]
theorem add_next4 (a : Addr) (n j : Nat) (hj : 0 < j) : ({ block := (a.add n).block, off := (a.add n).off + j } : Addr) = a.add (n + j) := by
  unfold Addr.add
  rw [if_neg (show ¬ n + j = 0 by omega)]
  split
  · next h => subst h; simp
  · simp [Nat.add_assoc]

/-- A step's numbers. -/
structure ActW (kd x b N : Int) : Prop where
  kd0 : 0 ≤ kd
  kd1 : kd ≤ 255
  x0 : -9223372036854775808 ≤ x
  x1 : x ≤ 9223372036854775807
  b0 : -9223372036854775808 ≤ b
  b1 : b ≤ 9223372036854775807
  N0 : 0 ≤ N
  N1 : N ≤ 255

/-- Steps that came in. -/
def ActsIn (w : World) (A : Option Addr) (n : Nat) : Prop :=
  0 < n → ∃ ad, A = some ad ∧ ad.block < w.heap.size ∧ ∀ k, k < n → ∃ kd x b N, w.cell? (ad.add (k * 4)) = some (.int .u8 kd) ∧ w.cell? (ad.add (k * 4 + 1)) = some (.int .i64 x) ∧ w.cell? (ad.add (k * 4 + 2)) = some (.int .i64 b) ∧ w.cell? (ad.add (k * 4 + 3)) = some (.int .u8 N) ∧ ActW kd x b N

/-- One of them, met later. -/
theorem ActsIn.at {w W : World} {ad : Addr} {n : Nat} (h : ActsIn w (some ad) n) (hW : Below w.heap.size w W) {k : Nat} (hk : k < n) : ∃ kd x b N, W.cell? (ad.add (k * 4)) = some (.int .u8 kd) ∧ W.cell? ⟨(ad.add (k * 4)).block, (ad.add (k * 4)).off + 1, none⟩ = some (.int .i64 x) ∧ W.cell? ⟨(ad.add (k * 4)).block, (ad.add (k * 4)).off + 2, none⟩ = some (.int .i64 b) ∧ W.cell? ⟨(ad.add (k * 4)).block, (ad.add (k * 4)).off + 3, none⟩ = some (.int .u8 N) ∧ ActW kd x b N := by
  obtain ⟨ad', e, hb, hr⟩ := h (by omega)
  cases e
  obtain ⟨kd, x, b, N, c0, c1, c2, c3, hA⟩ := hr k hk
  refine ⟨kd, x, b, N, (hW.cell (by rw [add_block]; exact hb)).trans c0, ?_, ?_, ?_, hA⟩
  · rw [add_next4 _ _ _ (by omega)]; exact (hW.cell (by rw [add_block]; exact hb)).trans c1
  · rw [add_next4 _ _ _ (by omega)]; exact (hW.cell (by rw [add_block]; exact hb)).trans c2
  · rw [add_next4 _ _ _ (by omega)]; exact (hW.cell (by rw [add_block]; exact hb)).trans c3

theorem cells27 : Try.prog.cellsOf 27 = 4 := by kernel_rfl
theorem cells3 : Try.prog.cellsOf 3 = 1 := by kernel_rfl
theorem cells5 : Try.prog.cellsOf 5 = 1 := by kernel_rfl

set_option maxRecDepth 100000 in
/-- An argument of type []Act: where its steps lie. -/
theorem view_acts {H : Type} {enc : TypeId × Value → H} {W : World} {fuel : Nat} {b0 : Option Addr} {len cap : Nat} {d : DataW H} {p : List MemPlace}
    (hf : DataW.trod enc Try.prog W 0 (fun _ => true) true fuel 22 (Value.slice b0 len cap).cells.toList = some (d, p)) :
    len ≤ cap ∧ (len = 0 ∨ ∃ a, b0 = some a) ∧ ActsIn W b0 len := by
  rcases open_slice Try.underlying22 hf with ⟨hcs, _⟩ | ⟨a, len', cap', m, n, D, Pl, hcs, _, hl, _, hmm, _, hi⟩
  · simp [Value.cells] at hcs
    obtain ⟨rfl, rfl, rfl⟩ := hcs
    exact ⟨Nat.le_refl _, .inl rfl, fun h => absurd h (by omega)⟩
  · simp [Value.cells] at hcs
    obtain ⟨rfl, rfl, rfl⟩ := hcs
    simp only [if_true] at hmm
    have key : ∀ i, i < len → ∃ kd x b N, W.cell? (a.add (i * 4)) = some (.int .u8 kd) ∧ W.cell? (a.add (i * 4 + 1)) = some (.int .i64 x) ∧ W.cell? (a.add (i * 4 + 2)) = some (.int .i64 b) ∧ W.cell? (a.add (i * 4 + 3)) = some (.int .u8 N) ∧ ActW kd x b N := by
      intro i hil
      obtain ⟨cs', hc, ht⟩ := hi i (by omega)
      rw [cells27] at hc
      obtain ⟨_, hcl, hat⟩ := World.cells?_some hc
      obtain ⟨xs, n', _, _, _, hxl, hg⟩ := DataW.trod_struct Try.underlying27 ht
      match cs', hcl with
      | [u0, u1, u2, u3], _ =>
        match xs, hxl with
        | [x0, x1, x2, x3], _ =>
          have f0 : DataW.trod enc Try.prog W 0 (fun _ => true) true n' 5 [u0] = some x0 := by
            have := hg 0 { name := "Do", type := 5, offset := 0, embedded := false, tag := "", pkgPath := "", byteOffset := 0 } rfl
            simpa [cells5] using this
          have f1 : DataW.trod enc Try.prog W 0 (fun _ => true) true n' 3 [u1] = some x1 := by
            have := hg 1 { name := "ID", type := 3, offset := 1, embedded := false, tag := "", pkgPath := "", byteOffset := 8 } rfl
            simpa [cells3] using this
          have f2 : DataW.trod enc Try.prog W 0 (fun _ => true) true n' 3 [u2] = some x2 := by
            have := hg 2 { name := "Bucket", type := 3, offset := 2, embedded := false, tag := "", pkgPath := "", byteOffset := 16 } rfl
            simpa [cells3] using this
          have f3 : DataW.trod enc Try.prog W 0 (fun _ => true) true n' 5 [u3] = some x3 := by
            have := hg 3 { name := "N", type := 5, offset := 3, embedded := false, tag := "", pkgPath := "", byteOffset := 24 } rfl
            simpa [cells5] using this
          obtain ⟨kd, e0, _, wf0⟩ := DataW.trod_int Try.underlying5 f0
          obtain ⟨v, e1, _, wf1⟩ := DataW.trod_int Try.underlying3 f1
          obtain ⟨b, e2, _, wf2⟩ := DataW.trod_int Try.underlying3 f2
          obtain ⟨N, e3, _, wf3⟩ := DataW.trod_int Try.underlying5 f3
          have c0 := hat 0 (by omega)
          have c1 := hat 1 (by omega)
          have c2 := hat 2 (by omega)
          have c3 := hat 3 (by omega)
          rw [add_add4] at c0 c1 c2 c3
          simp only [List.cons.injEq, and_true] at e0 e1 e2 e3
          subst e0 e1 e2 e3
          have b0 : 0 ≤ kd ∧ kd ≤ 255 := by simpa [Lit.wf, IntKind.min, IntKind.max, IntKind.signed, IntKind.bits] using wf0
          have b1 : -9223372036854775808 ≤ v ∧ v ≤ 9223372036854775807 := by simpa [Lit.wf, IntKind.min, IntKind.max, IntKind.signed, IntKind.bits] using wf1
          have b2 : -9223372036854775808 ≤ b ∧ b ≤ 9223372036854775807 := by simpa [Lit.wf, IntKind.min, IntKind.max, IntKind.signed, IntKind.bits] using wf2
          have b3 : 0 ≤ N ∧ N ≤ 255 := by simpa [Lit.wf, IntKind.min, IntKind.max, IntKind.signed, IntKind.bits] using wf3
          exact ⟨kd, v, b, N, c0, c1, c2, c3, ⟨b0.1, b0.2, b1.1, b1.2, b2.1, b2.2, b3.1, b3.2⟩⟩
    refine ⟨hl, .inr ⟨a, rfl⟩, fun hp => ⟨a, rfl, ?_, key⟩⟩
    obtain ⟨_, _, _, _, c0, _⟩ := key 0 hp
    have := World.block_lt_of_cell? W _ c0
    rwa [add_block] at this

theorem wf_of {x : Int} (h0 : -9223372036854775808 ≤ x) (h1 : x ≤ 9223372036854775807) : (Lit.int .i64 x).wf = true := by
  simp [Lit.wf, IntKind.min, IntKind.max, IntKind.signed, IntKind.bits]
  omega

/-- The queue, and the reference's list, side by side. -/
structure Pq (w wr : World) (sz : Int) (q : Qs) (l : List (Int × Nat)) (lv : Value) (k : Nat) : Prop where
  isq : IsQ wr q l
  ref : OneT 0 wr lv l
  n : q.n = sz
  own : ∀ b, q.own b → w.heap.size ≤ b
  low : Below w.heap.size w wr
  len : l.length ≤ k

theorem Pq.below {w wr w' : World} {sz : Int} {q : Qs} {l : List (Int × Nat)} {lv : Value} {k : Nat} (h : Pq w wr sz q l lv k) (hb : Below wr.heap.size wr w') : Pq w w' sz q l lv k :=
  ⟨h.isq.below hb, h.ref.below hb, h.n, h.own, h.low.trans (hb.mono h.low.size), h.len⟩
theorem Pq.more {w wr : World} {sz : Int} {q : Qs} {l : List (Int × Nat)} {lv : Value} {k k' : Nat} (h : Pq w wr sz q l lv k) (hk : k ≤ k') : Pq w wr sz q l lv k' := ⟨h.isq, h.ref, h.n, h.own, h.low, Nat.le_trans h.len hk⟩

/-- What a queue's call leaves. -/
theorem Pq.fq {w wr w' : World} {sz : Int} {q q' : Qs} {l l' : List (Int × Nat)} {lv lv' : Value} {k k' : Nat} (h : Pq w wr sz q l lv k) (hq : IsQ w' q' l') (hf : Fq q q' wr w') (hr : OneT 0 w' lv' l') (hk : l'.length ≤ k') : Pq w w' sz q' l' lv' k' :=
  ⟨hq, hr, hf.same.2.trans h.n, hf.above h.own h.low.size, h.low.trans (hf.below h.own h.low.size), hk⟩
theorem Pq.shape {w wr : World} {sz : Int} {q : Qs} {l : List (Int × Nat)} {lv : Value} {k : Nat} (h : Pq w wr sz q l lv k) : ∃ A c, lv = .slice A l.length c := h.ref.shape
end Go.Proofs.Ytfbpdkajonpphaa

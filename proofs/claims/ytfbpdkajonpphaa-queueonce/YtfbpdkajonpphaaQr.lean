/- Contracts of a queue's take, Pop and Clear. -/
import Derived.Test.YtfbpdkajonpphaaQp
namespace Go.Proofs.Ytfbpdkajonpphaa
open Go.RowKit Go.Maps

section
variable {w : World} {q : Qs} {l l1 l2 : List (Int × Nat)} {x : Int} {b : Nat}

set_option maxHeartbeats 1000000 in
theorem take_q (h : IsQ w q l) (hb : b < 4) (el : l = l1 ++ (x, b) :: l2) (hno : ∀ p ∈ l1, p.2 ≠ b) :
    Calls Try.prog 16 #[ptr q.Q, .int .i64 (b : Nat)] w fun e w' => e = .returned (.int .i64 x) ∧ ∃ v, IsQ w' (q.put b v) (l1 ++ l2) ∧ Fq q (q.put b v) w w' := by
  have hx : (Lit.int .i64 x).wf = true := h.wf (x, b) (by rw [el]; simp)
  have hin : inB l b = x :: inB l2 b := by rw [el, inB_append, inB_none hno, inB_cons, if_pos rfl, List.nil_append]
  obtain ⟨-, cs, -⟩ := h.cells
  have hB := h.bkt b hb
  rw [hin] at hB
  obtain ⟨g, off, cap, hs, hcap, hc⟩ := hB.cell (j := 0) (x := x) rfl
  rw [Nat.add_zero] at hc
  rw [hs] at hB
  have ck := cs b hb
  rw [hs] at ck
  obtain ⟨n, hn⟩ : ∃ n, n = (x :: inB l2 b).length := ⟨_, rfl⟩
  rw [← hn] at hs hB ck hcap
  have hn1 : 1 ≤ n := by rw [hn]; simp
  have hn1' : (1 : Int) ≤ (n : Nat) := by omega
  have hb4 : (b : Int) < 4 := by omega
  have hn0 : (0 : Int) < (n : Nat) := by omega
  clear hn
  have hd := h.below ((Below.refl _ w).drew)
  have hBd : Bkt w.drew (.slice (some ⟨g, off, none⟩) n cap) (x :: inB l2 b) := hB
  obtain ⟨A', hA'⟩ : ∃ A', A' = if cap = 1 then some (⟨g, off, none⟩ : Addr) else some ⟨g, off + 1, none⟩ := ⟨_, rfl⟩
  have es : sliced (some ⟨g, off, none⟩) 1 n cap 1 = .slice A' (n - 1) (cap - 1) := by
    rw [hA']
    unfold sliced
    split <;> simp [Addr.add_lit]
  have ht := hBd.tail
  rw [es] at ht
  have HT := Lib.hid fun (w2 : World) (e2 : w2 = w.drew.setCell ⟨q.Q, 1 + b, none⟩ (.slice A' (n - 1) (cap - 1))) => hd.take hb el hno ht.1 (by intro g' hg; rw [hs, ht.2 g' hg]; rfl) e2
  have HF0 := Lib.hid (Fq.of_below q ((Below.refl _ w).drew))
  have fd := hd.head.free (1 + b)
  have cd := (hd.head.cell (1 + b)).trans ((h.head.cell (1 + b)).symm.trans ck)
  have HH := Lib.hid hd.head
  clear hd hBd es ht
  clear cs h hB el hno hin hs
  go_enter Try.func16, Try.ntmps16
  go_wp2_with fail
  go_still_tail 12, (by kernel_rfl)
  change wpList _ _ _ _ _ w.drew
  rw [← hA']
  clear hA' hc ck
  generalize w.drew = W at *
  go_upto_region 3 with fail
  obtain ⟨W2, e2⟩ : ∃ W2, W2 = W.setCell ⟨q.Q, 1 + b, none⟩ (.slice A' (n - 1) (cap - 1)) := ⟨_, rfl⟩
  have B2 : Blk W2 q.Q (q.put b (.slice A' (n - 1) (cap - 1))).cells 46 := by rw [Qs.put_cells q b _ hb, e2]; exact HH.out.set _ _
  have c5 : W2.cell? ⟨q.Q, 5, none⟩ = some (.map (some q.m)) := B2.cell 5
  obtain ⟨D, hD, hfin⟩ := HT.out W2 e2
  rw [← e2]
  have HFin := Lib.hid hfin
  have hkey := key_mk hx
  clear HT hfin B2 HH fd cd e2
  go_wp2_with (first | (at_delete; refine wpList_delete_own _ rfl _ _ 43 3 rfl 50 law3 Try.underlying43 _ q.m (size D) D rfl hD _ _ rfl hkey ?_; intro w3 hown3 ht3) | go_in)
  go_ret
  obtain ⟨r1, r2⟩ := HFin.out w3 hown3 ht3
  exact ⟨rfl, _, r1, HF0.out.trans r2⟩

theorem pop_none (h : IsQ w q []) : Calls Try.prog 7 #[ptr q.Q] w fun e w' => e = .returned (.tuple #[.int .i64 0, .bool false]) ∧ w = w' := by
  obtain ⟨-, cs, -⟩ := h.cells
  have hc : ∀ i, i < 4 → ∃ A c, w.cell? ⟨q.Q, 1 + i, none⟩ = some (.slice A 0 c) := by
    intro i hi
    obtain ⟨A, c, e⟩ := (h.bkt i hi).shape
    rw [inB_nil] at e
    exact ⟨A, c, by rw [cs i hi, e]; rfl⟩
  have HC := Lib.hid hc
  clear cs hc h
  go_enter Try.func7, Try.ntmps7
  go_wp2_with fail
  go_loopw [7] (fun i wr => ∃ k : Nat, k ≤ 4 ∧ i = .int .i64 (k : Nat) ∧ w = wr) (fun i _ => 4 - (intOf i).toNat)
  case atStart => exact ⟨0, by omega, rfl, rfl⟩
  case round =>
    obtain ⟨k, hk, rfl, rfl⟩ := hrel
    by_cases hk4 : k < 4
    · obtain ⟨A, c, ck⟩ := HC.out k hk4
      have hk' : (k : Int) < 4 := by omega
      go_wp2_with fail
      go_roundw
      case rel => exact ⟨k + 1, by omega, by go_num, by first | trivial | rfl⟩
      case measure => simp [intOf]; omega
    · have hk' : ¬ ((k : Int) < 4) := by omega
      go_wp2_with fail
      go_ret2
      exact ⟨rfl, rfl⟩

theorem pop_most (h : IsQ w q l) (M : Most l l1 l2 x b) : Calls Try.prog 7 #[ptr q.Q] w fun e w' => e = .returned (.tuple #[.int .i64 x, .bool true]) ∧ ∃ v, IsQ w' (q.put b v) (l1 ++ l2) ∧ Fq q (q.put b v) w w' := by
  have hb : b < 4 := h.four (x, b) M.mem
  obtain ⟨-, cs, -⟩ := h.cells
  have hc : ∀ i, i < b → ∃ A c, w.cell? ⟨q.Q, 1 + i, none⟩ = some (.slice A 0 c) := by
    intro i hi
    obtain ⟨A, c, e⟩ := (h.bkt i (by omega)).shape
    rw [M.none hi] at e
    exact ⟨A, c, by rw [cs i (by omega), e]; rfl⟩
  have hc' : ∃ A n c, w.cell? ⟨q.Q, 1 + b, none⟩ = some (.slice A n c) ∧ (0 : Int) < (n : Nat) := by
    obtain ⟨A, c, e⟩ := (h.bkt b hb).shape
    refine ⟨A, _, c, by rw [cs b hb, e], ?_⟩
    rw [M.inB]
    simp
  have HC := Lib.hid hc
  have HC' := Lib.hid hc'
  have HT := Lib.hid (take_q h hb M.eq M.first)
  clear cs hc hc' h M
  go_enter Try.func7, Try.ntmps7
  go_wp2_with fail
  go_loopw [7] (fun i wr => ∃ k : Nat, k ≤ b ∧ i = .int .i64 (k : Nat) ∧ w = wr) (fun i _ => 4 - (intOf i).toNat)
  case atStart => exact ⟨0, by omega, rfl, rfl⟩
  case round =>
    obtain ⟨k, hk, rfl, rfl⟩ := hrel
    have hk' : (k : Int) < 4 := by omega
    by_cases hkb : k < b
    · obtain ⟨A, c, ck⟩ := HC.out k hkb
      go_wp2_with fail
      go_roundw
      case rel => exact ⟨k + 1, by omega, by go_num, by first | trivial | rfl⟩
      case measure => simp [intOf]; omega
    · have e : k = b := by omega
      subst e
      obtain ⟨A, n, c, ck, hn⟩ := HC'.out
      go_wp2_with fail
      refine HT.out.mono ?_
      rintro e w1 ⟨rfl, h1⟩
      go_wp2_with fail
      go_ret2
      exact ⟨rfl, h1⟩

theorem os_set (w : World) (a : Addr) (v : Value) : (w.setCell a v).os = w.os := rfl
theorem tape_set (w : World) (a : Addr) (v : Value) : (w.setCell a v).tape = w.tape := rfl
theorem output_set (w : World) (a : Addr) (v : Value) : (w.setCell a v).output = w.output := rfl
theorem size_set (w : World) (a : Addr) (v : Value) : (w.setCell a v).heap.size = w.heap.size := by simp [World.setCell]

theorem IsQ.clear {w1 : World} (h : IsQ w q l) (hb : Below w.heap.size w w1) (Q1 m1 : Nat) (hm1 : w.heap.size ≤ m1) (h1 : IsQ w1 ⟨Q1, q.n, fun _ => .slice none 0 0, m1⟩ [])
    (w2 : World) (e2 : w2 = (((((w1.setCell ⟨q.Q, 0, none⟩ (.int .i64 q.n)).setCell ⟨q.Q, 1, none⟩ (.slice none 0 0)).setCell ⟨q.Q, 2, none⟩ (.slice none 0 0)).setCell ⟨q.Q, 3, none⟩ (.slice none 0 0)).setCell ⟨q.Q, 4, none⟩ (.slice none 0 0)).setCell ⟨q.Q, 5, none⟩ (.map (some m1))) :
    IsQ w2 ⟨q.Q, q.n, fun _ => .slice none 0 0, m1⟩ [] ∧ Fq q ⟨q.Q, q.n, fun _ => .slice none 0 0, m1⟩ w w2 := by
  have hQ := h.head.lt
  have B0 := h.head.below hb
  have B6 := (((((B0.set 0 (.int .i64 q.n)).set 1 (.slice none 0 0)).set 2 (.slice none 0 0)).set 3 (.slice none 0 0)).set 4 (.slice none 0 0)).set 5 (.map (some m1))
  rw [← e2] at B6
  have hk : ∀ k, k ≠ q.Q → w2.heap[k]? = w1.heap[k]? := by
    intro k hk
    rw [e2]
    rw [heap_setCell_other _ ⟨q.Q, 5, none⟩ k _ hk, heap_setCell_other _ ⟨q.Q, 4, none⟩ k _ hk, heap_setCell_other _ ⟨q.Q, 3, none⟩ k _ hk, heap_setCell_other _ ⟨q.Q, 2, none⟩ k _ hk, heap_setCell_other _ ⟨q.Q, 1, none⟩ k _ hk, heap_setCell_other _ ⟨q.Q, 0, none⟩ k _ hk]
  have hsz : w2.heap.size = w1.heap.size := by rw [e2]; simp only [size_set]
  refine ⟨⟨?_, fun i _ => .inl ⟨rfl, rfl⟩, fun i j g _ _ h => (by cases h), ?_, by simp, by simp, by simp⟩, ⟨?_, ?_, ?_, ?_, ?_, ?_, rfl, rfl⟩⟩
  · unfold Qs.cells at B6 ⊢
    simpa using B6
  · obtain ⟨D, ⟨es, clock, hb', r⟩, h2⟩ := h1.map
    exact ⟨D, ⟨es, clock, (hk m1 (by omega)).trans hb', r⟩, h2⟩
  · rw [e2]; simp only [os_set, hb.os]
  · rw [e2]; simp only [tape_set, hb.tape]
  · rw [e2]; simp only [output_set, hb.output]
  · rw [hsz]; exact hb.size
  · intro k hk' hn
    rw [hk k (fun e => hn (.inl e)), hb.block k hk']
  · rintro k (hk' | hk' | ⟨i, -, hk'⟩)
    · exact .inl (.inl hk')
    · exact .inr (by subst hk'; exact hm1)
    · cases hk'

theorem clear_q (h : IsQ w q l) : Calls Try.prog 9 #[ptr q.Q] w fun e w' => e = .returned (.tuple #[]) ∧ ∃ q', IsQ w' q' [] ∧ Fq q q' w w' := by
  obtain ⟨c0, -, -⟩ := h.cells
  have HN := Lib.hid (new_q w q.n)
  go_enter Try.func9, Try.ntmps9
  go_wp2_with fail
  refine HN.out.mono ?_
  rintro e w1 ⟨rfl, h1, hb1⟩
  clear c0
  have l0 : w1.cell? ⟨w.heap.size + 1, 0, none⟩ = some (.int .i64 q.n) := h1.head.cell 0
  have l1 : w1.cell? ⟨w.heap.size + 1, 1, none⟩ = some (.slice none 0 0) := h1.head.cell 1
  have l2 : w1.cell? ⟨w.heap.size + 1, 2, none⟩ = some (.slice none 0 0) := h1.head.cell 2
  have l3 : w1.cell? ⟨w.heap.size + 1, 3, none⟩ = some (.slice none 0 0) := h1.head.cell 3
  have l4 : w1.cell? ⟨w.heap.size + 1, 4, none⟩ = some (.slice none 0 0) := h1.head.cell 4
  have l5 : w1.cell? ⟨w.heap.size + 1, 5, none⟩ = some (.map (some w.heap.size)) := h1.head.cell 5
  have B0 := h.head.below hb1
  have f0 := B0.free 0
  have f1 := B0.free 1
  have f2 := B0.free 2
  have f3 := B0.free 3
  have f4 := B0.free 4
  have f5 := B0.free 5
  have k0 : w1.cell? ⟨q.Q, 0, none⟩ = some (.int .i64 q.n) := B0.cell 0
  have k1 : w1.cell? ⟨q.Q, 1, none⟩ = some (q.s 0) := B0.cell 1
  have k2 : w1.cell? ⟨q.Q, 2, none⟩ = some (q.s 1) := B0.cell 2
  have k3 : w1.cell? ⟨q.Q, 3, none⟩ = some (q.s 2) := B0.cell 3
  have k4 : w1.cell? ⟨q.Q, 4, none⟩ = some (q.s 3) := B0.cell 4
  have k5 : w1.cell? ⟨q.Q, 5, none⟩ = some (.map (some q.m)) := B0.cell 5
  have HE := Lib.hid (h.clear hb1 (w.heap.size + 1) w.heap.size (by omega) h1)
  clear h h1 B0
  go_wp2_with fail
  go_end0
  exact ⟨rfl, _, HE.out _ rfl⟩
end
end Go.Proofs.Ytfbpdkajonpphaa

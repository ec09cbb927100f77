/- Contracts of the methods of a domain that only read: Has, Min, Max, Size. -/
import Derived.Test.YtkhmocbfkpbpfaaGreatDoorDMore
import Derived.Lib.BitFns
import Derived.Deep.QuietTactic
import Derived.BigQuiet
import Derived.Deep.RegionHeld3
import Derived.Deep.DeepCutAuto
import Derived.KernelRfl
import Derived.Deep.RegionWith
import Derived.IntWalk
namespace Go.Proofs.YtkhmocbfkpbpfaaGreatDoor.D
open Go.RowKit

theorem len8_get (i : Int) (h0 : 0 ≤ i) (h1 : i ≤ 255) (h : i.toNat < Lib.len8tab.size) : ((Lib.len8tab[i.toNat]'h).toNat : Int) = (Lib.bitLen i.toNat : Nat) ∧ Lib.bitLen i.toNat ≤ 8 := by
  have e := Lib.len8_of i h0 h1
  refine ⟨?_, Lib.bitLen_le8' i h0 h1⟩
  rw [← e]
  simp only [Lib.len8]
  rw [ByteArray.getElem?_lt' _ _ h]
  simp

set_option maxRecDepth 100000 in
theorem len_part0 (x : Int) (w : World) (h0 : 0 ≤ x) (h1 : x < 256) :
    Calls Tryz.prog 160 #[.int .u64 x] w fun e w' => e = .returned (.int .i64 (Lib.bitLen x.toNat)) ∧ w = w' := by
  have hs : x < (Lib.len8tab.size : Int) := by rw [Lib.len8tab_size]; omega
  have hq : x.toNat < Lib.len8tab.size := by rw [Lib.len8tab_size]; omega
  obtain ⟨L1, L2⟩ := len8_get x (by omega) (by omega) hq
  have H1 := Lib.hid L1
  clear L1
  go_enter Tryz.func160, Tryz.ntmps160
  go_wp2
  go_ret
  refine ⟨congrArg Ending.returned (congrArg (Value.int IntKind.i64) ?_), rfl⟩
  have L1 := H1.out
  simp only [wrap64] at *
  omega

set_option maxRecDepth 100000 in
theorem len_part1 (x : Int) (w : World) (h0 : 256 ≤ x) (h1 : x < 65536) :
    Calls Tryz.prog 160 #[.int .u64 x] w fun e w' => e = .returned (.int .i64 (Lib.bitLen x.toNat)) ∧ w = w' := by
  have hs : (x / 256) < (Lib.len8tab.size : Int) := by rw [Lib.len8tab_size]; omega
  have hq : (x / 256).toNat < Lib.len8tab.size := by rw [Lib.len8tab_size]; omega
  obtain ⟨L1, L2⟩ := len8_get (x / 256) (by omega) (by omega) hq
  have H1 := Lib.hid L1
  clear L1
  go_enter Tryz.func160, Tryz.ntmps160
  go_wp2
  go_ret
  refine ⟨congrArg Ending.returned (congrArg (Value.int IntKind.i64) ?_), rfl⟩
  have L1 := H1.out
  have s := Lib.bitLen_shift8 x.toNat (by omega) (by omega)
  rw [show x.toNat / 256 = (x / 256).toNat by omega] at s
  simp only [wrap64] at *
  omega

set_option maxRecDepth 100000 in
theorem len_part2 (x : Int) (w : World) (h0 : 65536 ≤ x) (h1 : x < 16777216) :
    Calls Tryz.prog 160 #[.int .u64 x] w fun e w' => e = .returned (.int .i64 (Lib.bitLen x.toNat)) ∧ w = w' := by
  have hs : (x / 65536) < (Lib.len8tab.size : Int) := by rw [Lib.len8tab_size]; omega
  have hq : (x / 65536).toNat < Lib.len8tab.size := by rw [Lib.len8tab_size]; omega
  obtain ⟨L1, L2⟩ := len8_get (x / 65536) (by omega) (by omega) hq
  have H1 := Lib.hid L1
  clear L1
  go_enter Tryz.func160, Tryz.ntmps160
  go_wp2
  go_ret
  refine ⟨congrArg Ending.returned (congrArg (Value.int IntKind.i64) ?_), rfl⟩
  have L1 := H1.out
  have s := Lib.bitLen_shift16 x.toNat (by omega) (by omega)
  rw [show x.toNat / 65536 = (x / 65536).toNat by omega] at s
  simp only [wrap64] at *
  omega

set_option maxRecDepth 100000 in
theorem len_part3 (x : Int) (w : World) (h0 : 16777216 ≤ x) (h1 : x < 4294967296) :
    Calls Tryz.prog 160 #[.int .u64 x] w fun e w' => e = .returned (.int .i64 (Lib.bitLen x.toNat)) ∧ w = w' := by
  have hs : (x / 65536 / 256) < (Lib.len8tab.size : Int) := by rw [Lib.len8tab_size]; omega
  have hq : (x / 65536 / 256).toNat < Lib.len8tab.size := by rw [Lib.len8tab_size]; omega
  obtain ⟨L1, L2⟩ := len8_get (x / 65536 / 256) (by omega) (by omega) hq
  have H1 := Lib.hid L1
  clear L1
  go_enter Tryz.func160, Tryz.ntmps160
  go_wp2
  go_ret
  refine ⟨congrArg Ending.returned (congrArg (Value.int IntKind.i64) ?_), rfl⟩
  have L1 := H1.out
  have s := Lib.bitLen_shift24 x.toNat (by omega) (by omega)
  rw [show x.toNat / 16777216 = (x / 65536 / 256).toNat by omega] at s
  simp only [wrap64] at *
  omega

set_option maxRecDepth 100000 in
theorem len_part4 (x : Int) (w : World) (h0 : 4294967296 ≤ x) (h1 : x < 1099511627776) :
    Calls Tryz.prog 160 #[.int .u64 x] w fun e w' => e = .returned (.int .i64 (Lib.bitLen x.toNat)) ∧ w = w' := by
  have hs : (x / 4294967296) < (Lib.len8tab.size : Int) := by rw [Lib.len8tab_size]; omega
  have hq : (x / 4294967296).toNat < Lib.len8tab.size := by rw [Lib.len8tab_size]; omega
  obtain ⟨L1, L2⟩ := len8_get (x / 4294967296) (by omega) (by omega) hq
  have H1 := Lib.hid L1
  clear L1
  go_enter Tryz.func160, Tryz.ntmps160
  go_wp2
  go_ret
  refine ⟨congrArg Ending.returned (congrArg (Value.int IntKind.i64) ?_), rfl⟩
  have L1 := H1.out
  have s := Lib.bitLen_shift32 x.toNat (by omega) (by omega)
  rw [show x.toNat / 4294967296 = (x / 4294967296).toNat by omega] at s
  simp only [wrap64] at *
  omega

set_option maxRecDepth 100000 in
theorem len_part5 (x : Int) (w : World) (h0 : 1099511627776 ≤ x) (h1 : x < 281474976710656) :
    Calls Tryz.prog 160 #[.int .u64 x] w fun e w' => e = .returned (.int .i64 (Lib.bitLen x.toNat)) ∧ w = w' := by
  have hs : (x / 4294967296 / 256) < (Lib.len8tab.size : Int) := by rw [Lib.len8tab_size]; omega
  have hq : (x / 4294967296 / 256).toNat < Lib.len8tab.size := by rw [Lib.len8tab_size]; omega
  obtain ⟨L1, L2⟩ := len8_get (x / 4294967296 / 256) (by omega) (by omega) hq
  have H1 := Lib.hid L1
  clear L1
  go_enter Tryz.func160, Tryz.ntmps160
  go_wp2
  go_ret
  refine ⟨congrArg Ending.returned (congrArg (Value.int IntKind.i64) ?_), rfl⟩
  have L1 := H1.out
  have s := Lib.bitLen_shift40 x.toNat (by omega) (by omega)
  rw [show x.toNat / 1099511627776 = (x / 4294967296 / 256).toNat by omega] at s
  simp only [wrap64] at *
  omega

set_option maxRecDepth 100000 in
theorem len_part6 (x : Int) (w : World) (h0 : 281474976710656 ≤ x) (h1 : x < 72057594037927936) :
    Calls Tryz.prog 160 #[.int .u64 x] w fun e w' => e = .returned (.int .i64 (Lib.bitLen x.toNat)) ∧ w = w' := by
  have hs : (x / 4294967296 / 65536) < (Lib.len8tab.size : Int) := by rw [Lib.len8tab_size]; omega
  have hq : (x / 4294967296 / 65536).toNat < Lib.len8tab.size := by rw [Lib.len8tab_size]; omega
  obtain ⟨L1, L2⟩ := len8_get (x / 4294967296 / 65536) (by omega) (by omega) hq
  have H1 := Lib.hid L1
  clear L1
  go_enter Tryz.func160, Tryz.ntmps160
  go_wp2
  go_ret
  refine ⟨congrArg Ending.returned (congrArg (Value.int IntKind.i64) ?_), rfl⟩
  have L1 := H1.out
  have s := Lib.bitLen_shift48 x.toNat (by omega) (by omega)
  rw [show x.toNat / 281474976710656 = (x / 4294967296 / 65536).toNat by omega] at s
  simp only [wrap64] at *
  omega

theorem part7_end (x t : Int) (h0 : 72057594037927936 ≤ x) (h1 : x < 18446744073709551616) (ht : t = ((Lib.bitLen (x / 4294967296 / 65536 / 256).toNat : Nat) : Int)) (h8 : Lib.bitLen (x / 4294967296 / 65536 / 256).toNat ≤ 8) :
    wrap64 (56 + wrap64 t) = ((Lib.bitLen x.toNat : Nat) : Int) := by
  obtain ⟨n, rfl⟩ := Int.eq_ofNat_of_zero_le (show 0 ≤ x by omega)
  have g1 : 72057594037927936 ≤ n := by omega
  have g2 : n < 18446744073709551616 := by omega
  have s := Lib.bitLen_shift56 n g1 g2
  have e : ((n : Int) / 4294967296 / 65536 / 256).toNat = n / 72057594037927936 := by omega
  rw [e] at ht h8
  rw [Int.toNat_natCast, s]
  clear s e g1 g2 h0 h1
  generalize Lib.bitLen (n / 72057594037927936) = b at *
  subst ht
  unfold wrap64
  omega

set_option maxRecDepth 100000 in
theorem len_part7 (x : Int) (w : World) (h0 : 72057594037927936 ≤ x) (h1 : x < 18446744073709551616) :
    Calls Tryz.prog 160 #[.int .u64 x] w fun e w' => e = .returned (.int .i64 (Lib.bitLen x.toNat)) ∧ w = w' := by
  have hs : (x / 4294967296 / 65536 / 256) < (Lib.len8tab.size : Int) := by rw [Lib.len8tab_size]; omega
  have hq : (x / 4294967296 / 65536 / 256).toNat < Lib.len8tab.size := by rw [Lib.len8tab_size]; omega
  obtain ⟨L1, L2⟩ := len8_get (x / 4294967296 / 65536 / 256) (by omega) (by omega) hq
  have H1 := Lib.hid L1
  clear L1
  have g1 : x / 4294967296 / 65536 / 256 ≤ 255 := by omega
  have g2 : 4294967296 ≤ x := by omega
  have g3 : 65536 ≤ x / 4294967296 := by omega
  have g4 : 256 ≤ x / 4294967296 / 65536 := by omega
  have H2 := Lib.hid h1
  have H3 := Lib.hid h0
  clear h1 L2 h0
  go_enter Tryz.func160, Tryz.ntmps160
  go_wp2
  go_ret
  refine ⟨congrArg Ending.returned (congrArg (Value.int IntKind.i64) ?_), rfl⟩
  exact part7_end x _ H3.out H2.out H1.out (len8_get (x / 4294967296 / 65536 / 256) (by omega) (by omega) hq).2

theorem len_any' (x : Int) (w : World) (h0 : 0 ≤ x) (h1 : x < 18446744073709551616) :
    Calls Tryz.prog 160 #[.int .u64 x] w fun e w' => e = .returned (.int .i64 (Lib.bitLen x.toNat)) ∧ w = w' := by
  by_cases c0 : x < 256
  · exact len_part0 x w (by omega) c0
  by_cases c1 : x < 65536
  · exact len_part1 x w (by omega) c1
  by_cases c2 : x < 16777216
  · exact len_part2 x w (by omega) c2
  by_cases c3 : x < 4294967296
  · exact len_part3 x w (by omega) c3
  by_cases c4 : x < 1099511627776
  · exact len_part4 x w (by omega) c4
  by_cases c5 : x < 281474976710656
  · exact len_part5 x w (by omega) c5
  by_cases c6 : x < 72057594037927936
  · exact len_part6 x w (by omega) c6
  exact len_part7 x w (by omega) h1

theorem bitLen_aux : ∀ f x, x < 2 ^ f → x < 2 ^ Lib.bitLenAux f x ∧ (x ≠ 0 → 2 ^ Lib.bitLenAux f x ≤ 2 * x) ∧ Lib.bitLenAux f x ≤ f
  | 0, x, h => by simp [Lib.bitLenAux] at *; omega
  | f + 1, x, h => by
    unfold Lib.bitLenAux
    split
    · rename_i e; subst e; simp
    · rename_i e
      obtain ⟨a, b, c⟩ := bitLen_aux f (x / 2) (by rw [Nat.pow_succ] at h; omega)
      rw [Nat.add_comm 1, Nat.pow_succ]
      refine ⟨by omega, fun _ => ?_, by omega⟩
      by_cases h2 : x / 2 = 0
      · have : x = 1 := by omega
        subst this
        have : Lib.bitLenAux f 0 = 0 := by cases f <;> simp [Lib.bitLenAux]
        simp [this]
      · have := b h2; omega

theorem bitLen_spec (x : Nat) (h : x ≠ 0) (hx : x < 18446744073709551616) :
    1 ≤ Lib.bitLen x ∧ Lib.bitLen x ≤ 64 ∧ x.testBit (Lib.bitLen x - 1) = true ∧ ∀ j, Lib.bitLen x ≤ j → x.testBit j = false := by
  obtain ⟨a, b, c⟩ := bitLen_aux 64 x hx
  have b := b h
  change x < 2 ^ Lib.bitLen x at a
  change 2 ^ Lib.bitLen x ≤ 2 * x at b
  change Lib.bitLen x ≤ 64 at c
  generalize Lib.bitLen x = n at *
  have h1 : 1 ≤ n := by
    cases n with
    | zero => simp at a; omega
    | succ n => omega
  refine ⟨h1, c, ?_, fun j hj => Nat.testBit_lt_two_pow (Nat.lt_of_lt_of_le a (Nat.pow_le_pow_right (by decide) hj))⟩
  obtain ⟨m, rfl⟩ : ∃ m, n = m + 1 := ⟨n - 1, by omega⟩
  rw [Nat.pow_succ] at a b
  rw [Nat.testBit_eq_decide_div_mod_eq, Nat.add_sub_cancel]
  have : x / 2 ^ m = 1 := by
    apply Nat.div_eq_of_lt_le <;> omega
  simp [this]

set_option maxRecDepth 100000 in
theorem highest_any (p : Int) (x : Nat) (w : World) (hx : x < 18446744073709551616) (hx0 : x ≠ 0) (h1 : -100000 ≤ p) (h2 : p ≤ 100000) :
    Calls Tryz.prog 149 #[.int .i64 p, .int .u64 x] w fun e w' => e = .returned (.int .i64 (p * 64 + (Lib.bitLen x : Nat) - 1)) ∧ w = w' := by
  have hk := (bitLen_spec x hx0 hx).2.1
  have L := len_any' (x : Int) w (by omega) (by omega)
  rw [Int.toNat_natCast] at L
  go_enter Tryz.func149, Tryz.ntmps149
  go_wp2_with (go_at_call 160; with_reducible refine L.mono ?_; rintro e w' ⟨rfl, rfl⟩)
  go_ret
  exact ⟨rfl, rfl⟩

/-- The head of a rising list: its least number. -/
theorem min_listOf {s : Int} {ws : List Nat} (h : Form s ws) (hn : 0 < ws.length) : (listOf s ws).head? = some (s * 64 + (Lib.ctz 64 (ws.getD 0 0) : Nat)) := by
  cases ws with
  | nil => simp at hn
  | cons x r =>
    have h1 := h.first (by simp)
    have h2 := h.words 0
    simp only [List.getD_cons_zero] at h1 h2 ⊢
    obtain ⟨y, _, _, e⟩ := and_pred x h1 h2
    rw [listOf, e]
    simp

theorem last_of_rising : ∀ (l : List Int) (v : Int), l.Pairwise (· < ·) → v ∈ l → (∀ u ∈ l, u ≤ v) → l.getLast? = some v
  | [], _, _, h, _ => by simp at h
  | [a], v, _, h, _ => by simp at h; simp [h]
  | a :: b :: l, v, hp, h, hm => by
    rw [List.getLast?_cons_cons]
    have hp' := List.pairwise_cons.1 hp
    apply last_of_rising (b :: l) v hp'.2
    · rcases List.mem_cons.1 h with e | e
      · have := hp'.1 b (List.mem_cons_self)
        have := hm b (by simp)
        omega
      · exact e
    · intro u hu; exact hm u (List.mem_cons_of_mem _ hu)

theorem max_listOf {s : Int} {ws : List Nat} (h : Form s ws) (hn : 0 < ws.length) :
    (listOf s ws).getLast? = some ((s + (ws.length - 1 : Nat)) * 64 + (Lib.bitLen (ws.getD (ws.length - 1) 0) : Nat) - 1) := by
  have h1 := h.last hn
  have h2 := h.words (ws.length - 1)
  obtain ⟨b1, b2, b3, b4⟩ := bitLen_spec _ h1 h2
  apply last_of_rising _ _ (rising_listOf ws s)
  · rw [mem_listOf]
    unfold hasB
    have e1 : ((s + ((ws.length - 1 : Nat) : Int)) * 64 + ((Lib.bitLen (ws.getD (ws.length - 1) 0) : Nat) : Int) - 1) / 64 = s + ((ws.length - 1 : Nat) : Int) := by omega
    have e2 : (((s + ((ws.length - 1 : Nat) : Int)) * 64 + ((Lib.bitLen (ws.getD (ws.length - 1) 0) : Nat) : Int) - 1) % 64).toNat = Lib.bitLen (ws.getD (ws.length - 1) 0) - 1 := by omega
    rw [e1, e2, show (s + ((ws.length - 1 : Nat) : Int) - s).toNat = ws.length - 1 by omega, b3]
    simp
    omega
  · intro u hu
    rw [mem_listOf] at hu
    unfold hasB at hu
    simp only [Bool.and_eq_true, decide_eq_true_eq] at hu
    have hl : (u / 64 - s).toNat < ws.length := by
      apply Nat.lt_of_not_le
      intro hle
      rw [getD_over _ _ hle] at hu
      simp at hu
    by_cases e : (u / 64 - s).toNat = ws.length - 1
    · rw [e] at hu
      have : (u % 64).toNat < Lib.bitLen (ws.getD (ws.length - 1) 0) := by
        apply Nat.lt_of_not_le
        intro hle
        rw [b4 _ hle] at hu
        simp at hu
      omega
    · omega

theorem cell_alloc {w : World} {p : Addr} {v : Value} (hl : p.block < w.heap.size) (hc : w.cell? p = some v) (o : Obj) : (w.alloc o).cell? p = some v :=
  (World.cell?_alloc_lt w o p hl).trans hc

theorem word_in (s p : Int) (ad : Addr) (n c k : Nat) (z : Int) (x : Nat) (w : World) (hp : p = s + k) (hk : k < n) (hn : n ≤ 31251) (_hs : -15625 ≤ s) (_hs2 : s ≤ 15626) (hl : ad.block < w.heap.size)
    (hc : w.cell? (ad.add k) = some (.int .u64 (x : Nat))) :
    Calls Tryz.prog 69 #[.agg #[.int .i64 s, .slice (some ad) n c, .int .i64 z], .int .i64 p] w fun e w' => e = .returned (.int .u64 (x : Nat)) ∧ Below w.heap.size w w' := by
  subst hp
  have e1 : s + (k : Int) - s = k := by omega
  have hc' := cell_alloc (p := ad.add k) (by rw [add_block]; exact hl) hc
  go_enter Tryz.func69, Tryz.ntmps69
  go_wp2
  go_ret
  exact ⟨rfl, below1 _ _⟩

theorem word_out (s p : Int) (A : Option Addr) (n c : Nat) (z : Int) (w : World) (hp : p < s ∨ s + n ≤ p) (hn : n ≤ 31251) (hs : -15625 ≤ s) (hs2 : s ≤ 15626) (h1 : -1152921504606846976 ≤ p) (h2 : p ≤ 1152921504606846976) :
    Calls Tryz.prog 69 #[.agg #[.int .i64 s, .slice A n c, .int .i64 z], .int .i64 p] w fun e w' => e = .returned (.int .u64 0) ∧ Below w.heap.size w w' := by
  rcases hp with hp | hp
  · have d1 : decide (p - s < 0) = true := by simp; omega
    go_enter Tryz.func69, Tryz.ntmps69
    go_wp2
    go_ret
    exact ⟨rfl, below1 _ _⟩
  · have d1 : decide (p - s < 0) = false := by simp; omega
    have d2 : decide ((n : Int) ≤ p - s) = true := by simp; omega
    go_enter Tryz.func69, Tryz.ntmps69
    go_wp2
    go_ret
    exact ⟨rfl, below1 _ _⟩

theorem word_any (s p : Int) (A : Option Addr) (ws : List Nat) (c : Nat) (z : Int) (w : World) (hF : Form s ws) (hl : Lies w A ws.length (u64f ws)) (h1 : -1152921504606846976 ≤ p) (h2 : p ≤ 1152921504606846976) :
    Calls Tryz.prog 69 #[.agg #[.int .i64 s, .slice A ws.length c, .int .i64 z], .int .i64 p] w fun e w' => e = .returned (.int .u64 (wordAt s ws p : Nat)) ∧ Below w.heap.size w w' := by
  have b1 := hF.lo
  have b2 := hF.hi
  have b3 := hF.len
  unfold wordAt
  by_cases hp : p < s ∨ s + ws.length ≤ p
  · have e : (if s ≤ p then ws.getD (p - s).toNat 0 else 0) = 0 := by
      rcases hp with hp | hp
      · rw [if_neg (by omega)]
      · rw [if_pos (by omega), getD_over _ _ (by omega)]
    rw [e]
    exact word_out s p A ws.length c z w hp b3 b1 (by omega) h1 h2
  · obtain ⟨ad, rfl, hb, hc⟩ := hl (by omega)
    rw [if_pos (by omega)]
    exact word_in s p ad ws.length c (p - s).toNat z _ w (by omega) (by omega) b3 b1 (by omega) hb (hc _ (by omega))

theorem size_any (s : Int) (A : Option Addr) (n c : Nat) (z : Int) (w : World) :
    Calls Tryz.prog 90 #[.agg #[.int .i64 s, .slice A n c, .int .i64 z]] w fun e w' => e = .returned (.int .i64 z) ∧ Below w.heap.size w w' := by
  go_enter Tryz.func90, Tryz.ntmps90
  go_wp2
  go_ret
  exact ⟨rfl, below1 _ _⟩

theorem min_none (s : Int) (A : Option Addr) (n c : Nat) (w : World) :
    Calls Tryz.prog 176 #[.agg #[.int .i64 s, .slice A n c, .int .i64 0]] w fun e w' => e = .returned (.int .i64 0) ∧ Below w.heap.size w w' := by
  go_enter Tryz.func176, Tryz.ntmps176
  go_wp2
  go_ret
  exact ⟨rfl, below1 _ _⟩

theorem min_some (s : Int) (ad : Addr) (n c : Nat) (z : Int) (x : Nat) (w : World) (hT : TabZ w) (hz : (z == 0) = false) (hn : 0 < n) (hs : -15625 ≤ s) (hs2 : s ≤ 15626) (hl : ad.block < w.heap.size)
    (hx : x < 18446744073709551616) (hx0 : x ≠ 0) (hc : w.cell? ad = some (.int .u64 (x : Nat))) :
    Calls Tryz.prog 176 #[.agg #[.int .i64 s, .slice (some ad) n c, .int .i64 z]] w fun e w' => e = .returned (.int .i64 (s * 64 + (Lib.ctz 64 x : Nat))) ∧ Below w.heap.size w w' := by
  have hc' := cell_alloc hl hc
  have L := fun o n => (lowest_any s x ((w.alloc o).drewN n) hx hx0 (hT.below (below_drewN (below1 w o) n)) (by omega) (by omega)).mono fun _ _ h => And.intro h.1 h.2.symm
  clear hx hx0 hc
  go_enter Tryz.func176, Tryz.ntmps176
  go_wp2
  go_quiet ((go_at_call 67; exact Calls.quiet_of_same (L _ _)))
  go_wp2
  go_ret
  exact ⟨rfl, below_drewN (below1 _ _) _⟩

theorem max_none (s : Int) (A : Option Addr) (n c : Nat) (w : World) :
    Calls Tryz.prog 98 #[.agg #[.int .i64 s, .slice A n c, .int .i64 0]] w fun e w' => e = .returned (.int .i64 0) ∧ Below w.heap.size w w' := by
  go_enter Tryz.func98, Tryz.ntmps98
  go_wp2
  go_ret
  exact ⟨rfl, below1 _ _⟩

theorem max_some (s : Int) (ad : Addr) (m c : Nat) (z : Int) (x : Nat) (w : World) (hz : (z == 0) = false) (hm : m ≤ 31251) (hs : -15625 ≤ s) (hs2 : s ≤ 15626) (hl : ad.block < w.heap.size)
    (hx : x < 18446744073709551616) (hx0 : x ≠ 0) (hc : w.cell? (ad.add m) = some (.int .u64 (x : Nat))) :
    Calls Tryz.prog 98 #[.agg #[.int .i64 s, .slice (some ad) (m + 1) c, .int .i64 z]] w fun e w' => e = .returned (.int .i64 ((s + m) * 64 + (Lib.bitLen x : Nat) - 1)) ∧ Below w.heap.size w w' := by
  have hc' := cell_alloc (p := ad.add m) (by rw [add_block]; exact hl) hc
  have L := fun o n => (highest_any (s + m) x ((w.alloc o).drewN n) hx hx0 (by omega) (by omega)).mono fun _ _ h => And.intro h.1 h.2.symm
  have e1 : (((m + 1 : Nat) : Int) - 1) = m := by omega
  have e2 : IntKind.i64.wrap (s + m) = s + m := IntWalk.i64_in _ (by omega)
  have e3 : ((m : Nat) : Int) < ((m + 1 : Nat) : Int) := by omega
  clear hx hx0 hc
  go_enter Tryz.func98, Tryz.ntmps98
  go_wp2
  go_quiet ((go_at_call 149; exact Calls.quiet_of_same (L _ _)))
  go_wp2
  go_ret
  exact ⟨rfl, below_drewN (below1 _ _) _⟩

theorem has_core (s v : Int) (A : Option Addr) (n c : Nat) (z : Int) (x : Nat) (b : Bool) (w : World)
    (hW : ∀ W, Below w.heap.size w W → Calls Tryz.prog 69 #[.agg #[.int .i64 s, .slice A n c, .int .i64 z], .int .i64 (v / 64)] W fun e w' => e = .returned (.int .u64 (x : Nat)) ∧ Below W.heap.size W w')
    (hb : (bits .and .u64 (x : Int) (bitN v : Nat) != 0) = b) :
    Calls Tryz.prog 28 #[.agg #[.int .i64 s, .slice A n c, .int .i64 z], .int .i64 v] w fun e w' => e = .returned (.bool b) ∧ Below w.heap.size w w' := by
  have HW := Lib.hid hW
  clear hW
  go_enter Tryz.func28, Tryz.ntmps28
  go_wp2
  go_region_held3 (fun w' => Below w.heap.size w w' ∧ w'.cell? ⟨w.heap.size, 0, none⟩ = some (.int .i64 s) ∧ w'.cell? ⟨w.heap.size, 1, none⟩ = some (.slice A n c) ∧ w'.cell? ⟨w.heap.size, 2, none⟩ = some (.int .i64 z)) (first | exact ⟨below1 _ _, by simp, by simp, by simp⟩ | exact ⟨(below1 _ _).drew, by simp, by simp, by simp⟩ | assumption)
    (first | (go_at_call 70; refine (place_any _ _).mono ?_; rintro e w' ⟨rfl, rfl⟩) | (go_at_call 69; refine (HW.out _ (by first | exact (below1 _ _).drew | exact below1 _ _)).mono ?_; rintro e w1 ⟨rfl, hb1⟩; have hS : Below w.heap.size w w1 ∧ w1.cell? ⟨w.heap.size, 0, none⟩ = some (.int .i64 s) ∧ w1.cell? ⟨w.heap.size, 1, none⟩ = some (.slice A n c) ∧ w1.cell? ⟨w.heap.size, 2, none⟩ = some (.int .i64 z) := ⟨(below1 _ _).drew.trans (hb1.mono (by simp)), by rw [hb1.cell (by simp)]; simp, by rw [hb1.cell (by simp)]; simp, by rw [hb1.cell (by simp)]; simp⟩) | (go_at_call 71; refine (bit_any _ _).mono ?_; rintro e w' ⟨rfl, rfl⟩))
  go_wp2
  go_ret
  exact ⟨rfl, hS.1⟩

theorem has_dom (d : Value) (L : List Int) (v : Int) (w : World) (h : IsDom w d L) (h1 : -9223372036854775808 ≤ v) (h2 : v ≤ 9223372036854775807) :
    Calls Tryz.prog 28 #[d, .int .i64 v] w fun e w' => e = .returned (.bool (decide (v ∈ L))) ∧ Below w.heap.size w w' := by
  obtain ⟨s, A, ws, c, rfl, hl, hF, rfl⟩ := h
  refine has_core s v A ws.length c _ (wordAt s ws (v / 64)) _ w (fun W hW => word_any s (v / 64) A ws c _ W hF (hl.below hW) (by omega) (by omega)) ?_
  rw [u64_and_nat _ _ (wordAt_lt hF _) (bitN_lt v)]
  have m := mem_listOf ws s v
  rw [hasB_word] at m
  have a := and_bit (wordAt s ws (v / 64)) v
  by_cases hm : v ∈ listOf s ws
  · have hb := m.1 hm
    have : ¬ (wordAt s ws (v / 64) &&& bitN v = 0) := fun e => by rw [a.1 e] at hb; cases hb
    simp only [hm, decide_true, bne_iff_ne, ne_eq]
    omega
  · have hb : (wordAt s ws (v / 64)).testBit (v % 64).toNat = false := by
      cases hh : (wordAt s ws (v / 64)).testBit (v % 64).toNat with
      | false => rfl
      | true => exact absurd (m.2 hh) hm
    rw [a.2 hb]
    simp [hm]

theorem size_dom (d : Value) (L : List Int) (w : World) (h : IsDom w d L) :
    Calls Tryz.prog 90 #[d] w fun e w' => e = .returned (.int .i64 (L.length : Nat)) ∧ Below w.heap.size w w' := by
  obtain ⟨s, A, ws, c, rfl, hl, hF, rfl⟩ := h
  exact size_any s A ws.length c _ w

theorem pos_of_form {s : Int} {ws : List Nat} (hF : Form s ws) (h : listOf s ws ≠ []) : 0 < ws.length := by
  apply Nat.pos_of_ne_zero
  intro e
  have := (len_zero_iff hF).2 e
  exact h (List.eq_nil_of_length_eq_zero this)

theorem min_dom (d : Value) (L : List Int) (w : World) (h : IsDom w d L) (hT : TabZ w) :
    Calls Tryz.prog 176 #[d] w fun e w' => e = .returned (.int .i64 (L.head?.getD 0)) ∧ Below w.heap.size w w' := by
  obtain ⟨s, A, ws, c, rfl, hl, hF, rfl⟩ := h
  by_cases hn : listOf s ws = []
  · rw [hn]
    exact min_none s A ws.length c w
  · have hp := pos_of_form hF hn
    have hz : (((listOf s ws).length : Nat) : Int) ≠ 0 := by
      intro e
      exact hn (List.eq_nil_of_length_eq_zero (by omega))
    rw [min_listOf hF hp]
    obtain ⟨ad, rfl, hb, hc⟩ := hl hp
    have hc0 := hc 0 hp
    rw [add_zero] at hc0
    have := hF.lo
    have := hF.hi
    exact min_some s ad ws.length c _ _ w hT (by simpa using hz) hp (by omega) (by omega) hb (hF.words 0) (hF.first hp) hc0

theorem max_dom (d : Value) (L : List Int) (w : World) (h : IsDom w d L) :
    Calls Tryz.prog 98 #[d] w fun e w' => e = .returned (.int .i64 (L.getLast?.getD 0)) ∧ Below w.heap.size w w' := by
  obtain ⟨s, A, ws, c, rfl, hl, hF, rfl⟩ := h
  by_cases hn : listOf s ws = []
  · rw [hn]
    exact max_none s A ws.length c w
  · have hp := pos_of_form hF hn
    have hz : (((listOf s ws).length : Nat) : Int) ≠ 0 := by
      intro e
      exact hn (List.eq_nil_of_length_eq_zero (by omega))
    rw [max_listOf hF hp]
    obtain ⟨ad, rfl, hb, hc⟩ := hl hp
    have := hF.lo
    have := hF.hi
    have M := max_some s ad (ws.length - 1) c ((listOf s ws).length : Nat) (ws.getD (ws.length - 1) 0) w (by simpa using hz) (by omega) (by omega) (by omega) hb (hF.words _) (hF.last hp) (hc _ (by omega))
    rw [show ws.length - 1 + 1 = ws.length by omega] at M
    exact M

end Go.Proofs.YtkhmocbfkpbpfaaGreatDoor.D

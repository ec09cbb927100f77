/- More of dom: notBelow, notAbove, lowest, List, Range: elder texts, as a template. -/
import Derived.Test.YtkhmocbfkpbpfaaGreatDoorDWakes
import Derived.Lib.TrailingZeros
namespace Go.Proofs.YtkhmocbfkpbpfaaGreatDoor
open Go.RowKit

theorem and_lt (x y : Nat) (hx : x < 18446744073709551616) : x &&& y < 18446744073709551616 := Nat.lt_of_le_of_lt Nat.and_le_left hx
/-- The table of math/bits lies in its variable. -/
def TabZ (w : World) : Prop := 0 < w.heap.size ∧ ∀ j, j < 64 → w.cell? ⟨0, j, none⟩ = some (.int .u8 ((Lib.deBruijn64tab.getD j 0 : Nat) : Int))
theorem TabZ.below {w w' : World} (h : TabZ w) (hb : Below w.heap.size w w') : TabZ w' :=
  ⟨Nat.lt_of_lt_of_le h.1 hb.size, fun j hj => (hb.cell (p := ⟨0, j, none⟩) h.1).trans (h.2 j hj)⟩

theorem bitsUp_zero : bitsUp 0 = [] := by decide +kernel

theorem listOf_zero (s : Int) (r : List Nat) : listOf s (0 :: r) = listOf (s + 1) r := by
  rw [listOf, bitsUp_zero]; rfl

theorem ones_zero : ones 0 = 0 := by rw [← len_bitsUp, bitsUp_zero]; rfl

/-! ### The lowest and the highest bit -/

theorem high_false (x j : Nat) (hx : x < 18446744073709551616) (hj : 64 ≤ j) : x.testBit j = false :=
  Nat.testBit_lt_two_pow (Nat.lt_of_lt_of_le hx (by
      have : (2 : Nat) ^ 64 ≤ 2 ^ j := Nat.pow_le_pow_right (by decide) (by omega)
      exact this))

/-- The bits of v and above it. -/
def upN (v : Int) : Nat := 18446744073709551615 * 2 ^ (v % 64).toNat % 18446744073709551616

/-- The bits of v and below it. -/
def downN (v : Int) : Nat := 18446744073709551615 / 2 ^ (63 - (v % 64).toNat)

theorem upN_lt (v : Int) : upN v < 18446744073709551616 := Nat.mod_lt _ (by decide)

theorem downN_lt (v : Int) : downN v < 18446744073709551616 := Nat.lt_of_le_of_lt (Nat.div_le_self _ _) (by decide)

theorem upN_bit (v : Int) (j : Nat) : (upN v).testBit j = (decide (j < 64) && decide ((v % 64).toNat ≤ j)) := by
  unfold upN
  rw [show (18446744073709551616 : Nat) = 2 ^ 64 from rfl, show (18446744073709551615 : Nat) = 2 ^ 64 - 1 from rfl, Nat.testBit_mod_two_pow, Nat.testBit_mul_two_pow]
  by_cases h : j < 64 <;> by_cases h2 : (v % 64).toNat ≤ j <;> simp only [h, h2, decide_true, decide_false, Bool.true_and, Bool.false_and]
  rw [Nat.testBit_two_pow_sub_one]
  simp; omega

theorem downN_eq (v : Int) : downN v = 2 ^ ((v % 64).toNat + 1) - 1 := by
  unfold downN
  have : ∀ k : Fin 64, 18446744073709551615 / 2 ^ (63 - k.val) = 2 ^ (k.val + 1) - 1 := by decide +kernel
  exact this ⟨(v % 64).toNat, by omega⟩

theorem downN_bit (v : Int) (j : Nat) : (downN v).testBit j = decide (j ≤ (v % 64).toNat) := by
  rw [downN_eq, Nat.testBit_two_pow_sub_one]
  simp; omega

theorem ret_eq {a b : Value} {w : World} (h : a = b) : Ending.returned a = .returned b ∧ w = w := ⟨congrArg _ h, rfl⟩

theorem up_any (v : Int) (w : World) :
    Calls Tryz.prog 127 #[.int .i64 v] w fun e w' => e = .returned (.int .u64 (upN v : Nat)) ∧ w = w' := by
  have h := and63 v
  have h1 : 0 ≤ v % 64 := by omega
  have h2 : v % 64 < 64 := by omega
  have hn : IntKind.u64.wrap (18446744073709551615 * 2 ^ (v % 64).toNat) = ((upN v : Nat) : Int) := by
    unfold upN
    rw [IntKind.wrap_u64]
    simp
  go_enter Tryz.func127, Tryz.ntmps127
  go_wp2
  go_ret
  exact ⟨rfl, rfl⟩

theorem down_any (v : Int) (w : World) :
    Calls Tryz.prog 128 #[.int .i64 v] w fun e w' => e = .returned (.int .u64 (downN v : Nat)) ∧ w = w' := by
  have h := and63 v
  have h1 : 0 ≤ v % 64 := by omega
  have h2 : v % 64 < 64 := by omega
  have hn : 18446744073709551615 / 2 ^ (63 - v % 64).toNat = ((downN v : Nat) : Int) := by
    unfold downN
    rw [show (63 - v % 64).toNat = 63 - (v % 64).toNat by omega]
    simp
  go_enter Tryz.func128, Tryz.ntmps128
  go_wp2
  go_ret
  exact ⟨rfl, rfl⟩

theorem tz_key (x a : Nat) (hx : x < 18446744073709551616) (hx0 : x ≠ 0) (hlow : x &&& (18446744073709551616 - x) = a) :
    IntKind.u64.wrap (bits BinOp.and IntKind.u64 (x : Int) (IntKind.u64.wrap (-(x : Int))) * 285870213051353865) / 288230376151711744 = ((a * 285870213051353865 % 18446744073709551616 / 288230376151711744 : Nat) : Int) := by
  have e1 : IntKind.u64.wrap (-(x : Int)) = ((18446744073709551616 - x : Nat) : Int) := by rw [IntKind.wrap_u64]; omega
  rw [e1, u64_and_nat x _ hx (by omega), hlow, IntKind.wrap_u64]
  omega

theorem tz_core (x k idx : Nat) (w : World) (hx0 : ((x : Int) == 0) = false)
    (key : IntKind.u64.wrap (bits BinOp.and IntKind.u64 (x : Int) (IntKind.u64.wrap (-(x : Int))) * 285870213051353865) / 288230376151711744 = (idx : Int))
    (hi : idx < 64) (hk : k < 64) (hcell : w.cell? ⟨0, idx, none⟩ = some (.int .u8 k)) :
    Calls Tryz.prog 132 #[.int .u64 x] w fun e w' => e = .returned (.int .i64 k) ∧ w = w' := by
  go_enter Tryz.func132, Tryz.ntmps132
  go_wp2_with (simp only [key])
  go_ret
  exact ⟨rfl, rfl⟩

theorem tz_any (x : Nat) (w : World) (hx : x < 18446744073709551616) (hx0 : x ≠ 0) (hT : TabZ w) :
    Calls Tryz.prog 132 #[.int .u64 x] w fun e w' => e = .returned (.int .i64 (Lib.ctz 64 x : Nat)) ∧ w = w' := by
  obtain ⟨hlow, hk⟩ := Lib.lowest_bit 64 x hx0 hx
  obtain ⟨hi, htab⟩ := Lib.deBruijn64_at _ hk
  have hc := hT.2 _ hi
  rw [htab] at hc
  exact tz_core x _ _ w (by simpa using hx0) (tz_key x _ hx hx0 hlow) hi hk hc

set_option maxRecDepth 100000 in
theorem lowest_any (p : Int) (x : Nat) (w : World) (hx : x < 18446744073709551616) (hx0 : x ≠ 0) (hT : TabZ w) (h1 : -100000 ≤ p) (h2 : p ≤ 100000) :
    Calls Tryz.prog 67 #[.int .i64 p, .int .u64 x] w fun e w' => e = .returned (.int .i64 (p * 64 + (Lib.ctz 64 x : Nat))) ∧ w = w' := by
  have hk : Lib.ctz 64 x < 64 := by obtain ⟨_, _, h⟩ := ctz_spec x hx0 hx; exact h
  have T := tz_any x w hx hx0 hT
  clear hx hx0 hT
  go_enter Tryz.func67, Tryz.ntmps67
  go_wp2_with (go_at_call 132; with_reducible refine T.mono ?_; rintro e w' ⟨rfl, rfl⟩)
  go_ret
  exact ⟨rfl, rfl⟩

/-- A domain's value. -/
def domV (s : Int) (A : Option Addr) (n c : Nat) (z : Int) : Value := .agg #[.int .i64 s, .slice A n c, .int .i64 z]

theorem len_zero_iff {s : Int} {ws : List Nat} (h : Form s ws) : (listOf s ws).length = 0 ↔ ws.length = 0 := by
  constructor
  · intro e
    cases ws with
    | nil => rfl
    | cons x r =>
      rw [len_listOf_cons] at e
      have h1 := h.first (by simp)
      have h2 := h.words 0
      simp only [List.getD_cons_zero] at h1 h2
      have := ones_pos x h1 h2
      omega
  · intro e
    have : ws = [] := List.eq_nil_of_length_eq_zero e
    subst this
    rfl

theorem getD_over (ws : List Nat) (i : Nat) (h : ws.length ≤ i) : ws.getD i 0 = 0 := by
  rw [List.getD_eq_getElem?_getD, List.getElem?_eq_none h]; rfl

/-- The word at a place; 0 where there is none. -/
def wordAt (s : Int) (ws : List Nat) (p : Int) : Nat := if s ≤ p then ws.getD (p - s).toNat 0 else 0

theorem wordAt_lt {s : Int} {ws : List Nat} (h : Form s ws) (p : Int) : wordAt s ws p < 18446744073709551616 := by
  unfold wordAt
  split
  · exact h.words _
  · decide

theorem hasB_word (s : Int) (ws : List Nat) (v : Int) : hasB s ws v = (wordAt s ws (v / 64)).testBit (v % 64).toNat := by
  unfold hasB wordAt
  by_cases h : s ≤ v / 64 <;> simp [h]

/-- A bit is set just if the word and the bit have something in common. -/
theorem and_bit (x : Nat) (v : Int) : (x &&& bitN v = 0) ↔ x.testBit (v % 64).toNat = false := by
  constructor
  · intro h
    have := congrArg (fun y => Nat.testBit y (v % 64).toNat) h
    simpa [Nat.testBit_and, bitN_bit] using this
  · intro h
    apply Nat.eq_of_testBit_eq
    intro j
    rw [Nat.testBit_and, bitN_bit, Nat.zero_testBit]
    by_cases e : (v % 64).toNat = j
    · subst e; simp [h]
    · simp [e]

theorem I_len (zs : List Int) : (I zs).length = zs.length := by simp [I]

/-- Behind an append onto what the call owns. -/
theorem box_grown {w wr w1 : World} {o : Obj} {base : Nat} {e : TypeId} {size n : Nat} {v : Value} {xs : List Value} {o' : Obj} (hb : Below (w.heap.size + 1) (w.alloc o) wr) (hown : wr.ownsRow base e size v n xs) (hbase : w.heap.size + 1 ≤ base)
    (hg : (wr.alloc o').grownBy w1 v.ownBlock) : Below (w.heap.size + 1) (w.alloc o) w1 := by
  have hs := hb.size
  simp at hs
  refine (hb.alloc (by omega) o').grown hg (by simp; omega) (fun k hk => ?_)
  have := own_ge hown k hk
  omega

set_option maxHeartbeats 1000000 in
set_option maxRecDepth 100000 in
theorem list_some (s : Int) (ad : Addr) (ws : List Nat) (c m : Nat) (w : World) (hT : TabZ w) (hF : Form s ws) (hm : (listOf s ws).length = m) (hl : ad.block < w.heap.size) (hc : ∀ j, j < ws.length → w.cell? (ad.add j) = some (u64f ws j)) :
    Calls Tryz.prog 26 #[.agg #[.int .i64 s, .slice (some ad) ws.length c, .int .i64 (m : Nat)]] w (GivesInts w (listOf s ws)) := by
  have hn := hF.len
  have h1 := hF.lo
  have h2 := hF.hi
  have hml : m ≤ 2000064 := by have := len_le_listOf ws s; omega
  have HF := Lib.hid hF
  have Hm := Lib.hid hm
  have Hc := Lib.hid hc
  clear hF hm hc
  obtain ⟨i0, hi, hz0, hz1, hz2⟩ := info_parts Tryz.info3
  go_enter Tryz.func26, Tryz.ntmps26
  go_wp2_with (at_make; refine wpList_make_own _ rfl _ _ 30 rfl (w.heap.size + 1) 3 i0 (.int .i64 0) 1 Tryz.underlying30 hi hz0 hz1 _ _ _ m rfl rfl rfl ?b2 ?b3 (by simp) ?_)
  case b2 => rw [hz2]; omega
  case b3 => unfold maxLen; omega
  intro w1 hown1 hg1
  have hb1 : Below (w.heap.size + 1) (w.alloc (.cells #[.int .i64 s, .slice (some ad) ws.length c, .int .i64 (m : Nat)] 53)) w1 := (Below.refl _ _).grown hg1 (by simp) (by intro k hk; cases hk)
  obtain ⟨c0, c1, c2⟩ := boxed hb1
  go_wp2
  go_loopw [3, 12] (fun v i wr => ∃ k : Nat, k ≤ ws.length ∧ i = .int .i64 k ∧ wr.ownsRow (w.heap.size + 1) 3 1 v (listOf s (ws.take k)).length (I (listOf s (ws.take k))) ∧
      Below (w.heap.size + 1) (w.alloc (.cells #[.int .i64 s, .slice (some ad) ws.length c, .int .i64 (m : Nat)] 53)) wr) (fun _ i _ => ws.length - (intOf i).toNat)
  case atStart => exact ⟨0, Nat.zero_le _, rfl, hown1, hb1⟩
  case round =>
    obtain ⟨k, hk, rfl, hown, hbr⟩ := hrel
    clear hown1 hg1 hb1 c0 c1 c2
    obtain ⟨c0, c1, c2⟩ := boxed hbr
    by_cases hlt : k < ws.length
    · have hck : wr.cell? (ad.add k) = some (.int .u64 ((ws.getD k 0 : Nat) : Int)) := ((of_boxed hbr).cell (by rw [add_block]; exact hl)).trans (Hc.out k hlt)
      obtain ⟨y, hy⟩ : ∃ y, y = ws.getD k 0 := ⟨_, rfl⟩
      rw [← hy] at hck
      have HG : Gather s ws k y (listOf s (ws.take k)) := ⟨by rw [hy]; exact HF.out.words k, by rw [hy]; exact (take_listOf s ws k hlt).symm⟩
      clear hy
      go_wp2
      go_loopw [3, 5] (fun v wd wr' => ∃ (x : Nat) (acc : List Int), wd = .int .u64 (x : Nat) ∧ Hid (Gather s ws k x acc) ∧ wr'.ownsRow (w.heap.size + 1) 3 1 v acc.length (I acc) ∧
        Below (w.heap.size + 1) (w.alloc (.cells #[.int .i64 s, .slice (some ad) ws.length c, .int .i64 (m : Nat)] 53)) wr') (fun _ wd _ => (intOf wd).toNat)
      case atStart => exact ⟨y, _, rfl, HG, hown, hbr⟩
      case round =>
        clear hown hbr c0 c1 c2 hck
        obtain ⟨x, acc, rfl, HGx, hown, hbr⟩ := hrel
        obtain ⟨c0, c1, c2⟩ := boxed hbr
        by_cases hx : x = 0
        · have hx' : ((x : Int) != 0) = false := by simp [hx]
          have hacc : acc = listOf s (ws.take (k + 1)) := by
            have := HGx.out.all
            rw [hx, bitsUp_zero] at this
            simpa using this
          rw [hacc] at hown
          clear hx hacc HGx
          go_wp2
          go_roundw
          case rel => exact ⟨k + 1, by omega, by go_num, hown, hbr⟩
          case measure => simp [intOf]; omega
        · have hx' : ((x : Int) != 0) = true := by simpa using hx
          have hlen := HGx.out.len
          obtain ⟨G1, G2⟩ := HGx.out.step hx
          have hxl := HGx.out.lt
          have L := fun W hW => lowest_any (s + k) x W hxl hx hW (by omega) (by omega)
          have HL := Lib.hid L
          have e1 : bits BinOp.and IntKind.u64 (x : Int) (IntKind.u64.wrap ((x : Int) - 1)) = ((x &&& (x - 1) : Nat) : Int) := by
            have : IntKind.u64.wrap ((x : Int) - 1) = ((x - 1 : Nat) : Int) := by rw [IntKind.wrap_u64]; omega
            rw [this]
            exact u64_and_nat x (x - 1) hxl (by omega)
          have HG1 := Lib.hid G1
          have HG2 := Lib.hid G2
          clear G1 G2 hxl L hx
          go_wp2_with (first
            | (go_at_call 67; with_reducible refine (HL.out _ (hT.below (of_boxed hbr))).mono ?_; rintro e w' ⟨rfl, rfl⟩)
            | (at_builtin; refine wpList_append_own _ rfl _ _ 30 rfl (w.heap.size + 1) 3 i0 (.int .i64 0) 1 8 Tryz.underlying30 hi hz0 hz1 hz2 rfl (by decide) _ _ _ rfl (hown.alloc _) ⟨_, 0, none⟩ 1 1 [.int .i64 ((s + k) * 64 + ((Lib.ctz 64 x : Nat) : Int))] rfl rfl ?c1 ?c2 ?c3 ?c4 ?c5 ?_))
          case c1 => intro j u hj; match j, hj with | 0, hj => simp at hj; subst hj; simp [Addr.add]
          case c2 => intro u hu; simp at hu; subst hu; rfl
          case c3 => unfold maxLen; omega
          case c4 => omega
          case c5 => have := hbr.size; simp at this ⊢; omega
          · intro v' w2 hown' hgrow _
            have hb2 := box_grown hbr hown (Nat.le_refl _) hgrow
            rw [← I_one, ← I_append, show acc.length + 1 = (acc ++ [(s + (k : Int)) * 64 + ((Lib.ctz 64 x : Nat) : Int)]).length by simp] at hown'
            clear hown hgrow hbr c0 c1 c2
            go_wp2
            go_roundw
            case rel => exact ⟨_, _, rfl, HG1, hown', hb2⟩
            case measure => simp only [intOf]; have := HG2.out; simp; omega
    · have hkk : k = ws.length := by omega
      rw [hkk, List.take_length] at hown
      clear hkk
      go_wp2
      go_ret
      exact ⟨_, rfl, own_base hown (by omega), of_boxed hbr⟩

set_option maxRecDepth 100000 in
theorem list_none (s : Int) (A : Option Addr) (c : Nat) (w : World) :
    Calls Tryz.prog 26 #[.agg #[.int .i64 s, .slice A 0 c, .int .i64 0]] w (GivesInts w []) := by
  obtain ⟨i0, hi, hz0, hz1, hz2⟩ := info_parts Tryz.info3
  go_enter Tryz.func26, Tryz.ntmps26
  go_wp2_with (at_make; refine wpList_make_own _ rfl _ _ 30 rfl (w.heap.size + 1) 3 i0 (.int .i64 0) 1 Tryz.underlying30 hi hz0 hz1 _ _ _ 0 rfl rfl rfl (by omega) (by unfold maxLen; omega) (by simp) ?_; intro w1 hown1 hg1; have hb1 := (Below.refl (w.heap.size + 1) _).grown hg1 (by simp) (by intro k hk; cases hk); obtain ⟨c0, c1, c2⟩ := boxed hb1)
  refine wp_loop_rounds 1 ?_
  rw [rounds_succ]
  go_wp2
  go_ret
  have hown2 : w1.ownsRow (w.heap.size + 1) 3 1 (.slice (some ⟨w.heap.size + 1, 0, none⟩) 0 0) 0 [] := by simpa using hown1
  exact ⟨_, rfl, own_base (base := w.heap.size + 1) hown2 (Nat.le_succ _), of_boxed hb1⟩

theorem list_dom (d : Value) (L : List Int) (w : World) (h : IsDom w d L) (hT : TabZ w) : Calls Tryz.prog 26 #[d] w (GivesInts w L) := by
  obtain ⟨s, A, ws, c, rfl, hl, hF, rfl⟩ := h
  by_cases hp : 0 < ws.length
  · obtain ⟨ad, rfl, hb, hc⟩ := hl hp
    exact list_some s ad ws c _ w hT hF rfl hb hc
  · have : ws = [] := List.eq_nil_of_length_eq_zero (by omega)
    subst this
    exact list_none s A c w

/-- The numbers from low to high. -/
def rangeL (lo hi : Int) : List Int := (List.range (hi - lo + 1).toNat).map fun j : Nat => lo + (j : Int)

/-- The error of Range. -/
def rangeErr (lo hi : Int) : Int := if mayB lo = true ∧ mayB hi = true then (if hi < lo then 4 else if 65536 ≤ hi - lo then 5 else 0) else 3

theorem mem_rangeL (lo hi v : Int) : v ∈ rangeL lo hi ↔ lo ≤ v ∧ v ≤ hi := by
  unfold rangeL
  rw [List.mem_map]
  constructor
  · rintro ⟨j, hj, rfl⟩
    have := List.mem_range.1 hj
    omega
  · intro h
    exact ⟨(v - lo).toNat, List.mem_range.2 (by omega), by omega⟩

theorem rising_rangeL (lo hi : Int) : (rangeL lo hi).Pairwise (· < ·) := by
  unfold rangeL
  rw [List.pairwise_map]
  exact List.pairwise_lt_range.imp (by intro a b h; omega)

theorem len_rangeL (lo hi : Int) : (rangeL lo hi).length = (hi - lo + 1).toNat := by simp [rangeL]

/-- The words of a range. -/
def fullTo (m k : Nat) : List Nat := List.replicate k 18446744073709551615 ++ List.replicate (m - k) 0

theorem fullTo_set (m k : Nat) (hk : k < m) : (U (fullTo m k)).set k (.int .u64 18446744073709551615) = U (fullTo m (k + 1)) := by
  have : (fullTo m k).set k 18446744073709551615 = fullTo m (k + 1) := by
    unfold fullTo
    rw [show m - k = (m - (k + 1)) + 1 by omega, List.replicate_succ, List.set_append]
    simp [List.replicate_succ']
  rw [← this]
  unfold U
  rw [List.map_set]
  rfl

theorem full_all (m : Nat) : fullTo m m = List.replicate m 18446744073709551615 := by simp [fullTo]

def rangeWs (lo hi : Int) (m : Nat) : List Nat :=
  ((List.replicate m 18446744073709551615).set 0 (18446744073709551615 &&& upN lo)).set (m - 1) (((List.replicate m 18446744073709551615).set 0 (18446744073709551615 &&& upN lo)).getD (m - 1) 0 &&& downN hi)

theorem ones_bit (j : Nat) : (18446744073709551615 : Nat).testBit j = decide (j < 64) := by
  rw [show (18446744073709551615 : Nat) = 2 ^ 64 - 1 from rfl, Nat.testBit_two_pow_sub_one]

theorem getD_rep (m j : Nat) : (List.replicate m 18446744073709551615).getD j 0 = if j < m then 18446744073709551615 else 0 := by
  rw [List.getD_eq_getElem?_getD, List.getElem?_replicate]
  split <;> rfl

theorem range_get (lo hi : Int) (m : Nat) (hm : 0 < m) (j : Nat) : (rangeWs lo hi m).getD j 0 =
    if j < m then (if j = m - 1 then (if j = 0 then 18446744073709551615 &&& upN lo else 18446744073709551615) &&& downN hi else (if j = 0 then 18446744073709551615 &&& upN lo else 18446744073709551615)) else 0 := by
  unfold rangeWs
  rw [getD_set _ _ _ _ (by simp; omega), getD_set _ _ _ _ (by simp; omega), getD_set _ _ _ _ (by simp; omega), getD_rep, getD_rep]
  (repeat' split) <;> first | rfl | (exfalso; omega)

theorem range_form (lo hi : Int) (m : Nat) (hle : lo ≤ hi) (h1 : -1000000 ≤ lo) (h2 : hi ≤ 1000000) (hm : (m : Int) = hi / 64 - lo / 64 + 1) :
    (rangeWs lo hi m).length = m ∧ Form (lo / 64) (rangeWs lo hi m) ∧ listOf (lo / 64) (rangeWs lo hi m) = rangeL lo hi := by
  have hm0 : 0 < m := by omega
  have hlen : (rangeWs lo hi m).length = m := by simp [rangeWs]
  have hlt : ∀ j, (rangeWs lo hi m).getD j 0 < 18446744073709551616 := by
    intro j
    rw [range_get lo hi m hm0]
    split
    · split <;> split
      · exact and_lt _ _ (and_lt _ _ (by decide))
      · exact and_lt _ _ (by decide)
      · exact and_lt _ _ (by decide)
      · decide
    · decide
  have hhas : ∀ v, hasB (lo / 64) (rangeWs lo hi m) v = true ↔ lo ≤ v ∧ v ≤ hi := by
    intro v
    unfold hasB
    rw [range_get lo hi m hm0]
    by_cases hs : lo / 64 ≤ v / 64
    · by_cases hj : (v / 64 - lo / 64).toNat < m
      · rw [if_pos hj]
        have hb : (v % 64).toNat < 64 := by omega
        by_cases ha : (v / 64 - lo / 64).toNat = m - 1 <;> by_cases hz : (v / 64 - lo / 64).toNat = 0
        · rw [if_pos ha, if_pos hz, Nat.testBit_and, Nat.testBit_and, ones_bit, upN_bit, downN_bit]
          simp only [hs, hb, decide_true, Bool.true_and, Bool.and_eq_true, decide_eq_true_eq]
          omega
        · rw [if_pos ha, if_neg hz, Nat.testBit_and, ones_bit, downN_bit]
          simp only [hs, hb, decide_true, Bool.true_and, decide_eq_true_eq]
          omega
        · rw [if_neg ha, if_pos hz, Nat.testBit_and, ones_bit, upN_bit]
          simp only [hs, hb, decide_true, Bool.true_and, decide_eq_true_eq]
          omega
        · rw [if_neg ha, if_neg hz, ones_bit]
          simp only [hs, hb, decide_true, Bool.true_and, true_iff]
          omega
      · rw [if_neg hj]
        simp
        omega
    · simp only [hs, decide_false, Bool.false_and]
      constructor
      · intro q; cases q
      · intro q; omega
  refine ⟨hlen, ⟨hlt, fun _ e => ?_, fun _ e => ?_, fun e => by omega, by omega, by omega⟩, ?_⟩
  · have := (hhas lo).2 ⟨by omega, hle⟩
    unfold hasB at this
    rw [show (lo / 64 - lo / 64).toNat = 0 by omega, e] at this
    simp at this
  · have := (hhas hi).2 ⟨hle, by omega⟩
    unfold hasB at this
    rw [show (hi / 64 - lo / 64).toNat = (rangeWs lo hi m).length - 1 by omega, e] at this
    simp at this
  · apply eq_of_rising _ _ (rising_listOf _ _) (rising_rangeL _ _)
    intro v
    rw [mem_listOf, hhas, mem_rangeL]

theorem range_err3 (lo hi : Int) (w : World) (h : mayB lo = false ∨ (mayB lo = true ∧ mayB hi = false)) :
    Calls Tryz.prog 63 #[.int .i64 lo, .int .i64 hi] w (GivesDom w [] 3) := by
  rcases h with h | ⟨h, h2⟩
  all_goals
    go_enter Tryz.func63, Tryz.ntmps63
    go_wp2_with (go_at_call 121; with_reducible refine (maybe_any _ _).mono ?_; rintro e w' ⟨rfl, rfl⟩)
    exact bodyPost_ret (v := .tuple #[.agg #[.int .i64 0, .slice none 0 0, .int .i64 0], .int .i64 3]) (by simp [results, Tryz.results63, go_sem]) rfl (zero_out _ _)

theorem range_err4 (lo hi : Int) (w : World) (h : mayB lo = true) (h2 : mayB hi = true) (hlt : hi < lo) :
    Calls Tryz.prog 63 #[.int .i64 lo, .int .i64 hi] w (GivesDom w [] 4) := by
  have d : decide (hi < lo) = true := by simpa using hlt
  go_enter Tryz.func63, Tryz.ntmps63
  go_wp2_with (go_at_call 121; with_reducible refine (maybe_any _ _).mono ?_; rintro e w' ⟨rfl, rfl⟩)
  exact bodyPost_ret (v := .tuple #[.agg #[.int .i64 0, .slice none 0 0, .int .i64 0], .int .i64 4]) (by simp [results, Tryz.results63, go_sem]) rfl (zero_out _ _)

theorem range_err5 (lo hi : Int) (w : World) (h : mayB lo = true) (h2 : mayB hi = true) (hw : 65536 ≤ hi - lo) :
    Calls Tryz.prog 63 #[.int .i64 lo, .int .i64 hi] w (GivesDom w [] 5) := by
  have a := (mayB_iff lo).1 h
  have b := (mayB_iff hi).1 h2
  have d : decide (hi < lo) = false := by simp; omega
  go_enter Tryz.func63, Tryz.ntmps63
  go_wp2_with (go_at_call 121; with_reducible refine (maybe_any _ _).mono ?_; rintro e w' ⟨rfl, rfl⟩)
  exact bodyPost_ret (v := .tuple #[.agg #[.int .i64 0, .slice none 0 0, .int .i64 0], .int .i64 5]) (by simp [results, Tryz.results63, go_sem]) rfl (zero_out _ _)

theorem boxed_free {w W : World} {a b c : Value} {t : TypeId} (h : Below (w.heap.size + 1) (w.alloc (.cells #[a, b, c] t)) W) :
    W.frozen? ⟨w.heap.size, 0, none⟩ = false ∧ W.frozen? ⟨w.heap.size, 1, none⟩ = false ∧ W.frozen? ⟨w.heap.size, 2, none⟩ = false :=
  ⟨by rw [h.frozen (by simp)]; simp, by rw [h.frozen (by simp)]; simp, by rw [h.frozen (by simp)]; simp⟩

theorem own_word {w : World} {base g m k : Nat} {zs : List Nat} (h : w.ownsRow base 97 1 (.slice (some ⟨g, 0, none⟩) m m) m (U zs)) (hz : zs.length = m) (hk : k < m) : w.cell? ⟨g, k, none⟩ = some (.int .u64 ((zs.getD k 0 : Nat) : Int)) := by
  rw [h.cellAt k (by omega)]
  simp [U, List.getD_eq_getElem?_getD, List.getElem?_eq_getElem (show k < zs.length by omega)]

theorem own_put {w : World} {base g m : Nat} {zs : List Nat} (h : w.ownsRow base 97 1 (.slice (some ⟨g, 0, none⟩) m m) m (U zs)) (k x : Nat) : (w.setCell ⟨g, k, none⟩ (.int .u64 (x : Nat))).ownsRow base 97 1 (.slice (some ⟨g, 0, none⟩) m m) m (U (zs.set k x)) := by
  have := (h.stored k (.int .u64 (x : Nat))).1
  rwa [show (U zs).set k (.int .u64 ((x : Nat) : Int)) = U (zs.set k x) by unfold U; rw [List.map_set]] at this

set_option maxHeartbeats 2000000 in
set_option maxRecDepth 100000 in
theorem range_ok (lo hi : Int) (m : Nat) (w : World) (h : mayB lo = true) (h2 : mayB hi = true) (hle : lo ≤ hi) (hw : hi - lo < 65536) (hm : (m : Int) = hi / 64 - lo / 64 + 1) :
    Calls Tryz.prog 63 #[.int .i64 lo, .int .i64 hi] w (GivesDom w (rangeL lo hi) 0) := by
  have a := (mayB_iff lo).1 h
  have b := (mayB_iff hi).1 h2
  have d : decide (hi < lo) = false := by simp; omega
  have d5 : decide (65536 ≤ hi - lo) = false := by simp; omega
  have hm2 : m ≤ 1100 := by omega
  have hm0 : 0 < m := by omega
  obtain ⟨F1, F2, F3⟩ := range_form lo hi m hle a.1 b.2 hm
  have HF1 := Lib.hid F1
  have HF2 := Lib.hid F2
  have HF3 := Lib.hid F3
  have hsize : hi - lo + 1 = ((rangeL lo hi).length : Nat) := by rw [len_rangeL]; omega
  have Hsize := Lib.hid hsize
  have HNB := Lib.hid fun W => nobits_any lo hi m W hm (by omega)
  clear F1 F2 F3 hsize hm
  go_enter Tryz.func63, Tryz.ntmps63
  go_wp2_with (first
    | (go_at_call 121; with_reducible refine (maybe_any _ _).mono ?_; rintro e w' ⟨rfl, rfl⟩)
    | (go_at_call 122; (with_reducible refine (HNB.out _).mono ?_); rintro e w1 ⟨rfl, hown1, hb1, hs1⟩; rw [show (w.alloc (.cells #[.int .i64 0, .slice none 0 0, .int .i64 0] 53)).heap.size = w.heap.size + 1 by simp] at hown1 hb1 hs1))
  go_loopw [35] (fun i wr => ∃ k : Nat, k ≤ m ∧ i = .int .i64 (k : Nat) ∧ wr.ownsRow (w.heap.size + 1) 97 1 (.slice (some ⟨w.heap.size + 1, 0, none⟩) m m) m (U (fullTo m k)) ∧ Below (w.heap.size + 1) (w.alloc (.cells #[.int .i64 0, .slice none 0 0, .int .i64 0] 53)) wr) (fun i _ => m - (intOf i).toNat)
  case atStart => exact ⟨0, Nat.zero_le _, rfl, by simpa [fullTo] using hown1, hb1⟩
  case round =>
    clear hown1 hb1 hs1
    obtain ⟨k, hk, rfl, hown, hbr⟩ := hrel
    by_cases hlt : k < m
    · have hlen : (fullTo m k).length = m := by simp [fullTo]; omega
      have cw := own_word hown hlen hlt
      have fw := hown.frozenAt k
      have hst := (hown.stored k (.int .u64 18446744073709551615)).1
      rw [fullTo_set m k hlt] at hst
      have Hst := Lib.hid hst
      clear hst hlen
      go_wp2
      go_roundw
      case rel => exact ⟨k + 1, by omega, by go_num, Hst.out, hbr.setCell (p := ⟨w.heap.size + 1, k, none⟩) (Nat.le_refl _) _⟩
      case measure => simp [intOf]; omega
    · have hkm : k = m := by omega
      rw [hkm, full_all] at hown
      have cw0 := own_word hown (by simp) hm0
      rw [getD_rep, if_pos hm0] at cw0
      have fw0 := hown.frozenAt 0
      have and0 := u64_and_nat 18446744073709551615 (upN lo) (by decide) (upN_lt lo)
      have hown2 := own_put hown 0 (18446744073709551615 &&& upN lo)
      obtain ⟨x0, hx0⟩ : ∃ x0, 18446744073709551615 &&& upN lo = x0 := ⟨_, rfl⟩
      obtain ⟨t0, ht0⟩ : ∃ t0 : Nat, t0 = 18446744073709551615 := ⟨_, rfl⟩
      rw [← ht0] at cw0 and0
      rw [hx0] at hown2
      rw [ht0, hx0] at and0
      rw [← ht0] at and0
      have hl2 : ((List.replicate m 18446744073709551615).set 0 x0).length = m := by simp
      obtain ⟨j, hj⟩ : ∃ j : Nat, (m : Int) - 1 = (j : Int) := ⟨m - 1, by omega⟩
      have hjm : j < m := by omega
      have hjm' : (j : Int) < (m : Int) := by omega
      have hjw : IntKind.i64.wrap (j : Int) = (j : Int) := IntWalk.i64_in _ (by omega)
      have hj1 : m - 1 = j := by omega
      have cw1 := own_word hown2 hl2 hjm
      have fw1 := hown2.frozenAt j
      have y0lt : ((List.replicate m 18446744073709551615).set 0 x0).getD j 0 < 18446744073709551616 := by
        rw [getD_set _ _ _ _ (by simp; omega), getD_rep, if_pos hjm]
        split
        · rw [← hx0]; exact and_lt _ _ (by decide)
        · decide
      have and1 := u64_and_nat _ (downN hi) y0lt (downN_lt hi)
      have hown3 := own_put hown2 j (((List.replicate m 18446744073709551615).set 0 x0).getD j 0 &&& downN hi)
      have hws : ((List.replicate m 18446744073709551615).set 0 x0).set j (((List.replicate m 18446744073709551615).set 0 x0).getD j 0 &&& downN hi) = rangeWs lo hi m := by
        unfold rangeWs; rw [hx0, hj1]
      rw [hws] at hown3
      generalize ((List.replicate m 18446744073709551615).set 0 x0).getD j 0 = y0 at *
      obtain ⟨y1, hy1⟩ : ∃ y1, y0 &&& downN hi = y1 := ⟨_, rfl⟩
      rw [hy1] at and1 hown3
      have Hown3 := Lib.hid hown3
      have Hbr := Lib.hid hbr
      have hb3 : Below (w.heap.size + 1) (w.alloc (.cells #[.int .i64 0, .slice none 0 0, .int .i64 0] 53)) ((wr.setCell ⟨w.heap.size + 1, 0, none⟩ (.int .u64 (x0 : Nat))).setCell ⟨w.heap.size + 1, j, none⟩ (.int .u64 (y1 : Nat))) := (hbr.setCell (p := ⟨w.heap.size + 1, 0, none⟩) (Nat.le_refl _) _).setCell (p := ⟨w.heap.size + 1, j, none⟩) (Nat.le_refl _) _
      obtain ⟨r0, r1, r2⟩ := boxed hb3
      obtain ⟨f0, f1, f2⟩ := boxed_free hb3
      have Hb3 := Lib.hid hb3
      clear hkm hx0 ht0 hown hown2 hl2 hj1 y0lt hws hy1 hown3 hbr hb3
      go_wp2
      go_region_with (first | (go_at_call 127; refine (up_any _ _).mono ?_; rintro e w' ⟨rfl, rfl⟩))
      all_goals go_wp2
      all_goals go_region_with (first | (go_at_call 128; refine (down_any _ _).mono ?_; rintro e w' ⟨rfl, rfl⟩))
      all_goals go_wp2
      all_goals
        have hbo := (out_below (of_boxed Hb3.out) w.heap.size (Nat.le_refl _) (.int .i64 (lo / 64)) (.slice (some ⟨w.heap.size + 1, 0, none⟩) m m) (.int .i64 (hi - lo + 1))).drew.drew
        have hown5 := (ownsRow_setCell_below (ownsRow_setCell_below (ownsRow_setCell_below Hown3.out (a := ⟨w.heap.size, 0, none⟩) (by simp) (.int .i64 (lo / 64))) (a := ⟨w.heap.size, 1, none⟩) (by simp) (.slice (some ⟨w.heap.size + 1, 0, none⟩) m m)) (a := ⟨w.heap.size, 2, none⟩) (by simp) (.int .i64 (hi - lo + 1))).drew.drew
        have hdE := own_dom hown5 HF1.out HF2.out HF3.out
        rw [← Hsize.out] at hdE
        obtain ⟨q0, q1, q2⟩ := out_cells _ w.heap.size _ _ _ (.int .i64 (lo / 64)) (.slice (some ⟨w.heap.size + 1, 0, none⟩) m m) (.int .i64 (hi - lo + 1)) r0 r1 r2
        exact bodyPost_ret (v := .tuple #[.agg #[.int .i64 (lo / 64), .slice (some ⟨w.heap.size + 1, 0, none⟩) m m, .int .i64 (hi - lo + 1)], .int .i64 0]) (by simp [results, Tryz.results63, go_sem, q0, q1, q2]) rfl ⟨_, rfl, hdE, hbo⟩

theorem range_dom (lo hi : Int) (w : World) :
    Calls Tryz.prog 63 #[.int .i64 lo, .int .i64 hi] w (GivesDom w (if rangeErr lo hi = 0 then rangeL lo hi else []) (rangeErr lo hi)) := by
  by_cases m1 : mayB lo = true
  · by_cases m2 : mayB hi = true
    · by_cases hlt : hi < lo
      · have e : rangeErr lo hi = 4 := by unfold rangeErr; rw [if_pos ⟨m1, m2⟩, if_pos hlt]
        rw [e, if_neg (by decide)]
        exact range_err4 lo hi w m1 m2 hlt
      · by_cases hw : 65536 ≤ hi - lo
        · have e : rangeErr lo hi = 5 := by unfold rangeErr; rw [if_pos ⟨m1, m2⟩, if_neg hlt, if_pos hw]
          rw [e, if_neg (by decide)]
          exact range_err5 lo hi w m1 m2 hw
        · have e : rangeErr lo hi = 0 := by unfold rangeErr; rw [if_pos ⟨m1, m2⟩, if_neg hlt, if_neg hw]
          rw [e, if_pos rfl]
          exact range_ok lo hi (hi / 64 - lo / 64 + 1).toNat w m1 m2 (by omega) (by omega) (by omega)
    · have e : rangeErr lo hi = 3 := by unfold rangeErr; rw [if_neg (fun q => m2 q.2)]
      rw [e, if_neg (by decide)]
      exact range_err3 lo hi w (.inr ⟨m1, by simpa using m2⟩)
  · have e : rangeErr lo hi = 3 := by unfold rangeErr; rw [if_neg (fun q => m1 q.1)]
    rw [e, if_neg (by decide)]
    exact range_err3 lo hi w (.inl (by simpa using m1))

end Go.Proofs.YtkhmocbfkpbpfaaGreatDoor
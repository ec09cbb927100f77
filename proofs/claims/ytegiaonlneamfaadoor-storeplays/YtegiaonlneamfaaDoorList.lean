/- Contract of List: a new slice with the domain's numbers, rising. -/
import Derived.Test.YtegiaonlneamfaaDoorStep
import Derived.OwnWalk
namespace Go.Proofs.YtegiaonlneamfaaDoor
open Go.RowKit

theorem Tryd.info3 : (Tryd.prog.info? 3).map (fun i => (i.zero, i.size, i.bytes)) = some (some (.int .i64 0), 1, 8) := by kernel_rfl
theorem Tryd.info85 : (Tryd.prog.info? 85).map (fun i => (i.zero, i.size, i.bytes)) = some (some (.int .u64 0), 1, 8) := by kernel_rfl

/-- Numbers as cells. -/
def I (zs : List Int) : List Value := zs.map (Value.int .i64)
theorem I_len (zs : List Int) : (I zs).length = zs.length := by simp [I]
theorem I_append (a b : List Int) : I (a ++ b) = I a ++ I b := by simp [I]
theorem I_one (z : Int) : I [z] = [Value.int .i64 z] := rfl

/-- What a call owns reads as a list of numbers. -/
theorem own_lies {w : World} {base : Nat} {v : Value} {zs : List Int} (h : w.ownsRow base 3 1 v zs.length (I zs)) :
    ∃ A c, v = .slice A zs.length c ∧ Lies w A zs.length (i64f zs) ∧ zs.length ≤ c := by
  rcases h.2 with ⟨e, h0⟩ | ⟨g, cap, cur, e, hb, hg, hn, hm, hs, ht⟩
  · refine ⟨none, 0, ?_, fun hp => absurd hp (by omega), by omega⟩
    rw [e, h0]
  · refine ⟨some ⟨g, 0, none⟩, cap, e, fun hp => ⟨⟨g, 0, none⟩, rfl, (Array.getElem?_eq_some_iff.1 hg).1, fun j hj => ?_⟩, hn⟩
    refine h.cells (g := g) (by rw [e]; rfl) j _ ?_
    simp only [I, List.getElem?_map]
    rw [List.getElem?_eq_getElem hj]
    simp [i64f, List.getD_eq_getElem?_getD, List.getElem?_eq_getElem hj]

theorem own_ge {w : World} {base : Nat} {e : TypeId} {size n : Nat} {v : Value} {xs : List Value} (h : w.ownsRow base e size v n xs) : ∀ g, v.ownBlock = some g → base ≤ g := fun g hg => (h.lt g hg).1

/-- Behind an append onto what the call owns. -/
theorem box_grown {w wr w1 : World} {o : Obj} {base : Nat} {e : TypeId} {size n : Nat} {v : Value} {xs : List Value} {o' : Obj} (hb : Below (w.heap.size + 1) (w.alloc o) wr) (hown : wr.ownsRow base e size v n xs) (hbase : w.heap.size + 1 ≤ base)
    (hg : (wr.alloc o').grownBy w1 v.ownBlock) : Below (w.heap.size + 1) (w.alloc o) w1 := by
  have hs := hb.size
  simp at hs
  refine (hb.alloc (by omega) o').grown hg (by simp; omega) (fun k hk => ?_)
  have := own_ge hown k hk
  omega

/-- A new slice with these numbers is returned; nothing old has turned. -/
def GivesInts (w : World) (zs : List Int) (e : Ending) (w' : World) : Prop := ∃ v, e = .returned v ∧ w'.ownsRow w.heap.size 3 1 v zs.length (I zs) ∧ Below w.heap.size w w'

theorem own_base {w : World} {base base' : Nat} {e : TypeId} {size n : Nat} {v : Value} {xs : List Value} (h : w.ownsRow base e size v n xs) (hb : base' ≤ base) : w.ownsRow base' e size v n xs := by
  refine ⟨h.1, ?_⟩
  rcases h.2 with h2 | ⟨g, cap, cur, a, b, r⟩
  · exact .inl h2
  · exact .inr ⟨g, cap, cur, a, Nat.le_trans hb b, r⟩

theorem take_listOf (s : Int) (ws : List Nat) (k : Nat) (hk : k < ws.length) : listOf s (ws.take (k + 1)) = listOf s (ws.take k) ++ (bitsUp (ws.getD k 0)).map (fun j : Nat => (s + k) * 64 + (j : Int)) := by
  rw [List.take_succ_eq_append_getElem hk, listOf_append, List.length_take, Nat.min_eq_left (by omega)]
  congr 1
  rw [List.getD_eq_getElem?_getD, List.getElem?_eq_getElem hk]
  simp [listOf]

theorem len_take_listOf (s : Int) (ws : List Nat) (k : Nat) : (listOf s (ws.take k)).length ≤ 64 * ws.length := by
  have := len_le_listOf (ws.take k) s
  have : (ws.take k).length ≤ ws.length := by rw [List.length_take]; omega
  omega

/-- The inner loop's state: acc is gathered, the bits of x are still to come. -/
structure Gather (s : Int) (ws : List Nat) (k x : Nat) (acc : List Int) : Prop where
  lt : x < 18446744073709551616
  all : acc ++ (bitsUp x).map (fun j : Nat => (s + k) * 64 + (j : Int)) = listOf s (ws.take (k + 1))

theorem Gather.len {s : Int} {ws : List Nat} {k x : Nat} {acc : List Int} (h : Gather s ws k x acc) : acc.length ≤ 64 * ws.length := by
  have := len_take_listOf s ws (k + 1)
  rw [← h.all, List.length_append] at this
  omega

theorem Gather.step {s : Int} {ws : List Nat} {k x : Nat} {acc : List Int} (h : Gather s ws k x acc) (hx : x ≠ 0) :
    Gather s ws k (x &&& (x - 1)) (acc ++ [(s + k) * 64 + ((Lib.ctz 64 x : Nat) : Int)]) ∧ x &&& (x - 1) < x := by
  obtain ⟨y, hy, hlt, e⟩ := and_pred x hx h.lt
  rw [hy]
  refine ⟨⟨by have := h.lt; omega, ?_⟩, hlt⟩
  rw [← h.all, e]
  simp

set_option maxHeartbeats 1000000 in
set_option maxRecDepth 100000 in
theorem list_some (s : Int) (ad : Addr) (ws : List Nat) (c m : Nat) (w : World) (hT : Tab w) (hF : Form s ws) (hm : (listOf s ws).length = m) (hl : ad.block < w.heap.size) (hc : ∀ j, j < ws.length → w.cell? (ad.add j) = some (u64f ws j)) :
    Calls Tryd.prog 45 #[.agg #[.int .i64 s, .slice (some ad) ws.length c, .int .i64 (m : Nat)]] w (GivesInts w (listOf s ws)) := by
  have hn := hF.len
  have h1 := hF.lo
  have h2 := hF.hi
  have hml : m ≤ 2000064 := by have := len_le_listOf ws s; omega
  have HF := Lib.hid hF
  have Hm := Lib.hid hm
  have Hc := Lib.hid hc
  clear hF hm hc
  obtain ⟨i0, hi, hz0, hz1, hz2⟩ := info_parts Tryd.info3
  go_enter Tryd.func45, Tryd.ntmps45
  go_wp2_with (at_make; refine wpList_make_own _ rfl _ _ 34 rfl (w.heap.size + 1) 3 i0 (.int .i64 0) 1 Tryd.underlying34 hi hz0 hz1 _ _ _ m rfl rfl rfl ?b2 ?b3 (by simp) ?_)
  case b2 => rw [hz2]; omega
  case b3 => unfold maxLen; omega
  intro w1 hown1 hg1
  have hb1 : Below (w.heap.size + 1) (w.alloc (.cells #[.int .i64 s, .slice (some ad) ws.length c, .int .i64 (m : Nat)] 48)) w1 := (Below.refl _ _).grown hg1 (by simp) (by intro k hk; cases hk)
  obtain ⟨c0, c1, c2⟩ := boxed hb1
  go_wp2
  go_loopw [3, 12] (fun v i wr => ∃ k : Nat, k ≤ ws.length ∧ i = .int .i64 k ∧ wr.ownsRow (w.heap.size + 1) 3 1 v (listOf s (ws.take k)).length (I (listOf s (ws.take k))) ∧
      Below (w.heap.size + 1) (w.alloc (.cells #[.int .i64 s, .slice (some ad) ws.length c, .int .i64 (m : Nat)] 48)) wr) (fun _ i _ => ws.length - (intOf i).toNat)
  case atStart => exact ⟨0, Nat.zero_le _, rfl, hown1, hb1⟩
  case round =>
    obtain ⟨k, hk, rfl, hown, hbr⟩ := hrel
    clear hown1 hg1 hb1 c0 c1 c2
    obtain ⟨c0, c1, c2⟩ := boxed hbr
    by_cases hlt : k < ws.length
    · have hck : wr.cell? (ad.add k) = some (.int .u64 ((ws.getD k 0 : Nat) : Int)) := ((of_boxed hbr).cell (by rw [add_block]; exact hl)).trans (Hc.out k hlt)
      obtain ⟨y, hy⟩ : ∃ y, y = ws.getD k 0 := ⟨_, rfl⟩
      rw [← hy] at hck
      have HG : Gather s ws k y (listOf s (ws.take k)) := ⟨by rw [hy]; exact HF.out.words k, by rw [hy]; exact (take_listOf s ws k hlt).symm⟩
      clear hy
      go_wp2
      go_loopw [3, 5] (fun v wd wr' => ∃ (x : Nat) (acc : List Int), wd = .int .u64 (x : Nat) ∧ Hid (Gather s ws k x acc) ∧ wr'.ownsRow (w.heap.size + 1) 3 1 v acc.length (I acc) ∧
        Below (w.heap.size + 1) (w.alloc (.cells #[.int .i64 s, .slice (some ad) ws.length c, .int .i64 (m : Nat)] 48)) wr') (fun _ wd _ => (intOf wd).toNat)
      case atStart => exact ⟨y, _, rfl, HG, hown, hbr⟩
      case round =>
        clear hown hbr c0 c1 c2 hck
        obtain ⟨x, acc, rfl, HGx, hown, hbr⟩ := hrel
        obtain ⟨c0, c1, c2⟩ := boxed hbr
        by_cases hx : x = 0
        · have hx' : ((x : Int) != 0) = false := by simp [hx]
          have hacc : acc = listOf s (ws.take (k + 1)) := by
            have := HGx.out.all
            rw [hx, bitsUp_zero] at this
            simpa using this
          rw [hacc] at hown
          clear hx hacc HGx
          go_wp2
          go_roundw
          case rel => exact ⟨k + 1, by omega, by go_num, hown, hbr⟩
          case measure => simp [intOf]; omega
        · have hx' : ((x : Int) != 0) = true := by simpa using hx
          have hlen := HGx.out.len
          obtain ⟨G1, G2⟩ := HGx.out.step hx
          have hxl := HGx.out.lt
          have L := fun W hW => lowest_any (s + k) x W hxl hx hW (by omega) (by omega)
          have HL := Lib.hid L
          have e1 : bits BinOp.and IntKind.u64 (x : Int) (IntKind.u64.wrap ((x : Int) - 1)) = ((x &&& (x - 1) : Nat) : Int) := by
            have : IntKind.u64.wrap ((x : Int) - 1) = ((x - 1 : Nat) : Int) := by rw [IntKind.wrap_u64]; omega
            rw [this]
            exact u64_and_nat x (x - 1) hxl (by omega)
          have HG1 := Lib.hid G1
          have HG2 := Lib.hid G2
          clear G1 G2 hxl L hx
          go_wp2_with (first
            | (go_at_call 54; with_reducible refine (HL.out _ (hT.below (of_boxed hbr))).mono ?_; rintro e w' ⟨rfl, rfl⟩)
            | (at_builtin; refine wpList_append_own _ rfl _ _ 34 rfl (w.heap.size + 1) 3 i0 (.int .i64 0) 1 8 Tryd.underlying34 hi hz0 hz1 hz2 rfl (by decide) _ _ _ rfl (hown.alloc _) ⟨_, 0, none⟩ 1 1 [.int .i64 ((s + k) * 64 + ((Lib.ctz 64 x : Nat) : Int))] rfl rfl ?c1 ?c2 ?c3 ?c4 ?c5 ?_))
          case c1 => intro j u hj; match j, hj with | 0, hj => simp at hj; subst hj; simp [Addr.add]
          case c2 => intro u hu; simp at hu; subst hu; rfl
          case c3 => unfold maxLen; omega
          case c4 => omega
          case c5 => have := hbr.size; simp at this ⊢; omega
          · intro v' w2 hown' hgrow _
            have hb2 := box_grown hbr hown (Nat.le_refl _) hgrow
            rw [← I_one, ← I_append, show acc.length + 1 = (acc ++ [(s + (k : Int)) * 64 + ((Lib.ctz 64 x : Nat) : Int)]).length by simp] at hown'
            clear hown hgrow hbr c0 c1 c2
            go_wp2
            go_roundw
            case rel => exact ⟨_, _, rfl, HG1, hown', hb2⟩
            case measure => simp only [intOf]; have := HG2.out; simp; omega
    · have hkk : k = ws.length := by omega
      rw [hkk, List.take_length] at hown
      clear hkk
      go_wp2
      go_ret
      exact ⟨_, rfl, own_base hown (by omega), of_boxed hbr⟩

set_option maxRecDepth 100000 in
theorem list_none (s : Int) (A : Option Addr) (c : Nat) (w : World) :
    Calls Tryd.prog 45 #[.agg #[.int .i64 s, .slice A 0 c, .int .i64 0]] w (GivesInts w []) := by
  obtain ⟨i0, hi, hz0, hz1, hz2⟩ := info_parts Tryd.info3
  go_enter Tryd.func45, Tryd.ntmps45
  go_wp2_with (at_make; refine wpList_make_own _ rfl _ _ 34 rfl (w.heap.size + 1) 3 i0 (.int .i64 0) 1 Tryd.underlying34 hi hz0 hz1 _ _ _ 0 rfl rfl rfl (by omega) (by unfold maxLen; omega) (by simp) ?_; intro w1 hown1 hg1; have hb1 := (Below.refl (w.heap.size + 1) _).grown hg1 (by simp) (by intro k hk; cases hk); obtain ⟨c0, c1, c2⟩ := boxed hb1)
  refine wp_loop_rounds 1 ?_
  rw [rounds_succ]
  go_wp2
  go_ret
  have hown2 : w1.ownsRow (w.heap.size + 1) 3 1 (.slice (some ⟨w.heap.size + 1, 0, none⟩) 0 0) 0 [] := by simpa using hown1
  exact ⟨_, rfl, own_base (base := w.heap.size + 1) hown2 (Nat.le_succ _), of_boxed hb1⟩

theorem list_dom (d : Value) (L : List Int) (w : World) (h : IsDom w d L) (hT : Tab w) : Calls Tryd.prog 45 #[d] w (GivesInts w L) := by
  obtain ⟨s, A, ws, c, rfl, hl, hF, rfl⟩ := h
  by_cases hp : 0 < ws.length
  · obtain ⟨ad, rfl, hb, hc⟩ := hl hp
    exact list_some s ad ws c _ w hT hF rfl hb hc
  · have : ws = [] := List.eq_nil_of_length_eq_zero (by omega)
    subst this
    exact list_none s A c w
end Go.Proofs.YtegiaonlneamfaaDoor

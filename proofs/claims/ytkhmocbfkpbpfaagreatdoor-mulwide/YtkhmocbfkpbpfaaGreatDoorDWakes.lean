/- Contract of Of: the domain of some numbers, or its error. -/
import Derived.Test.YtkhmocbfkpbpfaaGreatDoorDOfm
namespace Go.Proofs.YtkhmocbfkpbpfaaGreatDoor
open Go.RowKit

theorem zero_out (w : World) (ch : Int) : GivesDom w [] ch (.returned (.tuple #[.agg #[.int .i64 0, .slice none 0 0, .int .i64 0], .int .i64 ch])) (w.alloc (.cells #[.int .i64 0, .slice none 0 0, .int .i64 0] 53)) :=
  ⟨_, rfl, none_dom _, below1 _ _⟩

theorem of_empty (A : Option Addr) (c : Nat) (w : World) : Calls Tryz.prog 58 #[.slice A 0 c] w (GivesDom w [] 4) := by
  go_enter Tryz.func58, Tryz.ntmps58
  go_wp2
  exact bodyPost_ret (v := .tuple #[.agg #[.int .i64 0, .slice none 0 0, .int .i64 0], .int .i64 4]) (by simp [results, Tryz.results58, go_sem]) rfl (zero_out _ _)

/-- What slices.Min and Max answer of the numbers, wherever they still lie. -/
def Bounds (A : Option Addr) (n c : Nat) (w : World) (lo hi : Int) : Prop :=
  (∀ W, Below w.heap.size w W → Calls Tryz.prog 119 #[.slice A n c] W fun e w' => e = .returned (.int .i64 lo) ∧ W = w') ∧
  (∀ W, Below w.heap.size w W → Calls Tryz.prog 120 #[.slice A n c] W fun e w' => e = .returned (.int .i64 hi) ∧ W = w')
theorem Bounds.lo_on {A : Option Addr} {n c : Nat} {w : World} {lo hi : Int} (h : Bounds A n c w lo hi) (W : World) (hW : Below w.heap.size w W) :
    Calls Tryz.prog 119 #[.slice A n c] W fun e w' => e = .returned (.int .i64 lo) ∧ W = w' := h.1 W hW
theorem Bounds.hi_on {A : Option Addr} {n c : Nat} {w : World} {lo hi : Int} (h : Bounds A n c w lo hi) (W : World) (hW : Below w.heap.size w W) :
    Calls Tryz.prog 120 #[.slice A n c] W fun e w' => e = .returned (.int .i64 hi) ∧ W = w' := h.2 W hW

theorem least_unique {zs : List Int} {a b : Int} (h : MinTo zs zs.length a) (h' : MinTo zs zs.length b) : a = b := by
  have h1 := h.mem; have h2 := h'.mem
  have := h1.2 b h2.1; have := h2.2 a h1.1; omega
theorem most_unique {zs : List Int} {a b : Int} (h : MaxTo zs zs.length a) (h' : MaxTo zs zs.length b) : a = b := by
  have h1 := h.mem; have h2 := h'.mem
  have := h1.2 b h2.1; have := h2.2 a h1.1; omega

theorem min_exists (zs : List Int) (h : 0 < zs.length) : ∃ m, MinTo zs zs.length m := by
  have : ∀ k, 0 < k → k ≤ zs.length → ∃ m, MinTo zs k m := by
    intro k
    induction k with
    | zero => intro h; omega
    | succ k ih =>
      intro _ hk
      by_cases h0 : k = 0
      · subst h0; exact ⟨_, MinTo.start rfl⟩
      · obtain ⟨m, hm⟩ := ih (by omega) (by omega)
        exact ⟨_, hm.step⟩
  exact this _ h (Nat.le_refl _)
theorem max_exists (zs : List Int) (h : 0 < zs.length) : ∃ m, MaxTo zs zs.length m := by
  have : ∀ k, 0 < k → k ≤ zs.length → ∃ m, MaxTo zs k m := by
    intro k
    induction k with
    | zero => intro h; omega
    | succ k ih =>
      intro _ hk
      by_cases h0 : k = 0
      · subst h0; exact ⟨_, MaxTo.start rfl⟩
      · obtain ⟨m, hm⟩ := ih (by omega) (by omega)
        exact ⟨_, hm.step⟩
  exact this _ h (Nat.le_refl _)

theorem bounds_of (A : Option Addr) (zs : List Int) (c : Nat) (w : World) (h : Lies w A zs.length (i64f zs)) (hp : 0 < zs.length) (hbig : zs.length ≤ 1000000) :
    ∃ lo hi, MinTo zs zs.length lo ∧ MaxTo zs zs.length hi ∧ Bounds A zs.length c w lo hi := by
  obtain ⟨lo, hlo⟩ := min_exists zs hp
  obtain ⟨hi, hhi⟩ := max_exists zs hp
  refine ⟨lo, hi, hlo, hhi, fun W hW => ?_, fun W hW => ?_⟩
  · refine (min_ints A zs c W (h.below hW) hp (by omega)).mono ?_
    rintro e w' ⟨m, rfl, hm, rfl⟩
    exact ⟨by rw [least_unique hm hlo], rfl⟩
  · refine (max_ints A zs c W (h.below hW) hp (by omega)).mono ?_
    rintro e w' ⟨m, rfl, hm, rfl⟩
    exact ⟨by rw [most_unique hm hhi], rfl⟩

theorem of_range (A : Option Addr) (n c : Nat) (w : World) (lo hi : Int) (hn : 0 < n) (hB : Bounds A n c w lo hi) (h : mayB lo = false ∨ (mayB lo = true ∧ mayB hi = false)) :
    Calls Tryz.prog 58 #[.slice A n c] w (GivesDom w [] 3) := by
  have hn' : ((n : Int) == 0) = false := by simp; omega
  rcases h with h | ⟨h, h2⟩
  · go_enter Tryz.func58, Tryz.ntmps58
    go_wp2_with (first
      | (go_at_call 119; with_reducible refine (hB.lo_on _ (below1 _ _)).mono ?_; rintro e w' ⟨rfl, rfl⟩)
      | (go_at_call 120; with_reducible refine (hB.hi_on _ (below1 _ _)).mono ?_; rintro e w' ⟨rfl, rfl⟩)
      | (go_at_call 121; with_reducible refine (maybe_any _ _).mono ?_; rintro e w' ⟨rfl, rfl⟩))
    exact bodyPost_ret (v := .tuple #[.agg #[.int .i64 0, .slice none 0 0, .int .i64 0], .int .i64 3]) (by simp [results, Tryz.results58, go_sem]) rfl (zero_out _ _)
  · go_enter Tryz.func58, Tryz.ntmps58
    go_wp2_with (first
      | (go_at_call 119; with_reducible refine (hB.lo_on _ (below1 _ _)).mono ?_; rintro e w' ⟨rfl, rfl⟩)
      | (go_at_call 120; with_reducible refine (hB.hi_on _ (below1 _ _)).mono ?_; rintro e w' ⟨rfl, rfl⟩)
      | (go_at_call 121; with_reducible refine (maybe_any _ _).mono ?_; rintro e w' ⟨rfl, rfl⟩))
    exact bodyPost_ret (v := .tuple #[.agg #[.int .i64 0, .slice none 0 0, .int .i64 0], .int .i64 3]) (by simp [results, Tryz.results58, go_sem]) rfl (zero_out _ _)

theorem of_wide (A : Option Addr) (n c : Nat) (w : World) (lo hi : Int) (hn : 0 < n) (hB : Bounds A n c w lo hi) (h : mayB lo = true) (h2 : mayB hi = true) (hw : 65536 ≤ hi - lo) :
    Calls Tryz.prog 58 #[.slice A n c] w (GivesDom w [] 5) := by
  have hn' : ((n : Int) == 0) = false := by simp; omega
  have a := (mayB_iff lo).1 h
  have b := (mayB_iff hi).1 h2
  go_enter Tryz.func58, Tryz.ntmps58
  go_wp2_with (first
    | (go_at_call 119; with_reducible refine (hB.lo_on _ (below1 _ _)).mono ?_; rintro e w' ⟨rfl, rfl⟩)
    | (go_at_call 120; with_reducible refine (hB.hi_on _ (below1 _ _)).mono ?_; rintro e w' ⟨rfl, rfl⟩)
    | (go_at_call 121; with_reducible refine (maybe_any _ _).mono ?_; rintro e w' ⟨rfl, rfl⟩))
  exact bodyPost_ret (v := .tuple #[.agg #[.int .i64 0, .slice none 0 0, .int .i64 0], .int .i64 5]) (by simp [results, Tryz.results58, go_sem]) rfl (zero_out _ _)

set_option maxHeartbeats 2000000 in
set_option maxRecDepth 100000 in
theorem of_ok (ad : Addr) (zs : List Int) (n c m : Nat) (w : World) (lo hi : Int) (hnz : n = zs.length) (hn : 0 < n) (hbig : n ≤ 1000000) (hB : Bounds (some ad) n c w lo hi) (h : mayB lo = true) (h2 : mayB hi = true) (hw : hi - lo < 65536)
    (hl : lo ∈ zs ∧ ∀ z ∈ zs, lo ≤ z) (hh : hi ∈ zs ∧ ∀ z ∈ zs, z ≤ hi) (hm : (m : Int) = hi / 64 - lo / 64 + 1) (hb : ad.block < w.heap.size) (hc : ∀ j, j < n → w.cell? (ad.add j) = some (i64f zs j)) :
    Calls Tryz.prog 58 #[.slice (some ad) n c] w (GivesDom w (setOf zs) 0) := by
  have hn' : ((n : Int) == 0) = false := by simp; omega
  have a := (mayB_iff lo).1 h
  have b := (mayB_iff hi).1 h2
  have hle := hl.2 hi hh.1
  have hm2 : m ≤ 1100 := by omega
  have hd : decide (65536 ≤ hi - lo) = false := by simp; omega
  have Hc := Lib.hid hc
  have Hnz := Lib.hid hnz
  have Hl := Lib.hid hl
  have Hh := Lib.hid hh
  have Hm := Lib.hid hm
  have HNB := Lib.hid fun W => nobits_any lo hi m W hm (by omega)
  clear hc hnz hl hh hm
  go_enter Tryz.func58, Tryz.ntmps58
  go_wp2_with (first
    | (go_at_call 119; with_reducible refine (hB.lo_on _ (below1 _ _)).mono ?_; rintro e w' ⟨rfl, rfl⟩)
    | (go_at_call 120; with_reducible refine (hB.hi_on _ (below1 _ _)).mono ?_; rintro e w' ⟨rfl, rfl⟩)
    | (go_at_call 121; with_reducible refine (maybe_any _ _).mono ?_; rintro e w' ⟨rfl, rfl⟩)
    | (go_at_call 122; (with_reducible refine (HNB.out _).mono ?_); rintro e w1 ⟨rfl, hown1, hb1, hs1⟩; rw [show (w.alloc (.cells #[.int .i64 0, .slice none 0 0, .int .i64 0] 53)).heap.size = w.heap.size + 1 by simp] at hown1 hb1 hs1))
  go_loopw [43] (fun i wr => ∃ (k : Nat) (ws : List Nat), k ≤ n ∧ i = .int .i64 (k : Nat) ∧ Hid (Marked (lo / 64) m ws zs k) ∧ wr.ownsRow (w.heap.size + 1) 97 1 (.slice (some ⟨w.heap.size + 1, 0, none⟩) m m) m (U ws) ∧ Below (w.heap.size + 1) (w.alloc (.cells #[.int .i64 0, .slice none 0 0, .int .i64 0] 53)) wr) (fun i _ => n - (intOf i).toNat)
  case atStart => exact ⟨0, _, Nat.zero_le _, rfl, Marked.start _ _ _, hown1, hb1⟩
  case round =>
    clear hown1 hb1 hs1
    obtain ⟨k, ws, hk, rfl, HM, hown, hbr⟩ := hrel
    by_cases hlt : k < n
    · have ck : wr.cell? (ad.add k) = some (.int .i64 (zs.getD k 0)) := ((of_boxed hbr).cell (by rw [add_block]; exact hb)).trans (Hc.out k hlt)
      have hkz : k < zs.length := by rw [← Hnz.out]; exact hlt
      have q1 := Hl.out.2 _ (getD_mem zs k hkz)
      have q2 := Hh.out.2 _ (getD_mem zs k hkz)
      obtain ⟨i, hi'⟩ : ∃ i : Nat, zs.getD k 0 / 64 - lo / 64 = (i : Int) := ⟨(zs.getD k 0 / 64 - lo / 64).toNat, by omega⟩
      have him : i < m := by have := Hm.out; omega
      have HM2 := HM.out.step hkz hi' him
      have hlen := HM.out.len
      have hlt64 := HM.out.lt i
      obtain ⟨v, hv⟩ : ∃ v, zs.getD k 0 = v := ⟨_, rfl⟩
      rw [hv] at ck hi' HM2 q1 q2
      have hcell : wr.cell? ⟨w.heap.size + 1, i, none⟩ = some (.int .u64 ((ws.getD i 0 : Nat) : Int)) := by
        rw [hown.cellAt i (by omega)]
        simp [U, List.getD_eq_getElem?_getD, List.getElem?_eq_getElem (show i < ws.length by omega)]
      have hfr := hown.frozenAt i
      have hor := u64_or_nat (ws.getD i 0) (bitN v) hlt64 (bitN_lt v)
      have hst := hown.stored i (.int .u64 ((ws.getD i 0 ||| bitN v : Nat) : Int))
      have hset : (U ws).set i (.int .u64 ((ws.getD i 0 ||| bitN v : Nat) : Int)) = U (ws.set i (ws.getD i 0 ||| bitN v)) := by unfold U; rw [List.map_set]
      rw [hset] at hst
      generalize ws.getD i 0 = x at *
      generalize hy : x ||| bitN v = y at *
      have hiw : IntKind.i64.wrap (i : Int) = (i : Int) := IntWalk.i64_in _ (by omega)
      have him' : (i : Int) < (m : Int) := by omega
      have HM3 := Lib.hid HM2
      have Hst := Lib.hid hst
      clear HM2 hst hset hlen hlt64 hv hy q1 q2
      go_wp2
      go_region_with (first | (go_at_call 70; refine (place_any _ _).mono ?_; rintro e w' ⟨rfl, rfl⟩) | (go_at_call 71; refine (bit_any _ _).mono ?_; rintro e w' ⟨rfl, rfl⟩))
      all_goals
        go_wp2
        go_roundw
        case rel => exact ⟨k + 1, _, by omega, by go_num, HM3, Hst.out.1.drew, (hbr.setCell (p := ⟨w.heap.size + 1, i, none⟩) (Nat.le_refl _) _).drew⟩
        case measure => simp [intOf]; omega
    · have hkz : k = zs.length := by rw [← Hnz.out]; omega
      have HM1 := HM.out
      rw [hkz] at HM1
      obtain ⟨hF, hset⟩ := HM1.form Hl.out Hh.out a.1 b.2 rfl Hm.out
      have hlen := HM1.len
      have HF := Lib.hid hF
      have Hset := Lib.hid hset
      have Hlen := Lib.hid hlen
      have Hown := Lib.hid hown
      have Hbr := Lib.hid hbr
      have hcw : Hid (∀ j, j < m → wr.cell? ⟨w.heap.size + 1, j, none⟩ = some (.int .u64 ((ws.getD j 0 : Nat) : Int))) := fun j hj => by
        rw [hown.cellAt j (by omega)]
        simp [U, List.getD_eq_getElem?_getD, List.getElem?_eq_getElem (show j < ws.length by omega)]
      have r0 : wr.cell? ⟨w.heap.size, 0, none⟩ = some (.int .i64 0) := (boxed hbr).1
      have r1 : wr.cell? ⟨w.heap.size, 1, none⟩ = some (.slice none 0 0) := (boxed hbr).2.1
      have r2 : wr.cell? ⟨w.heap.size, 2, none⟩ = some (.int .i64 0) := (boxed hbr).2.2
      have f0 : wr.frozen? ⟨w.heap.size, 0, none⟩ = false := by rw [hbr.frozen (by simp)]; simp
      have f1 : wr.frozen? ⟨w.heap.size, 1, none⟩ = false := by rw [hbr.frozen (by simp)]; simp
      have f2 : wr.frozen? ⟨w.heap.size, 2, none⟩ = false := by rw [hbr.frozen (by simp)]; simp
      clear hkz HM1 HM hF hset hlen hown hbr
      go_wp2
      go_loop [10, 61] (fun sz i => ∃ k : Nat, k ≤ m ∧ i = .int .i64 (k : Nat) ∧ sz = .int .i64 ((listOf (lo / 64) (ws.take k)).length : Nat)) (fun _ i => m - (intOf i).toNat)
      case atStart => exact ⟨0, Nat.zero_le _, rfl, by simp [listOf]⟩
      case round =>
        obtain ⟨k2, hk2, rfl, rfl⟩ := hrel
        have hsz := len_take_listOf (lo / 64) ws k2
        rw [Hlen.out] at hsz
        by_cases hlt2 : k2 < m
        · have cw := hcw.out k2 hlt2
          have hstep := len_take_succ (lo / 64) ws k2 (by rw [Hlen.out]; exact hlt2)
          have hone := ones_le (ws.getD k2 0)
          have HO := Lib.hid fun W => ones_any (ws.getD k2 0) W (HF.out.words k2)
          have Hstep := Lib.hid hstep
          generalize ws.getD k2 0 = x at *
          generalize (listOf (lo / 64) (ws.take k2)).length = sz at *
          clear hstep
          go_wp2_with (go_at_call 123; (with_reducible refine (HO.out _).mono ?_); rintro e w' ⟨rfl, rfl⟩)
          go_round
          case rel => exact ⟨k2 + 1, by omega, by go_num, by rw [Hstep.out]; go_num⟩
          case measure => simp [intOf]; omega
        · have hall : ws.take k2 = ws := List.take_of_length_le (by rw [Hlen.out]; omega)
          rw [hall, Hset.out]
          clear hall hsz
          go_wp2
          have hbo := out_below (of_boxed Hbr.out) w.heap.size (Nat.le_refl _) (.int .i64 (lo / 64)) (.slice (some ⟨w.heap.size + 1, 0, none⟩) m m) (.int .i64 ((setOf zs).length : Nat))
          have hown5 := ownsRow_setCell_below (ownsRow_setCell_below (ownsRow_setCell_below Hown.out (a := ⟨w.heap.size, 0, none⟩) (by simp) (.int .i64 (lo / 64))) (a := ⟨w.heap.size, 1, none⟩) (by simp) (.slice (some ⟨w.heap.size + 1, 0, none⟩) m m)) (a := ⟨w.heap.size, 2, none⟩) (by simp) (.int .i64 ((setOf zs).length : Nat))
          have hdE := own_dom hown5 Hlen.out HF.out Hset.out
          obtain ⟨q0, q1, q2⟩ := out_cells wr w.heap.size _ _ _ (.int .i64 (lo / 64)) (.slice (some ⟨w.heap.size + 1, 0, none⟩) m m) (.int .i64 ((setOf zs).length : Nat)) r0 r1 r2
          exact bodyPost_ret (v := .tuple #[.agg #[.int .i64 (lo / 64), .slice (some ⟨w.heap.size + 1, 0, none⟩) m m, .int .i64 ((setOf zs).length : Nat)], .int .i64 0]) (by simp [results, Tryz.results58, go_sem, q0, q1, q2]) rfl ⟨_, rfl, hdE, hbo⟩

theorem of_dom (A : Option Addr) (zs : List Int) (c : Nat) (w : World) (h : Lies w A zs.length (i64f zs)) (hbig : zs.length ≤ 1000000) :
    Calls Tryz.prog 58 #[.slice A zs.length c] w (GivesDom w (ofL zs) (ofErr zs)) := by
  by_cases hp : 0 < zs.length
  · obtain ⟨lo, hi, h1, h2, hB⟩ := bounds_of A zs c w h hp hbig
    have e := ofErr_by zs lo hi (by omega) h1.mem h2.mem
    by_cases m1 : mayB lo = true
    · by_cases m2 : mayB hi = true
      · rw [if_pos ⟨m1, m2⟩] at e
        by_cases hw : 65536 ≤ hi - lo
        · rw [if_pos hw] at e
          unfold ofL
          rw [e, if_neg (by decide)]
          exact of_wide A zs.length c w lo hi hp hB m1 m2 hw
        · rw [if_neg hw] at e
          unfold ofL
          rw [e, if_pos rfl]
          obtain ⟨ad, rfl, hb, hc⟩ := h hp
          have hle := h1.mem.2 hi h2.mem.1
          exact of_ok ad zs zs.length c (hi / 64 - lo / 64 + 1).toNat w lo hi rfl hp hbig hB m1 m2 (by omega) h1.mem h2.mem (by omega) hb hc
      · rw [if_neg (fun q => m2 q.2)] at e
        unfold ofL
        rw [e, if_neg (by decide)]
        exact of_range A zs.length c w lo hi hp hB (.inr ⟨m1, by simpa using m2⟩)
    · rw [if_neg (fun q => m1 q.1)] at e
      unfold ofL
      rw [e, if_neg (by decide)]
      exact of_range A zs.length c w lo hi hp hB (.inl (by simpa using m1))
  · have h0 : zs.length = 0 := by omega
    have e : ofErr zs = 4 := by unfold ofErr; rw [if_pos h0]
    unfold ofL
    rw [e, h0, if_neg (by decide)]
    exact of_empty A c w
end Go.Proofs.YtkhmocbfkpbpfaaGreatDoor

/- Contract of the law's own wakes: it is true. Condition: the table of math/bits is laid as its text says. -/
namespace Go.Proofs.YtkhmocbfkpbpfaaGreatDoor
open Go.RowKit

/-- Three cells of one block. -/
def At3 (W : World) (g : Nat) (a b c : Value) : Prop := g < W.heap.size ∧ W.cell? ⟨g, 0, none⟩ = some a ∧ W.cell? ⟨g, 1, none⟩ = some b ∧ W.cell? ⟨g, 2, none⟩ = some c
theorem At3.below {W W' : World} {g : Nat} {a b c : Value} (h : At3 W g a b c) (hb : Below W.heap.size W W') : At3 W' g a b c :=
  ⟨Nat.lt_of_lt_of_le h.1 hb.size, (hb.cell h.1).trans h.2.1, (hb.cell h.1).trans h.2.2.1, (hb.cell h.1).trans h.2.2.2⟩
theorem At3.new (W : World) (a b c : Value) (t : TypeId) : At3 (W.alloc (.cells #[a, b, c] t)) W.heap.size a b c := ⟨by simp, by simp, by simp, by simp⟩

end Go.Proofs.YtkhmocbfkpbpfaaGreatDoor

/- The document's own number, byte by byte. -/
import Derived.Test.YtancjkanmjdkkaaDoorRef
namespace Go.Proofs.YtancjkanmjdkkaaDoor
open Go.RowKit

theorem val_bound : ∀ (ds : Bs), (∀ x ∈ ds, digitB x = true) → 0 ≤ valOf ds ∧ valOf ds < 10 ^ ds.length := by
  have key : ∀ (ds : Bs) (acc : Int), 0 ≤ acc → (∀ x ∈ ds, digitB x = true) → 0 ≤ ds.foldl (fun v d => 10 * v + (d.toNat : Int) - 48) acc ∧ ds.foldl (fun v d => 10 * v + (d.toNat : Int) - 48) acc < (acc + 1) * 10 ^ ds.length := by
    intro ds
    induction ds with
    | nil => intro acc h0 _; simp; omega
    | cons d r ih =>
      intro acc h0 h
      have hd := h d (by simp)
      simp only [digitB, Bool.and_eq_true, decide_eq_true_eq] at hd
      obtain ⟨h1, h2⟩ := ih (10 * acc + (d.toNat : Int) - 48) (by omega) (fun x hx => h x (by simp [hx]))
      refine ⟨h1, Int.lt_of_lt_of_le h2 ?_⟩
      rw [List.length_cons, Int.pow_succ]
      have h3 : (0 : Int) < 10 ^ r.length := Int.pow_pos (by omega)
      have h4 : 10 * acc + (d.toNat : Int) - 48 + 1 ≤ (acc + 1) * 10 := by omega
      calc _ ≤ (acc + 1) * 10 * 10 ^ r.length := Int.mul_le_mul_of_nonneg_right h4 (Int.le_of_lt h3)
        _ = _ := by rw [Int.mul_assoc, Int.mul_comm 10]
  intro ds h
  have := key ds 0 (by omega) h
  simpa [valOf] using this

theorem val_snoc (ds : Bs) (d : UInt8) : valOf (ds ++ [d]) = 10 * valOf ds + (d.toNat : Int) - 48 := by simp [valOf]

theorem val_ten {ds : Bs} (h : ∀ x ∈ ds, digitB x = true) (hl : ds.length ≤ 9) : 0 ≤ valOf ds ∧ valOf ds ≤ 999999999 := by
  obtain ⟨h1, h2⟩ := val_bound ds h
  refine ⟨h1, ?_⟩
  have : (10 : Int) ^ ds.length ≤ 10 ^ 9 := by
    have h3 : (10 : Nat) ^ ds.length ≤ 10 ^ 9 := Nat.pow_le_pow_right (by omega) hl
    exact_mod_cast h3
  omega

/-- How far the reader is in a number: so many digits; what the first ten of them say. -/
structure NumAt (E : Bs) (j : Nat) (V : Int) : Prop where
  le : j ≤ E.length
  digs : ∀ x ∈ E.take j, digitB x = true
  len : (E.takeWhile digitB).length = j + ((E.drop j).takeWhile digitB).length
  val : V = valOf ((E.take j).take 10)

theorem NumAt.start (E : Bs) : NumAt E 0 0 := ⟨by omega, by simp, by simp, rfl⟩
theorem NumAt.bound {E : Bs} {j : Nat} {V : Int} (h : NumAt E j V) : 0 ≤ V ∧ V ≤ 9999999999 ∧ (j < 10 → V ≤ 999999999) := by
  have hd : ∀ x ∈ (E.take j).take 10, digitB x = true := fun x hx => h.digs x (List.mem_of_mem_take hx)
  obtain ⟨h1, h2⟩ := val_bound _ hd
  have h3 : (10 : Int) ^ ((E.take j).take 10).length ≤ 10 ^ 10 := by
    have h3 : (10 : Nat) ^ ((E.take j).take 10).length ≤ 10 ^ 10 := Nat.pow_le_pow_right (by omega) (by rw [List.length_take]; omega)
    exact_mod_cast h3
  rw [← h.val] at h1 h2
  refine ⟨h1, by omega, fun hj => ?_⟩
  rw [h.val]
  exact (val_ten hd (by rw [List.length_take, List.length_take]; omega)).2
theorem NumAt.on {E : Bs} {j : Nat} {V : Int} (h : NumAt E j V) {c : UInt8} {r : Bs} (hd : E.drop j = c :: r) (hc : digitB c = true) : NumAt E (j + 1) (if j < 10 then 10 * V + (c.toNat : Int) - 48 else V) := by
  have hlt : j < E.length := by
    have := congrArg List.length hd
    rw [List.length_drop, List.length_cons] at this
    omega
  have hg : E[j] = c := by
    rw [List.drop_eq_getElem_cons hlt] at hd
    exact (List.cons.inj hd).1
  have ht : E.take (j + 1) = E.take j ++ [c] := by rw [List.take_succ_eq_append_getElem hlt, hg]
  have hd1 : E.drop (j + 1) = r := by rw [← List.drop_drop, hd]; rfl
  refine ⟨by omega, ?_, ?_, ?_⟩
  · rw [ht]
    intro x hx
    rcases List.mem_append.1 hx with hx | hx
    · exact h.digs x hx
    · simp at hx
      rw [hx]
      exact hc
  · rw [h.len, hd, hd1, List.takeWhile_cons, if_pos hc, List.length_cons]
    omega
  · have hl : (E.take j).length = j := by rw [List.length_take]; omega
    by_cases hj : j < 10
    · have e1 : (E.take j).take 10 = E.take j := List.take_of_length_le (by rw [hl]; omega)
      have e2 : (E.take j ++ [c]).take 10 = E.take j ++ [c] := List.take_of_length_le (by rw [List.length_append, hl]; simp; omega)
      rw [if_pos hj, ht, h.val, e1, e2, val_snoc]
    · rw [if_neg hj, ht, h.val, List.take_append_of_le_length (by omega)]
theorem NumAt.stop {E : Bs} {j : Nat} {V : Int} (h : NumAt E j V) (hs : E.drop j = [] ∨ ∃ c r, E.drop j = c :: r ∧ digitB c = false) : (E.takeWhile digitB).length = j ∧ (j ≤ 10 → V = valOf (E.takeWhile digitB)) := by
  have h0 : ((E.drop j).takeWhile digitB).length = 0 := by
    rcases hs with hs | ⟨c, r, hs, hc⟩
    · rw [hs]; rfl
    · rw [hs, List.takeWhile_cons, if_neg (by rw [hc]; decide)]; rfl
  have h1 : (E.takeWhile digitB).length = j := by rw [h.len, h0]; omega
  refine ⟨h1, fun hj => ?_⟩
  have h2 : E.takeWhile digitB = E.take j := by
    have := List.prefix_iff_eq_take.1 (List.takeWhile_prefix digitB (l := E))
    rw [h1] at this
    exact this
  rw [h2, h.val, List.take_of_length_le (by rw [List.length_take]; omega)]

/-- How far it is to the end. -/
def meas (n : Nat) (i : Value) : Nat := n - (intOf i).toNat

theorem trip3 {a b c a' b' c' : Int} (h1 : a = a') (h2 : b = b') (h3 : c = c') : Ending.returned (Value.tuple #[.int .i64 a, .int .i64 b, .int .i64 c]) = Ending.returned (Value.tuple #[.int .i64 a', .int .i64 b', .int .i64 c']) := by rw [h1, h2, h3]

/-- What the reader tells of a number: how many bytes, what it says, the error. -/
def refN (D : Bs) : Nat × Int × Int := if (digitsOf D).length = 0 then (0, 0, 0) else if numBad D then (0, 0, 15) else (numN D, numVal D, 0)

theorem refN_is {D E : Bs} {m : Nat} (hm : minusN D = m) (hE : D.drop m = E) {n : Nat} {V : Int} (hn : (E.takeWhile digitB).length = n) (hV : n ≤ 10 → V = valOf (E.takeWhile digitB)) (z : Nat) (hz : n ≠ 0 → ∃ c r, E = c :: r ∧ c.toNat = z) :
    (n = 0 → refN D = (0, 0, 0)) ∧ (n ≠ 0 → (10 < n ∨ (1 < n ∧ z = 48) ∨ (m = 1 ∧ n = 1 ∧ z = 48)) → refN D = (0, 0, 15)) ∧
    (n ≠ 0 → ¬ (10 < n ∨ (1 < n ∧ z = 48) ∨ (m = 1 ∧ n = 1 ∧ z = 48)) → refN D = (m + n, (if m == 1 then -1 else 1) * V, 0)) := by
  have hd : digitsOf D = E.takeWhile digitB := by rw [digitsOf, hm, hE]
  have hb : n ≠ 0 → numBad D = decide (10 < n ∨ (1 < n ∧ z = 48) ∨ (m = 1 ∧ n = 1 ∧ z = 48)) := by
    intro h0
    obtain ⟨c, r, e, hc⟩ := hz h0
    have hh : (E.takeWhile digitB).head? = some c := by
      rw [e] at hn ⊢
      rw [List.takeWhile_cons] at hn ⊢
      split
      · rfl
      · next hx =>
        rw [if_neg hx] at hn
        exact absurd hn.symm h0
    have h48 : (some c == some 48) = decide (z = 48) := by
      have h1 := eq_byte c 48
      rw [show (some c == some 48) = (c == 48) from rfl, h1, hc]
      rfl
    unfold numBad
    rw [hd, hn, hm, hh, h48]
    rw [Bool.eq_iff_iff]
    simp only [Bool.or_eq_true, Bool.and_eq_true, decide_eq_true_eq, beq_iff_eq]
    omega
  refine ⟨fun h => ?_, fun h0 h => ?_, fun h0 h => ?_⟩
  · rw [refN, hd, hn, if_pos h]
  · rw [refN, hd, hn, if_neg h0, hb h0, if_pos (by simpa using h)]
  · rw [refN, hd, hn, if_neg h0, hb h0, if_neg (by simpa using h), numN, hd, hn, if_neg h0, hm, numVal, hm, hd, ← hV (by omega)]

set_option maxHeartbeats 4000000 in
set_option maxRecDepth 100000 in
theorem refNumber_plain (s : ByteArray) (k : Nat) (w : World) (hs : s.size ≤ 4611686018427387904) (hk : k < s.size) (h45 : ((s[k]'hk).toNat == 45) = false) :
    Calls Tryd.prog 19 #[.string s, .int .i64 (k : Nat)] w fun e w' => e = .returned (.tuple #[.int .i64 ((refN ((bl s).drop k)).1 : Nat), .int .i64 (refN ((bl s).drop k)).2.1, .int .i64 (refN ((bl s).drop k)).2.2]) ∧ w = w' := by
  obtain ⟨y, hy⟩ : ∃ y, (s[k]'hk).toNat = y := ⟨_, rfl⟩
  have hy45 : y ≠ 45 := by
    rw [hy] at h45
    simpa using h45
  have hmin : minusN ((bl s).drop k) = 0 := by
    rw [bl_drop s k hk, minusN_cons, eq_byte, ← get_get s k hk]
    rw [show ((s[k]'hk).toNat == (45 : UInt8).toNat) = false from h45]
    rfl
  obtain ⟨E, hE⟩ : ∃ E, E = (bl s).drop k := ⟨_, rfl⟩
  have hEl : E.length = s.size - k := by rw [hE, List.length_drop, bl_len]
  have HR := Lib.hid (fun n V h1 h2 z h3 => refN_is hmin (E := E) (by rw [List.drop_drop, hE]; simp) (n := n) (V := V) h1 h2 z h3)
  have HEE := Lib.hid hE
  clear hE hmin h45
  generalize refN ((bl s).drop k) = RR at HR
  have hyb : (((y : Nat) : Int) == 45) = false := by
    have e : (((y : Nat) : Int) == 45) = (y == 45) := by rw [Bool.eq_iff_iff, beq_iff_eq, beq_iff_eq]; omega
    rw [e]
    simpa using hy45
  clear hy45
  go_enter Tryd.func19, Tryd.ntmps19
  go_wp2_with fail
  go_loopw [7, 10] (fun i v wr => ∃ (j : Nat) (V : Int), i = .int .i64 ((k + j : Nat) : Int) ∧ v = .int .i64 V ∧ Hid (NumAt E j V) ∧ Hid (w = wr)) (fun i _ _ => meas s.size i)
  case atStart => exact ⟨0, 0, by go_num, rfl, NumAt.start _, by first | exact Lib.hid rfl | exact Lib.hid trivial⟩
  case round =>
    obtain ⟨j, V, rfl, rfl, HN, hw⟩ := hrel
    obtain rfl := hw.out
    clear hw
    have hjle : k + j ≤ s.size := by have := HN.out.le; omega
    obtain ⟨hV0, hV1, hV2⟩ := HN.out.bound
    by_cases hlt : k + j < s.size
    · obtain ⟨c, hc⟩ : ∃ c, s[k + j]'hlt = c := ⟨_, rfl⟩
      have hd : E.drop j = c :: (bl s).drop (k + j + 1) := by rw [HEE.out, List.drop_drop, bl_drop s _ hlt, ← get_get s _ hlt, hc]
      have C1 := Lib.hid (refDigit c w)
      have hc255 : c.toNat < 256 := c.toNat_lt
      cases hcd : digitB c
      · have HF := Lib.hid (HN.out.stop (.inr ⟨c, _, hd, hcd⟩))
        rw [hcd] at C1
        clear hd hcd
        clear hV2
        have hsub : ((k : Int) + (j : Int) - (k : Int)) = (j : Int) := by omega
        have HR2 := Lib.hid (HR.out _ _ HF.out.1 HF.out.2)
        clear HR
        by_cases hj0 : j = 0
        · obtain rfl := (HR2.out 0 (fun h => absurd hj0 h)).1 hj0
          have hj1 : j ≤ 0 := by omega
          clear HR2 HF hj0
          go_wp2_with fail
          refine C1.out.mono ?_
          rintro e w1 ⟨rfl, rfl⟩
          go_wp2_with fail
          all_goals go_ret3
          all_goals refine ⟨?_, by first | rfl | trivial⟩
          all_goals first | rfl | trivial | (refine trip3 ?_ rfl rfl; omega) | (refine trip3 ?_ ?_ rfl <;> simp <;> omega)
        · have hk1 : k < s.size := by omega
          obtain ⟨z, hz⟩ : ∃ z, (s[k]'hk1).toNat = z := ⟨_, rfl⟩
          obtain ⟨-, HR3, HR4⟩ := HR2.out z (fun _ => ⟨s[k]'hk1, (bl s).drop (k + 1), by rw [HEE.out, bl_drop s _ hk1, get_get s _ hk1], hz⟩)
          clear HR2 HF
          have hj1 : 0 < j := by omega
          obtain rfl : z = y := hz.symm.trans hy
          by_cases c1 : 10 < j
          · obtain rfl := HR3 hj0 (.inl c1)
            clear HR3 HR4 hj0
            go_wp2_with fail
            refine C1.out.mono ?_
            rintro e w1 ⟨rfl, rfl⟩
            go_wp2_with fail
            all_goals go_ret3
            all_goals refine ⟨?_, by first | rfl | trivial⟩
            all_goals first | rfl | trivial | (refine trip3 ?_ rfl rfl; omega) | (refine trip3 ?_ ?_ rfl <;> simp <;> omega)
          · by_cases c2 : z = 48
            · have c4 : z ≤ 48 := by omega
              have c5 : 48 ≤ z := by omega
              by_cases c3 : 1 < j
              · obtain rfl := HR3 hj0 (.inr (.inl ⟨c3, c2⟩))
                clear HR3 HR4 hj0 c2
                go_wp2_with fail
                refine C1.out.mono ?_
                rintro e w1 ⟨rfl, rfl⟩
                go_wp2_with fail
                all_goals go_ret3
                all_goals refine ⟨?_, by first | rfl | trivial⟩
                all_goals first | rfl | trivial | (refine trip3 ?_ rfl rfl; omega) | (refine trip3 ?_ ?_ rfl <;> simp <;> omega)
              · obtain rfl := HR4 hj0 (by omega)
                clear HR3 HR4 hj0 c2
                go_wp2_with fail
                refine C1.out.mono ?_
                rintro e w1 ⟨rfl, rfl⟩
                go_wp2_with fail
                all_goals go_ret3
                all_goals refine ⟨?_, by first | rfl | trivial⟩
                all_goals first | rfl | trivial | (refine trip3 ?_ rfl rfl; omega) | (refine trip3 ?_ ?_ rfl <;> simp <;> omega)
            · obtain rfl := HR4 hj0 (by omega)
              have h48 : (((z : Nat) : Int) == 48) = false := by rw [beq_eq_false_iff_ne]; omega
              clear HR3 HR4 hj0 c2
              go_wp2_with fail
              refine C1.out.mono ?_
              rintro e w1 ⟨rfl, rfl⟩
              go_wp2_with fail
              all_goals go_ret3
              all_goals refine ⟨?_, by first | rfl | trivial⟩
              all_goals first | rfl | trivial | (refine trip3 ?_ rfl rfl; omega) | (refine trip3 ?_ ?_ rfl <;> simp <;> omega)
      · have HF := Lib.hid (HN.out.on hd hcd)
        rw [hcd] at C1
        clear hd hcd
        by_cases hj : j < 10
        · rw [if_pos hj] at HF
          have hV3 := hV2 hj
          clear hV2
          go_wp2_with fail
          refine C1.out.mono ?_
          rintro e w1 ⟨rfl, rfl⟩
          go_wp2_with fail
          go_roundw
          case rel => exact ⟨j + 1, _, by go_num, rfl, HF, by first | exact Lib.hid rfl | exact Lib.hid trivial⟩
          case measure => simp [meas, intOf]; omega
        · rw [if_neg hj] at HF
          clear hV2
          go_wp2_with fail
          refine C1.out.mono ?_
          rintro e w1 ⟨rfl, rfl⟩
          go_wp2_with fail
          go_roundw
          case rel => exact ⟨j + 1, _, by go_num, rfl, HF, by first | exact Lib.hid rfl | exact Lib.hid trivial⟩
          case measure => simp [meas, intOf]; omega
    · have HF := Lib.hid (HN.out.stop (.inl (List.drop_of_length_le (by omega))))
      clear hV2
      have hsub : ((k : Int) + (j : Int) - (k : Int)) = (j : Int) := by omega
      have HR2 := Lib.hid (HR.out _ _ HF.out.1 HF.out.2)
      clear HR
      by_cases hj0 : j = 0
      · obtain rfl := (HR2.out 0 (fun h => absurd hj0 h)).1 hj0
        have hj1 : j ≤ 0 := by omega
        clear HR2 HF hj0
        go_wp2_with fail
        all_goals go_ret3
        all_goals refine ⟨?_, by first | rfl | trivial⟩
        all_goals first | rfl | trivial | (refine trip3 ?_ rfl rfl; omega) | (refine trip3 ?_ ?_ rfl <;> simp <;> omega)
      · have hk1 : k < s.size := by omega
        obtain ⟨z, hz⟩ : ∃ z, (s[k]'hk1).toNat = z := ⟨_, rfl⟩
        obtain ⟨-, HR3, HR4⟩ := HR2.out z (fun _ => ⟨s[k]'hk1, (bl s).drop (k + 1), by rw [HEE.out, bl_drop s _ hk1, get_get s _ hk1], hz⟩)
        clear HR2 HF
        have hj1 : 0 < j := by omega
        obtain rfl : z = y := hz.symm.trans hy
        by_cases c1 : 10 < j
        · obtain rfl := HR3 hj0 (.inl c1)
          clear HR3 HR4 hj0
          go_wp2_with fail
          all_goals go_ret3
          all_goals refine ⟨?_, by first | rfl | trivial⟩
          all_goals first | rfl | trivial | (refine trip3 ?_ rfl rfl; omega) | (refine trip3 ?_ ?_ rfl <;> simp <;> omega)
        · by_cases c2 : z = 48
          · have c4 : z ≤ 48 := by omega
            have c5 : 48 ≤ z := by omega
            by_cases c3 : 1 < j
            · obtain rfl := HR3 hj0 (.inr (.inl ⟨c3, c2⟩))
              clear HR3 HR4 hj0 c2
              go_wp2_with fail
              all_goals go_ret3
              all_goals refine ⟨?_, by first | rfl | trivial⟩
              all_goals first | rfl | trivial | (refine trip3 ?_ rfl rfl; omega) | (refine trip3 ?_ ?_ rfl <;> simp <;> omega)
            · obtain rfl := HR4 hj0 (by omega)
              clear HR3 HR4 hj0 c2
              go_wp2_with fail
              all_goals go_ret3
              all_goals refine ⟨?_, by first | rfl | trivial⟩
              all_goals first | rfl | trivial | (refine trip3 ?_ rfl rfl; omega) | (refine trip3 ?_ ?_ rfl <;> simp <;> omega)
          · obtain rfl := HR4 hj0 (by omega)
            have h48 : (((z : Nat) : Int) == 48) = false := by rw [beq_eq_false_iff_ne]; omega
            clear HR3 HR4 hj0 c2
            go_wp2_with fail
            all_goals go_ret3
            all_goals refine ⟨?_, by first | rfl | trivial⟩
            all_goals first | rfl | trivial | (refine trip3 ?_ rfl rfl; omega) | (refine trip3 ?_ ?_ rfl <;> simp <;> omega)

set_option maxHeartbeats 4000000 in
set_option maxRecDepth 100000 in
theorem refNumber_minus (s : ByteArray) (k : Nat) (w : World) (hs : s.size ≤ 4611686018427387904) (hk : k < s.size) (h45 : ((s[k]'hk).toNat == 45) = true) :
    Calls Tryd.prog 19 #[.string s, .int .i64 (k : Nat)] w fun e w' => e = .returned (.tuple #[.int .i64 ((refN ((bl s).drop k)).1 : Nat), .int .i64 (refN ((bl s).drop k)).2.1, .int .i64 (refN ((bl s).drop k)).2.2]) ∧ w = w' := by
  obtain ⟨y, hy⟩ : ∃ y, (s[k]'hk).toNat = y := ⟨_, rfl⟩
  have hy45 : y = 45 := by
    rw [hy] at h45
    simpa using h45
  have hmin : minusN ((bl s).drop k) = 1 := by
    rw [bl_drop s k hk, minusN_cons, eq_byte, ← get_get s k hk]
    rw [show ((s[k]'hk).toNat == (45 : UInt8).toNat) = true from h45]
    rfl
  obtain ⟨E, hE⟩ : ∃ E, E = (bl s).drop (k + 1) := ⟨_, rfl⟩
  have hEl : E.length = s.size - (k + 1) := by rw [hE, List.length_drop, bl_len]
  have HR := Lib.hid (fun n V h1 h2 z h3 => refN_is hmin (E := E) (by rw [List.drop_drop, hE]) (n := n) (V := V) h1 h2 z h3)
  have HEE := Lib.hid hE
  clear hE hmin h45
  generalize refN ((bl s).drop k) = RR at HR
  have hyb : (((y : Nat) : Int) == 45) = true := by
    have e : (((y : Nat) : Int) == 45) = (y == 45) := by rw [Bool.eq_iff_iff, beq_iff_eq, beq_iff_eq]; omega
    rw [e]
    simpa using hy45
  clear hy45
  go_enter Tryd.func19, Tryd.ntmps19
  go_wp2_with fail
  go_loopw [7, 10] (fun i v wr => ∃ (j : Nat) (V : Int), i = .int .i64 ((k + 1 + j : Nat) : Int) ∧ v = .int .i64 V ∧ Hid (NumAt E j V) ∧ Hid (w = wr)) (fun i _ _ => meas s.size i)
  case atStart => exact ⟨0, 0, by go_num, rfl, NumAt.start _, by first | exact Lib.hid rfl | exact Lib.hid trivial⟩
  case round =>
    obtain ⟨j, V, rfl, rfl, HN, hw⟩ := hrel
    obtain rfl := hw.out
    clear hw
    have hjle : k + 1 + j ≤ s.size := by have := HN.out.le; omega
    obtain ⟨hV0, hV1, hV2⟩ := HN.out.bound
    by_cases hlt : k + 1 + j < s.size
    · obtain ⟨c, hc⟩ : ∃ c, s[k + 1 + j]'hlt = c := ⟨_, rfl⟩
      have hd : E.drop j = c :: (bl s).drop (k + 1 + j + 1) := by rw [HEE.out, List.drop_drop, bl_drop s _ hlt, ← get_get s _ hlt, hc]
      have C1 := Lib.hid (refDigit c w)
      have hc255 : c.toNat < 256 := c.toNat_lt
      cases hcd : digitB c
      · have HF := Lib.hid (HN.out.stop (.inr ⟨c, _, hd, hcd⟩))
        rw [hcd] at C1
        clear hd hcd
        clear hV2
        have hsub : ((k : Int) + 1 + (j : Int) - ((k : Int) + 1)) = (j : Int) := by omega
        have HR2 := Lib.hid (HR.out _ _ HF.out.1 HF.out.2)
        clear HR
        by_cases hj0 : j = 0
        · obtain rfl := (HR2.out 0 (fun h => absurd hj0 h)).1 hj0
          have hj1 : j ≤ 0 := by omega
          clear HR2 HF hj0
          go_wp2_with fail
          refine C1.out.mono ?_
          rintro e w1 ⟨rfl, rfl⟩
          go_wp2_with fail
          all_goals go_ret3
          all_goals refine ⟨?_, by first | rfl | trivial⟩
          all_goals first | rfl | trivial | (refine trip3 ?_ rfl rfl; omega) | (refine trip3 ?_ ?_ rfl <;> simp <;> omega)
        · have hk1 : k + 1 < s.size := by omega
          obtain ⟨z, hz⟩ : ∃ z, (s[k + 1]'hk1).toNat = z := ⟨_, rfl⟩
          obtain ⟨-, HR3, HR4⟩ := HR2.out z (fun _ => ⟨s[k + 1]'hk1, (bl s).drop (k + 1 + 1), by rw [HEE.out, bl_drop s _ hk1, get_get s _ hk1], hz⟩)
          clear HR2 HF
          have hj1 : 0 < j := by omega
          by_cases c1 : 10 < j
          · obtain rfl := HR3 hj0 (.inl c1)
            clear HR3 HR4 hj0
            go_wp2_with fail
            refine C1.out.mono ?_
            rintro e w1 ⟨rfl, rfl⟩
            go_wp2_with fail
            all_goals go_ret3
            all_goals refine ⟨?_, by first | rfl | trivial⟩
            all_goals first | rfl | trivial | (refine trip3 ?_ rfl rfl; omega) | (refine trip3 ?_ ?_ rfl <;> simp <;> omega)
          · by_cases c2 : z = 48
            · have c4 : z ≤ 48 := by omega
              have c5 : 48 ≤ z := by omega
              by_cases c3 : 1 < j
              · obtain rfl := HR3 hj0 (.inr (.inl ⟨c3, c2⟩))
                clear HR3 HR4 hj0 c2
                go_wp2_with fail
                refine C1.out.mono ?_
                rintro e w1 ⟨rfl, rfl⟩
                go_wp2_with fail
                all_goals go_ret3
                all_goals refine ⟨?_, by first | rfl | trivial⟩
                all_goals first | rfl | trivial | (refine trip3 ?_ rfl rfl; omega) | (refine trip3 ?_ ?_ rfl <;> simp <;> omega)
              · obtain rfl := HR3 hj0 (.inr (.inr ⟨by first | rfl | trivial, by omega, c2⟩))
                clear HR3 HR4 hj0 c2
                go_wp2_with fail
                refine C1.out.mono ?_
                rintro e w1 ⟨rfl, rfl⟩
                go_wp2_with fail
                all_goals go_ret3
                all_goals refine ⟨?_, by first | rfl | trivial⟩
                all_goals first | rfl | trivial | (refine trip3 ?_ rfl rfl; omega) | (refine trip3 ?_ ?_ rfl <;> simp <;> omega)
            · obtain rfl := HR4 hj0 (by omega)
              have h48 : (((z : Nat) : Int) == 48) = false := by rw [beq_eq_false_iff_ne]; omega
              clear HR3 HR4 hj0 c2
              go_wp2_with fail
              refine C1.out.mono ?_
              rintro e w1 ⟨rfl, rfl⟩
              go_wp2_with fail
              all_goals go_ret3
              all_goals refine ⟨?_, by first | rfl | trivial⟩
              all_goals first | rfl | trivial | (refine trip3 ?_ rfl rfl; omega) | (refine trip3 ?_ ?_ rfl <;> simp <;> omega)
      · have HF := Lib.hid (HN.out.on hd hcd)
        rw [hcd] at C1
        clear hd hcd
        by_cases hj : j < 10
        · rw [if_pos hj] at HF
          have hV3 := hV2 hj
          clear hV2
          go_wp2_with fail
          refine C1.out.mono ?_
          rintro e w1 ⟨rfl, rfl⟩
          go_wp2_with fail
          go_roundw
          case rel => exact ⟨j + 1, _, by go_num, rfl, HF, by first | exact Lib.hid rfl | exact Lib.hid trivial⟩
          case measure => simp [meas, intOf]; omega
        · rw [if_neg hj] at HF
          clear hV2
          go_wp2_with fail
          refine C1.out.mono ?_
          rintro e w1 ⟨rfl, rfl⟩
          go_wp2_with fail
          go_roundw
          case rel => exact ⟨j + 1, _, by go_num, rfl, HF, by first | exact Lib.hid rfl | exact Lib.hid trivial⟩
          case measure => simp [meas, intOf]; omega
    · have HF := Lib.hid (HN.out.stop (.inl (List.drop_of_length_le (by omega))))
      clear hV2
      have hsub : ((k : Int) + 1 + (j : Int) - ((k : Int) + 1)) = (j : Int) := by omega
      have HR2 := Lib.hid (HR.out _ _ HF.out.1 HF.out.2)
      clear HR
      by_cases hj0 : j = 0
      · obtain rfl := (HR2.out 0 (fun h => absurd hj0 h)).1 hj0
        have hj1 : j ≤ 0 := by omega
        clear HR2 HF hj0
        go_wp2_with fail
        all_goals go_ret3
        all_goals refine ⟨?_, by first | rfl | trivial⟩
        all_goals first | rfl | trivial | (refine trip3 ?_ rfl rfl; omega) | (refine trip3 ?_ ?_ rfl <;> simp <;> omega)
      · have hk1 : k + 1 < s.size := by omega
        obtain ⟨z, hz⟩ : ∃ z, (s[k + 1]'hk1).toNat = z := ⟨_, rfl⟩
        obtain ⟨-, HR3, HR4⟩ := HR2.out z (fun _ => ⟨s[k + 1]'hk1, (bl s).drop (k + 1 + 1), by rw [HEE.out, bl_drop s _ hk1, get_get s _ hk1], hz⟩)
        clear HR2 HF
        have hj1 : 0 < j := by omega
        by_cases c1 : 10 < j
        · obtain rfl := HR3 hj0 (.inl c1)
          clear HR3 HR4 hj0
          go_wp2_with fail
          all_goals go_ret3
          all_goals refine ⟨?_, by first | rfl | trivial⟩
          all_goals first | rfl | trivial | (refine trip3 ?_ rfl rfl; omega) | (refine trip3 ?_ ?_ rfl <;> simp <;> omega)
        · by_cases c2 : z = 48
          · have c4 : z ≤ 48 := by omega
            have c5 : 48 ≤ z := by omega
            by_cases c3 : 1 < j
            · obtain rfl := HR3 hj0 (.inr (.inl ⟨c3, c2⟩))
              clear HR3 HR4 hj0 c2
              go_wp2_with fail
              all_goals go_ret3
              all_goals refine ⟨?_, by first | rfl | trivial⟩
              all_goals first | rfl | trivial | (refine trip3 ?_ rfl rfl; omega) | (refine trip3 ?_ ?_ rfl <;> simp <;> omega)
            · obtain rfl := HR3 hj0 (.inr (.inr ⟨by first | rfl | trivial, by omega, c2⟩))
              clear HR3 HR4 hj0 c2
              go_wp2_with fail
              all_goals go_ret3
              all_goals refine ⟨?_, by first | rfl | trivial⟩
              all_goals first | rfl | trivial | (refine trip3 ?_ rfl rfl; omega) | (refine trip3 ?_ ?_ rfl <;> simp <;> omega)
          · obtain rfl := HR4 hj0 (by omega)
            have h48 : (((z : Nat) : Int) == 48) = false := by rw [beq_eq_false_iff_ne]; omega
            clear HR3 HR4 hj0 c2
            go_wp2_with fail
            all_goals go_ret3
            all_goals refine ⟨?_, by first | rfl | trivial⟩
            all_goals first | rfl | trivial | (refine trip3 ?_ rfl rfl; omega) | (refine trip3 ?_ ?_ rfl <;> simp <;> omega)
end Go.Proofs.YtancjkanmjdkkaaDoor

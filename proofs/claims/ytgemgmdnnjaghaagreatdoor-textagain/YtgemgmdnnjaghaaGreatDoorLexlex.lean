/- Contracts: numbers and signs at the beginning of a text. -/
import Derived.Test.YtgemgmdnnjaghaaGreatDoorLexname
import Derived.Test.YtgemgmdnnjaghaaGreatDoorLexshelf
import Derived.Test.YtgemgmdnnjaghaaGreatDoorLexgap
import Derived.Laws.ResultCell
namespace Go.Proofs.YtgemgmdnnjaghaaGreatDoor
open Go.RowKit

theorem trim_minus (bs : Bs) : Lib.trimPrefix bs [45] = bs.drop (minusN bs) := by
  cases bs with
  | nil => rfl
  | cons c r =>
    unfold Lib.trimPrefix Lib.hasPrefix
    rw [minusN_cons]
    by_cases h : c = 45
    · subst h
      simp
    · have : (c == 45) = false := by simpa using h
      simp [this, Ne.symm h]

/-- How many bytes a number has, whatever it says. -/
def numN (bs : Bs) : Nat := if (digitsOf bs).length = 0 then 0 else minusN bs + (digitsOf bs).length

theorem number_any (s : ByteArray) (w : World) (hs : s.size ≤ 4611686018427387904) : Calls Tryz.prog 106 #[.string s] w fun e w' => e = .returned (.int .i64 (numN (bl s) : Nat)) ∧ Below w.heap.size w w' := by
  have C1 := Lib.hid (Tryz.strings_TrimPrefix s ⟨#[45]⟩ w)
  obtain ⟨t, ht⟩ : ∃ t : ByteArray, t = ⟨(Lib.trimPrefix s.data.toList (⟨#[45]⟩ : ByteArray).data.toList).toArray⟩ := ⟨_, rfl⟩
  rw [← ht] at C1
  have hbt : bl t = (bl s).drop (minusN (bl s)) := by
    rw [ht]
    exact trim_minus (bl s)
  have C2 := Lib.hid (run_digit t)
  rw [hbt] at C2
  have hsz : t.size = s.size - minusN (bl s) := by rw [← bl_len, hbt, List.length_drop, bl_len]
  have hN : numN (bl s) = if ((digitsOf (bl s)).length = 0) then 0 else minusN (bl s) + (digitsOf (bl s)).length := rfl
  have hl : (digitsOf (bl s)).length ≤ t.size := by
    rw [← bl_len, hbt]
    exact tw_len _ _
  change Hid (∀ w, Calls Tryz.prog 102 #[.string t, .func (.func 134) #[] #[]] w fun e w' => e = .returned (.int .i64 ((digitsOf (bl s)).length : Nat)) ∧ Below w.heap.size w w') at C2
  have hm : minusN (bl s) ≤ s.size := by
    cases h : bl s with
    | nil => exact Nat.zero_le _
    | cons a b =>
      have h1 : (bl s).length = s.size := bl_len s
      rw [h, List.length_cons] at h1
      have := minus_le (a :: b)
      omega
  generalize (digitsOf (bl s)).length = k at C2 hN hl
  generalize minusN (bl s) = m at hsz hN hm hbt
  generalize numN (bl s) = r at hN
  clear ht hbt
  have HN := Lib.hid hN
  clear hN
  by_cases h0 : k = 0
  · have H : Hid (r = 0) := by
      have := HN.out
      rw [if_pos h0] at this
      exact this
    have hd : ((k : Int) == 0) = true := by rw [beq_iff_eq]; omega
    clear HN
    go_enter Tryz.func106, Tryz.ntmps106
    go_wp2_with fail
    refine C1.out.mono ?_
    rintro e w1 ⟨rfl, rfl⟩
    go_wp2_with fail
    refine (C2.out _).mono ?_
    rintro e w2 ⟨rfl, b1⟩
    go_wp2_with fail
    go_ret
    exact ⟨int_eq (by have := H.out; omega), b1⟩
  · have H : Hid (r = m + k) := by
      have := HN.out
      rw [if_neg h0] at this
      exact this
    have hd : ((k : Int) == 0) = false := by rw [beq_eq_false_iff_ne]; omega
    have HK := Lib.hid (And.intro hl (And.intro hsz hm))
    clear HN
    go_enter Tryz.func106, Tryz.ntmps106
    go_wp2_with fail
    refine C1.out.mono ?_
    rintro e w1 ⟨rfl, rfl⟩
    go_wp2_with fail
    refine (C2.out _).mono ?_
    rintro e w2 ⟨rfl, b1⟩
    go_wp2_with fail
    go_ret
    exact ⟨int_eq (by have h1 := H.out; have h2 := HK.out; omega), b1⟩

/-- How many bytes a sign has. -/
def sigN : Bs → Nat
  | [] => 0
  | c :: r => if c == 46 && r.head? == some 46 then 2 else if signB c then 1 else 0

theorem dots (c : UInt8) (r : Bs) : Lib.hasPrefix (c :: r) [46, 46] = (c == 46 && r.head? == some 46) := by
  unfold Lib.hasPrefix
  cases r with
  | nil => simp [List.isPrefixOf]
  | cons d r =>
    simp only [List.isPrefixOf, Bool.and_true, List.head?_cons]
    rw [Bool.eq_iff_iff]
    simp only [Bool.and_eq_true, beq_iff_eq, Option.some.injEq]
    exact ⟨fun ⟨a, b⟩ => ⟨a.symm, b.symm⟩, fun ⟨a, b⟩ => ⟨a.symm, b.symm⟩⟩

theorem sign_index : ∀ c : UInt8, decide (0 ≤ Lib.indexByte [40, 41, 91, 93, 123, 125, 44, 59, 58] c) = signB c := by
  intro c
  have : ∀ n : Fin 256, decide (0 ≤ Lib.indexByte [40, 41, 91, 93, 123, 125, 44, 59, 58] (UInt8.ofNat n)) = signB (UInt8.ofNat n) := by decide +kernel
  have h := this ⟨c.toNat, c.toNat_lt⟩
  simpa using h

theorem sign_any (s : ByteArray) (w : World) (c : UInt8) (r : Bs) (hs : bl s = c :: r) : Calls Tryz.prog 108 #[.string s] w fun e w' => e = .returned (.int .i64 (sigN (bl s) : Nat)) ∧ w = w' := by
  have C1 := Lib.hid (Tryz.strings_HasPrefix s ⟨#[46, 46]⟩ w)
  have hp : Lib.hasPrefix s.data.toList (⟨#[46, 46]⟩ : ByteArray).data.toList = (c == 46 && r.head? == some 46) := by
    rw [← dots, ← hs]
    rfl
  rw [hp] at C1
  have hsz : 0 < s.size := by rw [← bl_len, hs]; simp
  have hg : s[0]'hsz = c := by
    have h1 := bl_drop s 0 hsz
    rw [List.drop_zero, hs] at h1
    rw [get_get]
    exact (List.cons.inj h1).1.symm
  have C2 := Lib.hid (Tryz.strings_IndexByte ⟨#[40, 41, 91, 93, 123, 125, 44, 59, 58]⟩ (c.toNat : Int) w)
  have hI : ((c.toNat : Int).toNat.toUInt8) = c := by simp
  rw [hI] at C2
  have hS := sign_index c
  have hN : sigN (bl s) = if (c == 46 && r.head? == some 46) then 2 else if signB c then 1 else 0 := by rw [hs, sigN]
  generalize sigN (bl s) = q at hN
  generalize (c == 46 && r.head? == some 46) = b at C1 hN
  change Hid (Calls Tryz.prog 138 #[.string ⟨#[40, 41, 91, 93, 123, 125, 44, 59, 58]⟩, .int .u8 (c.toNat : Int)] w fun e w' => e = .returned (.int .i64 (Lib.indexByte [40, 41, 91, 93, 123, 125, 44, 59, 58] c)) ∧ w' = w) at C2
  generalize Lib.indexByte [40, 41, 91, 93, 123, 125, 44, 59, 58] c = i at C2 hS
  generalize signB c = d at hN hS
  clear hp hs hI
  have HN := Lib.hid hN
  clear hN
  cases b <;> cases d
  all_goals go_enter Tryz.func108, Tryz.ntmps108
  all_goals go_wp2_with fail
  all_goals refine C1.out.mono ?_
  all_goals rintro e w1 ⟨rfl, rfl⟩
  all_goals go_wp2_with fail
  · refine C2.out.mono ?_
    rintro e w2 ⟨rfl, rfl⟩
    go_wp2_with fail
    go_ret
    exact ⟨int_eq (by have h1 := HN.out; simp at h1; omega), rfl⟩
  · refine C2.out.mono ?_
    rintro e w2 ⟨rfl, rfl⟩
    go_wp2_with fail
    go_ret
    exact ⟨int_eq (by have h1 := HN.out; simp at h1; omega), rfl⟩
  · go_ret
    exact ⟨int_eq (by have h1 := HN.out; simp at h1; omega), rfl⟩
  · go_ret
    exact ⟨int_eq (by have h1 := HN.out; simp at h1; omega), rfl⟩

/-- What digits say, by the library's reader. -/
theorem dec_val : ∀ (ds : Bs) (acc : Nat), (∀ x ∈ ds, digitB x = true) → ∃ n, Lib.decFrom acc ds = some n ∧ (n : Int) = ds.foldl (fun v d => 10 * v + (d.toNat : Int) - 48) (acc : Int)
  | [], acc, _ => ⟨acc, rfl, rfl⟩
  | d :: r, acc, h => by
    have hd := h d (by simp)
    simp only [digitB, Bool.and_eq_true, decide_eq_true_eq] at hd
    obtain ⟨n, h1, h2⟩ := dec_val r (acc * 10 + (d.toNat - 48)) (fun x hx => h x (by simp [hx]))
    refine ⟨n, ?_, ?_⟩
    · simp only [Lib.decFrom, Lib.digitVal, hd, and_self, if_true]
      exact h1
    · rw [h2, List.foldl_cons]
      congr 1
      omega

theorem atoi_num {m ds : Bs} (hm : m = [] ∨ m = [45]) (hd : ∀ x ∈ ds, digitB x = true) (hne : ds ≠ []) : Lib.atoi (m ++ ds) = some ((if m.length == 1 then -1 else 1) * valOf ds) := by
  obtain ⟨n, h1, h2⟩ := dec_val ds 0 hd
  cases ds with
  | nil => exact absurd rfl hne
  | cons d r =>
    have hd0 := hd d (by simp)
    simp only [digitB, Bool.and_eq_true, decide_eq_true_eq] at hd0
    have hv : valOf (d :: r) = (n : Int) := by rw [h2]; rfl
    rw [hv]
    rcases hm with rfl | rfl
    · have n1 : (d == 45) = false := by rw [beq_eq_false_iff_ne]; rintro rfl; revert hd0; decide
      have n2 : (d == 43) = false := by rw [beq_eq_false_iff_ne]; rintro rfl; revert hd0; decide
      simp [Lib.atoi, n1, n2, Lib.decNat, h1]
    · simp [Lib.atoi, Lib.decNat, h1]

/-- May a number not be so? -/
def badD (m ds : Bs) : Bool := (ds.head? == some 48 && (m.length == 1 || decide (1 < ds.length))) || decide (10 < ds.length)

set_option maxHeartbeats 2000000 in
theorem valueOf_any (u : ByteArray) (m ds : Bs) (hu : bl u = m ++ ds) (hm : m = [] ∨ m = [45]) (hd : ∀ x ∈ ds, digitB x = true) (hne : ds ≠ []) (w : World) :
    Calls Tryz.prog 107 #[.string u] w fun e w' => e = .returned (.tuple #[.int .i64 (if badD m ds then 0 else (if m.length == 1 then -1 else 1) * valOf ds), .int .i64 (if badD m ds then 15 else 0)]) ∧ Below w.heap.size w w' := by
  have C1 := Lib.hid (Tryz.strings_CutPrefix u ⟨#[45]⟩ w)
  obtain ⟨t, ht⟩ : ∃ t : ByteArray, t = ⟨(Lib.trimPrefix u.data.toList (⟨#[45]⟩ : ByteArray).data.toList).toArray⟩ := ⟨_, rfl⟩
  rw [← ht] at C1
  have hmin : minusN (bl u) = m.length := by
    rw [hu]
    rcases hm with rfl | rfl
    · cases ds with
      | nil => exact absurd rfl hne
      | cons a d =>
        have ha := hd a (by simp)
        have : (a == 45) = false := by rw [beq_eq_false_iff_ne]; rintro rfl; revert ha; decide
        simp [minusN, this]
    · simp [minusN]
  have hbt : bl t = ds := by
    have h1 : bl t = (bl u).drop (minusN (bl u)) := by rw [ht]; exact trim_minus (bl u)
    rw [h1, hmin, hu, List.drop_left]
  have hhp : Lib.hasPrefix u.data.toList (⟨#[45]⟩ : ByteArray).data.toList = (m.length == 1) := by
    show Lib.hasPrefix (bl u) [45] = _
    rw [hu]
    rcases hm with rfl | rfl
    · cases ds with
      | nil => exact absurd rfl hne
      | cons a d =>
        have ha := hd a (by simp)
        have : (45 == a) = false := by rw [beq_eq_false_iff_ne]; rintro rfl; revert ha; decide
        simp [Lib.hasPrefix, List.isPrefixOf, this]
    · simp [Lib.hasPrefix, List.isPrefixOf]
  rw [hhp] at C1
  have hsz : t.size = ds.length := by rw [← bl_len, hbt]
  have hpos : 0 < t.size := by rw [hsz]; exact List.length_pos_iff.2 hne
  have hg : (ds.head? == some 48) = ((t[0]'hpos).toNat == 48) := by
    have h1 := bl_drop t 0 hpos
    rw [List.drop_zero, hbt] at h1
    rw [h1, List.head?_cons, get_get]
    have := eq_byte (t.get! 0) 48
    rw [← show (t.get! 0 == 48) = ((t.get! 0).toNat == 48) from this]
    rfl
  have hA := atoi_num hm hd hne
  have hus : u.size = m.length + ds.length := by rw [← bl_len, hu, List.length_append]
  have hml : m.length ≤ 1 := by rcases hm with rfl | rfl <;> simp
  have C2 : Hid (ds.length ≤ 10 → Calls Tryz.prog 136 #[.string u] w fun e w' => e = .returned (.tuple #[.int .i64 ((if m.length == 1 then -1 else 1) * valOf ds), .nilIface]) ∧ ∃ t, w' = Lib.bytesWorld w 5 t) := by
    intro hl
    refine Tryz.strconv_Atoi u _ (by omega) ?_ w
    show Lib.atoi (bl u) = _
    rw [hu]
    exact hA
  obtain ⟨z, hz⟩ : ∃ z, (t[0]'hpos).toNat = z := ⟨_, rfl⟩
  obtain ⟨n, hn⟩ : ∃ n, ds.length = n := ⟨_, rfl⟩
  rw [hn] at hsz C2
  have hbd : badD m ds = (((z == 48) && (m.length == 1 || decide (1 < n))) || decide (10 < n)) := by
    rw [badD, hg, hz, hn]
  generalize (if m.length == 1 then -1 else 1) * valOf ds = V at C2
  generalize (m.length == 1) = b at C1 hbd
  generalize badD m ds = B at hbd
  have hn0 : 0 < n := by omega
  clear hg hA hhp ht hu hus hml hmin hd hm hbt hne hn
  by_cases c0 : z = 48 <;> rcases (show n ≤ 1 ∨ (1 < n ∧ n ≤ 10) ∨ 10 < n by omega) with c1 | ⟨c1, c2⟩ | c1 <;> cases b
  all_goals cases B
  all_goals first
    | (exfalso; simp [c0] at hbd; done)
    | (exfalso; simp [c0] at hbd; omega)
    | (exfalso; simp at hbd; omega)
    | clear hbd
  all_goals go_enter Tryz.func107, Tryz.ntmps107
  all_goals go_wp2_with fail
  all_goals refine C1.out.mono ?_
  all_goals rintro e w1 ⟨rfl, rfl⟩
  all_goals go_wp2_with fail
  all_goals first
    | (go_ret2; exact ⟨rfl, Below.refl _ _⟩)
    | (refine (C2.out (by omega)).mono ?_
       rintro e w2 ⟨rfl, q, rfl⟩
       go_wp2_with fail
       go_ret2
       exact ⟨rfl, ⟨rfl, rfl, rfl, by rw [Lib.bytesWorld_size]; omega, fun j hj => Lib.bytesWorld_at_old _ _ _ _ hj⟩⟩)
end Go.Proofs.YtgemgmdnnjaghaaGreatDoor

/- The first token of a text that begins with no gap. -/
namespace Go.Proofs.YtgemgmdnnjaghaaGreatDoor
open Go.RowKit

theorem item_of {bs : Bs} (h : bs ≠ []) (hg : gapN false bs = 0) : item bs = if 0 < wordN bs then .tok 1 (wordN bs) 0 else if 0 < numN bs then (if numBad bs then .bad 15 else .tok 2 (numN bs) (numVal bs)) else if 0 < sigN bs then .tok 3 (sigN bs) 0 else .bad 6 := by
  cases bs with
  | nil => exact absurd rfl h
  | cons c r =>
    have ho : overN false c.toNat = false := by
      cases ho : overN false c.toNat with
      | false => rfl
      | true =>
        rw [gapN, if_pos ho] at hg
        omega
    have hb : blankB c = false := by
      rw [overN, ← bla_byte, Bool.or_eq_false_iff] at ho
      exact ho.2
    have hp : (c == 37) = false := by
      rw [beq_eq_false_iff_ne]
      rintro rfl
      revert ho
      decide
    rw [item_cons, hb, hp]
    simp only [Bool.false_eq_true, if_false]
    by_cases hl : letterB c = true
    · rw [if_pos hl, if_pos (by rw [wordN_cons, if_pos hl]; omega)]
    · have hw : wordN (c :: r) = 0 := by rw [wordN_cons, if_neg hl]
      rw [if_neg hl, hw, if_neg (show ¬ 0 < 0 by omega)]
      by_cases hd : (digitsOf (c :: r)).length = 0
      · have hn : numN (c :: r) = 0 := by rw [numN, if_pos hd]
        rw [if_neg (show ¬ ((digitsOf (c :: r)).length != 0) = true by simpa using hd), hn, if_neg (show ¬ 0 < 0 by omega)]
        by_cases hs : signB c = true
        · have h46 : (c == 46) = false := by
            rw [beq_eq_false_iff_ne]
            rintro rfl
            revert hs
            decide
          have hq : sigN (c :: r) = 1 := by rw [sigN, h46, Bool.false_and, if_neg (by decide), if_pos hs]
          rw [if_pos hs, hq, if_pos (by omega)]
        · rw [if_neg hs]
          by_cases hdot : (c == 46 && r.head? == some 46) = true
          · have hq : sigN (c :: r) = 2 := by rw [sigN, if_pos hdot]
            rw [if_pos hdot, hq, if_pos (by omega)]
          · have hq : sigN (c :: r) = 0 := by rw [sigN, if_neg hdot, if_neg hs]
            rw [if_neg hdot, hq, if_neg (by omega)]
      · have hn : numN (c :: r) = minusN (c :: r) + (digitsOf (c :: r)).length := by rw [numN, if_neg hd]
        rw [if_pos (show ((digitsOf (c :: r)).length != 0) = true by simpa using hd), hn, if_pos (show 0 < minusN (c :: r) + (digitsOf (c :: r)).length by omega)]

/-- What is handed back. -/
theorem first_results {W : World} {g : Nat} {a b c d e : Value} (h : TBox 118 W g a b c d) (tmps : Array Value) (h2 : tmps.getD 2 undef = .pointer (some ⟨g, 0, none⟩)) (h3 : tmps.getD 3 undef = e) :
    (results Tryz.f68 tmps).run Tryz.prog W = .ok (.tuple #[.agg #[a, b, c, d], e]) W := by
  obtain ⟨x0, x1, x2, x3⟩ := h.cells
  rw [results_cell_tmp (p := 2) (u := 3) (ty := 118) (by kernel_rfl), h2, h3]
  simp [go_sem, x0, x1, x2, x3]

theorem first_word (s : ByteArray) (w : World) (h : 0 < wordN (bl s)) :
    Calls Tryz.prog 68 #[.string s] w fun e w' => e = .returned (.tuple #[tokV 1 (s.extract 0 (wordN (bl s))) 0 0, .int .i64 0]) ∧ Below w.heap.size w w' := by
  have C1 := Lib.hid (word_any s)
  have hle : wordN (bl s) ≤ s.size := by
    rw [← bl_len]
    cases hb : bl s with
    | nil => simp [wordN]
    | cons c r =>
      rw [wordN_cons]
      split
      · have := tw_len partB r
        simp only [List.length_cons]
        omega
      · omega
  generalize wordN (bl s) = n at C1 h hle
  go_enter Tryz.func68, Tryz.ntmps68
  go_wp2_with fail
  refine (C1.out _).mono ?_
  rintro e w1 ⟨rfl, b1⟩
  have hX := (TBox.new 118 w (.int .i64 0) (.string ⟨#[]⟩) (.int .i64 0) (.int .i64 0)).below b1
  obtain ⟨x0, x1, x2, x3⟩ := hX.cells
  have f0 := hX.free 0
  have f1 := hX.free 1
  have f2 := hX.free 2
  have f3 := hX.free 3
  have HB := Lib.hid (((Below.refl w.heap.size w).alloc (Nat.le_refl _) (.cells #[.int .i64 0, .string ⟨#[]⟩, .int .i64 0, .int .i64 0] 118)).trans (b1.mono (by simp)))
  have HX := Lib.hid hX
  clear hX b1
  go_wp2_with fail
  refine bodyPost_ret (first_results (put4_same HX.out _ _ _ _) _ rfl rfl) rfl ⟨rfl, put4_below HB.out _ (Nat.le_refl _) _ _ _ _⟩

theorem numN_take {bs : Bs} (h : 0 < numN bs) : ∃ m, (m = [] ∨ m = [45]) ∧ m.length = minusN bs ∧ bs.take (numN bs) = m ++ digitsOf bs ∧ digitsOf bs ≠ [] ∧ (∀ x ∈ digitsOf bs, digitB x = true) ∧ numN bs ≤ bs.length ∧ badD m (digitsOf bs) = numBad bs := by
  have hd : (digitsOf bs).length ≠ 0 := by
    intro h0
    rw [numN, if_pos h0] at h
    omega
  have hn : numN bs = minusN bs + (digitsOf bs).length := by rw [numN, if_neg hd]
  obtain ⟨m, h1, h2, h3⟩ := take_num hd
  refine ⟨m, h1, h2, by rw [hn, h3], fun e => hd (by rw [e]; rfl), fun x hx => tw_all _ _ x hx, by rw [hn]; exact num_len bs hd, ?_⟩
  unfold badD numBad
  rw [h2]
  generalize ((digitsOf bs).head? == some 48) = a
  generalize (minusN bs == 1) = b
  generalize (digitsOf bs).length = n at hd
  rcases (show n = 1 ∨ (1 < n ∧ ¬ 10 < n) ∨ 10 < n by omega) with rfl | ⟨c1, c2⟩ | c1
  · cases a <;> cases b <;> rfl
  · have e1 : (n == 1) = false := by rw [beq_eq_false_iff_ne]; omega
    simp [c1, c2, e1]
  · simp [c1]

theorem first_num (s : ByteArray) (w : World) (hs : s.size ≤ 4611686018427387904) (h0 : wordN (bl s) = 0) (h : 0 < numN (bl s)) :
    Calls Tryz.prog 68 #[.string s] w fun e w' => e = .returned (.tuple #[tokV 2 (s.extract 0 (numN (bl s))) (if numBad (bl s) then 0 else numVal (bl s)) 0, .int .i64 (if numBad (bl s) then 15 else 0)]) ∧ Below w.heap.size w w' := by
  have C1 := Lib.hid (word_any s)
  have C2 := Lib.hid (fun W => number_any s W hs)
  obtain ⟨m, m1, m2, m3, m4, m5, m6, m7⟩ := numN_take h
  have hu : bl (s.extract 0 (numN (bl s))) = m ++ digitsOf (bl s) := by
    rw [bl_extract, List.drop_zero, Nat.sub_zero, m3]
  have C3 := Lib.hid (valueOf_any (s.extract 0 (numN (bl s))) m _ hu m1 m5 m4)
  rw [m7, m2] at C3
  change Hid (∀ w, Calls Tryz.prog 107 #[.string (s.extract 0 (numN (bl s)))] w fun e w' => e = .returned (.tuple #[.int .i64 (if numBad (bl s) then 0 else numVal (bl s)), .int .i64 (if numBad (bl s) then 15 else 0)]) ∧ Below w.heap.size w w') at C3
  rw [bl_len] at m6
  rw [h0] at C1
  generalize numN (bl s) = n at C2 C3 h m6
  generalize (if numBad (bl s) then 0 else numVal (bl s)) = V at C3
  generalize (if numBad (bl s) then (15 : Int) else 0) = E at C3
  clear m1 m2 m3 m4 m5 m7 hu h0
  go_enter Tryz.func68, Tryz.ntmps68
  go_wp2_with fail
  refine (C1.out _).mono ?_
  rintro e w1 ⟨rfl, b1⟩
  have HX := Lib.hid ((TBox.new 118 w (.int .i64 0) (.string ⟨#[]⟩) (.int .i64 0) (.int .i64 0)).below b1)
  have HB := Lib.hid (((Below.refl w.heap.size w).alloc (Nat.le_refl _) (.cells #[.int .i64 0, .string ⟨#[]⟩, .int .i64 0, .int .i64 0] 118)).trans (b1.mono (by simp)))
  clear b1
  go_wp2_with fail
  refine (C2.out _).mono ?_
  rintro e w2 ⟨rfl, b2⟩
  have HX2 := Lib.hid (HX.out.below b2)
  have HB2 := Lib.hid (HB.out.trans (b2.mono HB.out.size))
  clear b2 HX HB
  go_wp2_with fail
  refine (C3.out _).mono ?_
  rintro e w3 ⟨rfl, b3⟩
  have HX3 := Lib.hid (HX2.out.below b3)
  have HB3 := Lib.hid (HB2.out.trans (b3.mono HB2.out.size))
  clear b3 HX2 HB2
  obtain ⟨x0, x1, x2, x3⟩ := HX3.out.cells
  have f0 := HX3.out.free 0
  have f1 := HX3.out.free 1
  have f2 := HX3.out.free 2
  have f3 := HX3.out.free 3
  go_wp2_with fail
  refine bodyPost_ret (first_results (put4_same HX3.out _ _ _ _) _ rfl rfl) rfl ⟨rfl, put4_below HB3.out _ (Nat.le_refl _) _ _ _ _⟩

theorem sigN_le (bs : Bs) : sigN bs ≤ bs.length := by
  cases bs with
  | nil => simp [sigN]
  | cons c r =>
    rw [sigN]
    split
    · next h =>
      cases r with
      | nil => simp at h
      | cons a b => simp
    · split <;> simp

theorem first_sign (s : ByteArray) (w : World) (hs : s.size ≤ 4611686018427387904) (h0 : wordN (bl s) = 0) (h1 : numN (bl s) = 0) (c : UInt8) (r : Bs) (hc : bl s = c :: r) :
    Calls Tryz.prog 68 #[.string s] w fun e w' => e = .returned (.tuple #[if 0 < sigN (bl s) then tokV 3 (s.extract 0 (sigN (bl s))) 0 0 else tokV 0 ⟨#[]⟩ 0 0, .int .i64 (if 0 < sigN (bl s) then 0 else 6)]) ∧ Below w.heap.size w w' := by
  have C1 := Lib.hid (word_any s)
  have C2 := Lib.hid (fun W => number_any s W hs)
  have C3 := Lib.hid (fun W => sign_any s W c r hc)
  have hle := sigN_le (bl s)
  rw [bl_len] at hle
  rw [h0] at C1
  rw [h1] at C2
  generalize sigN (bl s) = n at C3 hle
  clear h0 h1 hc
  by_cases hn : 0 < n
  · rw [if_pos hn, if_pos hn]
    go_enter Tryz.func68, Tryz.ntmps68
    go_wp2_with fail
    refine (C1.out _).mono ?_
    rintro e w1 ⟨rfl, b1⟩
    have HX := Lib.hid ((TBox.new 118 w (.int .i64 0) (.string ⟨#[]⟩) (.int .i64 0) (.int .i64 0)).below b1)
    have HB := Lib.hid (((Below.refl w.heap.size w).alloc (Nat.le_refl _) (.cells #[.int .i64 0, .string ⟨#[]⟩, .int .i64 0, .int .i64 0] 118)).trans (b1.mono (by simp)))
    clear b1
    go_wp2_with fail
    refine (C2.out _).mono ?_
    rintro e w2 ⟨rfl, b2⟩
    have HX2 := Lib.hid (HX.out.below b2)
    have HB2 := Lib.hid (HB.out.trans (b2.mono HB.out.size))
    clear b2 HX HB
    go_wp2_with fail
    refine (C3.out _).mono ?_
    rintro e w3 ⟨rfl, rfl⟩
    obtain ⟨x0, x1, x2, x3⟩ := HX2.out.cells
    have f0 := HX2.out.free 0
    have f1 := HX2.out.free 1
    have f2 := HX2.out.free 2
    have f3 := HX2.out.free 3
    go_wp2_with fail
    refine bodyPost_ret (first_results (put4_same HX2.out _ _ _ _) _ rfl rfl) rfl ⟨rfl, put4_below HB2.out _ (Nat.le_refl _) _ _ _ _⟩
  · rw [if_neg hn, if_neg hn]
    obtain rfl : n = 0 := by omega
    go_enter Tryz.func68, Tryz.ntmps68
    go_wp2_with fail
    refine (C1.out _).mono ?_
    rintro e w1 ⟨rfl, b1⟩
    have HX := Lib.hid ((TBox.new 118 w (.int .i64 0) (.string ⟨#[]⟩) (.int .i64 0) (.int .i64 0)).below b1)
    have HB := Lib.hid (((Below.refl w.heap.size w).alloc (Nat.le_refl _) (.cells #[.int .i64 0, .string ⟨#[]⟩, .int .i64 0, .int .i64 0] 118)).trans (b1.mono (by simp)))
    clear b1
    go_wp2_with fail
    refine (C2.out _).mono ?_
    rintro e w2 ⟨rfl, b2⟩
    have HX2 := Lib.hid (HX.out.below b2)
    have HB2 := Lib.hid (HB.out.trans (b2.mono HB.out.size))
    clear b2 HX HB
    go_wp2_with fail
    refine (C3.out _).mono ?_
    rintro e w3 ⟨rfl, rfl⟩
    obtain ⟨x0, x1, x2, x3⟩ := HX2.out.cells
    have f0 := HX2.out.free 0
    have f1 := HX2.out.free 1
    have f2 := HX2.out.free 2
    have f3 := HX2.out.free 3
    go_wp2_with fail
    refine bodyPost_ret (first_results (put4_same HX2.out _ _ _ _) _ rfl rfl) rfl ⟨rfl, put4_below HB2.out _ (Nat.le_refl _) _ _ _ _⟩

/-- What the first token of a text is, or what is wrong. -/
def FirstR (s : ByteArray) (k : Nat) (x : ByteArray) (v err : Int) : Prop :=
  (∃ n, item (bl s) = .tok k n v ∧ x = s.extract 0 n ∧ err = 0) ∨ (∃ e, item (bl s) = .bad e ∧ err = e ∧ e ≠ 0)

theorem first_any (s : ByteArray) (w : World) (hs : s.size ≤ 4611686018427387904) (hne : bl s ≠ []) (hg : gapN false (bl s) = 0) :
    Calls Tryz.prog 68 #[.string s] w fun e w' => ∃ k x v err, e = .returned (.tuple #[tokV k x v 0, .int .i64 err]) ∧ FirstR s k x v err ∧ Below w.heap.size w w' := by
  have hi := item_of hne hg
  by_cases h0 : 0 < wordN (bl s)
  · rw [if_pos h0] at hi
    refine (first_word s w h0).mono ?_
    rintro e w' ⟨rfl, hb⟩
    exact ⟨_, _, _, _, rfl, .inl ⟨_, hi, rfl, rfl⟩, hb⟩
  · rw [if_neg h0] at hi
    by_cases h1 : 0 < numN (bl s)
    · rw [if_pos h1] at hi
      refine (first_num s w hs (by omega) h1).mono ?_
      rintro e w' ⟨rfl, hb⟩
      by_cases h2 : numBad (bl s) = true
      · rw [if_pos h2] at hi
        exact ⟨_, _, _, _, rfl, .inr ⟨15, hi, by rw [if_pos h2], by decide⟩, hb⟩
      · rw [if_neg h2] at hi
        exact ⟨_, _, _, _, rfl, .inl ⟨_, by rw [if_neg h2]; exact hi, rfl, by rw [if_neg h2]⟩, hb⟩
    · rw [if_neg h1] at hi
      cases hc : bl s with
      | nil => exact absurd hc hne
      | cons c r =>
        refine (first_sign s w hs (by omega) (by omega) c r hc).mono ?_
        rintro e w' ⟨rfl, hb⟩
        by_cases h2 : 0 < sigN (bl s)
        · rw [if_pos h2] at hi
          rw [if_pos h2, if_pos h2]
          exact ⟨_, _, _, _, rfl, .inl ⟨_, hi, rfl, rfl⟩, hb⟩
        · rw [if_neg h2] at hi
          rw [if_neg h2, if_neg h2]
          exact ⟨_, _, _, _, rfl, .inr ⟨6, hi, rfl, by decide⟩, hb⟩
end Go.Proofs.YtgemgmdnnjaghaaGreatDoor

/- Lex: the tokens of a text. -/
namespace Go.Proofs.YtgemgmdnnjaghaaGreatDoor
open Go.RowKit

theorem info33 : (Tryz.prog.info? 118).map (fun i => (i.zero, i.size, i.bytes)) = some (some (.agg #[.int .i64 0, .string ⟨#[]⟩, .int .i64 0, .int .i64 0]), 4, 40) := by kernel_rfl

theorem lex_long (s : ByteArray) (w : World) (h : 1048576 < s.size) (hs : s.size ≤ 9223372036854775807) :
    Calls Tryz.prog 37 #[.string s] w fun e w' => e = .returned (.tuple #[.slice none 0 0, .int .i64 1048576, .int .i64 13]) ∧ w = w' := by
  go_enter Tryz.func37, Tryz.ntmps37
  go_wp2_with fail
  go_ret3
  exact ⟨rfl, rfl⟩

/-- How far Lex is: what is told of the rest, and of the whole. -/
structure At (bs : Bs) (k : Nat) (ts : List Tok) : Prop where
  le : k ≤ bs.length
  len : ts.length ≤ k
  gap : gapN false (bs.drop k) = 0
  lex : lexL bs 0 = preL ts (lexL (bs.drop k) k)

theorem At.start (bs : Bs) : At bs (gapN false bs) [] := by
  refine ⟨gapN_le _ _, Nat.zero_le _, gap_none _ _, ?_⟩
  rw [preL_nil]
  have := lexL_gap bs 0
  rw [Nat.zero_add] at this
  exact this
theorem At.done {bs : Bs} {k : Nat} {ts : List Tok} (h : At bs k ts) (hk : bs.length ≤ k) : lexL bs 0 = .ok ts := by
  rw [h.lex, List.drop_of_length_le hk, lexL_nil]
  simp [preL]
theorem At.bad {bs : Bs} {k : Nat} {ts : List Tok} (h : At bs k ts) (hk : k < bs.length) {e : Int} (hi : item (bs.drop k) = .bad e) : lexL bs 0 = .error (k, e) := by
  rw [h.lex, lexL_bad (by simp; omega) hi]
  rfl
theorem At.next {bs : Bs} {k : Nat} {ts : List Tok} (h : At bs k ts) (hk : k < bs.length) {kind n : Nat} {v : Int} (hi : item (bs.drop k) = .tok kind n v) :
    0 < n ∧ k + n ≤ bs.length ∧ At bs (k + n + gapN false (bs.drop (k + n))) (ts ++ [⟨kind, (bs.drop k).take n, v, k⟩]) := by
  have hne : bs.drop k ≠ [] := by simp; omega
  obtain ⟨h1, h2⟩ := (item_pos hne).2 kind n v hi
  rw [List.length_drop] at h2
  have h3 := gapN_le (bs.drop (k + n)) false
  rw [List.length_drop] at h3
  have h4 := h.len
  refine ⟨h1, by omega, by omega, by rw [List.length_append, List.length_singleton]; omega, ?_, ?_⟩
  · rw [← List.drop_drop]
    exact gap_none _ _
  · rw [h.lex, lexL_tok hne hi, preL_pre, List.drop_drop, lexL_gap (bs.drop (k + n)), List.drop_drop]

set_option maxHeartbeats 4000000 in
set_option maxRecDepth 100000 in
theorem lex_short (s : ByteArray) (w : World) (h : s.size ≤ 1048576) :
    Calls Tryz.prog 37 #[.string s] w fun e w' => ∃ v, e = .returned (.tuple #[v, .int .i64 ((lexT (lexL (bl s) 0)).2.1 : Nat), .int .i64 (lexT (lexL (bl s) 0)).2.2]) ∧ w'.ownsRow w.heap.size 118 4 v (lexT (lexL (bl s) 0)).1.length (cellsL (lexT (lexL (bl s) 0)).1) ∧ Below w.heap.size w w' := by
  obtain ⟨i0, hi', hz0, hz1, hz2⟩ := info_parts info33
  have HI := Lib.hid (And.intro hi' (And.intro hz0 (And.intro hz1 hz2)))
  clear hi' hz0 hz1 hz2
  have C0 := Lib.hid (gap_any s w)
  have HA := Lib.hid (At.start (bl s))
  generalize gapN false (bl s) = k0 at C0 HA
  go_enter Tryz.func37, Tryz.ntmps37
  go_wp2_with fail
  refine C0.out.mono ?_
  rintro e w1 ⟨rfl, b1⟩
  have HB1 := Lib.hid b1
  clear b1 C0
  go_wp2_with fail
  go_loopw [5, 6] (fun v i wr => ∃ (k : Nat) (ts : List Tok), i = .int .i64 k ∧ At (bl s) k ts ∧ wr.ownsRow w.heap.size 118 4 v ts.length (cellsL ts) ∧ Below w.heap.size w wr) (fun _ i _ => s.size - (intOf i).toNat)
  case atStart => exact ⟨k0, [], rfl, HA.out, World.ownsRow_nil _ _ _ _, HB1.out⟩
  case round =>
    obtain ⟨k, ts, rfl, hat, hown, hbw⟩ := hrel
    have hkle : k ≤ s.size := by have := hat.le; rw [bl_len] at this; exact this
    have HAT := Lib.hid hat
    have HOWN := Lib.hid hown
    have HBW := Lib.hid hbw
    clear hat hown hbw HA HB1
    by_cases hk : k < s.size
    · have hk' : k < (bl s).length := by rw [bl_len]; exact hk
      have hbs : bl (s.extract k s.size) = (bl s).drop k := by
        rw [bl_extract, List.take_of_length_le]
        rw [List.length_drop, bl_len]
        exact Nat.le_refl _
      have C1 := Lib.hid (fun W => first_any (s.extract k s.size) W (by rw [← bl_len, hbs, List.length_drop, bl_len]; omega) (by rw [hbs]; simp; omega) (by rw [hbs]; exact HAT.out.gap))
      have HBS := Lib.hid hbs
      clear hbs
      go_wp2_with fail
      refine (C1.out _).mono ?_
      rintro e w2 ⟨kd, x, v, err, rfl, hf, b2⟩
      have HB2 := Lib.hid (HBW.out.trans (b2.mono HBW.out.size))
      have HOWN2 := Lib.hid (own_below HOWN.out b2)
      clear HBW HOWN b2
      rcases hf with ⟨n, hi, hx, rfl⟩ | ⟨er, hi, rfl, hne⟩
      · rw [HBS.out] at hi
        have HN := Lib.hid (HAT.out.next hk' hi)
        have HXT : Hid (x = txt (((bl s).drop k).take n)) := by
          refine Lib.hid ?_
          rw [hx, extract_txt, HBS.out, List.drop_zero, Nat.sub_zero]
        clear hi hx
        have hn1 : n ≤ s.size - k := by
          have := HN.out.2.1
          rw [bl_len] at this
          omega
        have hxs : x.size = n := by
          rw [HXT.out, txt_size, List.length_take, List.length_drop, bl_len]
          omega
        have hts : ts.length ≤ k := HAT.out.len
        have hbase : w.heap.size ≤ w2.heap.size := HB2.out.size
        go_wp2_with (at_builtin; refine wpList_append_own _ rfl _ _ 76 rfl w.heap.size 118 i0 (.agg #[.int .i64 0, .string ⟨#[]⟩, .int .i64 0, .int .i64 0]) 4 40 Tryz.underlying76 HI.out.1 HI.out.2.1 HI.out.2.2.1 HI.out.2.2.2 rfl (by decide) _ _ _ rfl ((HOWN2.out.alloc _).alloc _) ⟨_, 0, none⟩ 1 1 [.int .i64 (kd : Nat), .string x, .int .i64 v, .int .i64 (k : Nat)] rfl rfl ?c1 ?c2 ?c3 ?c4 ?c5 ?_)
        case c1 =>
          intro j u hj
          have := new_cells (w2.alloc (.cells #[.int .i64 (kd : Nat), .string x, .int .i64 v, .int .i64 (k : Nat)] 118)) 118 _ _ _ _ j u hj
          have e1 : (w2.alloc (.cells #[.int .i64 (kd : Nat), .string x, .int .i64 v, .int .i64 (k : Nat)] 118)).heap.size = w2.heap.size + 1 := by simp
          rw [e1] at this
          exact this
        case c2 =>
          intro u hu
          simp at hu
          rcases hu with rfl | rfl | rfl | rfl <;> rfl
        case c3 => unfold maxLen; omega
        case c4 => omega
        case c5 => simp; omega
        intro v' w3 hown' hgrow _
        have hbx : TBox 118 w3 w2.heap.size (.int .i64 (kd : Nat)) (.string x) (.int .i64 v) (.int .i64 (k : Nat)) := by
          have h1 := hgrow.block w2.heap.size (by simp; omega) (fun e => by have := (own_lt HOWN2.out e.symm).2; omega)
          refine h1.trans ((Below.heap_alloc _ _ _ (by simp)).trans (heap_alloc_new _ _))
        have HB3 : Hid (Below w.heap.size w w3) := ((HB2.out.alloc hbase _).alloc (by simp; omega) _).grown hgrow (by simp; omega) (fun g hg => (own_lt HOWN2.out hg).1)
        have HOWN3 : Hid (w3.ownsRow w.heap.size 118 4 v' (ts ++ [(⟨kd, ((bl s).drop k).take n, v, k⟩ : Tok)]).length (cellsL (ts ++ [(⟨kd, ((bl s).drop k).take n, v, k⟩ : Tok)]))) := by
          have h1 := hown'
          rw [HXT.out] at h1
          rw [cellsL_append, cellsL_one, List.length_append]
          exact h1
        clear hown' hgrow HOWN2 HB2
        obtain ⟨y0, y1, y2, y3⟩ := hbx.cells
        clear hbx
        have C2 := Lib.hid (gap_any (s.extract (k + n) s.size) w3)
        have hbs2 : bl (s.extract (k + n) s.size) = (bl s).drop (k + n) := by
          rw [bl_extract, List.take_of_length_le]
          rw [List.length_drop, bl_len]
          exact Nat.le_refl _
        rw [hbs2] at C2
        clear hbs2
        have hg : gapN false ((bl s).drop (k + n)) ≤ s.size - (k + n) := by
          have := gapN_le ((bl s).drop (k + n)) false
          rw [List.length_drop, bl_len] at this
          exact this
        have HAT2 := Lib.hid HN.out.2.2
        have hn0 : 0 < n := HN.out.1
        generalize gapN false ((bl s).drop (k + n)) = q at C2 hg HAT2
        go_wp2_with fail
        refine C2.out.mono ?_
        rintro e w4 ⟨rfl, b4⟩
        have HB4 := Lib.hid (HB3.out.trans (b4.mono HB3.out.size))
        have HOWN4 := Lib.hid (own_below HOWN3.out b4)
        clear b4 HB3 HOWN3 C2
        go_wp2_with fail
        go_roundw
        case rel => exact ⟨k + n + q, _, by go_num, HAT2.out, HOWN4.out, HB4.out⟩
        case measure => simp [intOf]; omega
      · rw [HBS.out] at hi
        have HE := Lib.hid (HAT.out.bad hk' hi)
        have hne' : (err != 0) = true := by simpa using hne
        clear hi hne
        go_wp2_with fail
        go_ret3
        rw [HE.out]
        exact ⟨_, rfl, World.ownsRow_nil _ _ _ _, HB2.out.alloc HB2.out.size _⟩
    · have HD := Lib.hid (HAT.out.done (by rw [bl_len]; omega))
      go_wp2_with fail
      go_ret3
      rw [HD.out]
      exact ⟨_, rfl, HOWN.out, HBW.out⟩

theorem lex_any (s : ByteArray) (w : World) (hs : s.size ≤ 9223372036854775807) :
    Calls Tryz.prog 37 #[.string s] w fun e w' => ∃ v, e = .returned (.tuple #[v, .int .i64 ((lexA (bl s)).2.1 : Nat), .int .i64 (lexA (bl s)).2.2]) ∧ Toks 118 w' v (lexA (bl s)).1 ∧ Below w.heap.size w w' := by
  unfold lexA
  rw [bl_len]
  by_cases h : 1048576 < s.size
  · rw [if_pos h]
    refine (lex_long s w h hs).mono ?_
    rintro e w' ⟨rfl, rfl⟩
    exact ⟨_, rfl, Toks.nil _ _, Below.refl _ _⟩
  · rw [if_neg h]
    refine (lex_short s w (by omega)).mono ?_
    rintro e w' ⟨v, rfl, h1, h2⟩
    exact ⟨_, rfl, ⟨_, h1⟩, h2⟩
end Go.Proofs.YtgemgmdnnjaghaaGreatDoor

/- Contracts: numbers and signs at the beginning of a text. -/
import Derived.Test.YtmamgaaeeonfmaaGreatDoorLexname
import Derived.Test.YtmamgaaeeonfmaaGreatDoorLexshelf
namespace Go.Proofs.YtmamgaaeeonfmaaGreatDoor
open Go.RowKit

theorem trim_minus (bs : Bs) : Lib.trimPrefix bs [45] = bs.drop (minusN bs) := by
  cases bs with
  | nil => rfl
  | cons c r =>
    unfold Lib.trimPrefix Lib.hasPrefix
    rw [minusN_cons]
    by_cases h : c = 45
    · subst h
      simp
    · have : (c == 45) = false := by simpa using h
      simp [this, Ne.symm h]

/-- How many bytes a number has, whatever it says. -/
def numN (bs : Bs) : Nat := if (digitsOf bs).length = 0 then 0 else minusN bs + (digitsOf bs).length

theorem number_any (s : ByteArray) (w : World) (hs : s.size ≤ 4611686018427387904) : Calls Tryz.prog 51 #[.string s] w fun e w' => e = .returned (.int .i64 (numN (bl s) : Nat)) ∧ Below w.heap.size w w' := by
  have C1 := Lib.hid (Tryz.strings_TrimPrefix s ⟨#[45]⟩ w)
  obtain ⟨t, ht⟩ : ∃ t : ByteArray, t = ⟨(Lib.trimPrefix s.data.toList (⟨#[45]⟩ : ByteArray).data.toList).toArray⟩ := ⟨_, rfl⟩
  rw [← ht] at C1
  have hbt : bl t = (bl s).drop (minusN (bl s)) := by
    rw [ht]
    exact trim_minus (bl s)
  have C2 := Lib.hid (run_digit t)
  rw [hbt] at C2
  have hsz : t.size = s.size - minusN (bl s) := by rw [← bl_len, hbt, List.length_drop, bl_len]
  have hN : numN (bl s) = if ((digitsOf (bl s)).length = 0) then 0 else minusN (bl s) + (digitsOf (bl s)).length := rfl
  have hl : (digitsOf (bl s)).length ≤ t.size := by
    rw [← bl_len, hbt]
    exact tw_len _ _
  change Hid (∀ w, Calls Tryz.prog 47 #[.string t, .func (.func 88) #[] #[]] w fun e w' => e = .returned (.int .i64 ((digitsOf (bl s)).length : Nat)) ∧ Below w.heap.size w w') at C2
  have hm : minusN (bl s) ≤ s.size := by
    cases h : bl s with
    | nil => exact Nat.zero_le _
    | cons a b =>
      have h1 : (bl s).length = s.size := bl_len s
      rw [h, List.length_cons] at h1
      have := minus_le (a :: b)
      omega
  generalize (digitsOf (bl s)).length = k at C2 hN hl
  generalize minusN (bl s) = m at hsz hN hm hbt
  generalize numN (bl s) = r at hN
  clear ht hbt
  have HN := Lib.hid hN
  clear hN
  by_cases h0 : k = 0
  · have H : Hid (r = 0) := by
      have := HN.out
      rw [if_pos h0] at this
      exact this
    have hd : ((k : Int) == 0) = true := by rw [beq_iff_eq]; omega
    clear HN
    go_enter Tryz.func51, Tryz.ntmps51
    go_wp2_with fail
    refine C1.out.mono ?_
    rintro e w1 ⟨rfl, rfl⟩
    go_wp2_with fail
    refine (C2.out _).mono ?_
    rintro e w2 ⟨rfl, b1⟩
    go_wp2_with fail
    go_ret
    exact ⟨int_eq (by have := H.out; omega), b1⟩
  · have H : Hid (r = m + k) := by
      have := HN.out
      rw [if_neg h0] at this
      exact this
    have hd : ((k : Int) == 0) = false := by rw [beq_eq_false_iff_ne]; omega
    have HK := Lib.hid (And.intro hl (And.intro hsz hm))
    clear HN
    go_enter Tryz.func51, Tryz.ntmps51
    go_wp2_with fail
    refine C1.out.mono ?_
    rintro e w1 ⟨rfl, rfl⟩
    go_wp2_with fail
    refine (C2.out _).mono ?_
    rintro e w2 ⟨rfl, b1⟩
    go_wp2_with fail
    go_ret
    exact ⟨int_eq (by have h1 := H.out; have h2 := HK.out; omega), b1⟩

/-- How many bytes a sign has. -/
def sigN : Bs → Nat
  | [] => 0
  | c :: r => if c == 46 && r.head? == some 46 then 2 else if signB c then 1 else 0

theorem dots (c : UInt8) (r : Bs) : Lib.hasPrefix (c :: r) [46, 46] = (c == 46 && r.head? == some 46) := by
  unfold Lib.hasPrefix
  cases r with
  | nil => simp [List.isPrefixOf]
  | cons d r =>
    simp only [List.isPrefixOf, Bool.and_true, List.head?_cons]
    rw [Bool.eq_iff_iff]
    simp only [Bool.and_eq_true, beq_iff_eq, Option.some.injEq]
    exact ⟨fun ⟨a, b⟩ => ⟨a.symm, b.symm⟩, fun ⟨a, b⟩ => ⟨a.symm, b.symm⟩⟩

theorem sign_index : ∀ c : UInt8, decide (0 ≤ Lib.indexByte [40, 41, 91, 93, 123, 125, 44, 59, 58] c) = signB c := by
  intro c
  have : ∀ n : Fin 256, decide (0 ≤ Lib.indexByte [40, 41, 91, 93, 123, 125, 44, 59, 58] (UInt8.ofNat n)) = signB (UInt8.ofNat n) := by decide +kernel
  have h := this ⟨c.toNat, c.toNat_lt⟩
  simpa using h

theorem sign_any (s : ByteArray) (w : World) (c : UInt8) (r : Bs) (hs : bl s = c :: r) : Calls Tryz.prog 53 #[.string s] w fun e w' => e = .returned (.int .i64 (sigN (bl s) : Nat)) ∧ w = w' := by
  have C1 := Lib.hid (Tryz.strings_HasPrefix s ⟨#[46, 46]⟩ w)
  have hp : Lib.hasPrefix s.data.toList (⟨#[46, 46]⟩ : ByteArray).data.toList = (c == 46 && r.head? == some 46) := by
    rw [← dots, ← hs]
    rfl
  rw [hp] at C1
  have hsz : 0 < s.size := by rw [← bl_len, hs]; simp
  have hg : s[0]'hsz = c := by
    have h1 := bl_drop s 0 hsz
    rw [List.drop_zero, hs] at h1
    rw [get_get]
    exact (List.cons.inj h1).1.symm
  have C2 := Lib.hid (Tryz.strings_IndexByte ⟨#[40, 41, 91, 93, 123, 125, 44, 59, 58]⟩ (c.toNat : Int) w)
  have hI : ((c.toNat : Int).toNat.toUInt8) = c := by simp
  rw [hI] at C2
  have hS := sign_index c
  have hN : sigN (bl s) = if (c == 46 && r.head? == some 46) then 2 else if signB c then 1 else 0 := by rw [hs, sigN]
  generalize sigN (bl s) = q at hN
  generalize (c == 46 && r.head? == some 46) = b at C1 hN
  change Hid (Calls Tryz.prog 92 #[.string ⟨#[40, 41, 91, 93, 123, 125, 44, 59, 58]⟩, .int .u8 (c.toNat : Int)] w fun e w' => e = .returned (.int .i64 (Lib.indexByte [40, 41, 91, 93, 123, 125, 44, 59, 58] c)) ∧ w' = w) at C2
  generalize Lib.indexByte [40, 41, 91, 93, 123, 125, 44, 59, 58] c = i at C2 hS
  generalize signB c = d at hN hS
  clear hp hs hI
  have HN := Lib.hid hN
  clear hN
  cases b <;> cases d
  all_goals go_enter Tryz.func53, Tryz.ntmps53
  all_goals go_wp2_with fail
  all_goals refine C1.out.mono ?_
  all_goals rintro e w1 ⟨rfl, rfl⟩
  all_goals go_wp2_with fail
  · refine C2.out.mono ?_
    rintro e w2 ⟨rfl, rfl⟩
    go_wp2_with fail
    go_ret
    exact ⟨int_eq (by have h1 := HN.out; simp at h1; omega), rfl⟩
  · refine C2.out.mono ?_
    rintro e w2 ⟨rfl, rfl⟩
    go_wp2_with fail
    go_ret
    exact ⟨int_eq (by have h1 := HN.out; simp at h1; omega), rfl⟩
  · go_ret
    exact ⟨int_eq (by have h1 := HN.out; simp at h1; omega), rfl⟩
  · go_ret
    exact ⟨int_eq (by have h1 := HN.out; simp at h1; omega), rfl⟩

/-- What digits say, by the library's reader. -/
theorem dec_val : ∀ (ds : Bs) (acc : Nat), (∀ x ∈ ds, digitB x = true) → ∃ n, Lib.decFrom acc ds = some n ∧ (n : Int) = ds.foldl (fun v d => 10 * v + (d.toNat : Int) - 48) (acc : Int)
  | [], acc, _ => ⟨acc, rfl, rfl⟩
  | d :: r, acc, h => by
    have hd := h d (by simp)
    simp only [digitB, Bool.and_eq_true, decide_eq_true_eq] at hd
    obtain ⟨n, h1, h2⟩ := dec_val r (acc * 10 + (d.toNat - 48)) (fun x hx => h x (by simp [hx]))
    refine ⟨n, ?_, ?_⟩
    · simp only [Lib.decFrom, Lib.digitVal, hd, and_self, if_true]
      exact h1
    · rw [h2, List.foldl_cons]
      congr 1
      omega

theorem atoi_num {m ds : Bs} (hm : m = [] ∨ m = [45]) (hd : ∀ x ∈ ds, digitB x = true) (hne : ds ≠ []) : Lib.atoi (m ++ ds) = some ((if m.length == 1 then -1 else 1) * valOf ds) := by
  obtain ⟨n, h1, h2⟩ := dec_val ds 0 hd
  cases ds with
  | nil => exact absurd rfl hne
  | cons d r =>
    have hd0 := hd d (by simp)
    simp only [digitB, Bool.and_eq_true, decide_eq_true_eq] at hd0
    have hv : valOf (d :: r) = (n : Int) := by rw [h2]; rfl
    rw [hv]
    rcases hm with rfl | rfl
    · have n1 : (d == 45) = false := by rw [beq_eq_false_iff_ne]; rintro rfl; revert hd0; decide
      have n2 : (d == 43) = false := by rw [beq_eq_false_iff_ne]; rintro rfl; revert hd0; decide
      simp [Lib.atoi, n1, n2, Lib.decNat, h1]
    · simp [Lib.atoi, Lib.decNat, h1]

/-- May a number not be so? -/
def badD (m ds : Bs) : Bool := (ds.head? == some 48 && (m.length == 1 || decide (1 < ds.length))) || decide (10 < ds.length)

set_option maxHeartbeats 2000000 in
theorem valueOf_any (u : ByteArray) (m ds : Bs) (hu : bl u = m ++ ds) (hm : m = [] ∨ m = [45]) (hd : ∀ x ∈ ds, digitB x = true) (hne : ds ≠ []) (w : World) :
    Calls Tryz.prog 52 #[.string u] w fun e w' => e = .returned (.tuple #[.int .i64 (if badD m ds then 0 else (if m.length == 1 then -1 else 1) * valOf ds), .int .i64 (if badD m ds then 15 else 0)]) ∧ Below w.heap.size w w' := by
  have C1 := Lib.hid (Tryz.strings_CutPrefix u ⟨#[45]⟩ w)
  obtain ⟨t, ht⟩ : ∃ t : ByteArray, t = ⟨(Lib.trimPrefix u.data.toList (⟨#[45]⟩ : ByteArray).data.toList).toArray⟩ := ⟨_, rfl⟩
  rw [← ht] at C1
  have hmin : minusN (bl u) = m.length := by
    rw [hu]
    rcases hm with rfl | rfl
    · cases ds with
      | nil => exact absurd rfl hne
      | cons a d =>
        have ha := hd a (by simp)
        have : (a == 45) = false := by rw [beq_eq_false_iff_ne]; rintro rfl; revert ha; decide
        simp [minusN, this]
    · simp [minusN]
  have hbt : bl t = ds := by
    have h1 : bl t = (bl u).drop (minusN (bl u)) := by rw [ht]; exact trim_minus (bl u)
    rw [h1, hmin, hu, List.drop_left]
  have hhp : Lib.hasPrefix u.data.toList (⟨#[45]⟩ : ByteArray).data.toList = (m.length == 1) := by
    show Lib.hasPrefix (bl u) [45] = _
    rw [hu]
    rcases hm with rfl | rfl
    · cases ds with
      | nil => exact absurd rfl hne
      | cons a d =>
        have ha := hd a (by simp)
        have : (45 == a) = false := by rw [beq_eq_false_iff_ne]; rintro rfl; revert ha; decide
        simp [Lib.hasPrefix, List.isPrefixOf, this]
    · simp [Lib.hasPrefix, List.isPrefixOf]
  rw [hhp] at C1
  have hsz : t.size = ds.length := by rw [← bl_len, hbt]
  have hpos : 0 < t.size := by rw [hsz]; exact List.length_pos_iff.2 hne
  have hg : (ds.head? == some 48) = ((t[0]'hpos).toNat == 48) := by
    have h1 := bl_drop t 0 hpos
    rw [List.drop_zero, hbt] at h1
    rw [h1, List.head?_cons, get_get]
    have := eq_byte (t.get! 0) 48
    rw [← show (t.get! 0 == 48) = ((t.get! 0).toNat == 48) from this]
    rfl
  have hA := atoi_num hm hd hne
  have hus : u.size = m.length + ds.length := by rw [← bl_len, hu, List.length_append]
  have hml : m.length ≤ 1 := by rcases hm with rfl | rfl <;> simp
  have C2 : Hid (ds.length ≤ 10 → Calls Tryz.prog 90 #[.string u] w fun e w' => e = .returned (.tuple #[.int .i64 ((if m.length == 1 then -1 else 1) * valOf ds), .nilIface]) ∧ ∃ t, w' = Lib.bytesWorld w 5 t) := by
    intro hl
    refine Tryz.strconv_Atoi u _ (by omega) ?_ w
    show Lib.atoi (bl u) = _
    rw [hu]
    exact hA
  obtain ⟨z, hz⟩ : ∃ z, (t[0]'hpos).toNat = z := ⟨_, rfl⟩
  obtain ⟨n, hn⟩ : ∃ n, ds.length = n := ⟨_, rfl⟩
  rw [hn] at hsz C2
  have hbd : badD m ds = (((z == 48) && (m.length == 1 || decide (1 < n))) || decide (10 < n)) := by
    rw [badD, hg, hz, hn]
  generalize (if m.length == 1 then -1 else 1) * valOf ds = V at C2
  generalize (m.length == 1) = b at C1 hbd
  generalize badD m ds = B at hbd
  have hn0 : 0 < n := by omega
  clear hg hA hhp ht hu hus hml hmin hd hm hbt hne hn
  by_cases c0 : z = 48 <;> rcases (show n ≤ 1 ∨ (1 < n ∧ n ≤ 10) ∨ 10 < n by omega) with c1 | ⟨c1, c2⟩ | c1 <;> cases b
  all_goals cases B
  all_goals first
    | (exfalso; simp [c0] at hbd; done)
    | (exfalso; simp [c0] at hbd; omega)
    | (exfalso; simp at hbd; omega)
    | clear hbd
  all_goals go_enter Tryz.func52, Tryz.ntmps52
  all_goals go_wp2_with fail
  all_goals refine C1.out.mono ?_
  all_goals rintro e w1 ⟨rfl, rfl⟩
  all_goals go_wp2_with fail
  all_goals first
    | (go_ret2; exact ⟨rfl, Below.refl _ _⟩)
    | (refine (C2.out (by omega)).mono ?_
       rintro e w2 ⟨rfl, q, rfl⟩
       go_wp2_with fail
       go_ret2
       exact ⟨rfl, ⟨rfl, rfl, rfl, by rw [Lib.bytesWorld_size]; omega, fun j hj => Lib.bytesWorld_at_old _ _ _ _ hj⟩⟩)
end Go.Proofs.YtmamgaaeeonfmaaGreatDoor

/- The document's own Lex, byte by byte. -/
import Derived.Test.YtancjkanmjdkkaaDoorRef2
import Derived.Test.YtancjkanmjdkkaaDoorFirst
import Derived.Test.YtancjkanmjdkkaaDoorToks
namespace Go.Proofs.YtancjkanmjdkkaaDoor
open Go.RowKit

theorem refNumber (s : ByteArray) (k : Nat) (w : World) (hs : s.size ≤ 4611686018427387904) (hk : k < s.size) :
    Calls Tryd.prog 19 #[.string s, .int .i64 (k : Nat)] w fun e w' => e = .returned (.tuple #[.int .i64 ((refN ((bl s).drop k)).1 : Nat), .int .i64 (refN ((bl s).drop k)).2.1, .int .i64 (refN ((bl s).drop k)).2.2]) ∧ w = w' := by
  cases h : ((s[k]'hk).toNat == 45)
  · exact refNumber_plain s k w hs hk h
  · exact refNumber_minus s k w hs hk h

theorem info43 : (Tryd.prog.info? 43).map (fun i => (i.zero, i.size, i.bytes)) = some (some (.agg #[.int .i64 0, .string ⟨#[]⟩, .int .i64 0, .int .i64 0]), 4, 40) := by kernel_rfl

/-- How far it is: what is told of the rest, and of the whole. -/
structure On (bs : Bs) (k : Nat) (ts : List Tok) : Prop where
  le : k ≤ bs.length
  len : ts.length ≤ k
  lex : lexL bs 0 = preL ts (lexL (bs.drop k) k)

theorem On.start (bs : Bs) : On bs 0 [] := ⟨Nat.zero_le _, Nat.le_refl _, by rw [preL_nil, List.drop_zero]⟩
theorem On.done {bs : Bs} {k : Nat} {ts : List Tok} (h : On bs k ts) (hk : bs.length ≤ k) : lexL bs 0 = .ok ts := by
  rw [h.lex, List.drop_of_length_le hk, lexL_nil]
  simp [preL]
theorem On.bad {bs : Bs} {k : Nat} {ts : List Tok} (h : On bs k ts) (hk : k < bs.length) {e : Int} (hi : item (bs.drop k) = .bad e) : lexL bs 0 = .error (k, e) := by
  rw [h.lex, lexL_bad (by simp; omega) hi]
  rfl
theorem On.skip {bs : Bs} {k : Nat} {ts : List Tok} (h : On bs k ts) (hk : k < bs.length) {n : Nat} (hi : item (bs.drop k) = .skip n) : 0 < n ∧ k + n ≤ bs.length ∧ On bs (k + n) ts := by
  have hne : bs.drop k ≠ [] := by simp; omega
  obtain ⟨h1, h2⟩ := (item_pos hne).1 n hi
  rw [List.length_drop] at h2
  have h4 := h.len
  refine ⟨h1, by omega, by omega, by omega, ?_⟩
  rw [h.lex, lexL_skip hne hi, List.drop_drop]
theorem On.next {bs : Bs} {k : Nat} {ts : List Tok} (h : On bs k ts) (hk : k < bs.length) {kind n : Nat} {v : Int} (hi : item (bs.drop k) = .tok kind n v) :
    0 < n ∧ k + n ≤ bs.length ∧ On bs (k + n) (ts ++ [⟨kind, (bs.drop k).take n, v, k⟩]) := by
  have hne : bs.drop k ≠ [] := by simp; omega
  obtain ⟨h1, h2⟩ := (item_pos hne).2 kind n v hi
  rw [List.length_drop] at h2
  have h4 := h.len
  refine ⟨h1, by omega, by omega, by rw [List.length_append, List.length_singleton]; omega, ?_⟩
  rw [h.lex, lexL_tok hne hi, preL_pre, List.drop_drop]

/-- Where no blank and no comment begins. -/
theorem over_no {c : UInt8} {r : Bs} (hb : blankB c = false) (h37 : (c == 37) = false) : gapN false (c :: r) = 0 := by
  have ho : overN false c.toNat = false := by
    rw [overN, ← bla_byte, hb, comN]
    rw [eq_byte] at h37
    rw [show (c.toNat == 37) = false from h37]
    simp
  rw [gapN, ho]
  rfl
theorem com_len (r : Bs) : item (37 :: r) = .skip ((37 :: r : Bs).takeWhile (· != 10)).length := by
  rw [item_cons, if_neg (by decide), if_pos (by decide), List.takeWhile_cons, if_pos (by decide), List.length_cons, Nat.add_comm]

/-- What stands at a place, by its first byte: the cases that the document's own Lex parts. -/
theorem item_cases {c : UInt8} {r : Bs} (hb : blankB c = false) (h37 : (c == 37) = false) :
    (0 < wordN (c :: r) ∧ item (c :: r) = .tok 1 (wordN (c :: r)) 0) ∨
    (wordN (c :: r) = 0 ∧ refN (c :: r) = (0, 0, 15) ∧ item (c :: r) = .bad 15) ∨
    (wordN (c :: r) = 0 ∧ ∃ n v, 0 < n ∧ refN (c :: r) = (n, v, 0) ∧ item (c :: r) = .tok 2 n v) ∨
    (wordN (c :: r) = 0 ∧ refN (c :: r) = (0, 0, 0) ∧ item (c :: r) = if 0 < sigN (c :: r) then .tok 3 (sigN (c :: r)) 0 else .bad 6) := by
  have hi := item_of (by simp : c :: r ≠ []) (over_no (r := r) hb h37)
  by_cases h0 : 0 < wordN (c :: r)
  · rw [if_pos h0] at hi
    exact .inl ⟨h0, hi⟩
  · rw [if_neg h0] at hi
    have hw : wordN (c :: r) = 0 := by omega
    by_cases hd : (digitsOf (c :: r)).length = 0
    · have hn : numN (c :: r) = 0 := by rw [numN, if_pos hd]
      rw [hn, if_neg (by omega)] at hi
      exact .inr (.inr (.inr ⟨hw, by rw [refN, if_pos hd], hi⟩))
    · have hn : 0 < numN (c :: r) := by rw [numN, if_neg hd]; omega
      rw [if_pos hn] at hi
      by_cases hbad : numBad (c :: r) = true
      · rw [if_pos hbad] at hi
        exact .inr (.inl ⟨hw, by rw [refN, if_neg hd, if_pos hbad], hi⟩)
      · rw [if_neg hbad] at hi
        exact .inr (.inr (.inl ⟨hw, _, _, hn, by rw [refN, if_neg hd, if_neg hbad], hi⟩))

/-- A byte against a number, as the walk asks it. -/
theorem ask (c : UInt8) (d : UInt8) : (((c.toNat : Nat) : Int) == ((d.toNat : Nat) : Int)) = (c == d) := by
  rw [eq_byte, Bool.eq_iff_iff, beq_iff_eq, beq_iff_eq]
  omega

theorem blank_split {c : UInt8} (h : blankB c = false) : (c == 32) = false ∧ (c == 9) = false ∧ (c == 10) = false ∧ (c == 13) = false := by
  unfold blankB at h
  simp only [Bool.or_eq_false_iff] at h
  exact ⟨h.1.1.1, h.1.1.2, h.1.2, h.2⟩
theorem sign_split {c : UInt8} (h : signB c = false) : (c == 40) = false ∧ (c == 41) = false ∧ (c == 91) = false ∧ (c == 93) = false ∧ (c == 123) = false ∧ (c == 125) = false ∧ (c == 44) = false ∧ (c == 59) = false ∧ (c == 58) = false := by
  unfold signB at h
  simp only [Bool.or_eq_false_iff] at h
  obtain ⟨⟨⟨⟨⟨⟨⟨⟨a, b⟩, c⟩, d⟩, e⟩, f⟩, g⟩, i⟩, j⟩ := h
  exact ⟨a, b, c, d, e, f, g, i, j⟩

theorem slice_at (s : ByteArray) (k n : Nat) (h : k + n ≤ s.size) (W : World) : (Instr.slice 9 (.string s) (some (.int .i64 ((k : Nat) : Int))) (some (.int .i64 (((k : Nat) : Int) + ((n : Nat) : Int)))) none).run Tryd.prog W = .ok (.string (s.extract k (k + n))) W := by
  rw [run_slice_string W 9 s .i64 .i64 _ _ Tryd.underlying9 (by omega) (by omega) (by omega)]
  congr 3

/-- Rounds of the document's own Lex: a slice of tokens, and how far it is. -/
def RL (s : ByteArray) (w : World) (v : Value) (k : Nat) (wr : World) : Prop := ∃ ts : List Tok, On (bl s) k ts ∧ wr.ownsRow w.heap.size 43 4 v ts.length (cellsL ts) ∧ Below w.heap.size w wr

/-- A token more. -/
theorem RL.more {s : ByteArray} {w wr w3 : World} {v v' : Value} {k kind n : Nat} {z : Int} {ts : List Tok} (hk : k < s.size) (hon : On (bl s) k ts) (hown : wr.ownsRow w.heap.size 43 4 v ts.length (cellsL ts)) (hb : Below w.heap.size w wr) (hi : item ((bl s).drop k) = .tok kind n z)
    (hown' : w3.ownsRow w.heap.size 43 4 v' (ts.length + 1) (cellsL ts ++ [.int .i64 (kind : Nat), .string (s.extract k (k + n)), .int .i64 z, .int .i64 (k : Nat)])) {o : Obj} (hgrow : (wr.alloc o).grownBy w3 v.ownBlock) :
    0 < n ∧ k + n ≤ s.size ∧ RL s w v' (k + n) w3 := by
  obtain ⟨h1, h2, h3⟩ := hon.next (by rw [bl_len]; exact hk) hi
  rw [bl_len] at h2
  refine ⟨h1, h2, _, h3, ?_, (hb.alloc hb.size _).grown hgrow (by have := hb.size; simp; omega) (fun g hg => (own_lt hown hg).1)⟩
  rw [cellsL_append, cellsL_one, List.length_append, List.length_singleton]
  have e : s.extract k (k + n) = txt (((bl s).drop k).take n) := by rw [extract_txt, Nat.add_sub_cancel_left]
  rw [e] at hown'
  exact hown'

set_option maxHeartbeats 16000000 in
set_option maxRecDepth 100000 in
theorem reflex_short (s : ByteArray) (w : World) (h : s.size ≤ 1048576) :
    Calls Tryd.prog 9 #[.string s] w fun e w' => ∃ v, e = .returned (.tuple #[v, .int .i64 ((lexT (lexL (bl s) 0)).2.1 : Nat), .int .i64 (lexT (lexL (bl s) 0)).2.2]) ∧ w'.ownsRow w.heap.size 43 4 v (lexT (lexL (bl s) 0)).1.length (cellsL (lexT (lexL (bl s) 0)).1) ∧ Below w.heap.size w w' := by
  obtain ⟨i0, hi', hz0, hz1, hz2⟩ := info_parts info43
  have HI := Lib.hid (And.intro hi' (And.intro hz0 (And.intro hz1 hz2)))
  clear hi' hz0 hz1 hz2
  go_enter Tryd.func9, Tryd.ntmps9
  go_wp2_with fail
  go_loopw [5, 6] (fun v i wr => ∃ k : Nat, i = .int .i64 k ∧ Hid (RL s w v k wr)) (fun _ i _ => meas s.size i)
  case atStart => exact ⟨0, rfl, Lib.hid ⟨[], On.start _, World.ownsRow_nil _ _ _ _, Below.refl _ _⟩⟩
  case round =>
    obtain ⟨k, rfl, hR⟩ := hrel
    obtain ⟨ts, hon, hown, hbw⟩ := hR.out
    clear hR
    have hkle : k ≤ s.size := by have := hon.le; rw [bl_len] at this; exact this
    have hts : ts.length ≤ k := hon.len
    have hbase : w.heap.size ≤ wr.heap.size := hbw.size
    have HON := Lib.hid hon
    have HOWN := Lib.hid hown
    have HBW := Lib.hid hbw
    clear hon hown hbw
    by_cases hk : k < s.size
    · have hk' : k < (bl s).length := by rw [bl_len]; exact hk
      obtain ⟨c, hc⟩ : ∃ c, s[k]'hk = c := ⟨_, rfl⟩
      have hd : (bl s).drop k = c :: (bl s).drop (k + 1) := by rw [bl_drop s _ hk, ← get_get s _ hk, hc]
      have HD := Lib.hid hd
      clear hd
      cases hb : blankB c
      · cases h37 : (c == 37)
        · have HC := Lib.hid (item_cases (r := (bl s).drop (k + 1)) hb h37)
          rw [← HD.out] at HC
          obtain ⟨b1, b2, b3, b4⟩ := blank_split hb
          have q32 : (((c.toNat : Nat) : Int) == 32) = false := (ask c 32).trans b1
          have q9 : (((c.toNat : Nat) : Int) == 9) = false := (ask c 9).trans b2
          have q10 : (((c.toNat : Nat) : Int) == 10) = false := (ask c 10).trans b3
          have q13 : (((c.toNat : Nat) : Int) == 13) = false := (ask c 13).trans b4
          have q37 : (((c.toNat : Nat) : Int) == 37) = false := (ask c 37).trans h37
          clear b1 b2 b3 b4 hb h37
          have C1 := Lib.hid (refWord s k wr (by omega) hkle)
          have C2 := Lib.hid (refNumber s k wr (by omega) hk)
          rcases HC.out with ⟨hw, hi⟩ | ⟨hw, hr, hi⟩ | ⟨hw, n, z, hn, hr, hi⟩ | ⟨hw, hr, hi⟩
          · have HI2 := Lib.hid hi
            have hle := (HON.out.next hk' hi).2.1
            rw [bl_len] at hle
            clear HC C2 hi
            generalize wordN ((bl s).drop k) = n at C1 hw HI2 hle
            go_wp2_with fail
            refine C1.out.mono ?_
            rintro e w1 ⟨rfl, rfl⟩
            have hsl := slice_at s k n hle
            go_wp2_with (at_builtin; refine wpList_append_own _ rfl _ _ 26 rfl w.heap.size 43 i0 (.agg #[.int .i64 0, .string ⟨#[]⟩, .int .i64 0, .int .i64 0]) 4 40 Tryd.underlying26 HI.out.1 HI.out.2.1 HI.out.2.2.1 HI.out.2.2.2 rfl (by decide) _ _ _ rfl (HOWN.out.alloc _) ⟨_, 0, none⟩ 1 1 [.int .i64 1, .string (s.extract k (k + n)), .int .i64 0, .int .i64 (k : Nat)] rfl rfl ?c1 ?c2 ?c3 ?c4 ?c5 ?_)
            case c1 => exact fun j u hj => new_cells _ 43 _ _ _ _ j u hj
            case c2 =>
              intro u hu
              simp at hu
              rcases hu with rfl | rfl | rfl | rfl <;> rfl
            case c3 => unfold maxLen; omega
            case c4 => omega
            case c5 => simp; omega
            intro v' w3 hown' hgrow _
            obtain ⟨hn0, -, hRL⟩ := RL.more (kind := 1) (n := n) hk HON.out HOWN.out HBW.out HI2.out hown' hgrow
            have HRL := Lib.hid hRL
            clear hRL hown' hgrow
            go_wp2_with fail
            go_roundw
            case rel => exact ⟨k + n, by go_num, HRL⟩
            case measure => simp [meas, intOf]; omega
          · have HE := Lib.hid (HON.out.bad hk' hi)
            rw [hr] at C2
            rw [hw] at C1
            clear HC hi
            go_wp2_with fail
            refine C1.out.mono ?_
            rintro e w1 ⟨rfl, rfl⟩
            go_wp2_with fail
            refine C2.out.mono ?_
            rintro e w2 ⟨rfl, rfl⟩
            go_wp2_with fail
            go_ret3
            rw [HE.out]
            exact ⟨_, rfl, World.ownsRow_nil _ _ _ _, HBW.out⟩
          · have HI2 := Lib.hid hi
            have hle := (HON.out.next hk' hi).2.1
            rw [bl_len] at hle
            rw [hr] at C2
            rw [hw] at C1
            clear HC hi
            go_wp2_with fail
            refine C1.out.mono ?_
            rintro e w1 ⟨rfl, rfl⟩
            go_wp2_with fail
            refine C2.out.mono ?_
            rintro e w2 ⟨rfl, rfl⟩
            have hsl := slice_at s k n hle
            go_wp2_with (at_builtin; refine wpList_append_own _ rfl _ _ 26 rfl w.heap.size 43 i0 (.agg #[.int .i64 0, .string ⟨#[]⟩, .int .i64 0, .int .i64 0]) 4 40 Tryd.underlying26 HI.out.1 HI.out.2.1 HI.out.2.2.1 HI.out.2.2.2 rfl (by decide) _ _ _ rfl (HOWN.out.alloc _) ⟨_, 0, none⟩ 1 1 [.int .i64 2, .string (s.extract k (k + n)), .int .i64 z, .int .i64 (k : Nat)] rfl rfl ?c1 ?c2 ?c3 ?c4 ?c5 ?_)
            case c1 => exact fun j u hj => new_cells _ 43 _ _ _ _ j u hj
            case c2 =>
              intro u hu
              simp at hu
              rcases hu with rfl | rfl | rfl | rfl <;> rfl
            case c3 => unfold maxLen; omega
            case c4 => omega
            case c5 => simp; omega
            intro v' w3 hown' hgrow _
            obtain ⟨hn0, -, hRL⟩ := RL.more (kind := 2) (n := n) hk HON.out HOWN.out HBW.out HI2.out hown' hgrow
            have HRL := Lib.hid hRL
            clear hRL hown' hgrow
            go_wp2_with fail
            go_roundw
            case rel => exact ⟨k + n, by go_num, HRL⟩
            case measure => simp [meas, intOf]; omega
          · rw [hr] at C2
            rw [hw] at C1
            clear HC hw hr
            rw [HD.out] at hi
            cases hsg : signB c
            · obtain ⟨s1, s2, s3, s4, s5, s6, s7, s8, s9⟩ := sign_split hsg
              have q40 : (((c.toNat : Nat) : Int) == 40) = false := (ask c 40).trans s1
              have q41 : (((c.toNat : Nat) : Int) == 41) = false := (ask c 41).trans s2
              have q91 : (((c.toNat : Nat) : Int) == 91) = false := (ask c 91).trans s3
              have q93 : (((c.toNat : Nat) : Int) == 93) = false := (ask c 93).trans s4
              have q123 : (((c.toNat : Nat) : Int) == 123) = false := (ask c 123).trans s5
              have q125 : (((c.toNat : Nat) : Int) == 125) = false := (ask c 125).trans s6
              have q44 : (((c.toNat : Nat) : Int) == 44) = false := (ask c 44).trans s7
              have q59 : (((c.toNat : Nat) : Int) == 59) = false := (ask c 59).trans s8
              have q58 : (((c.toNat : Nat) : Int) == 58) = false := (ask c 58).trans s9
              clear s1 s2 s3 s4 s5 s6 s7 s8 s9
              cases h46 : (c == 46)
              · have q46 : (((c.toNat : Nat) : Int) == 46) = false := (ask c 46).trans h46
                have hi2 : item ((bl s).drop k) = .bad 6 := by
                  rw [HD.out, hi, sigN, h46, hsg]
                  rfl
                have HE := Lib.hid (HON.out.bad hk' hi2)
                clear hi hi2 hsg h46
                go_wp2_with fail
                refine C1.out.mono ?_
                rintro e w1 ⟨rfl, rfl⟩
                go_wp2_with fail
                refine C2.out.mono ?_
                rintro e w2 ⟨rfl, rfl⟩
                go_wp2_with fail
                go_ret3
                rw [HE.out]
                exact ⟨_, rfl, World.ownsRow_nil _ _ _ _, HBW.out⟩
              · have q46 : (((c.toNat : Nat) : Int) == 46) = true := (ask c 46).trans h46
                by_cases hk2 : k + 1 < s.size
                · obtain ⟨d, hdd⟩ : ∃ d, s[k + 1]'hk2 = d := ⟨_, rfl⟩
                  have hd2 : (bl s).drop (k + 1) = d :: (bl s).drop (k + 2) := by rw [bl_drop s _ hk2, ← get_get s _ hk2, hdd]
                  cases h46d : (d == 46)
                  · have q46d : (((d.toNat : Nat) : Int) == 46) = false := (ask d 46).trans h46d
                    have hi2 : item ((bl s).drop k) = .bad 6 := by
                      rw [HD.out, hi, sigN, h46, hsg, hd2, List.head?_cons, show (some d == some 46) = (d == 46) from rfl, h46d]
                      rfl
                    have HE := Lib.hid (HON.out.bad hk' hi2)
                    clear hi hi2 hsg h46 hd2 h46d
                    go_wp2_with fail
                    refine C1.out.mono ?_
                    rintro e w1 ⟨rfl, rfl⟩
                    go_wp2_with fail
                    refine C2.out.mono ?_
                    rintro e w2 ⟨rfl, rfl⟩
                    go_wp2_with fail
                    go_ret3
                    rw [HE.out]
                    exact ⟨_, rfl, World.ownsRow_nil _ _ _ _, HBW.out⟩
                  · have q46d : (((d.toNat : Nat) : Int) == 46) = true := (ask d 46).trans h46d
                    have HI2 : Hid (item ((bl s).drop k) = .tok 3 2 0) := by
                      refine Lib.hid ?_
                      rw [HD.out, hi, sigN, h46, hsg, hd2, List.head?_cons, show (some d == some 46) = (d == 46) from rfl, h46d]
                      rfl
                    have hle : k + 2 ≤ s.size := by omega
                    clear hi hsg h46 hd2 h46d
                    go_wp2_with fail
                    refine C1.out.mono ?_
                    rintro e w1 ⟨rfl, rfl⟩
                    go_wp2_with fail
                    refine C2.out.mono ?_
                    rintro e w2 ⟨rfl, rfl⟩
                    have hsl : ∀ W, (Instr.slice 9 (.string s) (some (.int .i64 ((k : Nat) : Int))) (some (.int .i64 (((k : Nat) : Int) + 2))) none).run Tryd.prog W = .ok (.string (s.extract k (k + 2))) W := fun W => slice_at s k 2 hle W
                    go_wp2_with (at_builtin; refine wpList_append_own _ rfl _ _ 26 rfl w.heap.size 43 i0 (.agg #[.int .i64 0, .string ⟨#[]⟩, .int .i64 0, .int .i64 0]) 4 40 Tryd.underlying26 HI.out.1 HI.out.2.1 HI.out.2.2.1 HI.out.2.2.2 rfl (by decide) _ _ _ rfl (HOWN.out.alloc _) ⟨_, 0, none⟩ 1 1 [.int .i64 3, .string (s.extract k (k + 2)), .int .i64 0, .int .i64 (k : Nat)] rfl rfl ?c1 ?c2 ?c3 ?c4 ?c5 ?_)
                    case c1 => exact fun j u hj => new_cells _ 43 _ _ _ _ j u hj
                    case c2 =>
                      intro u hu
                      simp at hu
                      rcases hu with rfl | rfl | rfl | rfl <;> rfl
                    case c3 => unfold maxLen; omega
                    case c4 => omega
                    case c5 => simp; omega
                    intro v' w3 hown' hgrow _
                    obtain ⟨hn0, -, hRL⟩ := RL.more (kind := 3) (n := 2) hk HON.out HOWN.out HBW.out HI2.out hown' hgrow
                    have HRL := Lib.hid hRL
                    clear hRL hown' hgrow
                    go_wp2_with fail
                    go_roundw
                    case rel => exact ⟨k + 2, by go_num, HRL⟩
                    case measure => simp [meas, intOf]; omega
                · have hi2 : item ((bl s).drop k) = .bad 6 := by
                    rw [HD.out, hi, sigN, h46, hsg, List.drop_of_length_le (by rw [bl_len]; omega)]
                    rfl
                  have HE := Lib.hid (HON.out.bad hk' hi2)
                  clear hi hi2 hsg h46
                  go_wp2_with fail
                  refine C1.out.mono ?_
                  rintro e w1 ⟨rfl, rfl⟩
                  go_wp2_with fail
                  refine C2.out.mono ?_
                  rintro e w2 ⟨rfl, rfl⟩
                  go_wp2_with fail
                  go_ret3
                  rw [HE.out]
                  exact ⟨_, rfl, World.ownsRow_nil _ _ _ _, HBW.out⟩
            · have h46 : (c == 46) = false := by
                rw [beq_eq_false_iff_ne]
                rintro rfl
                revert hsg
                decide
              have q46 : (((c.toNat : Nat) : Int) == 46) = false := (ask c 46).trans h46
              have HI2 : Hid (item ((bl s).drop k) = .tok 3 1 0) := by
                refine Lib.hid ?_
                rw [HD.out, hi, sigN, h46, hsg]
                rfl
              have hle : k + 1 ≤ s.size := by omega
              have hsg' := hsg
              unfold signB at hsg'
              clear hi h46 hsg
              cases s1 : (c == 40)
              · cases s2 : (c == 41)
                · cases s3 : (c == 91)
                  · cases s4 : (c == 93)
                    · cases s5 : (c == 123)
                      · cases s6 : (c == 125)
                        · cases s7 : (c == 44)
                          · cases s8 : (c == 59)
                            · cases s9 : (c == 58)
                              · rw [s1, s2, s3, s4, s5, s6, s7, s8, s9] at hsg'
                                cases hsg'
                              · have q40 : (((c.toNat : Nat) : Int) == 40) = false := (ask c 40).trans s1
                                have q41 : (((c.toNat : Nat) : Int) == 41) = false := (ask c 41).trans s2
                                have q91 : (((c.toNat : Nat) : Int) == 91) = false := (ask c 91).trans s3
                                have q93 : (((c.toNat : Nat) : Int) == 93) = false := (ask c 93).trans s4
                                have q123 : (((c.toNat : Nat) : Int) == 123) = false := (ask c 123).trans s5
                                have q125 : (((c.toNat : Nat) : Int) == 125) = false := (ask c 125).trans s6
                                have q44 : (((c.toNat : Nat) : Int) == 44) = false := (ask c 44).trans s7
                                have q59 : (((c.toNat : Nat) : Int) == 59) = false := (ask c 59).trans s8
                                have q58 : (((c.toNat : Nat) : Int) == 58) = true := (ask c 58).trans s9
                                clear s1 s2 s3 s4 s5 s6 s7 s8 s9 hsg'
                                go_wp2_with fail
                                refine C1.out.mono ?_
                                rintro e w1 ⟨rfl, rfl⟩
                                go_wp2_with fail
                                refine C2.out.mono ?_
                                rintro e w2 ⟨rfl, rfl⟩
                                have hsl : ∀ W, (Instr.slice 9 (.string s) (some (.int .i64 ((k : Nat) : Int))) (some (.int .i64 (((k : Nat) : Int) + 1))) none).run Tryd.prog W = .ok (.string (s.extract k (k + 1))) W := fun W => slice_at s k 1 hle W
                                go_wp2_with (at_builtin; refine wpList_append_own _ rfl _ _ 26 rfl w.heap.size 43 i0 (.agg #[.int .i64 0, .string ⟨#[]⟩, .int .i64 0, .int .i64 0]) 4 40 Tryd.underlying26 HI.out.1 HI.out.2.1 HI.out.2.2.1 HI.out.2.2.2 rfl (by decide) _ _ _ rfl (HOWN.out.alloc _) ⟨_, 0, none⟩ 1 1 [.int .i64 3, .string (s.extract k (k + 1)), .int .i64 0, .int .i64 (k : Nat)] rfl rfl ?c1 ?c2 ?c3 ?c4 ?c5 ?_)
                                case c1 => exact fun j u hj => new_cells _ 43 _ _ _ _ j u hj
                                case c2 =>
                                  intro u hu
                                  simp at hu
                                  rcases hu with rfl | rfl | rfl | rfl <;> rfl
                                case c3 => unfold maxLen; omega
                                case c4 => omega
                                case c5 => simp; omega
                                intro v' w3 hown' hgrow _
                                obtain ⟨hn0, -, hRL⟩ := RL.more (kind := 3) (n := 1) hk HON.out HOWN.out HBW.out HI2.out hown' hgrow
                                have HRL := Lib.hid hRL
                                clear hRL hown' hgrow
                                go_wp2_with fail
                                go_roundw
                                case rel => exact ⟨k + 1, by go_num, HRL⟩
                                case measure => simp [meas, intOf]; omega
                            · have q40 : (((c.toNat : Nat) : Int) == 40) = false := (ask c 40).trans s1
                              have q41 : (((c.toNat : Nat) : Int) == 41) = false := (ask c 41).trans s2
                              have q91 : (((c.toNat : Nat) : Int) == 91) = false := (ask c 91).trans s3
                              have q93 : (((c.toNat : Nat) : Int) == 93) = false := (ask c 93).trans s4
                              have q123 : (((c.toNat : Nat) : Int) == 123) = false := (ask c 123).trans s5
                              have q125 : (((c.toNat : Nat) : Int) == 125) = false := (ask c 125).trans s6
                              have q44 : (((c.toNat : Nat) : Int) == 44) = false := (ask c 44).trans s7
                              have q59 : (((c.toNat : Nat) : Int) == 59) = true := (ask c 59).trans s8
                              clear s1 s2 s3 s4 s5 s6 s7 s8 hsg'
                              go_wp2_with fail
                              refine C1.out.mono ?_
                              rintro e w1 ⟨rfl, rfl⟩
                              go_wp2_with fail
                              refine C2.out.mono ?_
                              rintro e w2 ⟨rfl, rfl⟩
                              have hsl : ∀ W, (Instr.slice 9 (.string s) (some (.int .i64 ((k : Nat) : Int))) (some (.int .i64 (((k : Nat) : Int) + 1))) none).run Tryd.prog W = .ok (.string (s.extract k (k + 1))) W := fun W => slice_at s k 1 hle W
                              go_wp2_with (at_builtin; refine wpList_append_own _ rfl _ _ 26 rfl w.heap.size 43 i0 (.agg #[.int .i64 0, .string ⟨#[]⟩, .int .i64 0, .int .i64 0]) 4 40 Tryd.underlying26 HI.out.1 HI.out.2.1 HI.out.2.2.1 HI.out.2.2.2 rfl (by decide) _ _ _ rfl (HOWN.out.alloc _) ⟨_, 0, none⟩ 1 1 [.int .i64 3, .string (s.extract k (k + 1)), .int .i64 0, .int .i64 (k : Nat)] rfl rfl ?c1 ?c2 ?c3 ?c4 ?c5 ?_)
                              case c1 => exact fun j u hj => new_cells _ 43 _ _ _ _ j u hj
                              case c2 =>
                                intro u hu
                                simp at hu
                                rcases hu with rfl | rfl | rfl | rfl <;> rfl
                              case c3 => unfold maxLen; omega
                              case c4 => omega
                              case c5 => simp; omega
                              intro v' w3 hown' hgrow _
                              obtain ⟨hn0, -, hRL⟩ := RL.more (kind := 3) (n := 1) hk HON.out HOWN.out HBW.out HI2.out hown' hgrow
                              have HRL := Lib.hid hRL
                              clear hRL hown' hgrow
                              go_wp2_with fail
                              go_roundw
                              case rel => exact ⟨k + 1, by go_num, HRL⟩
                              case measure => simp [meas, intOf]; omega
                          · have q40 : (((c.toNat : Nat) : Int) == 40) = false := (ask c 40).trans s1
                            have q41 : (((c.toNat : Nat) : Int) == 41) = false := (ask c 41).trans s2
                            have q91 : (((c.toNat : Nat) : Int) == 91) = false := (ask c 91).trans s3
                            have q93 : (((c.toNat : Nat) : Int) == 93) = false := (ask c 93).trans s4
                            have q123 : (((c.toNat : Nat) : Int) == 123) = false := (ask c 123).trans s5
                            have q125 : (((c.toNat : Nat) : Int) == 125) = false := (ask c 125).trans s6
                            have q44 : (((c.toNat : Nat) : Int) == 44) = true := (ask c 44).trans s7
                            clear s1 s2 s3 s4 s5 s6 s7 hsg'
                            go_wp2_with fail
                            refine C1.out.mono ?_
                            rintro e w1 ⟨rfl, rfl⟩
                            go_wp2_with fail
                            refine C2.out.mono ?_
                            rintro e w2 ⟨rfl, rfl⟩
                            have hsl : ∀ W, (Instr.slice 9 (.string s) (some (.int .i64 ((k : Nat) : Int))) (some (.int .i64 (((k : Nat) : Int) + 1))) none).run Tryd.prog W = .ok (.string (s.extract k (k + 1))) W := fun W => slice_at s k 1 hle W
                            go_wp2_with (at_builtin; refine wpList_append_own _ rfl _ _ 26 rfl w.heap.size 43 i0 (.agg #[.int .i64 0, .string ⟨#[]⟩, .int .i64 0, .int .i64 0]) 4 40 Tryd.underlying26 HI.out.1 HI.out.2.1 HI.out.2.2.1 HI.out.2.2.2 rfl (by decide) _ _ _ rfl (HOWN.out.alloc _) ⟨_, 0, none⟩ 1 1 [.int .i64 3, .string (s.extract k (k + 1)), .int .i64 0, .int .i64 (k : Nat)] rfl rfl ?c1 ?c2 ?c3 ?c4 ?c5 ?_)
                            case c1 => exact fun j u hj => new_cells _ 43 _ _ _ _ j u hj
                            case c2 =>
                              intro u hu
                              simp at hu
                              rcases hu with rfl | rfl | rfl | rfl <;> rfl
                            case c3 => unfold maxLen; omega
                            case c4 => omega
                            case c5 => simp; omega
                            intro v' w3 hown' hgrow _
                            obtain ⟨hn0, -, hRL⟩ := RL.more (kind := 3) (n := 1) hk HON.out HOWN.out HBW.out HI2.out hown' hgrow
                            have HRL := Lib.hid hRL
                            clear hRL hown' hgrow
                            go_wp2_with fail
                            go_roundw
                            case rel => exact ⟨k + 1, by go_num, HRL⟩
                            case measure => simp [meas, intOf]; omega
                        · have q40 : (((c.toNat : Nat) : Int) == 40) = false := (ask c 40).trans s1
                          have q41 : (((c.toNat : Nat) : Int) == 41) = false := (ask c 41).trans s2
                          have q91 : (((c.toNat : Nat) : Int) == 91) = false := (ask c 91).trans s3
                          have q93 : (((c.toNat : Nat) : Int) == 93) = false := (ask c 93).trans s4
                          have q123 : (((c.toNat : Nat) : Int) == 123) = false := (ask c 123).trans s5
                          have q125 : (((c.toNat : Nat) : Int) == 125) = true := (ask c 125).trans s6
                          clear s1 s2 s3 s4 s5 s6 hsg'
                          go_wp2_with fail
                          refine C1.out.mono ?_
                          rintro e w1 ⟨rfl, rfl⟩
                          go_wp2_with fail
                          refine C2.out.mono ?_
                          rintro e w2 ⟨rfl, rfl⟩
                          have hsl : ∀ W, (Instr.slice 9 (.string s) (some (.int .i64 ((k : Nat) : Int))) (some (.int .i64 (((k : Nat) : Int) + 1))) none).run Tryd.prog W = .ok (.string (s.extract k (k + 1))) W := fun W => slice_at s k 1 hle W
                          go_wp2_with (at_builtin; refine wpList_append_own _ rfl _ _ 26 rfl w.heap.size 43 i0 (.agg #[.int .i64 0, .string ⟨#[]⟩, .int .i64 0, .int .i64 0]) 4 40 Tryd.underlying26 HI.out.1 HI.out.2.1 HI.out.2.2.1 HI.out.2.2.2 rfl (by decide) _ _ _ rfl (HOWN.out.alloc _) ⟨_, 0, none⟩ 1 1 [.int .i64 3, .string (s.extract k (k + 1)), .int .i64 0, .int .i64 (k : Nat)] rfl rfl ?c1 ?c2 ?c3 ?c4 ?c5 ?_)
                          case c1 => exact fun j u hj => new_cells _ 43 _ _ _ _ j u hj
                          case c2 =>
                            intro u hu
                            simp at hu
                            rcases hu with rfl | rfl | rfl | rfl <;> rfl
                          case c3 => unfold maxLen; omega
                          case c4 => omega
                          case c5 => simp; omega
                          intro v' w3 hown' hgrow _
                          obtain ⟨hn0, -, hRL⟩ := RL.more (kind := 3) (n := 1) hk HON.out HOWN.out HBW.out HI2.out hown' hgrow
                          have HRL := Lib.hid hRL
                          clear hRL hown' hgrow
                          go_wp2_with fail
                          go_roundw
                          case rel => exact ⟨k + 1, by go_num, HRL⟩
                          case measure => simp [meas, intOf]; omega
                      · have q40 : (((c.toNat : Nat) : Int) == 40) = false := (ask c 40).trans s1
                        have q41 : (((c.toNat : Nat) : Int) == 41) = false := (ask c 41).trans s2
                        have q91 : (((c.toNat : Nat) : Int) == 91) = false := (ask c 91).trans s3
                        have q93 : (((c.toNat : Nat) : Int) == 93) = false := (ask c 93).trans s4
                        have q123 : (((c.toNat : Nat) : Int) == 123) = true := (ask c 123).trans s5
                        clear s1 s2 s3 s4 s5 hsg'
                        go_wp2_with fail
                        refine C1.out.mono ?_
                        rintro e w1 ⟨rfl, rfl⟩
                        go_wp2_with fail
                        refine C2.out.mono ?_
                        rintro e w2 ⟨rfl, rfl⟩
                        have hsl : ∀ W, (Instr.slice 9 (.string s) (some (.int .i64 ((k : Nat) : Int))) (some (.int .i64 (((k : Nat) : Int) + 1))) none).run Tryd.prog W = .ok (.string (s.extract k (k + 1))) W := fun W => slice_at s k 1 hle W
                        go_wp2_with (at_builtin; refine wpList_append_own _ rfl _ _ 26 rfl w.heap.size 43 i0 (.agg #[.int .i64 0, .string ⟨#[]⟩, .int .i64 0, .int .i64 0]) 4 40 Tryd.underlying26 HI.out.1 HI.out.2.1 HI.out.2.2.1 HI.out.2.2.2 rfl (by decide) _ _ _ rfl (HOWN.out.alloc _) ⟨_, 0, none⟩ 1 1 [.int .i64 3, .string (s.extract k (k + 1)), .int .i64 0, .int .i64 (k : Nat)] rfl rfl ?c1 ?c2 ?c3 ?c4 ?c5 ?_)
                        case c1 => exact fun j u hj => new_cells _ 43 _ _ _ _ j u hj
                        case c2 =>
                          intro u hu
                          simp at hu
                          rcases hu with rfl | rfl | rfl | rfl <;> rfl
                        case c3 => unfold maxLen; omega
                        case c4 => omega
                        case c5 => simp; omega
                        intro v' w3 hown' hgrow _
                        obtain ⟨hn0, -, hRL⟩ := RL.more (kind := 3) (n := 1) hk HON.out HOWN.out HBW.out HI2.out hown' hgrow
                        have HRL := Lib.hid hRL
                        clear hRL hown' hgrow
                        go_wp2_with fail
                        go_roundw
                        case rel => exact ⟨k + 1, by go_num, HRL⟩
                        case measure => simp [meas, intOf]; omega
                    · have q40 : (((c.toNat : Nat) : Int) == 40) = false := (ask c 40).trans s1
                      have q41 : (((c.toNat : Nat) : Int) == 41) = false := (ask c 41).trans s2
                      have q91 : (((c.toNat : Nat) : Int) == 91) = false := (ask c 91).trans s3
                      have q93 : (((c.toNat : Nat) : Int) == 93) = true := (ask c 93).trans s4
                      clear s1 s2 s3 s4 hsg'
                      go_wp2_with fail
                      refine C1.out.mono ?_
                      rintro e w1 ⟨rfl, rfl⟩
                      go_wp2_with fail
                      refine C2.out.mono ?_
                      rintro e w2 ⟨rfl, rfl⟩
                      have hsl : ∀ W, (Instr.slice 9 (.string s) (some (.int .i64 ((k : Nat) : Int))) (some (.int .i64 (((k : Nat) : Int) + 1))) none).run Tryd.prog W = .ok (.string (s.extract k (k + 1))) W := fun W => slice_at s k 1 hle W
                      go_wp2_with (at_builtin; refine wpList_append_own _ rfl _ _ 26 rfl w.heap.size 43 i0 (.agg #[.int .i64 0, .string ⟨#[]⟩, .int .i64 0, .int .i64 0]) 4 40 Tryd.underlying26 HI.out.1 HI.out.2.1 HI.out.2.2.1 HI.out.2.2.2 rfl (by decide) _ _ _ rfl (HOWN.out.alloc _) ⟨_, 0, none⟩ 1 1 [.int .i64 3, .string (s.extract k (k + 1)), .int .i64 0, .int .i64 (k : Nat)] rfl rfl ?c1 ?c2 ?c3 ?c4 ?c5 ?_)
                      case c1 => exact fun j u hj => new_cells _ 43 _ _ _ _ j u hj
                      case c2 =>
                        intro u hu
                        simp at hu
                        rcases hu with rfl | rfl | rfl | rfl <;> rfl
                      case c3 => unfold maxLen; omega
                      case c4 => omega
                      case c5 => simp; omega
                      intro v' w3 hown' hgrow _
                      obtain ⟨hn0, -, hRL⟩ := RL.more (kind := 3) (n := 1) hk HON.out HOWN.out HBW.out HI2.out hown' hgrow
                      have HRL := Lib.hid hRL
                      clear hRL hown' hgrow
                      go_wp2_with fail
                      go_roundw
                      case rel => exact ⟨k + 1, by go_num, HRL⟩
                      case measure => simp [meas, intOf]; omega
                  · have q40 : (((c.toNat : Nat) : Int) == 40) = false := (ask c 40).trans s1
                    have q41 : (((c.toNat : Nat) : Int) == 41) = false := (ask c 41).trans s2
                    have q91 : (((c.toNat : Nat) : Int) == 91) = true := (ask c 91).trans s3
                    clear s1 s2 s3 hsg'
                    go_wp2_with fail
                    refine C1.out.mono ?_
                    rintro e w1 ⟨rfl, rfl⟩
                    go_wp2_with fail
                    refine C2.out.mono ?_
                    rintro e w2 ⟨rfl, rfl⟩
                    have hsl : ∀ W, (Instr.slice 9 (.string s) (some (.int .i64 ((k : Nat) : Int))) (some (.int .i64 (((k : Nat) : Int) + 1))) none).run Tryd.prog W = .ok (.string (s.extract k (k + 1))) W := fun W => slice_at s k 1 hle W
                    go_wp2_with (at_builtin; refine wpList_append_own _ rfl _ _ 26 rfl w.heap.size 43 i0 (.agg #[.int .i64 0, .string ⟨#[]⟩, .int .i64 0, .int .i64 0]) 4 40 Tryd.underlying26 HI.out.1 HI.out.2.1 HI.out.2.2.1 HI.out.2.2.2 rfl (by decide) _ _ _ rfl (HOWN.out.alloc _) ⟨_, 0, none⟩ 1 1 [.int .i64 3, .string (s.extract k (k + 1)), .int .i64 0, .int .i64 (k : Nat)] rfl rfl ?c1 ?c2 ?c3 ?c4 ?c5 ?_)
                    case c1 => exact fun j u hj => new_cells _ 43 _ _ _ _ j u hj
                    case c2 =>
                      intro u hu
                      simp at hu
                      rcases hu with rfl | rfl | rfl | rfl <;> rfl
                    case c3 => unfold maxLen; omega
                    case c4 => omega
                    case c5 => simp; omega
                    intro v' w3 hown' hgrow _
                    obtain ⟨hn0, -, hRL⟩ := RL.more (kind := 3) (n := 1) hk HON.out HOWN.out HBW.out HI2.out hown' hgrow
                    have HRL := Lib.hid hRL
                    clear hRL hown' hgrow
                    go_wp2_with fail
                    go_roundw
                    case rel => exact ⟨k + 1, by go_num, HRL⟩
                    case measure => simp [meas, intOf]; omega
                · have q40 : (((c.toNat : Nat) : Int) == 40) = false := (ask c 40).trans s1
                  have q41 : (((c.toNat : Nat) : Int) == 41) = true := (ask c 41).trans s2
                  clear s1 s2 hsg'
                  go_wp2_with fail
                  refine C1.out.mono ?_
                  rintro e w1 ⟨rfl, rfl⟩
                  go_wp2_with fail
                  refine C2.out.mono ?_
                  rintro e w2 ⟨rfl, rfl⟩
                  have hsl : ∀ W, (Instr.slice 9 (.string s) (some (.int .i64 ((k : Nat) : Int))) (some (.int .i64 (((k : Nat) : Int) + 1))) none).run Tryd.prog W = .ok (.string (s.extract k (k + 1))) W := fun W => slice_at s k 1 hle W
                  go_wp2_with (at_builtin; refine wpList_append_own _ rfl _ _ 26 rfl w.heap.size 43 i0 (.agg #[.int .i64 0, .string ⟨#[]⟩, .int .i64 0, .int .i64 0]) 4 40 Tryd.underlying26 HI.out.1 HI.out.2.1 HI.out.2.2.1 HI.out.2.2.2 rfl (by decide) _ _ _ rfl (HOWN.out.alloc _) ⟨_, 0, none⟩ 1 1 [.int .i64 3, .string (s.extract k (k + 1)), .int .i64 0, .int .i64 (k : Nat)] rfl rfl ?c1 ?c2 ?c3 ?c4 ?c5 ?_)
                  case c1 => exact fun j u hj => new_cells _ 43 _ _ _ _ j u hj
                  case c2 =>
                    intro u hu
                    simp at hu
                    rcases hu with rfl | rfl | rfl | rfl <;> rfl
                  case c3 => unfold maxLen; omega
                  case c4 => omega
                  case c5 => simp; omega
                  intro v' w3 hown' hgrow _
                  obtain ⟨hn0, -, hRL⟩ := RL.more (kind := 3) (n := 1) hk HON.out HOWN.out HBW.out HI2.out hown' hgrow
                  have HRL := Lib.hid hRL
                  clear hRL hown' hgrow
                  go_wp2_with fail
                  go_roundw
                  case rel => exact ⟨k + 1, by go_num, HRL⟩
                  case measure => simp [meas, intOf]; omega
              · have q40 : (((c.toNat : Nat) : Int) == 40) = true := (ask c 40).trans s1
                clear s1 hsg'
                go_wp2_with fail
                refine C1.out.mono ?_
                rintro e w1 ⟨rfl, rfl⟩
                go_wp2_with fail
                refine C2.out.mono ?_
                rintro e w2 ⟨rfl, rfl⟩
                have hsl : ∀ W, (Instr.slice 9 (.string s) (some (.int .i64 ((k : Nat) : Int))) (some (.int .i64 (((k : Nat) : Int) + 1))) none).run Tryd.prog W = .ok (.string (s.extract k (k + 1))) W := fun W => slice_at s k 1 hle W
                go_wp2_with (at_builtin; refine wpList_append_own _ rfl _ _ 26 rfl w.heap.size 43 i0 (.agg #[.int .i64 0, .string ⟨#[]⟩, .int .i64 0, .int .i64 0]) 4 40 Tryd.underlying26 HI.out.1 HI.out.2.1 HI.out.2.2.1 HI.out.2.2.2 rfl (by decide) _ _ _ rfl (HOWN.out.alloc _) ⟨_, 0, none⟩ 1 1 [.int .i64 3, .string (s.extract k (k + 1)), .int .i64 0, .int .i64 (k : Nat)] rfl rfl ?c1 ?c2 ?c3 ?c4 ?c5 ?_)
                case c1 => exact fun j u hj => new_cells _ 43 _ _ _ _ j u hj
                case c2 =>
                  intro u hu
                  simp at hu
                  rcases hu with rfl | rfl | rfl | rfl <;> rfl
                case c3 => unfold maxLen; omega
                case c4 => omega
                case c5 => simp; omega
                intro v' w3 hown' hgrow _
                obtain ⟨hn0, -, hRL⟩ := RL.more (kind := 3) (n := 1) hk HON.out HOWN.out HBW.out HI2.out hown' hgrow
                have HRL := Lib.hid hRL
                clear hRL hown' hgrow
                go_wp2_with fail
                go_roundw
                case rel => exact ⟨k + 1, by go_num, HRL⟩
                case measure => simp [meas, intOf]; omega
        · obtain ⟨b1, b2, b3, b4⟩ := blank_split hb
          have q32 : (((c.toNat : Nat) : Int) == 32) = false := (ask c 32).trans b1
          have q9 : (((c.toNat : Nat) : Int) == 9) = false := (ask c 9).trans b2
          have q10 : (((c.toNat : Nat) : Int) == 10) = false := (ask c 10).trans b3
          have q13 : (((c.toNat : Nat) : Int) == 13) = false := (ask c 13).trans b4
          have q37 : (((c.toNat : Nat) : Int) == 37) = true := (ask c 37).trans h37
          have hi : item ((bl s).drop k) = .skip (((bl s).drop k).takeWhile (· != 10)).length := by
            rw [HD.out, show c = 37 from by simpa using h37]
            exact com_len _
          have HSK := Lib.hid (HON.out.skip hk' hi)
          clear b1 b2 b3 b4 hb h37 hi
          obtain ⟨wo, hwo⟩ : ∃ wo, wo = wr := ⟨_, rfl⟩
          rw [← hwo] at HOWN HBW hbase
          rw [← hwo]
          clear hwo
          generalize hL : (((bl s).drop k).takeWhile (· != 10)).length = L at HSK
          have HL := Lib.hid hL
          clear hL
          go_wp2_with fail
          go_loopw [6] (fun i wx => ∃ j : Nat, i = .int .i64 ((k + j : Nat) : Int) ∧ Hid (k + j ≤ s.size ∧ L = j + (((bl s).drop (k + j)).takeWhile (· != 10)).length) ∧ Hid (wo = wx)) (fun i _ => meas s.size i)
          case atStart => exact ⟨0, by go_num, Lib.hid ⟨by omega, by rw [← HL.out]; simp⟩, by first | exact Lib.hid rfl | exact Lib.hid trivial⟩
          case round =>
            obtain ⟨j, rfl, hj, hw⟩ := hrel
            obtain rfl := hw.out
            clear hw
            have hjle := hj.out.1
            by_cases hjs : k + j < s.size
            · obtain ⟨d, hdd⟩ : ∃ d, s[k + j]'hjs = d := ⟨_, rfl⟩
              have hd2 : (bl s).drop (k + j) = d :: (bl s).drop (k + j + 1) := by rw [bl_drop s _ hjs, ← get_get s _ hjs, hdd]
              have hne : (((d.toNat : Nat) : Int) != 10) = (d != 10) := by unfold bne; rw [show (((d.toNat : Nat) : Int) == 10) = (d == 10) from ask d 10]
              cases h10 : (d != 10)
              · rw [h10] at hne
                have hLj : L = j := by
                  rw [hj.out.2, hd2, List.takeWhile_cons, if_neg (by rw [h10]; decide)]
                  rfl
                rw [hLj] at HSK
                have HRL : Hid (RL s w u5 (k + j) wo) := Lib.hid ⟨ts, HSK.out.2.2, HOWN.out, HBW.out⟩
                have hj0 : 0 < j := HSK.out.1
                clear hd2 h10 hLj
                go_wp2_with fail
                go_roundw
                case rel => exact ⟨k + j, by go_num, HRL⟩
                case measure => simp [meas, intOf]; omega
              · rw [h10] at hne
                have HJ : Hid (k + (j + 1) ≤ s.size ∧ L = (j + 1) + (((bl s).drop (k + (j + 1))).takeWhile (· != 10)).length) := by
                  refine Lib.hid ⟨by omega, ?_⟩
                  rw [hj.out.2, hd2, List.takeWhile_cons, if_pos h10, List.length_cons, Nat.add_assoc k j 1]
                  omega
                clear hd2 h10
                go_wp2_with fail
                go_roundw
                case rel => exact ⟨j + 1, by go_num, HJ, by first | exact Lib.hid rfl | exact Lib.hid trivial⟩
                case measure => simp [meas, intOf]; omega
            · have hLj : L = j := by
                rw [hj.out.2, List.drop_of_length_le (by rw [bl_len]; omega)]
                rfl
              rw [hLj] at HSK
              have HRL : Hid (RL s w u5 (k + j) wo) := Lib.hid ⟨ts, HSK.out.2.2, HOWN.out, HBW.out⟩
              have hj0 : 0 < j := HSK.out.1
              clear hLj
              go_wp2_with fail
              go_roundw
              case rel => exact ⟨k + j, by go_num, HRL⟩
              case measure => simp [meas, intOf]; omega
      · have hi : item ((bl s).drop k) = .skip 1 := by rw [HD.out, item_cons, if_pos hb]
        have HRL : Hid (RL s w u5 (k + 1) wr) := Lib.hid ⟨ts, (HON.out.skip hk' hi).2.2, HOWN.out, HBW.out⟩
        have hb' := hb
        unfold blankB at hb'
        clear hi hb
        cases b1 : (c == 32)
        · cases b2 : (c == 9)
          · cases b3 : (c == 10)
            · cases b4 : (c == 13)
              · rw [b1, b2, b3, b4] at hb'
                cases hb'
              · have q32 : (((c.toNat : Nat) : Int) == 32) = false := (ask c 32).trans b1
                have q9 : (((c.toNat : Nat) : Int) == 9) = false := (ask c 9).trans b2
                have q10 : (((c.toNat : Nat) : Int) == 10) = false := (ask c 10).trans b3
                have q13 : (((c.toNat : Nat) : Int) == 13) = true := (ask c 13).trans b4
                clear b1 b2 b3 b4 hb'
                go_wp2_with fail
                go_roundw
                case rel => exact ⟨k + 1, by go_num, HRL⟩
                case measure => simp [meas, intOf]; omega
            · have q32 : (((c.toNat : Nat) : Int) == 32) = false := (ask c 32).trans b1
              have q9 : (((c.toNat : Nat) : Int) == 9) = false := (ask c 9).trans b2
              have q10 : (((c.toNat : Nat) : Int) == 10) = true := (ask c 10).trans b3
              clear b1 b2 b3 hb'
              go_wp2_with fail
              go_roundw
              case rel => exact ⟨k + 1, by go_num, HRL⟩
              case measure => simp [meas, intOf]; omega
          · have q32 : (((c.toNat : Nat) : Int) == 32) = false := (ask c 32).trans b1
            have q9 : (((c.toNat : Nat) : Int) == 9) = true := (ask c 9).trans b2
            clear b1 b2 hb'
            go_wp2_with fail
            go_roundw
            case rel => exact ⟨k + 1, by go_num, HRL⟩
            case measure => simp [meas, intOf]; omega
        · have q32 : (((c.toNat : Nat) : Int) == 32) = true := (ask c 32).trans b1
          clear b1 hb'
          go_wp2_with fail
          go_roundw
          case rel => exact ⟨k + 1, by go_num, HRL⟩
          case measure => simp [meas, intOf]; omega
    · have HDN := Lib.hid (HON.out.done (by rw [bl_len]; omega))
      go_wp2_with fail
      go_ret3
      rw [HDN.out]
      exact ⟨_, rfl, HOWN.out, HBW.out⟩
end Go.Proofs.YtancjkanmjdkkaaDoor

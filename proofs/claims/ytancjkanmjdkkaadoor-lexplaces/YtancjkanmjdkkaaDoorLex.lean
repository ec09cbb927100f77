/- Lex: the tokens of a text. -/
import Derived.Test.YtancjkanmjdkkaaDoorFirst
import Derived.Test.YtancjkanmjdkkaaDoorToks
namespace Go.Proofs.YtancjkanmjdkkaaDoor
open Go.RowKit

theorem info33 : (Tryd.prog.info? 33).map (fun i => (i.zero, i.size, i.bytes)) = some (some (.agg #[.int .i64 0, .string ⟨#[]⟩, .int .i64 0, .int .i64 0]), 4, 40) := by kernel_rfl

theorem lex_long (s : ByteArray) (w : World) (h : 1048576 < s.size) (hs : s.size ≤ 9223372036854775807) :
    Calls Tryd.prog 8 #[.string s] w fun e w' => e = .returned (.tuple #[.slice none 0 0, .int .i64 1048576, .int .i64 13]) ∧ w = w' := by
  go_enter Tryd.func8, Tryd.ntmps8
  go_wp2_with fail
  go_ret3
  exact ⟨rfl, rfl⟩

/-- How far Lex is: what is told of the rest, and of the whole. -/
structure At (bs : Bs) (k : Nat) (ts : List Tok) : Prop where
  le : k ≤ bs.length
  len : ts.length ≤ k
  gap : gapN false (bs.drop k) = 0
  lex : lexL bs 0 = preL ts (lexL (bs.drop k) k)

theorem At.start (bs : Bs) : At bs (gapN false bs) [] := by
  refine ⟨gapN_le _ _, Nat.zero_le _, gap_none _ _, ?_⟩
  rw [preL_nil]
  have := lexL_gap bs 0
  rw [Nat.zero_add] at this
  exact this
theorem At.done {bs : Bs} {k : Nat} {ts : List Tok} (h : At bs k ts) (hk : bs.length ≤ k) : lexL bs 0 = .ok ts := by
  rw [h.lex, List.drop_of_length_le hk, lexL_nil]
  simp [preL]
theorem At.bad {bs : Bs} {k : Nat} {ts : List Tok} (h : At bs k ts) (hk : k < bs.length) {e : Int} (hi : item (bs.drop k) = .bad e) : lexL bs 0 = .error (k, e) := by
  rw [h.lex, lexL_bad (by simp; omega) hi]
  rfl
theorem At.next {bs : Bs} {k : Nat} {ts : List Tok} (h : At bs k ts) (hk : k < bs.length) {kind n : Nat} {v : Int} (hi : item (bs.drop k) = .tok kind n v) :
    0 < n ∧ k + n ≤ bs.length ∧ At bs (k + n + gapN false (bs.drop (k + n))) (ts ++ [⟨kind, (bs.drop k).take n, v, k⟩]) := by
  have hne : bs.drop k ≠ [] := by simp; omega
  obtain ⟨h1, h2⟩ := (item_pos hne).2 kind n v hi
  rw [List.length_drop] at h2
  have h3 := gapN_le (bs.drop (k + n)) false
  rw [List.length_drop] at h3
  have h4 := h.len
  refine ⟨h1, by omega, by omega, by rw [List.length_append, List.length_singleton]; omega, ?_, ?_⟩
  · rw [← List.drop_drop]
    exact gap_none _ _
  · rw [h.lex, lexL_tok hne hi, preL_pre, List.drop_drop, lexL_gap (bs.drop (k + n)), List.drop_drop]

set_option maxHeartbeats 4000000 in
set_option maxRecDepth 100000 in
theorem lex_short (s : ByteArray) (w : World) (h : s.size ≤ 1048576) :
    Calls Tryd.prog 8 #[.string s] w fun e w' => ∃ v, e = .returned (.tuple #[v, .int .i64 ((lexT (lexL (bl s) 0)).2.1 : Nat), .int .i64 (lexT (lexL (bl s) 0)).2.2]) ∧ w'.ownsRow w.heap.size 33 4 v (lexT (lexL (bl s) 0)).1.length (cellsL (lexT (lexL (bl s) 0)).1) ∧ Below w.heap.size w w' := by
  obtain ⟨i0, hi', hz0, hz1, hz2⟩ := info_parts info33
  have HI := Lib.hid (And.intro hi' (And.intro hz0 (And.intro hz1 hz2)))
  clear hi' hz0 hz1 hz2
  have C0 := Lib.hid (gap_any s w)
  have HA := Lib.hid (At.start (bl s))
  generalize gapN false (bl s) = k0 at C0 HA
  go_enter Tryd.func8, Tryd.ntmps8
  go_wp2_with fail
  refine C0.out.mono ?_
  rintro e w1 ⟨rfl, b1⟩
  have HB1 := Lib.hid b1
  clear b1 C0
  go_wp2_with fail
  go_loopw [5, 6] (fun v i wr => ∃ (k : Nat) (ts : List Tok), i = .int .i64 k ∧ At (bl s) k ts ∧ wr.ownsRow w.heap.size 33 4 v ts.length (cellsL ts) ∧ Below w.heap.size w wr) (fun _ i _ => s.size - (intOf i).toNat)
  case atStart => exact ⟨k0, [], rfl, HA.out, World.ownsRow_nil _ _ _ _, HB1.out⟩
  case round =>
    obtain ⟨k, ts, rfl, hat, hown, hbw⟩ := hrel
    have hkle : k ≤ s.size := by have := hat.le; rw [bl_len] at this; exact this
    have HAT := Lib.hid hat
    have HOWN := Lib.hid hown
    have HBW := Lib.hid hbw
    clear hat hown hbw HA HB1
    by_cases hk : k < s.size
    · have hk' : k < (bl s).length := by rw [bl_len]; exact hk
      have hbs : bl (s.extract k s.size) = (bl s).drop k := by
        rw [bl_extract, List.take_of_length_le]
        rw [List.length_drop, bl_len]
        exact Nat.le_refl _
      have C1 := Lib.hid (fun W => first_any (s.extract k s.size) W (by rw [← bl_len, hbs, List.length_drop, bl_len]; omega) (by rw [hbs]; simp; omega) (by rw [hbs]; exact HAT.out.gap))
      have HBS := Lib.hid hbs
      clear hbs
      go_wp2_with fail
      refine (C1.out _).mono ?_
      rintro e w2 ⟨kd, x, v, err, rfl, hf, b2⟩
      have HB2 := Lib.hid (HBW.out.trans (b2.mono HBW.out.size))
      have HOWN2 := Lib.hid (own_below HOWN.out b2)
      clear HBW HOWN b2
      rcases hf with ⟨n, hi, hx, rfl⟩ | ⟨er, hi, rfl, hne⟩
      · rw [HBS.out] at hi
        have HN := Lib.hid (HAT.out.next hk' hi)
        have HXT : Hid (x = txt (((bl s).drop k).take n)) := by
          refine Lib.hid ?_
          rw [hx, extract_txt, HBS.out, List.drop_zero, Nat.sub_zero]
        clear hi hx
        have hn1 : n ≤ s.size - k := by
          have := HN.out.2.1
          rw [bl_len] at this
          omega
        have hxs : x.size = n := by
          rw [HXT.out, txt_size, List.length_take, List.length_drop, bl_len]
          omega
        have hts : ts.length ≤ k := HAT.out.len
        have hbase : w.heap.size ≤ w2.heap.size := HB2.out.size
        go_wp2_with (at_builtin; refine wpList_append_own _ rfl _ _ 22 rfl w.heap.size 33 i0 (.agg #[.int .i64 0, .string ⟨#[]⟩, .int .i64 0, .int .i64 0]) 4 40 Tryd.underlying22 HI.out.1 HI.out.2.1 HI.out.2.2.1 HI.out.2.2.2 rfl (by decide) _ _ _ rfl ((HOWN2.out.alloc _).alloc _) ⟨_, 0, none⟩ 1 1 [.int .i64 (kd : Nat), .string x, .int .i64 v, .int .i64 (k : Nat)] rfl rfl ?c1 ?c2 ?c3 ?c4 ?c5 ?_)
        case c1 =>
          intro j u hj
          have := new_cells (w2.alloc (.cells #[.int .i64 (kd : Nat), .string x, .int .i64 v, .int .i64 (k : Nat)] 33)) 33 _ _ _ _ j u hj
          have e1 : (w2.alloc (.cells #[.int .i64 (kd : Nat), .string x, .int .i64 v, .int .i64 (k : Nat)] 33)).heap.size = w2.heap.size + 1 := by simp
          rw [e1] at this
          exact this
        case c2 =>
          intro u hu
          simp at hu
          rcases hu with rfl | rfl | rfl | rfl <;> rfl
        case c3 => unfold maxLen; omega
        case c4 => omega
        case c5 => simp; omega
        intro v' w3 hown' hgrow _
        have hbx : Box 33 w3 w2.heap.size (.int .i64 (kd : Nat)) (.string x) (.int .i64 v) (.int .i64 (k : Nat)) := by
          have h1 := hgrow.block w2.heap.size (by simp; omega) (fun e => by have := (own_lt HOWN2.out e.symm).2; omega)
          refine h1.trans ((Below.heap_alloc _ _ _ (by simp)).trans (heap_alloc_new _ _))
        have HB3 : Hid (Below w.heap.size w w3) := ((HB2.out.alloc hbase _).alloc (by simp; omega) _).grown hgrow (by simp; omega) (fun g hg => (own_lt HOWN2.out hg).1)
        have HOWN3 : Hid (w3.ownsRow w.heap.size 33 4 v' (ts ++ [(⟨kd, ((bl s).drop k).take n, v, k⟩ : Tok)]).length (cellsL (ts ++ [(⟨kd, ((bl s).drop k).take n, v, k⟩ : Tok)]))) := by
          have h1 := hown'
          rw [HXT.out] at h1
          rw [cellsL_append, cellsL_one, List.length_append]
          exact h1
        clear hown' hgrow HOWN2 HB2
        obtain ⟨y0, y1, y2, y3⟩ := hbx.cells
        clear hbx
        have C2 := Lib.hid (gap_any (s.extract (k + n) s.size) w3)
        have hbs2 : bl (s.extract (k + n) s.size) = (bl s).drop (k + n) := by
          rw [bl_extract, List.take_of_length_le]
          rw [List.length_drop, bl_len]
          exact Nat.le_refl _
        rw [hbs2] at C2
        clear hbs2
        have hg : gapN false ((bl s).drop (k + n)) ≤ s.size - (k + n) := by
          have := gapN_le ((bl s).drop (k + n)) false
          rw [List.length_drop, bl_len] at this
          exact this
        have HAT2 := Lib.hid HN.out.2.2
        have hn0 : 0 < n := HN.out.1
        generalize gapN false ((bl s).drop (k + n)) = q at C2 hg HAT2
        go_wp2_with fail
        refine C2.out.mono ?_
        rintro e w4 ⟨rfl, b4⟩
        have HB4 := Lib.hid (HB3.out.trans (b4.mono HB3.out.size))
        have HOWN4 := Lib.hid (own_below HOWN3.out b4)
        clear b4 HB3 HOWN3 C2
        go_wp2_with fail
        go_roundw
        case rel => exact ⟨k + n + q, _, by go_num, HAT2.out, HOWN4.out, HB4.out⟩
        case measure => simp [intOf]; omega
      · rw [HBS.out] at hi
        have HE := Lib.hid (HAT.out.bad hk' hi)
        have hne' : (err != 0) = true := by simpa using hne
        clear hi hne
        go_wp2_with fail
        go_ret3
        rw [HE.out]
        exact ⟨_, rfl, World.ownsRow_nil _ _ _ _, HB2.out.alloc HB2.out.size _⟩
    · have HD := Lib.hid (HAT.out.done (by rw [bl_len]; omega))
      go_wp2_with fail
      go_ret3
      rw [HD.out]
      exact ⟨_, rfl, HOWN.out, HBW.out⟩

theorem lex_any (s : ByteArray) (w : World) (hs : s.size ≤ 9223372036854775807) :
    Calls Tryd.prog 8 #[.string s] w fun e w' => ∃ v, e = .returned (.tuple #[v, .int .i64 ((lexA (bl s)).2.1 : Nat), .int .i64 (lexA (bl s)).2.2]) ∧ Toks 33 w' v (lexA (bl s)).1 ∧ Below w.heap.size w w' := by
  unfold lexA
  rw [bl_len]
  by_cases h : 1048576 < s.size
  · rw [if_pos h]
    refine (lex_long s w h hs).mono ?_
    rintro e w' ⟨rfl, rfl⟩
    exact ⟨_, rfl, Toks.nil _ _, Below.refl _ _⟩
  · rw [if_neg h]
    refine (lex_short s w (by omega)).mono ?_
    rintro e w' ⟨v, rfl, h1, h2⟩
    exact ⟨_, rfl, ⟨_, h1⟩, h2⟩
end Go.Proofs.YtancjkanmjdkkaaDoor

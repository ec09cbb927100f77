/- Contracts: what a rune is; a run of runes that are all of one sort; gaps. -/
import Derived.Test.YtgemgmdnnjaghaaGreatDoorChecked
import Derived.Test.YtgemgmdnnjaghaaGreatDoorLexg
import Derived.WalkKit
import Derived.Lib.Hide
import Derived.Lib.OthersKept
import Derived.Deep.LoopGhost
namespace Go.Proofs.YtgemgmdnnjaghaaGreatDoor
open Go.RowKit

/-- A rune as it is handed on. -/
abbrev rn (n : Nat) : Value := .int .i32 (n : Int)

theorem ret_bool {a b : Bool} (h : a = b) : Ending.returned (Value.bool a) = Ending.returned (Value.bool b) := by rw [h]

theorem isLetter_any (n : Nat) (w : World) : Calls Tryz.prog 131 #[rn n] w fun e w' => e = .returned (.bool (letR n)) ∧ w = w' := by
  go_enter Tryz.func131, Tryz.ntmps131
  go_wp2
  all_goals go_ret
  all_goals refine ⟨ret_bool ?_, rfl⟩
  all_goals rw [Bool.eq_iff_iff]
  all_goals simp [letR]
  all_goals omega

theorem isDigit_any (n : Nat) (w : World) : Calls Tryz.prog 134 #[rn n] w fun e w' => e = .returned (.bool (digR n)) ∧ w = w' := by
  go_enter Tryz.func134, Tryz.ntmps134
  go_wp2
  all_goals go_ret
  all_goals refine ⟨ret_bool ?_, rfl⟩
  all_goals rw [Bool.eq_iff_iff]
  all_goals simp [digR]
  all_goals omega

theorem isBlank_any (n : Nat) (w : World) : Calls Tryz.prog 104 #[rn n] w fun e w' => e = .returned (.bool (blaR n)) ∧ w = w' := by
  go_enter Tryz.func104, Tryz.ntmps104
  go_wp2
  all_goals go_ret
  all_goals refine ⟨ret_bool ?_, rfl⟩
  all_goals rw [Bool.eq_iff_iff]
  all_goals simp [blaR]
  all_goals omega

theorem isInWord_any (n : Nat) (w : World) : Calls Tryz.prog 132 #[rn n] w fun e w' => e = .returned (.bool (parR n)) ∧ w = w' := by
  have c1 := isLetter_any n w
  have c2 := isDigit_any n w
  unfold parR
  cases h1 : letR n <;> cases h2 : digR n <;> rw [h1] at c1 <;> rw [h2] at c2
  all_goals go_enter Tryz.func132, Tryz.ntmps132
  all_goals go_wp2_with (first | (go_at_call 131; refine c1.mono ?_; rintro e w' ⟨rfl, rfl⟩) | (go_at_call 134; refine c2.mono ?_; rintro e w' ⟨rfl, rfl⟩))
  all_goals go_ret
  all_goals refine ⟨ret_bool ?_, rfl⟩
  all_goals rw [Bool.eq_iff_iff]
  all_goals simp
  all_goals omega

theorem int_eq {a b : Int} (h : a = b) : Ending.returned (Value.int .i64 a) = Ending.returned (Value.int .i64 b) := by rw [h]

set_option maxHeartbeats 1000000 in
/-- A run of a sort that no rune from 128 on is of. -/
theorem run_pred (g : Nat) (eg : ∀ args w, (callFunc g args).run Tryz.prog w = .ok (.enter g args) w) (p : Nat → Bool) (hhi : ∀ n, 128 ≤ n → p n = false)
    (hp : ∀ (n : Nat) (W : World), Calls Tryz.prog g #[rn n] W fun e w' => e = .returned (.bool (p n)) ∧ W = w') (s : ByteArray) (w : World) :
    Calls Tryz.prog 102 #[.string s, .func (.func g) #[] #[]] w fun e w' => e = .returned (.int .i64 (((bl s).takeWhile fun c => p c.toNat).length : Nat)) ∧ Below w.heap.size w w' := by
  go_enter Tryz.func102, Tryz.ntmps102
  go_wp2
  go_loopg [] s.size (fun gf wx => ∃ pos : Nat, wx.heap[w.heap.size]? = some (.stringIter s pos) ∧ Below w.heap.size w wx ∧ ((bl s).takeWhile fun c => p c.toNat).length = pos + (((bl s).drop pos).takeWhile fun c => p c.toNat).length ∧ pos ≤ s.size ∧ s.size ≤ pos + gf)
  case atStart => exact ⟨0, World.iter_heap w s 0, (Below.refl _ w).alloc (Nat.le_refl _) _, by simp, by omega, by omega⟩
  case round =>
    obtain ⟨pos, hit, hbw, hlen, hle, hfu⟩ := hrel
    by_cases hps : pos < s.size
    · obtain ⟨g', rfl⟩ : ∃ g', gk = g' + 1 := ⟨gk - 1, by omega⟩
      have hnx : ∀ ty, (Instr.next (.pointer (some ⟨w.heap.size, 0, none⟩)) true ty).run Tryz.prog wr = _ := fun ty => Lib.run_next_any_at wr w.heap.size s pos ty hit hps
      have HON := Lib.hid (tw_on hhi hps)
      have HOFF := Lib.hid (tw_off hhi hps)
      have HLEN := Lib.hid hlen
      clear hlen
      obtain ⟨R, hR⟩ : ∃ R, (Utf8.decode s pos).1 = R := ⟨_, rfl⟩
      obtain ⟨K, hK⟩ : ∃ K, (Utf8.decode s pos).2 = K := ⟨_, rfl⟩
      rw [hR, hK] at hnx
      rw [hR, hK] at HON
      rw [hR] at HOFF
      have hit2 := Lib.iterAt_heap wr w.heap.size s pos (pos + K) hit
      have hbw2 := Lib.below_iterAt hbw (k := w.heap.size) (Nat.le_refl _) s (pos + K)
      obtain ⟨W, hWd⟩ : ∃ W, wr.iterAt w.heap.size s (pos + K) = W := ⟨_, rfl⟩
      rw [hWd] at hnx hit2 hbw2
      have cS := hp R W
      have HHI := Lib.hid hhi
      clear hp hhi
      cases hsp : p R <;> rw [hsp] at cS
      · have HF := Lib.hid (HOFF.out hsp)
        clear HOFF HON
        clear hsp
        go_wp2_with fail
        refine cS.mono ?_
        rintro e W' ⟨rfl, rfl⟩
        go_wp2_with fail
        go_ret
        exact ⟨int_eq (by have h1 := HLEN.out; have h2 := HF.out; omega), hbw2⟩
      · obtain ⟨k1, k2⟩ := HON.out hsp
        subst k1
        have HF := Lib.hid k2
        clear HOFF HON k2
        clear hsp
        go_wp2_with fail
        refine cS.mono ?_
        rintro e W' ⟨rfl, rfl⟩
        go_wp2_with fail
        go_roundg g'
        case measure => omega
        case rel => exact ⟨pos + 1, hit2, hbw2, by have h1 := HLEN.out; have h2 := HF.out; omega, by omega, by omega⟩
    · have hnx : ∀ ty, (Instr.next (.pointer (some ⟨w.heap.size, 0, none⟩)) true ty).run Tryz.prog wr = _ := fun ty => Lib.run_next_end_at wr w.heap.size s pos ty hit hps
      have HL : Hid (((bl s).takeWhile fun c => p c.toNat).length = s.size) := Lib.hid (by
        rw [hlen, List.drop_of_length_le (by rw [bl_len]; omega)]
        simp
        omega)
      clear hlen hhi hp
      go_wp2_with fail
      go_ret
      exact ⟨int_eq (by have h1 := HL.out; omega), hbw⟩
end Go.Proofs.YtgemgmdnnjaghaaGreatDoor

/- A box of four cells (a token's) that is written to: what stays. -/
namespace Go.Proofs.YtgemgmdnnjaghaaGreatDoor
open Go.RowKit

/-- A token's value. -/
abbrev tokV (k : Nat) (x : ByteArray) (v : Int) (p : Int) : Value := .agg #[.int .i64 (k : Nat), .string x, .int .i64 v, .int .i64 p]

/-- A box of a token, and nothing else in its block. -/
def TBox (ty : TypeId) (W : World) (g : Nat) (a b c d : Value) : Prop := W.heap[g]? = some (.cells #[a, b, c, d] ty (0, 0))
section
variable {ty : TypeId} {W W' : World} {g : Nat} {a b c d : Value}
theorem TBox.lt (h : TBox ty W g a b c d) : g < W.heap.size := (Array.getElem?_eq_some_iff.1 h).1
theorem TBox.below (h : TBox ty W g a b c d) (hb : Below W.heap.size W W') : TBox ty W' g a b c d := (hb.block g h.lt).trans h
theorem TBox.new (ty : TypeId) (W : World) (a b c d : Value) : TBox ty (W.alloc (.cells #[a, b, c, d] ty)) W.heap.size a b c d := heap_alloc_new W _
theorem TBox.cells (h : TBox ty W g a b c d) : W.cell? ⟨g, 0, none⟩ = some a ∧ W.cell? ⟨g, 1, none⟩ = some b ∧ W.cell? ⟨g, 2, none⟩ = some c ∧ W.cell? ⟨g, 3, none⟩ = some d := by
  unfold TBox at h
  refine ⟨?_, ?_, ?_, ?_⟩ <;> (unfold World.cell?; rw [h]; simp)
theorem TBox.free (h : TBox ty W g a b c d) (i : Nat) : W.frozen? ⟨g, i, none⟩ = false := by
  unfold TBox at h
  unfold World.frozen?
  rw [h]; simp
end

/-- The cells of a new block. -/
theorem new_cells (W : World) (ty : TypeId) (a b c d : Value) (j : Nat) (u : Value) (hj : [a, b, c, d][j]? = some u) : (W.alloc (.cells #[a, b, c, d] ty)).cell? ((⟨W.heap.size, 0, none⟩ : Addr).add j) = some u := by
  obtain ⟨x0, x1, x2, x3⟩ := (TBox.new ty W a b c d).cells
  have e : (⟨W.heap.size, 0, none⟩ : Addr).add j = ⟨W.heap.size, j, none⟩ := by
    unfold Addr.add
    split
    · next h => rw [h]
    · simp
  rw [e]
  match j, hj with
  | 0, hj => rw [x0]; exact hj
  | 1, hj => rw [x1]; exact hj
  | 2, hj => rw [x2]; exact hj
  | 3, hj => rw [x3]; exact hj
  | n + 4, hj => simp at hj

/-- A box written anew. -/
abbrev put4 (W : World) (g : Nat) (a b c d : Value) : World := (((W.setCell ⟨g, 0, none⟩ a).setCell ⟨g, 1, none⟩ b).setCell ⟨g, 2, none⟩ c).setCell ⟨g, 3, none⟩ d
theorem put4_size (W : World) (g : Nat) (a b c d : Value) : (put4 W g a b c d).heap.size = W.heap.size := by simp [put4, World.setCell]
theorem put4_heap (W : World) (g k : Nat) (a b c d : Value) (h : k ≠ g) : (put4 W g a b c d).heap[k]? = W.heap[k]? := by
  simp [put4, World.setCell, Array.getElem?_modify, Ne.symm h]
theorem put4_same {ty : TypeId} {W : World} {g : Nat} {a b c d : Value} (h : TBox ty W g a b c d) (a' b' c' d' : Value) : TBox ty (put4 W g a' b' c' d') g a' b' c' d' := by
  unfold TBox at h ⊢
  simp [put4, World.setCell, Array.getElem?_modify, h]
theorem put4_below {B : Nat} {A W : World} (h : Below B A W) (g : Nat) (hg : B ≤ g) (a b c d : Value) : Below B A (put4 W g a b c d) :=
  (((h.setCell (p := ⟨g, 0, none⟩) hg a).setCell (p := ⟨g, 1, none⟩) hg b).setCell (p := ⟨g, 2, none⟩) hg c).setCell (p := ⟨g, 3, none⟩) hg d
theorem set_same3 {ty : TypeId} {W : World} {g : Nat} {a b c d : Value} (h : TBox ty W g a b c d) (d' : Value) : TBox ty (W.setCell ⟨g, 3, none⟩ d') g a b c d' := by
  unfold TBox at h ⊢
  simp [World.setCell, Array.getElem?_modify, h]
end Go.Proofs.YtgemgmdnnjaghaaGreatDoor

/- Lists of tokens, as they lie in memory; what Lex tells. No walk. -/
namespace Go.Proofs.YtgemgmdnnjaghaaGreatDoor
open Go.RowKit

/-- A text of bytes. -/
def txt (l : Bs) : ByteArray := ⟨l.toArray⟩
theorem bl_txt (l : Bs) : bl (txt l) = l := by simp [bl, txt]
theorem txt_bl (s : ByteArray) : txt (bl s) = s := bl_inj (bl_txt _)
theorem txt_size (l : Bs) : (txt l).size = l.length := by rw [← bl_len, bl_txt]
theorem extract_txt (s : ByteArray) (a b : Nat) : s.extract a b = txt (((bl s).drop a).take (b - a)) := bl_inj (by rw [bl_txt, bl_extract])

/-- A token's cells. -/
def tokCells (t : Tok) : List Value := [.int .i64 (t.kind : Nat), .string (txt t.text), .int .i64 t.num, .int .i64 (t.at_ : Nat)]
def cellsL (l : List Tok) : List Value := l.flatMap tokCells
theorem cellsL_len (l : List Tok) : (cellsL l).length = l.length * 4 := by
  induction l with
  | nil => rfl
  | cons t l ih =>
    rw [cellsL, List.flatMap_cons, List.length_append, ← cellsL, ih]
    simp [tokCells]
    omega
theorem cellsL_append (l m : List Tok) : cellsL (l ++ m) = cellsL l ++ cellsL m := by simp [cellsL]
theorem cellsL_one (t : Tok) : cellsL [t] = tokCells t := by simp [cellsL]

/-- Tokens ahead of what is told. -/
def preL (ts : List Tok) : Res → Res
  | .ok l => .ok (ts ++ l)
  | .error e => .error e
theorem preL_nil (r : Res) : preL [] r = r := by cases r <;> rfl
theorem preL_pre (ts : List Tok) (t : Tok) (r : Res) : preL ts (Res.pre t r) = preL (ts ++ [t]) r := by cases r <;> simp [preL, Res.pre]

/-- What Lex tells of a text: the tokens, the place, the error. -/
def lexT (r : Res) : List Tok × Nat × Int :=
  match r with
  | .ok l => (l, 0, 0)
  | .error (p, e) => ([], p, e)
def lexA (bs : Bs) : List Tok × Nat × Int := if 1048576 < bs.length then ([], 1048576, 13) else lexT (lexL bs 0)

theorem add_at (g n : Nat) : (⟨g, 0, none⟩ : Addr).add n = ⟨g, n, none⟩ := by
  unfold Addr.add
  split
  · next h => rw [h]
  · simp

/-- A row stays where its block does. -/
theorem own_same {w w' : World} {base : Nat} {e : TypeId} {size : Nat} {v : Value} {n : Nat} {xs : List Value} (h : w.ownsRow base e size v n xs) (hk : ∀ g, v.ownBlock = some g → g < w.heap.size → w'.heap[g]? = w.heap[g]?) : w'.ownsRow base e size v n xs := by
  obtain ⟨h1, h2⟩ := h
  refine ⟨h1, ?_⟩
  rcases h2 with h2 | ⟨g, cap, cur, e, hg, hh, r⟩
  · exact .inl h2
  · exact .inr ⟨g, cap, cur, e, hg, (hk g (by rw [e]; rfl) (lt_of_block hh)).trans hh, r⟩
theorem own_below {w w' : World} {base : Nat} {e : TypeId} {size : Nat} {v : Value} {n : Nat} {xs : List Value} (h : w.ownsRow base e size v n xs) (hb : Below w.heap.size w w') : w'.ownsRow base e size v n xs :=
  own_same h fun g _ hlt => hb.block g hlt
theorem own_lt {w : World} {base : Nat} {e : TypeId} {size : Nat} {v : Value} {n : Nat} {xs : List Value} (h : w.ownsRow base e size v n xs) {g : Nat} (hg : v.ownBlock = some g) : base ≤ g ∧ g < w.heap.size := by
  rcases h.2 with ⟨rfl, _⟩ | ⟨g', cap, cur, rfl, hb, hh, _⟩
  · cases hg
  · cases hg
    exact ⟨hb, lt_of_block hh⟩

/-- A slice of tokens: what its cells hold. -/
def Toks (ty : TypeId) (w : World) (v : Value) (l : List Tok) : Prop := ∃ base, w.ownsRow base ty 4 v l.length (cellsL l)
theorem Toks.nil (ty : TypeId) (w : World) : Toks ty w (.slice none 0 0) [] := ⟨0, World.ownsRow_nil _ _ _ _⟩

theorem Toks.below {ty : TypeId} {w w' : World} {v : Value} {l : List Tok} (h : Toks ty w v l) (hb : Below w.heap.size w w') : Toks ty w' v l := by
  obtain ⟨base, h1, h2⟩ := h
  refine ⟨base, h1, ?_⟩
  rcases h2 with h2 | ⟨g, cap, cur, e, hg, hh, r⟩
  · exact .inl h2
  · exact .inr ⟨g, cap, cur, e, hg, (hb.block g (lt_of_block hh)).trans hh, r⟩

/-- A slice of tokens is nil or lies somewhere; its cells. -/
theorem Toks.view {ty : TypeId} {w : World} {v : Value} {l : List Tok} (h : Toks ty w v l) : ∃ a cap, v = .slice a l.length cap ∧ ∀ i (hi : i < l.length), ∃ ad, a = some ad ∧ ad.block < w.heap.size ∧
    w.cell? (ad.add (i * 4)) = some (.int .i64 ((l[i]).kind : Nat)) ∧ w.cell? (ad.add (i * 4 + 1)) = some (.string (txt (l[i]).text)) ∧ w.cell? (ad.add (i * 4 + 2)) = some (.int .i64 (l[i]).num) ∧ w.cell? (ad.add (i * 4 + 3)) = some (.int .i64 ((l[i]).at_ : Nat)) := by
  obtain ⟨base, h1, h2⟩ := h
  rcases h2 with ⟨rfl, hn⟩ | ⟨g, cap, cur, rfl, hg, hh, hn, hc, hs, ht⟩
  · exact ⟨none, 0, by rw [hn], fun i hi => by omega⟩
  · refine ⟨some ⟨g, 0, none⟩, cap, rfl, fun i hi => ⟨⟨g, 0, none⟩, rfl, lt_of_block hh, ?_⟩⟩
    have key : ∀ j (hj : j < 4) u, (tokCells l[i])[j]? = some u → w.cell? ((⟨g, 0, none⟩ : Addr).add (i * 4 + j)) = some u := by
      intro j hj u hu
      have hx : (cellsL l)[i * 4 + j]? = some u := by
        have : ∀ (l : List Tok) i (hi : i < l.length), (tokCells l[i])[j]? = some u → (cellsL l)[i * 4 + j]? = some u := by
          intro l
          induction l with
          | nil => intro i hi; simp at hi
          | cons t l ih =>
            intro i hi hu
            rw [cellsL, List.flatMap_cons, ← cellsL]
            cases i with
            | zero =>
              simp only [List.getElem_cons_zero] at hu
              rw [Nat.zero_mul, Nat.zero_add, List.getElem?_append_left (by simp [tokCells]; omega)]
              exact hu
            | succ i =>
              simp only [List.getElem_cons_succ] at hu
              rw [List.getElem?_append_right (by simp [tokCells]; omega)]
              rw [show (i + 1) * 4 + j - (tokCells t).length = i * 4 + j by simp [tokCells]; omega]
              exact ih i (by simpa using hi) hu
        exact this l i hi hu
      rw [← ht, List.getElem?_take] at hx
      split at hx
      · rw [Array.getElem?_toList] at hx
        rw [add_at]
        unfold World.cell?
        rw [hh]
        exact hx
      · cases hx
    exact ⟨key 0 (by omega) _ rfl, key 1 (by omega) _ rfl, key 2 (by omega) _ rfl, key 3 (by omega) _ rfl⟩
end Go.Proofs.YtgemgmdnnjaghaaGreatDoor

/- Contracts: gaps between tokens. -/
namespace Go.Proofs.YtgemgmdnnjaghaaGreatDoor
open Go.RowKit

theorem gap1_any (b n : Nat) (c : Bool) (w : World) (hb : w.heap[b]? = some (.cells #[.bool c] 4 (0, 0))) :
    Calls Tryz.prog 103 #[rn n, .pointer (some ⟨b, 0, none⟩)] w fun e w' => e = .returned (.bool (overN c n)) ∧ w' = w.setCell ⟨b, 0, none⟩ (.bool (comN c n)) := by
  have hc := cell_of_one hb
  have hf := free_of_one hb
  have cB := isBlank_any n
  have h10 : (((n : Int)) != 10) = (n != 10) := by
    rw [Bool.eq_iff_iff, bne_iff_ne, bne_iff_ne]
    omega
  have h37 : (((n : Int)) == 37) = (n == 37) := by
    rw [Bool.eq_iff_iff, beq_iff_eq, beq_iff_eq]
    omega
  have key : ∀ v, comN c n = v → Calls Tryz.prog 103 #[rn n, .pointer (some ⟨b, 0, none⟩)] w fun e w' => e = .returned (.bool (v || blaR n)) ∧ w' = w.setCell ⟨b, 0, none⟩ (.bool v) := by
    intro v hv
    have hc2 : (w.setCell ⟨b, 0, none⟩ (.bool v)).cell? ⟨b, 0, none⟩ = some (.bool v) := cell_of_one (one_setCell hb)
    clear hb
    unfold comN at hv
    cases a1 : (n != 10) <;> cases c <;> cases a2 : (n == 37) <;> rw [a1] at h10 hv <;> rw [a2] at h37 hv <;> simp only [Bool.true_and, Bool.false_and, Bool.or_true, Bool.or_false] at hv <;> subst hv <;> cases hbl : blaR n <;> rw [hbl] at cB
    all_goals clear a1 a2 hbl
    all_goals go_enter Tryz.func103, Tryz.ntmps103
    all_goals go_wp2_with (go_at_call 104; refine (cB _).mono ?_; rintro e w' ⟨rfl, rfl⟩)
    all_goals go_ret
    all_goals exact ⟨rfl, rfl⟩
  exact key _ rfl

set_option maxHeartbeats 1000000 in
theorem run_gap (B b : Nat) (s : ByteArray) (w : World) (hb : w.heap[b]? = some (.cells #[.bool false] 4 (0, 0))) (hB : B ≤ b) :
    Calls Tryz.prog 102 #[.string s, .func (.func 103) #[] #[.pointer (some ⟨b, 0, none⟩)]] w fun e w' => e = .returned (.int .i64 (gapN false (bl s) : Nat)) ∧ Below B w w' := by
  have hblt := lt_of_block hb
  have HB := Lib.hid hb
  have HBB := Lib.hid hB
  clear hb hB
  go_enter Tryz.func102, Tryz.ntmps102
  go_wp2
  go_loopg [] s.size (fun gf wx => ∃ (pos : Nat) (c : Bool), wx.heap[w.heap.size]? = some (.stringIter s pos) ∧ wx.heap[b]? = some (.cells #[.bool c] 4 (0, 0)) ∧ Below B w wx ∧ gapN false (bl s) = pos + gapN c ((bl s).drop pos) ∧ pos ≤ s.size ∧ s.size ≤ pos + gf)
  case atStart => exact ⟨0, false, World.iter_heap w s 0, (Lib.alloc_old w _ b hblt).trans HB.out, (Below.refl _ w).alloc (by have := HBB.out; omega) _, by simp, by omega, by omega⟩
  case round =>
    obtain ⟨pos, c, hit, hbx, hbw, hlen, hle, hfu⟩ := hrel
    by_cases hps : pos < s.size
    · obtain ⟨g', rfl⟩ : ∃ g', gk = g' + 1 := ⟨gk - 1, by omega⟩
      have hnx : ∀ ty, (Instr.next (.pointer (some ⟨w.heap.size, 0, none⟩)) true ty).run Tryz.prog wr = _ := fun ty => Lib.run_next_any_at wr w.heap.size s pos ty hit hps
      have HON := Lib.hid (gap_on (c := c) hps)
      have HOFF := Lib.hid (gap_off (c := c) hps)
      have HDI := Lib.hid (decode_inside s pos hps)
      have HLEN := Lib.hid hlen
      clear hlen
      obtain ⟨R, hR⟩ : ∃ R, (Utf8.decode s pos).1 = R := ⟨_, rfl⟩
      obtain ⟨K, hK⟩ : ∃ K, (Utf8.decode s pos).2 = K := ⟨_, rfl⟩
      rw [hR, hK] at hnx
      rw [hR, hK] at HON
      rw [hR] at HOFF
      rw [hK] at HDI
      have hit2 := Lib.iterAt_heap wr w.heap.size s pos (pos + K) hit
      have hbw2 := Lib.below_iterAt hbw (k := w.heap.size) (by have := HBB.out; omega) s (pos + K)
      have hbx2 := (Lib.iterAt_other wr w.heap.size b s (pos + K) (by omega)).trans hbx
      obtain ⟨W, hWd⟩ : ∃ W, wr.iterAt w.heap.size s (pos + K) = W := ⟨_, rfl⟩
      rw [hWd] at hnx hit2 hbw2 hbx2
      have cS := gap1_any b R c W hbx2
      have HX := Lib.hid hbx2
      have HI := Lib.hid hit2
      have HW := Lib.hid hbw2
      clear hbx2 hit2 hbw2 hbx hit hbw
      cases hsp : overN c R <;> rw [hsp] at cS
      · have HF := Lib.hid (HOFF.out hsp)
        clear HOFF HON hsp
        go_wp2_with fail
        refine cS.mono ?_
        rintro e W' ⟨rfl, rfl⟩
        go_wp2_with fail
        go_ret
        exact ⟨int_eq (by have h1 := HLEN.out; have h2 := HF.out; omega), HW.out.trans (Below.setCell (Below.refl _ _) (by have := HBB.out; exact this) _)⟩
      · have HF := Lib.hid (HON.out hsp)
        clear HOFF HON hsp
        go_wp2_with fail
        refine cS.mono ?_
        rintro e W' ⟨rfl, rfl⟩
        go_wp2_with fail
        go_roundg g'
        case measure => omega
        case rel =>
          refine ⟨pos + K, comN c R, ?_, one_setCell HX.out, HW.out.trans (Below.setCell (Below.refl _ _) (by have := HBB.out; exact this) _), by have h1 := HLEN.out; have h2 := HF.out; omega, HDI.out.2.1, by have := HDI.out.1; omega⟩
          rw [Below.heap_setCell _ _ _ _ (by simp; omega)]
          exact HI.out
    · have hnx : ∀ ty, (Instr.next (.pointer (some ⟨w.heap.size, 0, none⟩)) true ty).run Tryz.prog wr = _ := fun ty => Lib.run_next_end_at wr w.heap.size s pos ty hit hps
      have HL : Hid (gapN false (bl s) = s.size) := Lib.hid (by
        rw [hlen, List.drop_of_length_le (by rw [bl_len]; omega)]
        simp [gapN]
        omega)
      clear hlen
      go_wp2_with fail
      go_ret
      exact ⟨int_eq (by have h1 := HL.out; omega), hbw⟩

theorem gap_any (s : ByteArray) (w : World) : Calls Tryz.prog 67 #[.string s] w fun e w' => e = .returned (.int .i64 (gapN false (bl s) : Nat)) ∧ Below w.heap.size w w' := by
  have hmf : ∀ (fn : Fn) (first cap : Array Value) (w : World), (Instr.makeFunc fn first cap).run Tryz.prog w = .ok (.func fn first cap) w := fun _ _ _ _ => rfl
  have CR := Lib.hid (fun W hb => run_gap w.heap.size w.heap.size s W hb (Nat.le_refl _))
  go_enter Tryz.func67, Tryz.ntmps67
  go_wp2_with fail
  refine (CR.out _ (heap_alloc_new _ _)).mono ?_
  rintro e W' ⟨rfl, hb⟩
  go_wp2_with fail
  go_ret
  exact ⟨rfl, ((Below.refl _ w).alloc (Nat.le_refl _) _).trans hb⟩
end Go.Proofs.YtgemgmdnnjaghaaGreatDoor

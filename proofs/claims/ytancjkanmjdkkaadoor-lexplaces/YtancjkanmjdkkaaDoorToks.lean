/- Lists of tokens, as they lie in memory; what Lex tells. No walk. -/
import Derived.Test.YtancjkanmjdkkaaDoorBox
namespace Go.Proofs.YtancjkanmjdkkaaDoor
open Go.RowKit

/-- A text of bytes. -/
def txt (l : Bs) : ByteArray := ⟨l.toArray⟩
theorem bl_txt (l : Bs) : bl (txt l) = l := by simp [bl, txt]
theorem txt_bl (s : ByteArray) : txt (bl s) = s := bl_inj (bl_txt _)
theorem txt_size (l : Bs) : (txt l).size = l.length := by rw [← bl_len, bl_txt]
theorem extract_txt (s : ByteArray) (a b : Nat) : s.extract a b = txt (((bl s).drop a).take (b - a)) := bl_inj (by rw [bl_txt, bl_extract])

/-- A token's cells. -/
def tokCells (t : Tok) : List Value := [.int .i64 (t.kind : Nat), .string (txt t.text), .int .i64 t.num, .int .i64 (t.at_ : Nat)]
def cellsL (l : List Tok) : List Value := l.flatMap tokCells
theorem cellsL_len (l : List Tok) : (cellsL l).length = l.length * 4 := by
  induction l with
  | nil => rfl
  | cons t l ih =>
    rw [cellsL, List.flatMap_cons, List.length_append, ← cellsL, ih]
    simp [tokCells]
    omega
theorem cellsL_append (l m : List Tok) : cellsL (l ++ m) = cellsL l ++ cellsL m := by simp [cellsL]
theorem cellsL_one (t : Tok) : cellsL [t] = tokCells t := by simp [cellsL]

/-- Tokens ahead of what is told. -/
def preL (ts : List Tok) : Res → Res
  | .ok l => .ok (ts ++ l)
  | .error e => .error e
theorem preL_nil (r : Res) : preL [] r = r := by cases r <;> rfl
theorem preL_pre (ts : List Tok) (t : Tok) (r : Res) : preL ts (Res.pre t r) = preL (ts ++ [t]) r := by cases r <;> simp [preL, Res.pre]

/-- What Lex tells of a text: the tokens, the place, the error. -/
def lexT (r : Res) : List Tok × Nat × Int :=
  match r with
  | .ok l => (l, 0, 0)
  | .error (p, e) => ([], p, e)
def lexA (bs : Bs) : List Tok × Nat × Int := if 1048576 < bs.length then ([], 1048576, 13) else lexT (lexL bs 0)

theorem add_at (g n : Nat) : (⟨g, 0, none⟩ : Addr).add n = ⟨g, n, none⟩ := by
  unfold Addr.add
  split
  · next h => rw [h]
  · simp

/-- A row stays where its block does. -/
theorem own_same {w w' : World} {base : Nat} {e : TypeId} {size : Nat} {v : Value} {n : Nat} {xs : List Value} (h : w.ownsRow base e size v n xs) (hk : ∀ g, v.ownBlock = some g → g < w.heap.size → w'.heap[g]? = w.heap[g]?) : w'.ownsRow base e size v n xs := by
  obtain ⟨h1, h2⟩ := h
  refine ⟨h1, ?_⟩
  rcases h2 with h2 | ⟨g, cap, cur, e, hg, hh, r⟩
  · exact .inl h2
  · exact .inr ⟨g, cap, cur, e, hg, (hk g (by rw [e]; rfl) (lt_of_block hh)).trans hh, r⟩
theorem own_below {w w' : World} {base : Nat} {e : TypeId} {size : Nat} {v : Value} {n : Nat} {xs : List Value} (h : w.ownsRow base e size v n xs) (hb : Below w.heap.size w w') : w'.ownsRow base e size v n xs :=
  own_same h fun g _ hlt => hb.block g hlt
theorem own_lt {w : World} {base : Nat} {e : TypeId} {size : Nat} {v : Value} {n : Nat} {xs : List Value} (h : w.ownsRow base e size v n xs) {g : Nat} (hg : v.ownBlock = some g) : base ≤ g ∧ g < w.heap.size := by
  rcases h.2 with ⟨rfl, _⟩ | ⟨g', cap, cur, rfl, hb, hh, _⟩
  · cases hg
  · cases hg
    exact ⟨hb, lt_of_block hh⟩

/-- A slice of tokens: what its cells hold. -/
def Toks (ty : TypeId) (w : World) (v : Value) (l : List Tok) : Prop := ∃ base, w.ownsRow base ty 4 v l.length (cellsL l)
theorem Toks.nil (ty : TypeId) (w : World) : Toks ty w (.slice none 0 0) [] := ⟨0, World.ownsRow_nil _ _ _ _⟩

theorem Toks.below {ty : TypeId} {w w' : World} {v : Value} {l : List Tok} (h : Toks ty w v l) (hb : Below w.heap.size w w') : Toks ty w' v l := by
  obtain ⟨base, h1, h2⟩ := h
  refine ⟨base, h1, ?_⟩
  rcases h2 with h2 | ⟨g, cap, cur, e, hg, hh, r⟩
  · exact .inl h2
  · exact .inr ⟨g, cap, cur, e, hg, (hb.block g (lt_of_block hh)).trans hh, r⟩

/-- A slice of tokens is nil or lies somewhere; its cells. -/
theorem Toks.view {ty : TypeId} {w : World} {v : Value} {l : List Tok} (h : Toks ty w v l) : ∃ a cap, v = .slice a l.length cap ∧ ∀ i (hi : i < l.length), ∃ ad, a = some ad ∧ ad.block < w.heap.size ∧
    w.cell? (ad.add (i * 4)) = some (.int .i64 ((l[i]).kind : Nat)) ∧ w.cell? (ad.add (i * 4 + 1)) = some (.string (txt (l[i]).text)) ∧ w.cell? (ad.add (i * 4 + 2)) = some (.int .i64 (l[i]).num) ∧ w.cell? (ad.add (i * 4 + 3)) = some (.int .i64 ((l[i]).at_ : Nat)) := by
  obtain ⟨base, h1, h2⟩ := h
  rcases h2 with ⟨rfl, hn⟩ | ⟨g, cap, cur, rfl, hg, hh, hn, hc, hs, ht⟩
  · exact ⟨none, 0, by rw [hn], fun i hi => by omega⟩
  · refine ⟨some ⟨g, 0, none⟩, cap, rfl, fun i hi => ⟨⟨g, 0, none⟩, rfl, lt_of_block hh, ?_⟩⟩
    have key : ∀ j (hj : j < 4) u, (tokCells l[i])[j]? = some u → w.cell? ((⟨g, 0, none⟩ : Addr).add (i * 4 + j)) = some u := by
      intro j hj u hu
      have hx : (cellsL l)[i * 4 + j]? = some u := by
        have : ∀ (l : List Tok) i (hi : i < l.length), (tokCells l[i])[j]? = some u → (cellsL l)[i * 4 + j]? = some u := by
          intro l
          induction l with
          | nil => intro i hi; simp at hi
          | cons t l ih =>
            intro i hi hu
            rw [cellsL, List.flatMap_cons, ← cellsL]
            cases i with
            | zero =>
              simp only [List.getElem_cons_zero] at hu
              rw [Nat.zero_mul, Nat.zero_add, List.getElem?_append_left (by simp [tokCells]; omega)]
              exact hu
            | succ i =>
              simp only [List.getElem_cons_succ] at hu
              rw [List.getElem?_append_right (by simp [tokCells]; omega)]
              rw [show (i + 1) * 4 + j - (tokCells t).length = i * 4 + j by simp [tokCells]; omega]
              exact ih i (by simpa using hi) hu
        exact this l i hi hu
      rw [← ht, List.getElem?_take] at hx
      split at hx
      · rw [Array.getElem?_toList] at hx
        rw [add_at]
        unfold World.cell?
        rw [hh]
        exact hx
      · cases hx
    exact ⟨key 0 (by omega) _ rfl, key 1 (by omega) _ rfl, key 2 (by omega) _ rfl, key 3 (by omega) _ rfl⟩
end Go.Proofs.YtancjkanmjdkkaaDoor

/- The reference's list of numbers with their buckets, in memory; contracts of its Has and Push. -/
import Derived.Test.YtfbpdkajonpphaaQwk
namespace Go.Proofs.Ytfbpdkajonpphaa
open Go.RowKit Go.Maps

/-- One: a number and its bucket. -/
def oc (p : Int × Nat) : List Value := [.int .i64 p.1, .int .i64 (p.2 : Nat)]
theorem oc_len (p : Int × Nat) : (oc p).length = 2 := rfl

theorem flat_get {α : Type} (f : α → List Value) (k : Nat) (hf : ∀ a, (f a).length = k) : ∀ (l : List α) (i j : Nat), j < k → (l.flatMap f)[i * k + j]? = (l[i]?).bind fun a => (f a)[j]?
  | [], i, j, _ => by simp
  | a :: l, 0, j, hj => by
    rw [List.flatMap_cons, Nat.zero_mul, Nat.zero_add, List.getElem?_append_left (by rw [hf]; exact hj)]
    simp
  | a :: l, i + 1, j, hj => by
    rw [List.flatMap_cons, List.getElem?_append_right (by rw [hf, Nat.add_mul]; omega), hf, show (i + 1) * k + j - k = i * k + j by rw [Nat.add_mul]; omega, flat_get f k hf l i j hj]
    simp

theorem own_below {w w' : World} {base : Nat} {e : TypeId} {size n : Nat} {v : Value} {xs : List Value} (h : w.ownsRow base e size v n xs) (hb : Below w.heap.size w w') : w'.ownsRow base e size v n xs :=
  h.kept (row := none) ⟨hb.os, hb.tape, hb.output, hb.size, fun k hk _ => hb.block k hk⟩ (by cases v.ownBlock <;> simp)
theorem own_keep {base : Nat} {w w' : World} {e : TypeId} {size : Nat} {v : Value} {n : Nat} {xs : List Value} (h : w.ownsRow base e size v n xs) (hk : ∀ g cs, Blk w g cs e → w'.heap[g]? = w.heap[g]?) : w'.ownsRow base e size v n xs := by
  obtain ⟨h1, h2⟩ := h
  rcases h2 with ⟨rfl, rfl⟩ | ⟨g, cap, cur, rfl, hb, hg, hr⟩
  · exact ⟨h1, .inl ⟨rfl, rfl⟩⟩
  · exact ⟨h1, .inr ⟨g, cap, cur, rfl, hb, (hk g cur hg).trans hg, hr⟩⟩
theorem own_base {w : World} {base base' : Nat} {e : TypeId} {size n : Nat} {v : Value} {xs : List Value} (h : w.ownsRow base e size v n xs) (hb : base' ≤ base) : w.ownsRow base' e size v n xs := by
  refine ⟨h.1, ?_⟩
  rcases h.2 with h2 | ⟨g, cap, cur, a, b, r⟩
  · exact .inl h2
  · exact .inr ⟨g, cap, cur, a, by omega, r⟩
theorem own_ge {w : World} {base : Nat} {e : TypeId} {size n : Nat} {v : Value} {xs : List Value} (h : w.ownsRow base e size v n xs) : ∀ k, v.ownBlock = some k → base ≤ k := fun k hk => (h.lt k hk).1

theorem slice_row {w : World} {base : Nat} {e : TypeId} {size n : Nat} {v : Value} {xs : List Value} (h : w.ownsRow base e size v n xs) : ∃ A c, v = .slice A n c := by
  rcases h.2 with ⟨rfl, rfl⟩ | ⟨g, cap, cur, rfl, _⟩
  · exact ⟨_, _, rfl⟩
  · exact ⟨_, _, rfl⟩

/-- The list l, as the reference has it. -/
def OneT (base : Nat) (w : World) (v : Value) (l : List (Int × Nat)) : Prop := w.ownsRow base 49 2 v l.length (l.flatMap oc)
theorem OneT.nil (base : Nat) (w : World) : OneT base w (.slice none 0 0) [] := World.ownsRow_nil _ _ _ _
theorem OneT.below {base : Nat} {w w' : World} {v : Value} {l : List (Int × Nat)} (h : OneT base w v l) (hb : Below w.heap.size w w') : OneT base w' v l := own_below h hb
theorem OneT.shape {base : Nat} {w : World} {v : Value} {l : List (Int × Nat)} (h : OneT base w v l) : ∃ A c, v = .slice A l.length c := by
  rcases h.2 with ⟨e, h0⟩ | ⟨g, cap, cur, e, _⟩
  · exact ⟨_, _, by rw [e, h0]⟩
  · exact ⟨_, _, e⟩
theorem OneT.get {base : Nat} {w : World} {A : Option Addr} {n c k : Nat} {l : List (Int × Nat)} {p : Int × Nat} (h : OneT base w (.slice A n c) l) (hp : l[k]? = some p) :
    ∃ g, A = some ⟨g, 0, none⟩ ∧ w.cell? ⟨g, k * 2, none⟩ = some (.int .i64 p.1) ∧ w.cell? ⟨g, k * 2 + 1, none⟩ = some (.int .i64 (p.2 : Nat)) := by
  have hk := (List.getElem?_eq_some_iff.1 hp).1
  rcases h.2 with ⟨e, h0⟩ | ⟨g, cap, cur, e, _⟩
  · omega
  · injection e with e1 e2 e3
    subst e1
    have hc := World.ownsRow.cells h (g := g) rfl
    refine ⟨g, rfl, ?_, ?_⟩
    · have := hc (k * 2 + 0) (.int .i64 p.1) (by rw [flat_get oc 2 oc_len l k 0 (by omega), hp]; rfl)
      rw [Addr.add_lit] at this
      simpa using this
    · have := hc (k * 2 + 1) (.int .i64 (p.2 : Nat)) (by rw [flat_get oc 2 oc_len l k 1 (by omega), hp]; rfl)
      rw [Addr.add_lit] at this
      simpa using this

/-- Does a queue's call leave the reference's list? -/
theorem OneT.fq {base : Nat} {w w' : World} {q q' : Qs} {l' : List (Int × Nat)} {v : Value} {l : List (Int × Nat)} (h : OneT base w v l) (hq : IsQ w q l') (hf : Fq q q' w w') : OneT base w' v l :=
  own_keep h fun g cs hB => hf.block g hB.lt (hq.out hB (by decide) (by decide))

theorem info49 : (Try.prog.info? 49).map (fun i => (i.zero, i.size, i.bytes)) = some (some (.agg #[.int .i64 0, .int .i64 0]), 2, 16) := by kernel_rfl

theorem take_snoc {α : Type} {l : List α} {k : Nat} {p : α} (hp : l[k]? = some p) : l.take (k + 1) = l.take k ++ [p] := by
  have hk := (List.getElem?_eq_some_iff.1 hp).1
  rw [List.take_succ_eq_append_getElem hk, ← (List.getElem?_eq_some_iff.1 hp).2]

theorem refhas (base : Nat) (A : Option Addr) (n c : Nat) (l : List (Int × Nat)) (x : Int) (w : World) (hn : n = l.length) (h : OneT base w (.slice A n c) l) (hb : n ≤ 1000) :
    Calls Try.prog 14 #[.slice A n c, .int .i64 x] w fun e w' => e = .returned (.bool (decide (x ∈ l.map Prod.fst))) ∧ w = w' := by
  have H := Lib.hid h
  have Hn := Lib.hid hn
  clear h hn
  go_enter Try.func14, Try.ntmps14
  go_wp2_with fail
  go_loopw [5] (fun i wr => ∃ k : Nat, k ≤ n ∧ i = .int .i64 (k : Nat) ∧ Hid (x ∉ (l.take k).map Prod.fst) ∧ w = wr) (fun i _ => n - (intOf i).toNat)
  case atStart => exact ⟨0, Nat.zero_le _, rfl, Lib.hid (by simp), rfl⟩
  case round =>
    obtain ⟨k, hk, rfl, HX, rfl⟩ := hrel
    by_cases hlt : k < n
    · obtain ⟨p, hp⟩ : ∃ p, l[k]? = some p := ⟨_, List.getElem?_eq_getElem (by rw [← Hn.out]; exact hlt)⟩
      obtain ⟨g, rfl, c0, -⟩ := H.out.get hp
      have hki : (k : Int) < (n : Nat) := by omega
      have Hp := Lib.hid hp
      clear hp
      have d0 : decide (k < n) = true := by simpa using hlt
      by_cases hx : p.1 = x
      · have d1 : (p.1 == x) = true := by simpa using hx
        have Hx := Lib.hid hx
        clear hx
        go_wp2_with fail
        go_ret
        refine ⟨?_, rfl⟩
        rw [decide_eq_true (List.mem_map.2 ⟨p, List.mem_of_getElem? Hp.out, Hx.out⟩)]
        rfl
      · have d1 : (p.1 == x) = false := by simpa using hx
        have Hx := Lib.hid hx
        clear hx
        go_wp2_with fail
        go_roundw
        case rel =>
          refine ⟨k + 1, by omega, by go_num, Lib.hid ?_, by first | trivial | rfl⟩
          rw [take_snoc Hp.out, List.map_append, List.mem_append]
          rintro (h' | h')
          · exact HX.out h'
          · simp at h'
            exact Hx.out h'.symm
        case measure => simp [intOf]; omega
    · have d0 : decide (k < n) = false := by simpa using hlt
      go_wp2_with fail
      go_ret
      refine ⟨?_, rfl⟩
      have hx := HX.out
      rw [List.take_of_length_le (by rw [← Hn.out]; omega)] at hx
      rw [decide_eq_false hx]
      rfl

theorem refpush_no (base : Nat) (A : Option Addr) (n c : Nat) (l : List (Int × Nat)) (m x b : Int) (w : World) (hn : n = l.length) (h : OneT base w (.slice A n c) l) (hb : n ≤ 1000) (hno : x < 0 ∨ m ≤ x ∨ x ∈ l.map Prod.fst) :
    Calls Try.prog 10 #[.slice A n c, .int .i64 m, .int .i64 x, .int .i64 b] w fun e w' => e = .returned (.tuple #[.slice A n c, .bool false]) ∧ w = w' := by
  have HC := Lib.hid (refhas base A n c l x w hn h hb)
  clear hn h
  by_cases h0 : x < 0
  · have d0 : decide (x < 0) = true := by simpa using h0
    clear hno h0
    go_enter Try.func10, Try.ntmps10
    go_wp2_with fail
    refine HC.out.mono ?_
    rintro e w1 ⟨rfl, rfl⟩
    generalize decide (x ∈ l.map Prod.fst) = t
    go_wp2_with fail
    go_ret2
    exact ⟨rfl, rfl⟩
  · have d0 : decide (x < 0) = false := by simpa using h0
    by_cases h1 : m ≤ x
    · have d1 : decide (m ≤ x) = true := by simpa using h1
      clear hno h0 h1
      go_enter Try.func10, Try.ntmps10
      go_wp2_with fail
      refine HC.out.mono ?_
      rintro e w1 ⟨rfl, rfl⟩
      generalize decide (x ∈ l.map Prod.fst) = t
      go_wp2_with fail
      go_ret2
      exact ⟨rfl, rfl⟩
    · have d1 : decide (m ≤ x) = false := by simpa using h1
      have h2 : x ∈ l.map Prod.fst := by
        rcases hno with h | h | h
        · exact absurd h h0
        · exact absurd h h1
        · exact h
      rw [decide_eq_true h2] at HC
      clear hno h0 h1 h2
      go_enter Try.func10, Try.ntmps10
      go_wp2_with fail
      refine HC.out.mono ?_
      rintro e w1 ⟨rfl, rfl⟩
      go_wp2_with fail
      go_ret2
      exact ⟨rfl, rfl⟩

theorem oc_one (w : World) (y : Int) (k : Nat) : ∀ j u, (oc (y, k))[j]? = some u → (w.alloc (.cells #[.int .i64 y, .int .i64 (k : Nat)] 49)).cell? ((⟨w.heap.size, 0, none⟩ : Addr).add j) = some u := by
  intro j u hj
  have hB := Blk.new w #[.int .i64 y, .int .i64 (k : Nat)] 49
  match j, hj with
  | 0, hj =>
    rw [Addr.add_lit, hB.cell]
    simpa [oc] using hj
  | 1, hj =>
    rw [Addr.add_lit, hB.cell]
    simpa [oc] using hj
  | j + 2, hj => simp [oc] at hj
theorem oc_cell (p : Int × Nat) : ∀ u ∈ oc p, u.oneCell' = true := by
  intro u hu
  simp [oc] at hu
  rcases hu with rfl | rfl <;> rfl
end Go.Proofs.Ytfbpdkajonpphaa

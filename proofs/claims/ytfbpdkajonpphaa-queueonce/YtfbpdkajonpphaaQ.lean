/- A queue in memory: its block, its four buckets, its map. Definitions and plain facts; no walk. -/
import Derived.Test.YtfbpdkajonpphaaRows
import Derived.WalkKit
import Derived.Maps.OwnSet
import Derived.Maps.AppendAt
import Derived.Lib.Hide
namespace Go.Proofs.Ytfbpdkajonpphaa
open Go.RowKit Go.Maps

/-- A block, whole. -/
def Blk (w : World) (g : Nat) (cs : Array Value) (t : TypeId) : Prop := w.heap[g]? = some (.cells cs t (0, 0))
theorem lt_of_heap {w : World} {b : Nat} {o : Obj} (h : w.heap[b]? = some o) : b < w.heap.size := (Array.getElem?_eq_some_iff.1 h).1
theorem Blk.lt {w : World} {g : Nat} {cs : Array Value} {t : TypeId} (h : Blk w g cs t) : g < w.heap.size := lt_of_heap h
theorem Blk.below {w w' : World} {g : Nat} {cs : Array Value} {t : TypeId} (h : Blk w g cs t) (hb : Below w.heap.size w w') : Blk w' g cs t := (hb.block g h.lt).trans h
theorem Blk.new (w : World) (cs : Array Value) (t : TypeId) : Blk (w.alloc (.cells cs t)) w.heap.size cs t := heap_alloc_new w _
theorem Blk.cell {w : World} {g : Nat} {cs : Array Value} {t : TypeId} (h : Blk w g cs t) (i : Nat) : w.cell? ⟨g, i, none⟩ = cs[i]? := by
  unfold Blk at h; simp [World.cell?, h]
theorem Blk.free {w : World} {g : Nat} {cs : Array Value} {t : TypeId} (h : Blk w g cs t) (i : Nat) : w.frozen? ⟨g, i, none⟩ = false := by
  unfold Blk at h; simp [World.frozen?, h]
theorem Blk.set {w : World} {g : Nat} {cs : Array Value} {t : TypeId} (h : Blk w g cs t) (i : Nat) (v : Value) : Blk (w.setCell ⟨g, i, none⟩ v) g (cs.setIfInBounds i v) t := heap_setCell_same w g i cs t v h
theorem Blk.other {w : World} {g : Nat} {cs : Array Value} {t : TypeId} (h : Blk w g cs t) {a : Addr} (hne : g ≠ a.block) (v : Value) : Blk (w.setCell a v) g cs t := (heap_setCell_other w a g v hne).trans h
theorem Blk.ne {w : World} {g g' : Nat} {cs cs' : Array Value} {t t' : TypeId} (h : Blk w g cs t) (h' : Blk w g' cs' t') (ht : t ≠ t') : g ≠ g' := by
  rintro rfl
  unfold Blk at h h'
  rw [h] at h'
  injection h' with h'; injection h' with _ h'
  exact ht h'
theorem Blk.grown {w w' : World} {g : Nat} {cs : Array Value} {t : TypeId} {row : Option Nat} (h : Blk w g cs t) (hg : w.grownBy w' row) (hne : some g ≠ row) : Blk w' g cs t := (hg.block g h.lt hne).trans h

theorem below1 (w : World) (o : Obj) : Below w.heap.size w (w.alloc o) := (Below.refl _ _).alloc (Nat.le_refl _) _

theorem grown_set (w : World) (a : Addr) (v : Value) : w.grownBy (w.setCell a v) (some a.block) :=
  ⟨rfl, rfl, rfl, by simp [World.setCell], fun k _ hk => heap_setCell_other w a k v (fun e => hk (by rw [e]))⟩

/-- A bucket: a slice of numbers, wherever it begins in its block. -/
def Bkt (w : World) (v : Value) (xs : List Int) : Prop :=
  (v = .slice none 0 0 ∧ xs = []) ∨ ∃ (g off cap : Nat) (cur : Array Value), v = .slice (some ⟨g, off, none⟩) xs.length cap ∧ Blk w g cur 3 ∧ xs.length ≤ cap ∧ cap ≤ maxLen ∧ off + cap ≤ cur.size ∧ ∀ (j : Nat) (x : Int), xs[j]? = some x → cur[off + j]? = some (.int .i64 x)

theorem Bkt.nil (w : World) : Bkt w (.slice none 0 0) [] := .inl ⟨rfl, rfl⟩

theorem Bkt.lt {w : World} {v : Value} {xs : List Int} (h : Bkt w v xs) : ∀ g, v.ownBlock = some g → g < w.heap.size := by
  rintro g hg
  rcases h with ⟨rfl, -⟩ | ⟨g', off, cap, cur, rfl, hB, -⟩
  · cases hg
  · simp only [Value.ownBlock, Option.some.injEq] at hg
    subst hg
    exact hB.lt

theorem Bkt.shape {w : World} {v : Value} {xs : List Int} (h : Bkt w v xs) : ∃ A c, v = .slice A xs.length c := by
  rcases h with ⟨rfl, rfl⟩ | ⟨g', off, cap, cur, rfl, -⟩
  · exact ⟨_, _, rfl⟩
  · exact ⟨_, _, rfl⟩

theorem Bkt.keep {w w' : World} {v : Value} {xs : List Int} (h : Bkt w v xs) (hk : ∀ g, v.ownBlock = some g → w'.heap[g]? = w.heap[g]?) : Bkt w' v xs := by
  rcases h with ⟨rfl, rfl⟩ | ⟨g, off, cap, cur, rfl, hB, hr⟩
  · exact .inl ⟨rfl, rfl⟩
  · exact .inr ⟨g, off, cap, cur, rfl, (hk g rfl).trans hB, hr⟩

theorem Bkt.cell {w : World} {v : Value} {xs : List Int} (h : Bkt w v xs) {j : Nat} {x : Int} (hx : xs[j]? = some x) : ∃ g off cap, v = .slice (some ⟨g, off, none⟩) xs.length cap ∧ xs.length ≤ cap ∧ w.cell? ⟨g, off + j, none⟩ = some (.int .i64 x) := by
  rcases h with ⟨rfl, rfl⟩ | ⟨g, off, cap, cur, rfl, hB, h1, h2, h3, h4⟩
  · simp at hx
  · exact ⟨g, off, cap, rfl, h1, (hB.cell _).trans (h4 j x hx)⟩

/-- The bucket without its first number. -/
theorem Bkt.tail {w : World} {g off n cap : Nat} {x : Int} {xs : List Int} (h : Bkt w (.slice (some ⟨g, off, none⟩) n cap) (x :: xs)) : Bkt w (sliced (some ⟨g, off, none⟩) 1 n cap 1) xs ∧ ∀ b, (sliced (some ⟨g, off, none⟩) 1 n cap 1).ownBlock = some b → b = g := by
  rcases h with ⟨h, -⟩ | ⟨g', off', cap', cur, h, hB, h1, h2, h3, h4⟩
  · cases h
  · injection h with e1 e2 e3
    injection e1 with e1
    injection e1 with e4 e5
    subst e4 e5 e3 e2
    simp only [List.length_cons] at h1
    have hl : (x :: xs).length - 1 = xs.length := by simp
    unfold sliced
    rw [hl]
    split
    · rename_i hc
      have hx : xs = [] := List.eq_nil_of_length_eq_zero (by omega)
      subst hx
      exact ⟨.inr ⟨g, off, cap - 1, cur, rfl, hB, by simp, by omega, by omega, by simp⟩, fun b hb => by simpa [Value.ownBlock] using hb.symm⟩
    · refine ⟨.inr ⟨g, off + 1, cap - 1, cur, ?_, hB, by omega, by omega, by omega, fun j y hy => ?_⟩, fun b hb => ?_⟩
      · simp [Addr.add_lit]
      · have := h4 (j + 1) y (by simpa using hy)
        rw [show off + 1 + j = off + (j + 1) by omega]
        exact this
      · simp [Value.ownBlock, Addr.add_lit] at hb
        exact hb.symm

/-- One more number at a bucket's end. -/
theorem run_append_bkt {P : Program} (w : World) (t ty : TypeId) (i : TypeInfo) (ht : P.underlying t = some (.slice 3)) (hi : P.info? 3 = some i) (hz : i.zero = some (.int .i64 0)) (hsize : i.size = 1) (hby : i.bytes = 8)
    (v : Value) (xs : List Int) (hR : Bkt w v xs) (ad : Addr) (c : Nat) (x : Int) (hc : w.cell? ad = some (.int .i64 x)) (hl : xs.length + 1 ≤ 1000000) :
    ∃ v' w', (Builtin.append_ #[t, t] ty #[v, .slice (some ad) 1 c]).run P w = .ok v' w' ∧ Bkt w' v' (xs ++ [x]) ∧ w.grownBy w' v.ownBlock ∧ ∀ g, v'.ownBlock = some g → v.ownBlock = some g ∨ w.heap.size ≤ g := by
  have hnews : ∀ j u, ([Value.int .i64 x] : List Value)[j]? = some u → w.cell? (ad.add j) = some u := by
    intro j u hu
    match j, hu with
    | 0, hu =>
      simp at hu
      subst hu
      rw [show ad.add 0 = ad by simp [Addr.add]]
      exact hc
    | j + 1, hu => simp at hu
  have h1 : ∀ u ∈ ([Value.int .i64 x] : List Value), u.oneCell' = true := by simp [Value.oneCell']
  have hnl : ([Value.int .i64 x] : List Value).length = 1 * i.size := by simp [hsize]
  rcases hR with ⟨rfl, rfl⟩ | ⟨g, off, cap, cur, rfl, hB, h2, h3, h4, h5⟩
  · refine ⟨_, _, run_append_nil (P := P) w t ty 3 i _ ht hi hz ad 1 c _ hnl hnews (by omega) (by omega) (by omega), ?_, ?_, ?_⟩
    · refine .inr ⟨w.heap.size, 0, _, _, rfl, heap_alloc_new _ _, by simpa using grownCap_ge w 1 0 3, grownCap_le_maxLen w 1 0 3 (by decide), ?_, ?_⟩
      · have := grownCap_ge w 1 0 3
        simp [size_zeroCells, Value.cells]
        omega
      · intro j y hy
        match j, hy with
        | 0, hy =>
          simp at hy
          subst hy
          rw [Array.getElem?_append_left (by simp)]
          simp
        | j + 1, hy => simp at hy
    · exact ⟨rfl, rfl, rfl, by simp, fun k hk _ => heap_alloc_old w.drew _ hk⟩
    · rintro g hg
      simp [Value.ownBlock] at hg
      right
      omega
  · by_cases hroom : xs.length + 1 ≤ cap
    · have hf := run_firstCells_some (P := P) w i.size 1 ad 1 c _ hnl hnews
      have hst := run_storeCells_at P g (off + xs.length * i.size) 3 [.int .i64 x] 0 cur w hB (by simp [hsize]; omega) h1
      simp only [Nat.add_zero] at hst
      refine ⟨.slice (some ⟨g, off, none⟩) (xs.length + 1) cap, w.setRow g (cur.toList.take (off + xs.length * i.size) ++ [Value.int .i64 x] ++ cur.toList.drop (off + xs.length * i.size + [Value.int .i64 x].length)).toArray, by simp [Builtin.append_, run_underlying ht, sizeOf, typeInfo, hi, Builtin.lenOf, hroom, hf, Addr.add_lit, hst], ?_, ?_, ?_⟩
      · refine .inr ⟨g, off, cap, _, by simp, setRow_heap w g cur _ 3 _ hB, by simpa using hroom, h3, ?_, ?_⟩
        · simp [hsize]
          omega
        · intro j y hy
          rw [hsize]
          by_cases hj : j < xs.length
          · rw [List.getElem?_append_left hj] at hy
            have := h5 j y hy
            simp only [Nat.mul_one, List.getElem?_toArray]
            rw [List.append_assoc, List.getElem?_append_left (by simp; omega), List.getElem?_take_of_lt (by omega)]
            simpa using this
          · have hj' : j = xs.length := by
              have := (List.getElem?_eq_some_iff.1 hy).1
              simp at this
              omega
            subst hj'
            simp at hy
            subst hy
            simp only [Nat.mul_one, List.getElem?_toArray]
            rw [List.append_assoc, List.getElem?_append_right (by simp; omega), List.getElem?_append_left (by simp; omega)]
            have : (List.take (off + xs.length) cur.toList).length = off + xs.length := by simp; omega
            rw [this]
            simp
      · exact ⟨rfl, rfl, rfl, by simp [World.setRow], fun k hk hne => setRow_other w g k _ (fun e => hne (by simp [Value.ownBlock, e]))⟩
      · intro b hb
        exact .inl hb
    · have holds : ∀ j u, (xs.map (Value.int .i64))[j]? = some u → w.cell? ((⟨g, off, none⟩ : Addr).add j) = some u := by
        intro j u hu
        rw [List.getElem?_map] at hu
        obtain ⟨y, hy, rfl⟩ := Option.map_eq_some_iff.1 hu
        rw [Addr.add_lit, hB.cell]
        exact h5 j y hy
      have hml : xs.length + 1 ≤ maxLen := by unfold maxLen; omega
      refine ⟨_, _, run_append_grow (P := P) w t ty 3 i _ ht hi hz ⟨g, off, none⟩ xs.length cap (xs.map (Value.int .i64)) (by simp [hsize]) holds ad 1 c _ hnl hnews (by omega) (by omega) (growslice_fits (by omega) (by rw [hby]; omega)), ?_, ?_, ?_⟩
      · refine .inr ⟨w.heap.size, 0, _, _, by simp, heap_alloc_new _ _, by simpa using grownCap_ge w (xs.length + 1) cap 3, grownCap_le_maxLen w (xs.length + 1) cap 3 hml, ?_, ?_⟩
        · have := grownCap_ge w (xs.length + 1) cap 3
          simp [size_zeroCells, Value.cells]
          omega
        · intro j y hy
          by_cases hj : j < xs.length
          · rw [List.getElem?_append_left hj] at hy
            rw [Array.getElem?_append_left (by simp; omega), Array.getElem?_append_left (by simp; omega)]
            simp [hy]
          · have hj' : j = xs.length := by
              have := (List.getElem?_eq_some_iff.1 hy).1
              simp at this
              omega
            subst hj'
            simp at hy
            subst hy
            rw [Array.getElem?_append_left (by simp), Array.getElem?_append_right (by simp)]
            simp
      · exact ⟨rfl, rfl, rfl, by simp, fun k hk _ => heap_alloc_old w.drew _ hk⟩
      · rintro b hb
        simp [Value.ownBlock] at hb
        right
        omega
end Go.Proofs.Ytfbpdkajonpphaa

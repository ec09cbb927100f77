/- Contracts of the reference's New, Now and Push (layer 3). -/
import Derived.Test.YtegiaonlneamfaaDoorRowp
import Derived.Deep.RegionLaw
namespace Go.Proofs.YtegiaonlneamfaaDoor
open Go.RowKit

/-- The domains of all levels, as lists. -/
def LevT (w : World) (v : Value) (H : List (List (List Int))) : Prop := ∃ vs : List Value, w.ownsRow 0 22 1 v H.length vs ∧ ∀ (k : Nat) (x : Value) (LL : List (List Int)), vs[k]? = some x → H[k]? = some LL → RowsT w x LL
theorem LevT.below {w w' : World} {v : Value} {H : List (List (List Int))} (h : LevT w v H) (hb : Below w.heap.size w w') : LevT w' v H := by
  obtain ⟨vs, h1, h2⟩ := h
  exact ⟨vs, own_below h1 hb, fun k x L a b => (h2 k x L a b).below hb⟩
theorem LevT.fr {b : Nat} {w w' : World} {v : Value} {H : List (List (List Int))} (h : LevT w v H) (hf : Fr b w w') : LevT w' v H := by
  obtain ⟨vs, h1, h2⟩ := h
  exact ⟨vs, own_fr h1 (by decide) hf, fun k x L a b => (h2 k x L a b).fr hf⟩
theorem LevT.shape {w : World} {v : Value} {H : List (List (List Int))} (h : LevT w v H) : ∃ A c, v = .slice A H.length c ∧ H.length ≤ c := by
  obtain ⟨vs, h1, h2⟩ := h
  rcases h1.2 with ⟨rfl, h0⟩ | ⟨g, cap, cur, rfl, hb, hg, hn, hm, hs, ht⟩
  · exact ⟨none, 0, by rw [h0], by omega⟩
  · exact ⟨_, _, rfl, hn⟩
/-- What stands in it. -/
theorem LevT.get {w : World} {v : Value} {H : List (List (List Int))} (h : LevT w v H) {k : Nat} {LL : List (List Int)} (hk : H[k]? = some LL) : ∃ g c x, v = .slice (some ⟨g, 0, none⟩) H.length c ∧ w.cell? ⟨g, k, none⟩ = some x ∧ RowsT w x LL := by
  obtain ⟨vs, h1, h2⟩ := h
  have hlt : k < H.length := (List.getElem?_eq_some_iff.1 hk).1
  rcases h1.2 with ⟨rfl, h0⟩ | ⟨g, cap, cur, rfl, hb, hg, hn, hm, hs, ht⟩
  · omega
  · have hvl : vs.length = H.length := by have := h1.1; omega
    have hx : vs[k]? = some vs[k] := List.getElem?_eq_getElem (by omega)
    refine ⟨g, cap, vs[k], rfl, ?_, h2 k _ LL hx hk⟩
    rw [Blk.cell (show Blk w g cur 22 from hg), ← Array.getElem?_toList, ← hx, ← ht, List.getElem?_take_of_lt (by omega)]

/-- The events, as the reference keeps them. -/
def EvT (w : World) (v : Value) (es : List (Int × Int)) : Prop := w.ownsRow 0 79 2 v es.length (es.flatMap evCells)
theorem EvT.below {w w' : World} {v : Value} {es : List (Int × Int)} (h : EvT w v es) (hb : Below w.heap.size w w') : EvT w' v es := own_below h hb
theorem EvT.fr {b : Nat} {w w' : World} {v : Value} {es : List (Int × Int)} (h : EvT w v es) (hf : Fr b w w') : EvT w' v es := own_fr h (by decide) hf
theorem EvT.nil (w : World) : EvT w (.slice none 0 0) [] := World.ownsRow_nil _ _ _ _

/-- append onto a row of one's own, in a region that draws its order. -/
theorem step_append_own {P : Program} {ops : Array Oper} {o : Oper} {a : Act} {w : World} {K : Act → World → Prop} {Q : Exit → Act → World → Prop} {E : Prop}
    (hg : o.guard = none) (s x : Operand) (t : TypeId) (hop : o.op = Op.call { callee := Callee.builtin Builtin.append, args := #[s, x], argTypes := #[t, t] })
    (base : Nat) (e : TypeId) (i : TypeInfo) (z : Value) (size bytes : Nat) (ht : P.underlying t = some (.slice e)) (hi : P.info? e = some i) (hz : i.zero = some z)
    (hsize : i.size = size) (hby : i.bytes = bytes) (hzs : z.cells.size = size) (hsz : 0 < size)
    (v : Value) (n : Nat) (xs : List Value) (hs : a.eval s = v) (hown : w.ownsRow base e size v n xs)
    (ad : Addr) (c : Nat) (news : List Value) (hx : a.eval x = .slice (some ad) 1 c) (hl : news.length = 1 * size) (hnews : ∀ j u, news[j]? = some u → w.cell? (ad.add j) = some u) (h1 : ∀ u ∈ news, u.oneCell' = true)
    (h63 : n + 1 ≤ maxLen) (hbytes : (n + 1) * bytes ≤ 140737488355328) (hbase : base ≤ w.heap.size)
    (hK : ∀ v' w', w'.ownsRow base e size v' (n + 1) (xs ++ news) → w.grownBy w' v.ownBlock → K (a.put o.dst v') w') :
    if Region.wanted o (yielded ops a.tmps) = true then Oper.wp P o a w K Q else E := by
  have hw : Region.wanted o (yielded ops a.tmps) = true := by simp [Region.wanted, hg]
  rw [if_pos hw]
  obtain ⟨v', w', hr, h2, h3, h4, h5⟩ := run_append_own_at (P := P) w base t o.type e i z size bytes ht hi hz hsize hby hzs hsz v n xs hown ad 1 c news hl hnews h1 h63 hbytes hbase
  unfold Oper.wp
  simp [execOp, hop, resolve, invoke, builtin, hs, hx, hr, Result.andThen]
  exact hK v' w' h2 h3

/-- The last one. -/
theorem now_any (lv ev : Value) (H : List (List (List Int))) (LL : List (List Int)) (w : World) (h : LevT w lv H) (hH : H[H.length - 1]? = some LL) (hev : ∃ A n c, ev = .slice A n c) (hbig : H.length ≤ 1000) :
    Calls Tryd.prog 21 #[.agg #[lv, ev]] w fun e w' => ∃ x, e = .returned x ∧ RowsT w' x LL ∧ Below w.heap.size w w' := by
  have hlt : H.length - 1 < H.length := (List.getElem?_eq_some_iff.1 hH).1
  obtain ⟨g, c, x, rfl, hc, hR⟩ := h.get hH
  obtain ⟨A2, n2, c2, rfl⟩ := hev
  obtain ⟨m, hm⟩ : ∃ m, m = H.length - 1 := ⟨_, rfl⟩
  obtain ⟨n, hn⟩ : ∃ n, n = H.length := ⟨_, rfl⟩
  obtain ⟨X, k, hX, -⟩ := hR.shape
  subst hX
  rw [← hm] at hc
  have w1 : IntKind.i64.wrap ((n : Int) - 1) = (m : Int) := by rw [IntWalk.i64_in _ (by omega)]; omega
  have hmn : (m : Int) < (n : Int) := by omega
  have K := below1 w (.cells #[.slice (some ⟨g, 0, none⟩) n c, .slice A2 n2 c2] 32)
  have c0 : (w.alloc (.cells #[.slice (some ⟨g, 0, none⟩) n c, .slice A2 n2 c2] 32)).cell? ⟨g, m, none⟩ = some (.slice X LL.length k) := (K.cell (World.block_lt_of_cell? w ⟨g, m, none⟩ hc)).trans hc
  have HR := Lib.hid (hR.below K)
  have HK := Lib.hid K
  rw [← hn]
  clear hn hm hc hR K h hH hlt hbig
  go_enter Tryd.func21, Tryd.ntmps21
  go_wp2
  go_ret
  exact ⟨_, rfl, HR.out, HK.out⟩

theorem refnew_any (v : Value) (LL : List (List Int)) (w : World) (h : RowsT w v LL) :
    Calls Tryd.prog 8 #[v] w fun e w' => ∃ lv, e = .returned (.agg #[lv, .slice none 0 0]) ∧ LevT w' lv [LL] ∧ Below w.heap.size w w' := by
  obtain ⟨A, c, rfl, -⟩ := h.shape
  go_enter Tryd.func8, Tryd.ntmps8
  go_wp2
  refine bodyPost_ret (v := .agg #[.slice (some ⟨w.heap.size + 1, 0, none⟩) 1 1, .slice none 0 0]) (by simp [results, Tryd.results8, go_sem]) rfl ⟨_, rfl, ?_, ?_⟩
  · have K1 := below1 w (.cells #[.slice (some ⟨w.heap.size + 1, 0, none⟩) 1 1, .slice none 0 0] 32)
    have K2 := below1 (w.alloc (.cells #[.slice (some ⟨w.heap.size + 1, 0, none⟩) 1 1, .slice none 0 0] 32)) (.cells #[.slice A LL.length c] 22)
    have hN := heap_alloc_new (w.alloc (.cells #[.slice (some ⟨w.heap.size + 1, 0, none⟩) 1 1, .slice none 0 0] 32)) (.cells #[.slice A LL.length c] 22)
    rw [show (w.alloc (.cells #[.slice (some ⟨w.heap.size + 1, 0, none⟩) 1 1, .slice none 0 0] 32)).heap.size = w.heap.size + 1 by simp] at hN
    refine ⟨[.slice A LL.length c], ⟨rfl, .inr ⟨w.heap.size + 1, 1, _, rfl, Nat.zero_le _, hN, Nat.le_refl _, by unfold maxLen; omega, rfl, rfl⟩⟩, fun k x M hx hM => ?_⟩
    match k, hx, hM with
    | 0, hx, hM =>
      cases hx
      cases hM
      exact (h.below K1).below K2
    | k + 1, hx, _ => simp at hx
  · exact below2 _ _ _

/-- Half-way through the copying of levels: the box that is read, the one that is written, the row so far. -/
structure Copy (w wr : World) (sb tb : Nat) (lv ev cur tv : Value) (k : Nat) (xs : List Value) : Prop where
  src : Blk wr sb #[lv, ev] 32
  dst : Blk wr tb #[cur, tv] 32
  row : wr.ownsRow w.heap.size 22 1 cur k xs
  low : Below w.heap.size w wr
  ne : sb ≠ tb
  at1 : w.heap.size ≤ sb
  at2 : w.heap.size ≤ tb

theorem Copy.below {w wr w' : World} {sb tb : Nat} {lv ev cur tv : Value} {k : Nat} {xs : List Value} (h : Copy w wr sb tb lv ev cur tv k xs) (hb : Below wr.heap.size wr w') : Copy w w' sb tb lv ev cur tv k xs :=
  ⟨h.src.below hb, h.dst.below hb, own_below h.row hb, h.low.trans (hb.mono h.low.size), h.ne, h.at1, h.at2⟩

theorem own_ne {w : World} {base : Nat} {e t : TypeId} {size n : Nat} {v : Value} {xs : List Value} {g : Nat} {cs : Array Value} (h : w.ownsRow base e size v n xs) (hB : Blk w g cs t) (ht : e ≠ t) : some g ≠ v.ownBlock := by
  rcases h.2 with ⟨rfl, rfl⟩ | ⟨g', cap, cur, rfl, hb, hg, hr⟩
  · simp [Value.ownBlock]
  · intro e'
    simp only [Value.ownBlock, Option.some.injEq] at e'
    subst e'
    exact Blk.ne (show Blk w g cur e from hg) hB ht rfl

/-- One more appended, and laid down. -/
theorem Copy.step {w wr w' : World} {sb tb : Nat} {lv ev cur tv cur' x : Value} {k : Nat} {xs : List Value} (h : Copy w wr sb tb lv ev cur tv k xs) (hR : w'.ownsRow w.heap.size 22 1 cur' (k + 1) (xs ++ [x])) (hG : wr.grownBy w' cur.ownBlock) :
    Blk w' tb #[cur, tv] 32 ∧ Copy w (w'.setCell ⟨tb, 0, none⟩ cur') sb tb lv ev cur' tv (k + 1) (xs ++ [x]) := by
  have hs : Blk w' sb #[lv, ev] 32 := (hG.block sb h.src.lt (own_ne h.row h.src (by decide))).trans h.src
  have hd : Blk w' tb #[cur, tv] 32 := (hG.block tb h.dst.lt (own_ne h.row h.dst (by decide))).trans h.dst
  refine ⟨hd, hs.other h.ne _, hd.set 0 cur', own_keep hR fun g _ hB => heap_setCell_other w' _ g cur' (hB.ne hd (by decide)), ?_, h.ne, h.at1, h.at2⟩
  have hl := h.low.grown hG h.low.size fun g hg => own_ge h.row g hg
  exact hl.grown (grown_set w' ⟨tb, 0, none⟩ cur') hl.size fun g hg => by simp only [Option.some.injEq] at hg; have := h.at2; omega

theorem slice_row {w : World} {base : Nat} {e : TypeId} {size n : Nat} {v : Value} {xs : List Value} (h : w.ownsRow base e size v n xs) : ∃ A c, v = .slice A n c := by
  rcases h.2 with ⟨rfl, rfl⟩ | ⟨g, cap, cur, rfl, _⟩
  · exact ⟨_, _, rfl⟩
  · exact ⟨_, _, rfl⟩

end Go.Proofs.YtegiaonlneamfaaDoor

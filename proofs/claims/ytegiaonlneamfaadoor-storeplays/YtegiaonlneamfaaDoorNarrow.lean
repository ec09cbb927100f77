/- Contract of a store's Narrow. -/
import Derived.Test.YtegiaonlneamfaaDoorPut
import Derived.Test.YtegiaonlneamfaaDoorInf
import Derived.Deep.RegionLaw
import Derived.StillTailTactics
namespace Go.Proofs.YtegiaonlneamfaaDoor
open Go.RowKit

theorem step_append_row {P : Program} {ops : Array Oper} {o : Oper} {a : Act} {w : World} {K : Act → World → Prop} {Q : Exit → Act → World → Prop} {E : Prop}
    (hg : o.guard = none) (s x : Operand) (t : TypeId) (hop : o.op = Op.call { callee := Callee.builtin Builtin.append, args := #[s, x], argTypes := #[t, t] })
    (base : Nat) (e : TypeId) (i : TypeInfo) (z : Value) (size bytes : Nat) (ht : P.underlying t = some (.slice e)) (hi : P.info? e = some i) (hz : i.zero = some z)
    (hsize : i.size = size) (hby : i.bytes = bytes) (hzs : z.cells.size = size) (hsz : 0 < size) (he : ofStore e) (hzp : ∀ u ∈ z.cells, plainV u)
    (v : Value) (n : Nat) (xs : List Value) (hs : a.eval s = v) (hR : Row base w e size v n xs)
    (ad : Addr) (c : Nat) (news : List Value) (hx : a.eval x = .slice (some ad) 1 c) (hl : news.length = 1 * size) (hnews : ∀ j u, news[j]? = some u → w.cell? (ad.add j) = some u) (h1 : ∀ u ∈ news, u.oneCell' = true) (hnp : ∀ u ∈ news, plainV u)
    (h63 : n + 1 ≤ maxLen) (hbytes : (n + 1) * bytes ≤ 140737488355328) (hbase : base ≤ w.heap.size)
    (hK : ∀ v' w', Row base w' e size v' (n + 1) (xs ++ news) → Fr base w w' → w.grownBy w' v.ownBlock → K (a.put o.dst v') w') :
    if Region.wanted o (yielded ops a.tmps) = true then Oper.wp P o a w K Q else E := by
  have hw : Region.wanted o (yielded ops a.tmps) = true := by simp [Region.wanted, hg]
  rw [if_pos hw]
  obtain ⟨v', w', hr, h2, h3, h4⟩ := run_append_row (P := P) w base t o.type e i z size bytes ht hi hz hsize hby hzs hsz v n xs hR he hzp ad 1 c news hl hnews h1 hnp (by omega) h63 hbytes hbase
  unfold Oper.wp
  simp [execOp, hop, resolve, invoke, builtin, hs, hx, hr, Result.andThen]
  exact hK v' w' h2 h3 h4

section
variable {base S : Nat} {w : World} {st : Sto}

theorem narrow_out (h : IsStore base w S st) (i : Int) (hi : i < 0 ∨ (st.vs.length : Int) ≤ i) (s z : Int) (A : Option Addr) (n c : Nat) :
    Calls Tryd.prog 17 #[ptr S, .int .i64 i, .agg #[.int .i64 s, .slice A n c, .int .i64 z]] w fun e w' => e = .returned (.int .i64 0) ∧ Below w.heap.size w w' := by
  have hb : (decide (0 ≤ i) && decide (i < (st.vs.length : Nat))) = false := by
    rcases hi with hi | hi
    · rw [show decide (0 ≤ i) = false by simp; omega]; rfl
    · rw [show decide (i < (st.vs.length : Nat)) = false by simp; omega, Bool.and_false]
  go_enter Tryd.func17, Tryd.ntmps17
  go_wp2_with fail
  refine (has_store (h.below (below1 _ _)) i false hb).mono ?_
  rintro e w' ⟨rfl, rfl⟩
  go_wp2_with fail
  go_ret
  exact ⟨rfl, below1 _ _⟩

/-- A store's change, as numbers. -/
def Nar (st : Sto) (i : Nat) (v : Vr) (P : List Int) (st' : Sto) : Prop :=
  ∃ v' : Vr, v'.L = P ∧ v'.since = st.lev ∧ st'.vs = st.vs.set i v' ∧ st'.bs = (if v.since < st.lev then st.bs ++ [⟨i, v⟩] else st.bs) ∧ st'.lev = st.lev ∧ st'.es = st.es ++ [((i : Int), chg v.L P)]

set_option maxHeartbeats 1000000 in
theorem narrow_same (h : IsStore base w S st) (hT : Tab w) (i : Nat) (v : Vr) (hv : st.vs[i]? = some v) (s : Int) (A : Option Addr) (n c : Nat) (M : List Int) (hd : IsDom w (.agg #[.int .i64 s, .slice A n c, .int .i64 (M.length : Nat)]) M)
    (hch : chg v.L (v.L.filter fun u => decide (u ∈ M)) = 0) :
    Calls Tryd.prog 17 #[ptr S, .int .i64 (i : Nat), .agg #[.int .i64 s, .slice A n c, .int .i64 (M.length : Nat)]] w fun e w' => e = .returned (.int .i64 0) ∧ Below w.heap.size w w' := by
  have hi : i < st.vs.length := (List.getElem?_eq_some_iff.1 hv).1
  have hb : (decide (0 ≤ (i : Int)) && decide ((i : Int) < (st.vs.length : Nat))) = true := by simp; omega
  have hi' : (i : Int) < (st.vs.length : Nat) := by omega
  have o1 := below1 w (.cells #[.int .i64 s, .slice A n c, .int .i64 (M.length : Nat)] 48)
  have o2 := o1.trans ((below1 (w.alloc (.cells #[.int .i64 s, .slice A n c, .int .i64 (M.length : Nat)] 48)) (.cells #[.int .i64 v.s, .slice v.A v.n v.c, .int .i64 (v.L.length : Nat), .int .i64 (v.since : Nat)] 71)).mono o1.size)
  have HS := Lib.hid (h.below o1)
  obtain ⟨c0, -, -, -⟩ := HS.out.cells
  obtain ⟨v0, v1, v2, v3⟩ := vr_cell HS.out.vars hv
  have hdv := h.doms v (List.mem_of_getElem? hv)
  unfold Vr.dom at hdv
  have HA := Lib.hid (and_parts v.L M _ 0 rfl hch _ _ _ (hdv.below o2) (hd.below o2) (hT.below o2))
  have HO := Lib.hid o2
  clear h hdv hd o1 o2 hch
  go_enter Tryd.func17, Tryd.ntmps17
  go_wp2_with fail
  refine (has_store HS.out i true hb).mono ?_
  rintro e w' ⟨rfl, rfl⟩
  go_wp2_with fail
  refine HA.out.mono ?_
  rintro e w3 ⟨s3, A3, n3, c3, rfl, hd3, hb3⟩
  clear c0 v0 v1 v2 v3
  go_wp2_with fail
  go_ret
  refine ⟨rfl, ?_⟩
  have o3 := HO.out.trans (hb3.mono HO.out.size)
  exact o3.trans ((below1 _ _).mono o3.size)

/-- A store behind the first half of a change: what the variable was is kept, or needn't be. -/
def Mid (st : Sto) (i : Nat) (v : Vr) (st7 : Sto) : Prop := st7.vs = st.vs ∧ st7.lev = st.lev ∧ st7.es = st.es ∧ st7.bs = (if v.since < st.lev then st.bs ++ [⟨i, v⟩] else st.bs)

end
end Go.Proofs.YtegiaonlneamfaaDoor

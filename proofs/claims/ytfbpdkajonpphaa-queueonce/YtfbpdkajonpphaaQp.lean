/- Contracts of a queue's Push. -/
import Derived.Test.YtfbpdkajonpphaaQw
import Derived.Deep.RegionLaw
import Derived.StillTailTactics
import Derived.Deep.DeepCutAuto
namespace Go.Proofs.Ytfbpdkajonpphaa
open Go.RowKit Go.Maps

section
variable {w : World} {q : Qs} {l : List (Int × Nat)}

theorem push_low (x b : Int) (h0 : decide (x < 0) = true) (w : World) (g : Nat) : Calls Try.prog 11 #[ptr g, .int .i64 x, .int .i64 b] w fun e w' => e = .returned (.bool false) ∧ w = w' := by
  go_enter Try.func11, Try.ntmps11
  go_wp2
  go_ret
  exact ⟨rfl, rfl⟩

theorem push_high (h : IsQ w q l) (x b : Int) (h0 : decide (x < 0) = false) (h1 : decide (q.n ≤ x) = true) : Calls Try.prog 11 #[ptr q.Q, .int .i64 x, .int .i64 b] w fun e w' => e = .returned (.bool false) ∧ w = w' := by
  obtain ⟨c0, -, -⟩ := h.cells
  go_enter Try.func11, Try.ntmps11
  go_wp2
  go_ret
  exact ⟨rfl, rfl⟩

theorem push_there (h : IsQ w q l) (x b : Int) (hx : (Lit.int .i64 x).wf = true) (h0 : decide (x < 0) = false) (h1 : decide (q.n ≤ x) = false) (h2 : x ∈ l.map Prod.fst) : Calls Try.prog 11 #[ptr q.Q, .int .i64 x, .int .i64 b] w fun e w' => e = .returned (.bool false) ∧ Below w.heap.size w w' := by
  obtain ⟨c0, -, -⟩ := h.cells
  have HC := Lib.hid (has_q h x hx)
  rw [decide_eq_true h2] at HC
  go_enter Try.func11, Try.ntmps11
  go_wp2_with fail
  refine HC.out.mono ?_
  rintro e w1 ⟨rfl, hb⟩
  go_wp2_with fail
  go_ret
  exact ⟨rfl, hb⟩

/-- The bucket that is meant. -/
def bk (b : Int) : Nat := (min (max b 0) 3).toNat
theorem bk_lt (b : Int) : bk b < 4 := by unfold bk; omega

theorem step_append_bkt {P : Program} {ops : Array Oper} {o : Oper} {a : Act} {w : World} {K : Act → World → Prop} {Q : Exit → Act → World → Prop} {E : Prop}
    (hg : o.guard = none) (s x : Operand) (t : TypeId) (hop : o.op = Op.call { callee := Callee.builtin Builtin.append, args := #[s, x], argTypes := #[t, t] })
    (i : TypeInfo) (ht : P.underlying t = some (.slice 3)) (hi : P.info? 3 = some i) (hz : i.zero = some (.int .i64 0)) (hsize : i.size = 1) (hby : i.bytes = 8)
    (v : Value) (xs : List Int) (hs : a.eval s = v) (hR : Bkt w v xs) (ad : Addr) (c : Nat) (y : Int) (hx : a.eval x = .slice (some ad) 1 c) (hc : w.cell? ad = some (.int .i64 y)) (hl : xs.length + 1 ≤ 1000000)
    (hK : ∀ v' w', Bkt w' v' (xs ++ [y]) → w.grownBy w' v.ownBlock → (∀ g, v'.ownBlock = some g → v.ownBlock = some g ∨ w.heap.size ≤ g) → K (a.put o.dst v') w') :
    if Region.wanted o (yielded ops a.tmps) = true then Oper.wp P o a w K Q else E := by
  have hw : Region.wanted o (yielded ops a.tmps) = true := by simp [Region.wanted, hg]
  rw [if_pos hw]
  obtain ⟨v', w', hr, h2, h3, h4⟩ := run_append_bkt (P := P) w t o.type i ht hi hz hsize hby v xs hR ad c y hc hl
  unfold Oper.wp
  simp [execOp, hop, resolve, invoke, builtin, hs, hx, hr, Result.andThen]
  exact hK v' w' h2 h3 h4

theorem Try.info3 : (Try.prog.info? 3).map (fun i => (i.zero, i.size, i.bytes)) = some (some (.int .i64 0), 1, 8) := by kernel_rfl

theorem push_yes (h : IsQ w q l) (x b : Int) (hx : (Lit.int .i64 x).wf = true) (h0 : decide (x < 0) = false) (h1 : decide (q.n ≤ x) = false) (h2 : x ∉ l.map Prod.fst) (hl : l.length + 1 ≤ 1000000) :
    Calls Try.prog 11 #[ptr q.Q, .int .i64 x, .int .i64 b] w fun e w' => e = .returned (.bool true) ∧ ∃ v, IsQ w' (q.put (bk b) v) (l ++ [(x, bk b)]) ∧ Fq q (q.put (bk b) v) w w' := by
  obtain ⟨c0, -, -⟩ := h.cells
  have HC := Lib.hid (has_q h x hx)
  rw [decide_eq_false h2] at HC
  obtain ⟨k, ek⟩ : ∃ k, bk b = k := ⟨_, rfl⟩
  have hk := bk_lt b
  rw [ek] at hk ⊢
  have HK := Lib.hid ek
  clear ek
  obtain ⟨i0, hi0, hz0, hz1, hz2⟩ := info_parts Try.info3
  go_enter Try.func11, Try.ntmps11
  go_wp2_with fail
  refine HC.out.mono ?_
  rintro e w1 ⟨rfl, hb⟩
  clear c0 HC
  go_upto_region 3 with fail
  go_cut [7, 27, 28, 29] (fun a1 a2 a3 a4 wx => a1 = .int .i64 (k : Nat) ∧ a2 = .int .i64 b ∧ (∃ c, a3 = .int .i64 c) ∧ (∃ d, a4 = .int .i64 d) ∧ w1 = wx)
  case first =>
    go_wp2_with fail
    all_goals
      go_meet
      case rel =>
        refine ⟨?_, rfl, ⟨_, rfl⟩, ⟨_, rfl⟩, rfl⟩
        rw [← HK.out]
        congr 1
        unfold bk
        (try split at *)
        all_goals omega
  case rest =>
    obtain ⟨rfl, rfl, ⟨c, rfl⟩, ⟨d, rfl⟩, rfl⟩ := hcut
    have hk4 : (k : Int) < 4 := by omega
    have h1' := h.below hb
    obtain ⟨-, cs, -⟩ := h1'.cells
    obtain ⟨A, cp, hs⟩ := (h1'.bkt k hk).shape
    have ck := cs k hk
    rw [hs] at ck
    have ck' : (w1.alloc (.cells #[.int .i64 x] 3)).cell? ⟨q.Q, 1 + k, none⟩ = some (.slice A (inB l k).length cp) := by rw [(h1'.head.below (below1 _ _)).cell, ← h1'.head.cell]; exact ck
    have HB := Lib.hid (fun W (hW : Below w1.heap.size w1 W) => (h1'.below hW).bkt k hk)
    have HP := Lib.hid (fun (v : Value) (w2 : World) (hv : Bkt w2 v (inB l k ++ [x])) (W : World) (hW : Below w1.heap.size w1 W) (hg : W.grownBy w2 (q.s k).ownBlock) (ho : ∀ g, v.ownBlock = some g → (q.s k).ownBlock = some g ∨ W.heap.size ≤ g) => h.push hk h2 hx hl (hb.trans (hW.mono hb.size)) hv hg ho rfl)
    clear cs
    have Hc := Lib.hid fun (W : World) => (Blk.new W #[.int .i64 x] 3).cell 0
    have Hl : Hid ((inB l k).length + 1 ≤ 1000000) := Lib.hid (by have := inB_len l k; omega)
    have HQ := Lib.hid h1'
    have HN : Hid (some q.Q ≠ (Value.slice A (inB l k).length cp).ownBlock) := Lib.hid (by rw [← hs]; exact fun e => h1'.Q_s k hk e.symm)
    have HE : Hid (q.cells[1 + k]? = some (.slice A (inB l k).length cp)) := Lib.hid (by rw [← h1'.head.cell]; exact ck)
    rw [hs] at HB HP
    clear h1' h0 h1 h2 hl
    go_wp2_with fail
    go_region_law (refine step_append_bkt rfl (.tmp 37) (.tmp 39) 32 rfl i0 Try.underlying32 hi0 hz0 hz1 hz2 (.slice A (inB l k).length cp) (inB l k) rfl (HB.out _ (below1 _ _).drew) ⟨w1.heap.size, 0, none⟩ 1 x rfl (Hc.out _) Hl.out ?_; intro v2 w2 V2 G2 O2; obtain ⟨A2, c2, rfl⟩ := V2.shape; have B2 : Blk w2 q.Q q.cells 46 := (HQ.out.below (below1 w1 (.cells #[.int .i64 x] 3)).drew).head.grown G2 HN.out; have f2 := B2.free (1 + k); have k2 := (B2.cell (1 + k)).trans HE.out; have HM := Lib.hid (HP.out _ _ V2 _ (below1 w1 (.cells #[.int .i64 x] 3)).drew G2 O2); have HB2 := Lib.hid B2; clear V2 G2 O2 B2)
    all_goals
      clear ck ck' f2 k2
      obtain ⟨w3, e3⟩ : ∃ w3, w3 = w2.setCell ⟨q.Q, 1 + k, none⟩ (.slice A2 (inB l k ++ [x]).length c2) := ⟨_, rfl⟩
      have B3 : Blk w3 q.Q (q.put k (.slice A2 (inB l k ++ [x]).length c2)).cells 46 := by rw [Qs.put_cells q k _ hk, e3]; exact HB2.out.set _ _
      rw [← e3] at HM
      simp only [List.length_append, List.length_cons, List.length_nil, Nat.zero_add] at e3
      rw [← e3]
      clear e3
      have c5 : w3.cell? ⟨q.Q, 5, none⟩ = some (.map (some q.m)) := B3.cell 5
      obtain ⟨D, hD, hlt, hfin⟩ := HM.out
      have HF := Lib.hid hfin
      have hkey := key_mk hx
      clear HM hfin B3 HB2
      go_wp2_with (first | (at_mapUpdate; refine wpList_mapUpdate_in _ rfl _ _ _ 43 rfl 3 50 law3 Try.underlying43 _ q.m (size D) D rfl hD hlt _ _ _ rfl rfl hkey _ _ unitElem_mk ?_; intro w4 hown4 ht4) | go_in)
      go_ret
      exact ⟨rfl, _, HF.out w4 hown4 ht4⟩
end
end Go.Proofs.Ytfbpdkajonpphaa

/- Lists that are domains: what all layers want of them (layers 10 to 22). No walk. -/
import Derived.Test.YtkhmocbfkpbpfaaGreatDoorDRefOf
import Derived.Test.YtkhmocbfkpbpfaaGreatDoorDWakes
import Derived.Test.YtkhmocbfkpbpfaaGreatDoorDLess
namespace Go.Proofs.YtkhmocbfkpbpfaaGreatDoor
open Go.RowKit Go.Sort

/-- A list that is a domain's. -/
def DomL (L : List Int) : Prop := L.Pairwise (· < ·) ∧ (L ≠ [] → ofErr L = 0)
theorem ofErr_sub {L S : List Int} (h : ofErr L = 0) (hs : S ≠ []) (hm : ∀ v ∈ S, v ∈ L) : ofErr S = 0 := by
  unfold ofErr at h ⊢
  split at h
  · cases h
  · split at h
    · cases h
    · next h1 h2 =>
      split at h
      · cases h
      · next h3 =>
        rw [if_neg (by simpa using hs), if_neg, if_neg]
        · intro e
          apply h3
          rw [List.any_eq_true] at e ⊢
          obtain ⟨a, ha, e⟩ := e
          rw [List.any_eq_true] at e
          obtain ⟨b, hb, e⟩ := e
          exact ⟨a, hm a ha, List.any_eq_true.2 ⟨b, hm b hb, e⟩⟩
        · intro e
          apply h2
          rw [List.any_eq_true] at e ⊢
          obtain ⟨a, ha, e⟩ := e
          exact ⟨a, hm a ha, e⟩
theorem domL_in {L : List Int} (h : DomL L) : ∀ v ∈ L, -1000000 ≤ v ∧ v ≤ 1000000 := by
  intro v hv
  have he := h.2 (List.ne_nil_of_mem hv)
  unfold ofErr at he
  split at he
  · cases he
  · split at he
    · cases he
    · next h2 =>
      have := List.any_eq_false.1 (Bool.eq_false_iff.2 h2) v hv
      simp [mayB] at this
      omega
theorem ofL_ne {S : List Int} (h : ofErr S = 0) (hs : S ≠ []) : ofL S ≠ [] := by
  rw [ofL_ok _ h]
  intro e
  obtain ⟨v, hv⟩ := List.exists_mem_of_ne_nil S hs
  have := (mem_setOf S v).2 hv
  rw [e] at this
  cases this
theorem ofL_dom {L : List Int} (h : DomL L) : ofL L = L := by
  by_cases e : L = []
  · subst e; rfl
  · rw [ofL_ok _ (h.2 e)]
    exact eq_of_rising _ _ (rising_setOf _) h.1 (fun v => mem_setOf L v)
theorem domL_ofL (S : List Int) : DomL (ofL S) := by
  by_cases he : ofErr S = 0
  · rw [ofL_ok _ he]
    exact ⟨rising_setOf _, fun hn => ofErr_sub he hn fun v hv => (mem_setOf S v).1 hv⟩
  · rw [ofL_err _ _ rfl he]
    exact ⟨List.Pairwise.nil, fun h => absurd rfl h⟩
theorem ofL_short (S : List Int) : (ofL S).length ≤ S.length := by
  by_cases he : ofErr S = 0
  · rw [ofL_ok _ he]; exact setOf_len S
  · rw [ofL_err _ _ rfl he]; simp
theorem ofL_one {a : Int} (h : -1000000 ≤ a ∧ a ≤ 1000000) : ofL [a] = [a] := by
  have he : ofErr [a] = 0 := by
    unfold ofErr
    have hm : mayB a = true := by unfold mayB; simp; omega
    simp [hm]
  rw [ofL_ok _ he]
  rfl
theorem mem_ofL {S L : List Int} {v : Int} (hL : DomL L) (hs : S ≠ []) (hm : ∀ v ∈ S, v ∈ L) : v ∈ ofL S ↔ v ∈ S := by
  obtain ⟨u, hu⟩ := List.exists_mem_of_ne_nil S hs
  rw [ofL_ok _ (ofErr_sub (hL.2 (List.ne_nil_of_mem (hm u hu))) hs hm)]
  exact mem_setOf S v
theorem ofL_same {S T L : List Int} (hL : DomL L) (hs : S ≠ []) (hm : ∀ v ∈ S, v ∈ L) (h : ∀ v, v ∈ T ↔ v ∈ S) : ofL T = ofL S := by
  obtain ⟨u, hu⟩ := List.exists_mem_of_ne_nil S hs
  have hT : T ≠ [] := List.ne_nil_of_mem ((h u).2 hu)
  have e := hL.2 (List.ne_nil_of_mem (hm u hu))
  rw [ofL_ok _ (ofErr_sub e hs hm), ofL_ok _ (ofErr_sub e hT fun v hv => hm v ((h v).1 hv))]
  exact eq_of_rising _ _ (rising_setOf _) (rising_setOf _) fun v => by rw [mem_setOf, mem_setOf, h]
theorem mem_getD_iff {L : List Int} {v : Int} : v ∈ L ↔ ∃ i, i < L.length ∧ L.getD i 0 = v := by
  constructor
  · intro h
    obtain ⟨i, hi, e⟩ := List.getElem_of_mem h
    exact ⟨i, hi, by rw [List.getD_eq_getElem?_getD, List.getElem?_eq_getElem hi]; exact e⟩
  · rintro ⟨i, hi, rfl⟩
    exact getD_mem L i hi
end Go.Proofs.YtkhmocbfkpbpfaaGreatDoor

/- Contract of the document's Keep, where it leaves out one number. -/
namespace Go.Proofs.YtkhmocbfkpbpfaaGreatDoor.D
open Go.RowKit Go.Sort

set_option maxHeartbeats 2000000 in
theorem refchange_any (A B : Option Addr) (L R : List Int) (n m cA cB : Nat) (w : World) (hn : n = L.length) (hm : m = R.length) (hA : Lies w A n (i64f L)) (hB : Lies w B m (i64f R)) (hle : m ≤ n) (hbig : n ≤ 2000064) :
    Calls Tryz.prog 140 #[.slice A n cA, .slice B m cB] w fun e w' => e = .returned (.int .i64 (chg L R)) ∧ Below w.heap.size w w' := by
  by_cases h0 : m = n
  · have hc : chg L R = 0 := by unfold chg; rw [if_pos (by omega)]
    rw [hc]
    have h0' : ((m : Int) == (n : Int)) = true := by simp [h0]
    clear h0 hn hm hc
    go_enter Tryz.func140, Tryz.ntmps140
    go_wp2
    go_ret
    exact ⟨rfl, Below.refl _ _⟩
  · have h0' : ((m : Int) == (n : Int)) = false := by simp; omega
    by_cases h1 : m = 0
    · have hc : chg L R = 4 := by unfold chg; rw [if_neg (by omega), if_pos (by omega)]
      rw [hc]
      have h1' : ((m : Int) == 0) = true := by simp [h1]
      clear h0 h1 hn hm hc
      go_enter Tryz.func140, Tryz.ntmps140
      go_wp2
      go_ret
      exact ⟨rfl, Below.refl _ _⟩
    · have h1' : ((m : Int) == 0) = false := by simp; omega
      by_cases h2 : m = 1
      · have hc : chg L R = 3 := by unfold chg bec; rw [if_neg (by omega), if_neg (by omega), if_pos (by omega)]
        rw [hc]
        have h2' : ((m : Int) == 1) = true := by simp [h2]
        clear h0 h1 h2 hn hm hc
        go_enter Tryz.func140, Tryz.ntmps140
        go_wp2
        go_ret
        exact ⟨rfl, Below.refl _ _⟩
      · have h2' : ((m : Int) == 1) = false := by simp; omega
        have hc : chg L R = if R.head?.getD 0 = L.head?.getD 0 ∧ R.getLast?.getD 0 = L.getLast?.getD 0 then 1 else 2 := by unfold chg bec; rw [if_neg (by omega), if_neg (by omega), if_neg (by omega)]
        obtain ⟨a, rfl, ha, hca⟩ := hA (by omega)
        obtain ⟨b, rfl, hb, hcb⟩ := hB (by omega)
        obtain ⟨k, hk⟩ : ∃ k, n = k + 1 := ⟨n - 1, by omega⟩
        obtain ⟨j, hj⟩ : ∃ j, m = j + 1 := ⟨m - 1, by omega⟩
        have e0 : L.head?.getD 0 = L.getD 0 0 := by rw [List.head?_eq_getElem?, List.getD_eq_getElem?_getD]
        have e1 : R.head?.getD 0 = R.getD 0 0 := by rw [List.head?_eq_getElem?, List.getD_eq_getElem?_getD]
        have e2 : L.getLast?.getD 0 = L.getD k 0 := by rw [List.getLast?_eq_getElem?, List.getD_eq_getElem?_getD, ← hn, hk]; rfl
        have e3 : R.getLast?.getD 0 = R.getD j 0 := by rw [List.getLast?_eq_getElem?, List.getD_eq_getElem?_getD, ← hm, hj]; rfl
        rw [e0, e1, e2, e3] at hc
        have c0 : w.cell? a = some (.int .i64 (L.getD 0 0)) := by have := hca 0 (by omega); rwa [add_zero] at this
        have c1 : w.cell? b = some (.int .i64 (R.getD 0 0)) := by have := hcb 0 (by omega); rwa [add_zero] at this
        have c2 : w.cell? (a.add k) = some (.int .i64 (L.getD k 0)) := hca k (by omega)
        have c3 : w.cell? (b.add j) = some (.int .i64 (R.getD j 0)) := hcb j (by omega)
        have Hc := Lib.hid hc
        have hni : 0 < (n : Int) := by omega
        have hmi : 0 < (m : Int) := by omega
        have hki : (k : Int) < (n : Int) := by omega
        have hji : (j : Int) < (m : Int) := by omega
        have w1 : IntKind.i64.wrap ((n : Int) - 1) = (k : Int) := by rw [IntWalk.i64_in _ (by omega)]; omega
        have w2 : IntKind.i64.wrap ((m : Int) - 1) = (j : Int) := by rw [IntWalk.i64_in _ (by omega)]; omega
        clear hc e0 e1 e2 e3 hca hcb hA hB hn hm h0 h1 h2 hk hj
        generalize L.getD 0 0 = x0 at *
        generalize R.getD 0 0 = y0 at *
        generalize L.getD k 0 = x1 at *
        generalize R.getD j 0 = y1 at *
        by_cases q0 : y0 = x0
        · have q0' : (y0 != x0) = false := by simp [q0]
          by_cases q1 : y1 = x1
          · have q1' : (y1 != x1) = false := by simp [q1]
            have Hc2 : Hid (chg L R = 1) := by show _ = _; rw [Hc.out, if_pos ⟨q0, q1⟩]
            clear q0 q1 Hc
            go_enter Tryz.func140, Tryz.ntmps140
            go_wp2
            go_quiet (fail)
            go_wp2
            go_ret
            exact ⟨by rw [Hc2.out]; rfl, below_drewN (Below.refl _ _) _⟩
          · have q1' : (y1 != x1) = true := by simpa using q1
            have Hc2 : Hid (chg L R = 2) := by show _ = _; rw [Hc.out, if_neg (fun q => q1 q.2)]
            clear q0 q1 Hc
            go_enter Tryz.func140, Tryz.ntmps140
            go_wp2
            go_quiet (fail)
            go_wp2
            go_ret
            exact ⟨by rw [Hc2.out]; rfl, below_drewN (Below.refl _ _) _⟩
        · have q0' : (y0 != x0) = true := by simpa using q0
          have Hc2 : Hid (chg L R = 2) := by show _ = _; rw [Hc.out, if_neg (fun q => q0 q.1)]
          clear q0 Hc
          go_enter Tryz.func140, Tryz.ntmps140
          go_wp2
          go_quiet (fail)
          go_wp2
          go_ret
          exact ⟨by rw [Hc2.out]; rfl, below_drewN (Below.refl _ _) _⟩

/-- Which numbers a kind of act keeps. -/
def keepB (o v : Int) (M : List Int) (u : Int) : Bool :=
  if o = 0 then decide (u ≠ v) else if o = 1 then decide (u = v) else if o = 2 then decide (v ≤ u) else if o = 3 then decide (u ≤ v) else if o = 4 then decide (u ∈ M) else decide (u ∉ M)

theorem filter_snoc (f : Int → Bool) (zs : List Int) (k : Nat) (h : k < zs.length) : (zs.take (k + 1)).filter f = (zs.take k).filter f ++ (if f (zs.getD k 0) = true then [zs.getD k 0] else []) := by
  rw [take_getD zs k h, List.filter_append]
  congr 1
  generalize zs.getD k 0 = x
  by_cases h : f x = true
  · rw [if_pos h]; simp [List.filter, h]
  · rw [if_neg h]; simp [List.filter, h]

theorem filter_take_len (f : Int → Bool) (zs : List Int) (k : Nat) : ((zs.take k).filter f).length ≤ k := by
  have := List.length_filter_le f (zs.take k)
  rw [List.length_take] at this
  omega

set_option maxHeartbeats 4000000 in
set_option maxRecDepth 100000 in
theorem refkeep0 (a : Addr) (B : Option Addr) (zs M : List Int) (n m cA cB : Nat) (v : Int) (w : World) (hn : n = zs.length) (hmm : m = M.length) (hp : 0 < n) (hbig : n ≤ 1000000) (hbm' : m ≤ 2000064) (ha : a.block < w.heap.size) (hca : ∀ j, j < n → w.cell? (a.add j) = some (i64f zs j)) (hB : Lies w B m (i64f M)) :
    Calls Tryz.prog 89 #[.slice (some a) n cA, .int .i64 0, .int .i64 v, .slice B m cB] w (GivesOf w (zs.filter (keepB 0 v M)) (chg zs (zs.filter (keepB 0 v M)))) := by
  obtain ⟨i0, hi', hz0, hz1, hz2⟩ := info_parts Tryz.info3
  have Ha := Lib.hid hca
  have Hn := Lib.hid hn
  have HM := Lib.hid fun W (hW : Below w.heap.size w W) x => refhas_any B M m cB x W hmm (hB.below hW) hbm'
  clear hca hn hB hmm
  go_enter Tryz.func89, Tryz.ntmps89
  go_wp2
  go_loopw [10, 11] (fun o i wr => ∃ k : Nat, k ≤ n ∧ i = .int .i64 (k : Nat) ∧ wr.ownsRow w.heap.size 3 1 o ((zs.take k).filter (keepB 0 v M)).length (I ((zs.take k).filter (keepB 0 v M))) ∧ Below w.heap.size w wr) (fun _ i _ => n - (intOf i).toNat)
  case atStart => exact ⟨0, Nat.zero_le _, rfl, World.ownsRow_nil _ _ _ _, Below.refl _ _⟩
  case round =>
    obtain ⟨k, hk, rfl, hown, hbr⟩ := hrel
    by_cases hlt : k < n
    · have hkz : k < zs.length := by rw [← Hn.out]; exact hlt
      have ck : wr.cell? (a.add k) = some (.int .i64 (zs.getD k 0)) := (hbr.cell (by rw [add_block]; exact ha)).trans (Ha.out k hlt)
      have Hst := Lib.hid (filter_snoc (keepB 0 v M) zs k hkz)
      have hlen := filter_take_len (keepB 0 v M) zs k
      generalize zs.getD k 0 = x at *
      have hmem := HM.out wr hbr x
      clear hkz
      by_cases q : x = v
      · have Hk : Hid (keepB 0 v M x = false) := by show _ = _; unfold keepB; simp [q]
        have q' : (x != v) = false := by simp [q]
        obtain ⟨bm, hbm⟩ : ∃ bm, decide (x ∈ M) = bm := ⟨_, rfl⟩
        rw [hbm] at hmem
        clear hbm
        rw [Hk.out] at Hst
        rw [if_neg (by decide), List.append_nil] at Hst
        clear q Hk
        go_wp2_with (go_at_call 109; (with_reducible refine hmem.mono ?_); rintro e w' ⟨rfl, rfl⟩)
        go_roundw
        case rel => exact ⟨k + 1, by omega, by go_num, by rw [Hst.out]; exact hown, hbr⟩
        case measure => simp [intOf]; omega
      · have Hk : Hid (keepB 0 v M x = true) := by show _ = _; unfold keepB; simp [q]
        have q' : (x != v) = true := by simp [q]
        obtain ⟨bm, hbm⟩ : ∃ bm, decide (x ∈ M) = bm := ⟨_, rfl⟩
        rw [hbm] at hmem
        clear hbm
        rw [Hk.out] at Hst
        rw [if_pos rfl] at Hst
        clear q Hk
        generalize hacc : (zs.take k).filter (keepB 0 v M) = acc at *
        clear hacc
        go_wp2_with (first | (go_at_call 109; (with_reducible refine hmem.mono ?_); rintro e w' ⟨rfl, rfl⟩) | (at_builtin; refine wpList_append_own _ rfl _ _ 30 rfl w.heap.size 3 i0 (.int .i64 0) 1 8 Tryz.underlying30 hi' hz0 hz1 hz2 rfl (by decide) _ _ _ rfl (hown.alloc _) ⟨_, 0, none⟩ 1 1 [.int .i64 x] rfl rfl ?c1 ?c2 ?c3 ?c4 ?c5 ?_))
        case c1 => intro j u hj; match j, hj with | 0, hj => simp at hj; subst hj; simp [Addr.add]
        case c2 => intro u hu; simp at hu; subst hu; rfl
        case c3 => unfold maxLen; omega
        case c4 => omega
        case c5 => have := hbr.size; simp; omega
        intro v' w2 hown' hgrow _
        have hb2 : Below w.heap.size w w2 := (hbr.alloc hbr.size _).grown hgrow (by have := hbr.size; simp; omega) (fun k hk => own_ge hown k hk)
        rw [← I_one, ← I_append, show acc.length + 1 = (acc ++ [x]).length by simp, ← Hst.out] at hown'
        clear hown hgrow hbr
        go_wp2
        go_roundw
        case rel => exact ⟨k + 1, by omega, by go_num, hown', hb2⟩
        case measure => simp [intOf]; omega
    · have hall : zs.take k = zs := List.take_of_length_le (by rw [← Hn.out]; omega)
      rw [hall] at hown
      obtain ⟨C, cC, rfl, hC, -⟩ := own_lies hown
      have hlc : (zs.filter (keepB 0 v M)).length ≤ n := by rw [Hn.out]; exact List.length_filter_le _ _
      have hch := refchange_any (some a) C zs (zs.filter (keepB 0 v M)) n _ cA cC wr Hn.out rfl (fun _ => ⟨a, rfl, Nat.lt_of_lt_of_le ha hbr.size, fun j hj => (hbr.cell (by rw [add_block]; exact ha)).trans (Ha.out j hj)⟩) hC hlc (by omega)
      generalize zs.filter (keepB 0 v M) = acc at *
      have Hch := Lib.hid hch
      have Hown := Lib.hid hown
      clear hall hC hch hown
      go_wp2_with fail
      refine Hch.out.mono ?_
      rintro e w3 ⟨rfl, hb3⟩
      have Hb3 := Lib.hid hb3
      clear hb3
      go_wp2_with fail
      go_ret2
      exact ⟨_, rfl, own_below Hown.out Hb3.out, hbr.trans (Hb3.out.mono hbr.size)⟩

theorem refkeep_none (A B : Option Addr) (o v : Int) (cA m cB : Nat) (w : World) : Calls Tryz.prog 89 #[.slice A 0 cA, .int .i64 o, .int .i64 v, .slice B m cB] w (GivesOf w [] 0) := by
  have hch := refchange_any A none [] [] 0 0 cA 0 w rfl rfl (fun h => absurd h (by omega)) (Lies.none _ _ _) (by omega) (by omega)
  have Hch := Lib.hid hch
  clear hch
  go_enter Tryz.func89, Tryz.ntmps89
  go_wp2
  refine wp_loop_rounds 1 ?_
  rw [rounds_succ]
  go_wp2_with fail
  refine Hch.out.mono ?_
  rintro e w3 ⟨rfl, hb3⟩
  have Hb3 := Lib.hid hb3
  clear hb3
  go_wp2_with fail
  go_ret2
  exact ⟨_, rfl, World.ownsRow_nil _ _ _ _, Hb3.out⟩

end Go.Proofs.YtkhmocbfkpbpfaaGreatDoor.D

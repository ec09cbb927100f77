/- A store beside the reference's: what holds of both in the midst of StorePlays, and what each step leaves. No walk. -/
import Derived.Test.YtegiaonlneamfaaDoorSameEv
import Derived.Test.YtegiaonlneamfaaDoorAct3
import Derived.Test.YtegiaonlneamfaaDoorNilw
namespace Go.Proofs.YtegiaonlneamfaaDoor
open Go.RowKit

theorem IsStore.poke32 {base S : Nat} {w : World} {st : Sto} {g : Nat} {cs : Array Value} (h : IsStore base w S st) (hB : Blk w g cs 32) (hp : ∀ u ∈ cs, plainV u) (i : Nat) (v : Value) : IsStore base (w.setCell ⟨g, i, none⟩ v) S st :=
  ⟨h.head.other (h.head.ne hB (by decide)) _, h.vars.other (h.vars.ne hB (by decide)) _, h.before.set hB (by decide) _ _, h.events.set hB (by decide) _ _, h.atS, h.atV, fun u hu => (h.doms u hu).poke hB hp i v, fun e he => (h.was e he).poke hB hp i v, h.places⟩

theorem plain_slice (A : Option Addr) (n c : Nat) : plainV (.slice A n c) := by intro x e; cases e

theorem LevT.keep {w w' : World} {v : Value} {H : List (List (List Int))} (h : LevT w v H) (h22 : ∀ g c, Blk w g c 22 → w'.heap[g]? = w.heap[g]?) (h34 : ∀ g c, Blk w g c 34 → w'.heap[g]? = w.heap[g]?) (h3 : ∀ g c, Blk w g c 3 → w'.heap[g]? = w.heap[g]?) : LevT w' v H := by
  obtain ⟨vs, h1, h2⟩ := h
  exact ⟨vs, own_keep h1 h22, fun k x L a b => (h2 k x L a b).keep h34 h3⟩

/-- The store, and the reference's, side by side. -/
structure Pl (w wr : World) (base S gr n k : Nat) (st : Sto) (H : List (List (List Int))) (lv ev : Value) : Prop where
  store : IsStore base wr S st
  hist : Hist st.vs st.bs st.lev H
  levs : LevT wr lv H
  evs : EvT wr ev st.es
  box : Blk wr gr #[lv, ev] 32
  vars : st.vs.length = n
  bs : st.bs.length ≤ k * 2
  es : st.es.length ≤ k * 2
  lev : st.lev ≤ k
  small : ∀ LL ∈ H, ∀ L ∈ LL, L.length ≤ 8
  low : Below w.heap.size w wr
  atb : w.heap.size ≤ base
  atr : w.heap.size ≤ gr

theorem Pl.below {w wr w' : World} {base S gr n k : Nat} {st : Sto} {H : List (List (List Int))} {lv ev : Value} (h : Pl w wr base S gr n k st H lv ev) (hb : Below wr.heap.size wr w') : Pl w w' base S gr n k st H lv ev :=
  ⟨h.store.below hb, h.hist, h.levs.below hb, h.evs.below hb, h.box.below hb, h.vars, h.bs, h.es, h.lev, h.small, h.low.trans (hb.mono h.low.size), h.atb, h.atr⟩

theorem Pl.more {w wr : World} {base S gr n k k' : Nat} {st : Sto} {H : List (List (List Int))} {lv ev : Value} (h : Pl w wr base S gr n k st H lv ev) (hk : k ≤ k') : Pl w wr base S gr n k' st H lv ev :=
  ⟨h.store, h.hist, h.levs, h.evs, h.box, h.vars, by have := h.bs; omega, by have := h.es; omega, Nat.le_trans h.lev hk, h.small, h.low, h.atb, h.atr⟩

/-- The last level's domains. -/
theorem Pl.now {w wr : World} {base S gr n k : Nat} {st : Sto} {H : List (List (List Int))} {lv ev : Value} (h : Pl w wr base S gr n k st H lv ev) : H[H.length - 1]? = some (st.vs.map Vr.L) := by
  rw [h.hist.len, Nat.add_sub_cancel]
  exact h.hist.now

theorem Pl.evShape {w wr : World} {base S gr n k : Nat} {st : Sto} {H : List (List (List Int))} {lv ev : Value} (h : Pl w wr base S gr n k st H lv ev) : ∃ A n c, ev = .slice A n c := by
  obtain ⟨A, c, e⟩ := slice_row h.evs
  exact ⟨A, _, c, e⟩

/-- The reference's box, written anew. -/
theorem box_write {base S gr : Nat} {wr : World} {st : Sto} {u0 u1 : Value} {A1 A2 : Option Addr} {n1 c1 n2 c2 : Nat} {H : List (List (List Int))} {es : List (Int × Int)} (hS : IsStore base wr S st) (hB : Blk wr gr #[u0, u1] 32) (h0 : plainV u0) (h1 : plainV u1) (hL : LevT wr (.slice A1 n1 c1) H) (hE : EvT wr (.slice A2 n2 c2) es) :
    IsStore base ((wr.setCell ⟨gr, 0, none⟩ (.slice A1 n1 c1)).setCell ⟨gr, 1, none⟩ (.slice A2 n2 c2)) S st ∧ LevT ((wr.setCell ⟨gr, 0, none⟩ (.slice A1 n1 c1)).setCell ⟨gr, 1, none⟩ (.slice A2 n2 c2)) (.slice A1 n1 c1) H ∧ EvT ((wr.setCell ⟨gr, 0, none⟩ (.slice A1 n1 c1)).setCell ⟨gr, 1, none⟩ (.slice A2 n2 c2)) (.slice A2 n2 c2) es ∧
    Blk ((wr.setCell ⟨gr, 0, none⟩ (.slice A1 n1 c1)).setCell ⟨gr, 1, none⟩ (.slice A2 n2 c2)) gr #[.slice A1 n1 c1, .slice A2 n2 c2] 32 := by
  obtain ⟨hq, hk, -⟩ := two_set hB (.slice A1 n1 c1) (.slice A2 n2 c2)
  have hp : ∀ u ∈ #[u0, u1], plainV u := by
    intro u hu
    simp only [List.mem_toArray, List.mem_cons, List.not_mem_nil, or_false] at hu
    rcases hu with rfl | rfl
    · exact h0
    · exact h1
  have b1 := hB.set 0 (.slice A1 n1 c1)
  have p1 := plain_set (i := 0) hp (plain_slice A1 n1 c1)
  exact ⟨(hS.poke32 hB hp _ _).poke32 b1 p1 _ _, hL.keep (fun g c hb => hk 22 g c (by decide) hb) (fun g c hb => hk 34 g c (by decide) hb) (fun g c hb => hk 3 g c (by decide) hb), own_keep hE fun g c hb => hk 79 g c (by decide) hb, hq⟩

theorem set_eq (H : List (List (List Int))) (k : Nat) (x : List (List Int)) (h : H[k]? = some x) : H.set k x = H := by
  apply List.ext_getElem?
  intro j
  rw [List.getElem?_set]
  by_cases hk : k = j
  · subst hk
    rw [if_pos rfl, if_pos (List.getElem?_eq_some_iff.1 h).1, h]
  · rw [if_neg hk]

/-- What Narrow tells of the store, and what the reference tells, are one. -/
theorem NarS.ref {st st' : Sto} {i : Int} {M : List Int} {ch : Int} (h : NarS st i M ch st') :
    ((st' = st ∧ ch = 0) ∨ (ch ≠ 0 ∧ ∃ v, 0 ≤ i ∧ st.vs[i.toNat]? = some v ∧ ch = chg v.L (left v M) ∧ st'.vs.map Vr.L = (st.vs.map Vr.L).set i.toNat (left v M) ∧ st'.es = st.es ++ [(i, ch)] ∧ st'.lev = st.lev)) := by
  rcases h with ⟨rfl, h2, -⟩ | ⟨v, hi, hv, hc, hne, v', h1, h2, h3, h4, h5, h6⟩
  · exact .inl ⟨rfl, h2⟩
  · refine .inr ⟨hne, v, hi, hv, hc, ?_, ?_, h5⟩
    · rw [h3, List.map_set, h1]
    · rw [h6, ← hc, Int.toNat_of_nonneg hi]

theorem NarS.small {st st' : Sto} {i : Int} {M : List Int} {ch : Int} (h : NarS st i M ch st') (hs : ∀ v ∈ st.vs, v.L.length ≤ 8) : ∀ v ∈ st'.vs, v.L.length ≤ 8 := by
  rcases h with ⟨rfl, -, -⟩ | ⟨v, hi, hv, hc, hne, v', h1, h2, h3, h4, h5, h6⟩
  · exact hs
  · intro u hu
    rw [h3] at hu
    rcases List.mem_or_eq_of_mem_set hu with hu | hu
    · exact hs u hu
    · rw [hu, h1]
      exact Nat.le_trans (List.length_filter_le _ _) (hs v (List.mem_of_getElem? hv))

/-- A store's own domains are small. -/
theorem Pl.smallv {w wr : World} {base S gr n k : Nat} {st : Sto} {H : List (List (List Int))} {lv ev : Value} (h : Pl w wr base S gr n k st H lv ev) : ∀ v ∈ st.vs, v.L.length ≤ 8 :=
  fun v hv => h.small _ (List.mem_of_getElem? h.hist.now) v.L (List.mem_map_of_mem hv)

theorem undo_len {l : Nat} : ∀ (bs : List Er) (vs : List Vr), (undo l vs bs).2.length ≤ bs.length ∧ (undo l vs bs).1.length = vs.length
  | [], vs => ⟨Nat.le_refl _, rfl⟩
  | a :: r, vs => by
    rw [undo]
    split
    · have := undo_len (l := l) r (vs.set a.place a.was)
      rw [List.length_set] at this
      exact ⟨Nat.le_succ_of_le this.1, this.2⟩
    · exact ⟨Nat.le_refl _, rfl⟩

/-- The box's second half is emptied. -/
theorem box_nil {base S gr : Nat} {wr : World} {st : Sto} {A1 A2 : Option Addr} {n1 c1 n2 c2 : Nat} {H : List (List (List Int))} (hS : IsStore base wr S st) (hB : Blk wr gr #[.slice A1 n1 c1, .slice A2 n2 c2] 32) (hL : LevT wr (.slice A1 n1 c1) H) :
    IsStore base (wr.setCell ⟨gr, 1, none⟩ (.slice none 0 0)) S st ∧ LevT (wr.setCell ⟨gr, 1, none⟩ (.slice none 0 0)) (.slice A1 n1 c1) H ∧ Blk (wr.setCell ⟨gr, 1, none⟩ (.slice none 0 0)) gr #[.slice A1 n1 c1, .slice none 0 0] 32 := by
  have hp : ∀ u ∈ #[Value.slice A1 n1 c1, .slice A2 n2 c2], plainV u := by
    intro u hu
    simp only [List.mem_toArray, List.mem_cons, List.not_mem_nil, or_false] at hu
    rcases hu with rfl | rfl
    · exact plain_slice _ _ _
    · exact plain_slice _ _ _
  have hk : ∀ (e : TypeId) (g : Nat) (c : Array Value), e ≠ 32 → Blk wr g c e → (wr.setCell ⟨gr, 1, none⟩ (.slice none 0 0)).heap[g]? = wr.heap[g]? := fun e g c he hb => heap_setCell_other wr _ g _ (hb.ne hB he)
  exact ⟨hS.poke32 hB hp _ _, hL.keep (fun g c hb => hk 22 g c (by decide) hb) (fun g c hb => hk 34 g c (by decide) hb) (fun g c hb => hk 3 g c (by decide) hb), hB.set 1 _⟩

/-- Gone back, both. -/
theorem Pl.back {w wr w2 : World} {base S gr n k l : Nat} {st st' : Sto} {H : List (List (List Int))} {lv ev lv' : Value} (h : Pl w wr base S gr n k st H lv ev) (hl : l ≤ st.lev) (hu : (st'.vs, st'.bs.reverse) = undo l st.vs st.bs.reverse) (h1 : st'.lev = l) (h2 : st'.es = []) (hS2 : IsStore base w2 S st') (hL2 : LevT w2 lv' (H.take (l + 1))) (hB2 : Blk w2 gr #[lv', .slice none 0 0] 32) (hW : Below w.heap.size w w2) :
    Pl w w2 base S gr n k st' (H.take (l + 1)) lv' (.slice none 0 0) := by
  have e1 := undo_len (l := l) st.bs.reverse st.vs
  rw [← hu] at e1
  simp only [List.length_reverse] at e1
  have hb := h.bs
  refine ⟨hS2, by rw [h1]; exact h.hist.back l hl hu, hL2, by rw [h2]; exact EvT.nil _, hB2, by rw [e1.2]; exact h.vars, by omega, by rw [h2]; exact Nat.zero_le _, by rw [h1]; exact Nat.le_trans hl h.lev, fun LL hLL => h.small LL (List.mem_of_mem_take hLL), hW, h.atb, h.atr⟩

/-- Narrowed, both. -/
theorem Pl.narrow {w wr w2 : World} {base S gr n k : Nat} {st st' : Sto} {H : List (List (List Int))} {lv ev lv' ev' : Value} {i ch : Int} {M : List Int} (h : Pl w wr base S gr n k st H lv ev) (hN : NarS st i M ch st') (hS2 : IsStore base w2 S st') (hL2 : LevT w2 lv' (H.set st.lev (st'.vs.map Vr.L))) (hE2 : EvT w2 ev' st'.es) (hB2 : Blk w2 gr #[lv', ev'] 32) (hW : Below w.heap.size w w2) (hb : st'.bs.length ≤ k * 2) (he : st'.es.length ≤ k * 2) :
    Pl w w2 base S gr n k st' (H.set st.lev (st'.vs.map Vr.L)) lv' ev' := by
  obtain ⟨a1, a2, -, -⟩ := hN.len
  refine ⟨hS2, hN.hist h.hist, hL2, hE2, hB2, by rw [a1]; exact h.vars, hb, he, by rw [a2]; exact h.lev, fun LL hLL => ?_, hW, h.atb, h.atr⟩
  rcases List.mem_or_eq_of_mem_set hLL with hLL | rfl
  · exact h.small LL hLL
  · intro L hL
    rw [List.mem_map] at hL
    obtain ⟨v, hv, rfl⟩ := hL
    exact hN.small h.smallv v hv
end Go.Proofs.YtegiaonlneamfaaDoor

/- The reference's answers, met where the store has given its own. -/
namespace Go.Proofs.YtegiaonlneamfaaDoor
open Go.RowKit

/-- The last one, by its place. -/
theorem now_fix (g c n2 c2 m n : Nat) (A2 : Option Addr) (X : Option Addr) (nx cx : Nat) (w : World) (hn : n = m + 1) (hbig : n ≤ 1000) (hc : w.cell? ⟨g, m, none⟩ = some (.slice X nx cx)) :
    Calls Tryd.prog 21 #[.agg #[.slice (some ⟨g, 0, none⟩) n c, .slice A2 n2 c2]] w fun e w' => e = .returned (.slice X nx cx) ∧ Below w.heap.size w w' := by
  have w1 : IntKind.i64.wrap ((n : Int) - 1) = (m : Int) := by rw [IntWalk.i64_in _ (by omega)]; omega
  have hmn : (m : Int) < (n : Int) := by omega
  have K := below1 w (.cells #[.slice (some ⟨g, 0, none⟩) n c, .slice A2 n2 c2] 32)
  have c0 : (w.alloc (.cells #[.slice (some ⟨g, 0, none⟩) n c, .slice A2 n2 c2] 32)).cell? ⟨g, m, none⟩ = some (.slice X nx cx) := (K.cell (World.block_lt_of_cell? w ⟨g, m, none⟩ hc)).trans hc
  have HK := Lib.hid K
  clear hn hc K hbig
  go_enter Tryd.func21, Tryd.ntmps21
  go_wp2
  go_ret
  exact ⟨rfl, HK.out⟩

theorem refnarrow_for {st st' : Sto} {i : Int} {M : List Int} {ch : Int} (hN : NarS st i M ch st') (lv ev dv : Value) (H : List (List (List Int))) (w : World) (hH : Hist st.vs st.bs st.lev H) (h : LevT w lv H) (he : EvT w ev st.es) (hdv : IntsT w dv M) (hs : ∀ v ∈ st.vs, v.L.length ≤ 8) (hM : M.length ≤ 8) (hl : st.lev ≤ 90) (hbe : st.es.length ≤ 1000) (hbv : st.vs.length ≤ 100) :
    Calls Tryd.prog 18 #[.agg #[lv, ev], .int .i64 i, dv] w fun e w' => ∃ lv' ev', e = .returned (.tuple #[.agg #[lv', ev'], .int .i64 ch]) ∧ LevT w' lv' (H.set st.lev (st'.vs.map Vr.L)) ∧ EvT w' ev' st'.es ∧ Below w.heap.size w w' := by
  have hHl : H.length - 1 = st.lev := by rw [hH.len]; omega
  have hlast : H[H.length - 1]? = some (st.vs.map Vr.L) := by rw [hHl]; exact hH.now
  have hev : ∃ A n c, ev = .slice A n c := by obtain ⟨A, c, e⟩ := slice_row he; exact ⟨A, _, c, e⟩
  have hbig : H.length ≤ 100 := by rw [hH.len]; omega
  have stay : ∀ {e : Ending} {w' : World}, (e = .returned (.tuple #[.agg #[lv, ev], .int .i64 0]) ∧ Below w.heap.size w w') → ∃ lv' ev', e = .returned (.tuple #[.agg #[lv', ev'], .int .i64 0]) ∧ LevT w' lv' (H.set st.lev (st.vs.map Vr.L)) ∧ EvT w' ev' st.es ∧ Below w.heap.size w w' := by
    rintro e w' ⟨rfl, hb⟩
    exact ⟨lv, ev, rfl, by rw [set_eq _ _ _ hH.now]; exact h.below hb, he.below hb, hb⟩
  by_cases hi : 0 ≤ i ∧ i < (st.vs.length : Nat)
  · obtain ⟨v, hv⟩ : ∃ v, st.vs[i.toNat]? = some v := ⟨_, List.getElem?_eq_getElem (by omega)⟩
    have ei : ((i.toNat : Nat) : Int) = i := Int.toNat_of_nonneg hi.1
    have hLi : (st.vs.map Vr.L)[i.toNat]? = some v.L := by rw [List.getElem?_map, hv]; rfl
    have hvl : v.L.length ≤ 8 := hs v (List.mem_of_getElem? hv)
    rcases hN with ⟨rfl, rfl, h0⟩ | ⟨v1, -, hv1, hc, hne, v', e1, e2, e3, e4, e5, e6⟩
    · have := refnarrow_same lv ev dv H _ i.toNat v.L M w h hlast hev hbig hLi hdv (by omega) (by omega) (h0 v hi.1 hv)
      rw [ei] at this
      exact this.mono fun _ _ => stay
    · rw [hv] at hv1
      cases hv1
      have := refnarrow_less lv ev dv H _ st.es i.toNat v.L M _ ch w h hlast he hbig hbe (by rw [List.length_map]; exact hbv) hLi hdv (by omega) (by omega) rfl hc.symm (by simpa using hne)
      rw [ei] at this
      refine this.mono ?_
      rintro e w' ⟨lv', ev', rfl, h1, h2, h3⟩
      refine ⟨lv', ev', rfl, ?_, ?_, h3⟩
      · rw [hHl] at h1
        rw [e3, List.map_set, e1]
        exact h1
      · rw [e6, ei, ← hc]
        exact h2
  · rcases hN with ⟨rfl, rfl, -⟩ | ⟨v1, hi0, hv1, -⟩
    · have := refnarrow_out lv ev dv H _ i w h hlast hev hbig (by rw [List.length_map]; omega) (by obtain ⟨A, c, e, -, -⟩ := hdv.lies; exact ⟨A, _, c, e⟩)
      exact this.mono fun _ _ => stay
    · have := (List.getElem?_eq_some_iff.1 hv1).1
      omega
end Go.Proofs.YtegiaonlneamfaaDoor

/- Back, of a store and of the document's, side by side: one contract each for whatever number. -/
namespace Go.Proofs.YtegiaonlneamfaaDoor
open Go.RowKit

/-- What Back tells, and what a store is then. -/
def BackS (st : Sto) (l : Int) (er : Int) (st' : Sto) : Prop :=
  (er = 2 ∧ (l < 0 ∨ (st.lev : Int) < l) ∧ st' = st) ∨ (er = 0 ∧ ∃ m : Nat, l = (m : Nat) ∧ m ≤ st.lev ∧ (st'.vs, st'.bs.reverse) = undo m st.vs st.bs.reverse ∧ st'.lev = m ∧ st'.es = [])

def backH (H : List (List (List Int))) (l er : Int) : List (List (List Int)) := if er = 0 then H.take (l.toNat + 1) else H

section
variable {base S : Nat} {w : World} {st st' : Sto}

theorem back_any (h : IsStore base w S st) (l : Int) (hn : st.bs.length ≤ 1000000) : Calls Tryd.prog 11 #[ptr S, .int .i64 l] w fun e w' => ∃ er st', e = .returned (.int .i64 er) ∧ IsStore base w' S st' ∧ BackS st l er st' ∧ Fr base w w' := by
  by_cases hl : l < 0 ∨ (st.lev : Int) < l
  · refine (back_bad h l hl).mono ?_
    rintro e w' ⟨rfl, rfl⟩
    exact ⟨2, st, rfl, h, .inl ⟨rfl, hl, rfl⟩, Fr.refl _ _⟩
  · obtain ⟨m, rfl⟩ : ∃ m : Nat, l = (m : Nat) := ⟨l.toNat, by omega⟩
    refine (back_store h m (by omega) hn).mono ?_
    rintro e w' ⟨rfl, st', h1, ⟨h2, h3, h4⟩, h5, -⟩
    exact ⟨0, st', rfl, h1, .inr ⟨rfl, m, rfl, by omega, h2, h3, h4⟩, h5⟩

theorem refback_any {l er : Int} (hB : BackS st l er st') (lv ev : Value) (H : List (List (List Int))) (w : World) (hH : Hist st.vs st.bs st.lev H) (h : LevT w lv H) (he : EvT w ev st.es) (hl : st.lev ≤ 90) :
    Calls Tryd.prog 12 #[.agg #[lv, ev], .int .i64 l] w fun e w' => ∃ A1 n1 c1 A2 n2 c2, e = .returned (.tuple #[.agg #[.slice A1 n1 c1, .slice A2 n2 c2], .int .i64 er]) ∧ LevT w' (.slice A1 n1 c1) (backH H l er) ∧ EvT w' (.slice A2 n2 c2) st'.es ∧ Below w.heap.size w w' := by
  obtain ⟨A1, c1, rfl, -⟩ := h.shape
  obtain ⟨A2, c2, hev⟩ := slice_row he
  have hlen := hH.len
  rcases hB with ⟨rfl, hbad, rfl⟩ | ⟨rfl, m, rfl, hm, -, -, hes⟩
  · rw [hev]
    rw [hev] at he
    refine (refback_bad A1 A2 H.length c1 _ c2 l w (by omega) (by omega)).mono ?_
    rintro e w' ⟨rfl, hb⟩
    exact ⟨_, _, _, _, _, _, rfl, h.below hb, he.below hb, hb⟩
  · refine (refback_ok _ ev H m w h (by omega) ⟨_, _, _, hev⟩ (by omega)).mono ?_
    rintro e w' ⟨lv', rfl, h1, hb⟩
    obtain ⟨A3, c3, rfl, -⟩ := h1.shape
    exact ⟨_, _, _, _, _, _, rfl, by simpa [backH] using h1, by rw [hes]; exact EvT.nil _, hb⟩

theorem Pl.back_any {w wr w2 : World} {base S gr n k : Nat} {st st' : Sto} {H : List (List (List Int))} {lv ev lv' ev' : Value} {l er : Int} (h : Pl w wr base S gr n k st H lv ev) (hB : BackS st l er st') (hS2 : IsStore base w2 S st') (hL2 : LevT w2 lv' (backH H l er)) (hE2 : EvT w2 ev' st'.es) (hB2 : Blk w2 gr #[lv', ev'] 32) (hW : Below w.heap.size w w2) :
    Pl w w2 base S gr n k st' (backH H l er) lv' ev' := by
  rcases hB with ⟨rfl, hbad, rfl⟩ | ⟨rfl, m, rfl, hm, hu, h1, h2⟩
  · rw [show backH H l 2 = H from rfl] at hL2 ⊢
    exact ⟨hS2, h.hist, hL2, hE2, hB2, h.vars, h.bs, h.es, h.lev, h.small, hW, h.atb, h.atr⟩
  · have e0 : backH H (m : Nat) 0 = H.take (m + 1) := by simp [backH]
    rw [e0] at hL2 ⊢
    have e1 := undo_len (l := m) st.bs.reverse st.vs
    rw [← hu] at e1
    simp only [List.length_reverse] at e1
    have hb := h.bs
    exact ⟨hS2, by rw [h1]; exact h.hist.back m hm hu, hL2, hE2, hB2, by rw [e1.2]; exact h.vars, by omega, by rw [h2]; exact Nat.zero_le _, by rw [h1]; exact Nat.le_trans hm h.lev, fun LL hLL => h.small LL (List.mem_of_mem_take hLL), hW, h.atb, h.atr⟩
end

theorem dom_two {w : World} {d : Value} {L : List Int} {gr : Nat} {A1 A2 A3 : Option Addr} {n1 c1 n2 c2 n3 c3 : Nat} (h : IsDom w d L) (hB : Blk w gr #[.slice A1 n1 c1, .slice A2 n2 c2] 32) (b : Value) :
    IsDom ((w.setCell ⟨gr, 0, none⟩ (.slice A3 n3 c3)).setCell ⟨gr, 1, none⟩ b) d L := by
  have hp : ∀ (A B : Option Addr) (n c m e : Nat), ∀ u ∈ #[Value.slice A n c, .slice B m e], plainV u := by
    intro A B n c m e u hu
    simp only [List.mem_toArray, List.mem_cons, List.not_mem_nil, or_false] at hu
    rcases hu with rfl | rfl
    · exact plain_slice _ _ _
    · exact plain_slice _ _ _
  exact (h.poke hB (hp _ _ _ _ _ _) 0 _).poke (hB.set 0 _) (hp _ _ _ _ _ _) 1 _
end Go.Proofs.YtegiaonlneamfaaDoor

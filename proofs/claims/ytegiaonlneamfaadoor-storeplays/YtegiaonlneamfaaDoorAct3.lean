/- A store's Narrow, whatever the variable; what StoreBack does to a store in one step. -/
import Derived.Test.YtegiaonlneamfaaDoorUndo
import Derived.Test.YtegiaonlneamfaaDoorNarrowN
import Derived.Test.YtegiaonlneamfaaDoorRowp
namespace Go.Proofs.YtegiaonlneamfaaDoor
open Go.RowKit

/-- What is left of a variable's numbers. -/
abbrev left (v : Vr) (M : List Int) : List Int := v.L.filter fun u => decide (u ∈ M)

/-- What Narrow does to a store, and what it tells. -/
def NarS (st : Sto) (i : Int) (M : List Int) (ch : Int) (st' : Sto) : Prop :=
  (st' = st ∧ ch = 0 ∧ ∀ v, 0 ≤ i → st.vs[i.toNat]? = some v → chg v.L (left v M) = 0) ∨
  (∃ v, 0 ≤ i ∧ st.vs[i.toNat]? = some v ∧ ch = chg v.L (left v M) ∧ ch ≠ 0 ∧ Nar st i.toNat v (left v M) st')

theorem NarS.len {st st' : Sto} {i : Int} {M : List Int} {ch : Int} (h : NarS st i M ch st') : st'.vs.length = st.vs.length ∧ st'.lev = st.lev ∧ st'.bs.length ≤ st.bs.length + 1 ∧ st'.es.length ≤ st.es.length + 1 := by
  rcases h with ⟨rfl, -, -⟩ | ⟨v, -, -, -, -, v', h1, h2, h3, h4, h5, h6⟩
  · exact ⟨rfl, rfl, by omega, by omega⟩
  · refine ⟨by rw [h3]; simp, h5, ?_, by rw [h6]; simp⟩
    rw [h4]
    split
    · simp
    · omega

section
variable {base S : Nat} {w : World} {st : Sto}

theorem narrow_any (h : IsStore base w S st) (hT : Tab w) (i : Int) (s : Int) (A : Option Addr) (n c : Nat) (M : List Int) (hd : IsDom w (.agg #[.int .i64 s, .slice A n c, .int .i64 (M.length : Nat)]) M) (hbn : st.bs.length ≤ 1000000) (hen : st.es.length ≤ 1000000) :
    Calls Tryd.prog 17 #[ptr S, .int .i64 i, .agg #[.int .i64 s, .slice A n c, .int .i64 (M.length : Nat)]] w fun e w' => ∃ ch st', e = .returned (.int .i64 ch) ∧ IsStore base w' S st' ∧ NarS st i M ch st' ∧ Fr base w w' := by
  by_cases hi : 0 ≤ i ∧ i < (st.vs.length : Nat)
  · obtain ⟨v, hv⟩ : ∃ v, st.vs[i.toNat]? = some v := ⟨_, List.getElem?_eq_getElem (by omega)⟩
    have ei : i = (i.toNat : Nat) := by omega
    by_cases hc : chg v.L (left v M) = 0
    · rw [ei]
      refine (narrow_same h hT i.toNat v hv s A n c M hd hc).mono ?_
      rintro e w' ⟨rfl, hb⟩
      refine ⟨0, st, rfl, h.below hb, .inl ⟨rfl, rfl, fun u _ hu => ?_⟩, Fr.of_below hb (Nat.le_of_lt h.lt)⟩
      rw [Int.toNat_natCast, hv] at hu
      cases hu
      exact hc
    · have hne : (chg v.L (left v M) == 0) = false := by simpa using hc
      have key : Calls Tryd.prog 17 #[ptr S, .int .i64 (i.toNat : Nat), .agg #[.int .i64 s, .slice A n c, .int .i64 (M.length : Nat)]] w fun e w' => e = .returned (.int .i64 (chg v.L (left v M))) ∧ ∃ st', IsStore base w' S st' ∧ Nar st i.toNat v (left v M) st' ∧ Fr base w w' := by
        by_cases hs : v.since < st.lev
        · exact narrow_new h hT i.toNat v hv s A n c M _ _ hd rfl rfl hne hs hbn hen
        · exact narrow_again h hT i.toNat v hv s A n c M _ _ hd rfl rfl hne hs hen
      rw [← ei] at key
      refine key.mono ?_
      rintro e w' ⟨rfl, st', hS, hN, hF⟩
      exact ⟨_, st', rfl, hS, .inr ⟨v, hi.1, hv, rfl, hc, hN⟩, hF⟩
  · refine (narrow_out h i (by omega) s _ A n c).mono ?_
    rintro e w' ⟨rfl, hb⟩
    refine ⟨0, st, rfl, h.below hb, .inl ⟨rfl, rfl, fun u hi0 hu => ?_⟩, Fr.of_below hb (Nat.le_of_lt h.lt)⟩
    have := (List.getElem?_eq_some_iff.1 hu).1
    omega

theorem NarS.hist {st' : Sto} {i : Int} {M : List Int} {ch : Int} {H : List (List (List Int))} (h : NarS st i M ch st') (hH : Hist st.vs st.bs st.lev H) : Hist st'.vs st'.bs st'.lev (H.set st.lev (st'.vs.map Vr.L)) := by
  rcases h with ⟨rfl, -, -⟩ | ⟨v, -, hv, -, -, v', h1, h2, h3, h4, h5, h6⟩
  · have e : H.set st'.lev (st'.vs.map Vr.L) = H := by
      apply List.ext_getElem?
      intro k
      rw [List.getElem?_set]
      by_cases hk : st'.lev = k
      · subst hk
        rw [if_pos rfl, if_pos (by rw [hH.len]; omega), hH.now]
      · rw [if_neg hk]
    rw [e]
    exact hH
  · rw [h5]
    exact hH.narrow hv h2 h3 h4

/-- Numbers only go. -/
theorem NarS.less {st' : Sto} {i : Int} {M : List Int} {ch : Int} (h : NarS st i M ch st') (k : Nat) (v' : Vr) (hv' : st'.vs[k]? = some v') : ∃ v, st.vs[k]? = some v ∧ ∀ u ∈ v'.L, u ∈ v.L := by
  rcases h with ⟨rfl, -, -⟩ | ⟨v, -, hv, -, -, x, h1, h2, h3, h4, h5, h6⟩
  · exact ⟨v', hv', fun u hu => hu⟩
  · rw [h3, List.getElem?_set] at hv'
    by_cases hk : i.toNat = k
    · rw [if_pos hk] at hv'
      split at hv'
      · cases hv'
        refine ⟨v, by rw [← hk]; exact hv, fun u hu => ?_⟩
        rw [h1] at hu
        exact (List.mem_filter.1 hu).1
      · cases hv'
    · rw [if_neg hk] at hv'
      exact ⟨v', hv', fun u hu => hu⟩
end

/-- A step's kind, numbers and list, as they came in. -/
structure ActIn (w : World) (kd v : Int) (Z : Option Addr) (nz cz : Nat) (zs : List Int) : Prop where
  k0 : 0 ≤ kd
  k1 : kd ≤ 255
  v0 : -9223372036854775808 ≤ v
  v1 : v ≤ 9223372036854775807
  len : nz = zs.length
  lies : Lies w Z nz (i64f zs)
theorem ActIn.below {w w' : World} {kd v : Int} {Z : Option Addr} {nz cz : Nat} {zs : List Int} (h : ActIn w kd v Z nz cz zs) (hb : Below w.heap.size w w') : ActIn w' kd v Z nz cz zs := ⟨h.k0, h.k1, h.v0, h.v1, h.len, h.lies.below hb⟩

def actI (v : Int) : Int := (max 0 v) % 6

set_option maxHeartbeats 1000000 in
theorem act_store {base S gb : Nat} {w : World} {st : Sto} (h : IsStore base w S st) (hT : Tab w) (hB : Blk w gb #[ptr S] 27) (kd v N : Int) (Z : Option Addr) (nz cz : Nat) (zs : List Int) (hA : ActIn w kd v Z nz cz zs) (hbn : st.bs.length ≤ 1000000) (hen : st.es.length ≤ 1000000) :
    Calls Tryd.prog 25 #[.agg #[.int .u8 kd, .int .i64 v, .int .i64 N, .slice Z nz cz], .pointer (some ⟨gb, 0, none⟩)] w fun e w' => e = .returned (.tuple #[]) ∧ ∃ ch st', IsStore base w' S st' ∧ NarS st (actI v) (smallL zs) ch st' ∧ Fr base w w' := by
  have o1 := below1 w (.cells #[.int .u8 kd, .int .i64 v, .int .i64 N, .slice Z nz cz] 36)
  have HSm := Lib.hid (small_any Z zs nz cz _ hA.len (hA.lies.below o1))
  have HB1 := Lib.hid o1
  have HX1 := Lib.hid (Blk.new w #[.int .u8 kd, .int .i64 v, .int .i64 N, .slice Z nz cz] 36)
  have HS0 := Lib.hid h
  have HBb := Lib.hid hB
  have hsl := small_len zs
  have Hself := Lib.hid (small_self zs)
  have hv0 := hA.v0
  have hv1 := hA.v1
  generalize smallL zs = L at *
  clear h hA o1 hB
  go_enter Tryd.func25, Tryd.ntmps25
  go_wp2_with fail
  refine HSm.out.mono ?_
  rintro e w1 ⟨v1, rfl, ho1, hb1⟩
  obtain ⟨A1, k1, rfl, hl1, -⟩ := own_lies ho1
  have HB2 := Lib.hid (HB1.out.trans (hb1.mono HB1.out.size))
  have HX2 := Lib.hid (HX1.out.below hb1)
  have HO := Lib.hid ((of_dom A1 L k1 w1 hl1 (by omega)).mono fun _ _ => GivesDom.parts)
  rw [Hself.out] at HO
  clear ho1 hb1 hl1 HSm HX1 HB1
  go_wp2_with fail
  refine HO.out.mono ?_
  rintro e w2 ⟨s2, A2, n2, c2, rfl, hd2, hb2⟩
  have K2 := below1 w2 (.cells #[.int .i64 s2, .slice A2 n2 c2, .int .i64 (L.length : Nat)] 48)
  have k2 := hb2.trans (K2.mono hb2.size)
  have HB3 := Lib.hid (HB2.out.trans (k2.mono HB2.out.size))
  have HX3 := Lib.hid (HX2.out.below k2)
  have HD3 := Lib.hid (hd2.below K2)
  clear hd2 hb2 K2 k2 HO HX2 HB2
  have HS3 := Lib.hid (HS0.out.below HB3.out)
  have HBb3 := Lib.hid (HBb.out.below HB3.out)
  have x1 : (w2.alloc (.cells #[.int .i64 s2, .slice A2 n2 c2, .int .i64 (L.length : Nat)] 48)).cell? ⟨w.heap.size, 1, none⟩ = some (.int .i64 v) := HX3.out.cell 1
  have b0 : (w2.alloc (.cells #[.int .i64 s2, .slice A2 n2 c2, .int .i64 (L.length : Nat)] 48)).cell? ⟨gb, 0, none⟩ = some (ptr S) := HBb3.out.cell 0
  have e6 : (max 0 v).tmod 6 = actI v := by
    unfold actI
    rw [Int.tmod_eq_emod_of_nonneg (by omega)]
  have HNa := Lib.hid (narrow_any HS3.out (hT.below HB3.out) (actI v) s2 A2 n2 c2 L HD3.out hbn hen)
  have e6' : (max 0 v) % 6 = actI v := rfl
  obtain ⟨ai, hai⟩ : ∃ ai, ai = actI v := ⟨_, rfl⟩
  rw [← hai] at HNa e6 e6'
  have Hai := Lib.hid hai
  clear hai
  go_wp2_with fail
  refine HNa.out.mono ?_
  rintro e w3 ⟨ch, st', rfl, hS', hN, hF⟩
  have HR := Lib.hid (And.intro hS' (And.intro hN hF))
  clear hS' hN hF
  go_wp2_with fail
  go_end0
  exact ⟨rfl, ch, st', HR.out.1, by rw [← Hai.out]; exact HR.out.2.1, (Fr.of_below HB3.out (Nat.le_of_lt HS0.out.lt)).trans HR.out.2.2⟩
end Go.Proofs.YtegiaonlneamfaaDoor

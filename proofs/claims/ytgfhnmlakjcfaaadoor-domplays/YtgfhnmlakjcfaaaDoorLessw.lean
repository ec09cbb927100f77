/- Contract of the law's own less. -/
import Derived.Test.YtgfhnmlakjcfaaaDoorHold
namespace Go.Proofs.YtgfhnmlakjcfaaaDoor
open Go.RowKit Go.Sort

/-- What less returns: the domain and the list that are left, and true. -/
def GivesLess (w : World) (R : List Int) (e : Ending) (w' : World) : Prop :=
  ∃ s A n c B cB, e = .returned (.tuple #[.agg #[.int .i64 s, .slice A n c, .int .i64 (R.length : Nat)], .slice B R.length cB, .bool true]) ∧ IsDom w' (.agg #[.int .i64 s, .slice A n c, .int .i64 (R.length : Nat)]) R ∧
    w'.ownsRow w.heap.size 3 1 (.slice B R.length cB) R.length (I R) ∧ Below w.heap.size w w'

theorem keep_len (o v : Int) (M L : List Int) : (L.filter (keepB o v M)).length ≤ L.length := List.length_filter_le _ _

theorem refkeep0_any (A B : Option Addr) (zs M : List Int) (n m cA cB : Nat) (v : Int) (w : World) (hn : n = zs.length) (hmm : m = M.length) (hbig : n ≤ 1000000) (hbm' : m ≤ 2000064) (hA : Lies w A n (i64f zs)) (hB : Lies w B m (i64f M)) :
    Calls Tryd.prog 46 #[.slice A n cA, .int .i64 0, .int .i64 v, .slice B m cB] w (GivesOf w (zs.filter (keepB 0 v M)) (chg zs (zs.filter (keepB 0 v M)))) := by
  by_cases hp : 0 < n
  · obtain ⟨a, rfl, ha, hca⟩ := hA hp
    exact refkeep0 a B zs M n m cA cB v w hn hmm hp hbig hbm' ha hca hB
  · have : zs = [] := List.eq_nil_of_length_eq_zero (by omega)
    subst this
    have h0 : n = 0 := by omega
    rw [h0]
    exact refkeep_none A B 0 v cA m cB w

theorem keep0_is (v : Int) (M : List Int) : keepB 0 v M = fun u => decide (u ≠ v) := by funext u; unfold keepB; simp

set_option maxHeartbeats 4000000 in
set_option maxRecDepth 100000 in
theorem less0 (s : Int) (A B Z : Option Addr) (m c cB nz cz : Nat) (L zs : List Int) (kd v : Int) (w : World) (hd : IsDom w (.agg #[.int .i64 s, .slice A m c, .int .i64 (L.length : Nat)]) L) (hB : Lies w B L.length (i64f L)) (hL : L.length ≤ 1000000) (hT : Tab w)
    (hZ : Lies w Z nz (i64f zs)) (hnz : nz = zs.length) (hcz : nz ≤ cz) (hk0 : 0 ≤ kd) (hko : kd % 6 = 0) :
    Calls Tryd.prog 18 #[.agg #[.int .i64 s, .slice A m c, .int .i64 (L.length : Nat)], .slice B L.length cB, .agg #[.int .u8 kd, .int .i64 v, .slice Z nz cz]] w (GivesLess w (L.filter (keepB 0 v (ofL (nearL zs))))) := by
  obtain ⟨M, hM⟩ : ∃ M, ofL (nearL zs) = M := ⟨_, rfl⟩
  obtain ⟨er, her⟩ : ∃ er, ofErr (nearL zs) = er := ⟨_, rfl⟩
  rw [hM]
  obtain ⟨R, hR⟩ : ∃ R, L.filter (keepB 0 v M) = R := ⟨_, rfl⟩
  obtain ⟨ch, hch⟩ : ∃ ch, chg L R = ch := ⟨_, rfl⟩
  have hnl : (nearL zs).length ≤ 40 := by rw [near_len]; omega
  have HN := Lib.hid fun W (hW : Below w.heap.size w W) => (near_any Z zs cz W (by rw [← hnz]; exact hZ.below hW) (by rw [← hnz]; exact hcz)).mono fun _ _ => GivesInts.slice
  rw [← hnz] at HN
  have HO1 := Lib.hid fun A1 k1 W (h : Lies W A1 (nearL zs).length (i64f (nearL zs))) => of_near A1 zs k1 _ W rfl h
  have HO2 := Lib.hid fun A1 k1 W (h : Lies W A1 (nearL zs).length (i64f (nearL zs))) => refof_any A1 (nearL zs) _ k1 W rfl h (by omega)
  rw [hM, her] at HO1 HO2
  have HK := Lib.hid fun C cC W (hM2 : M.length ≤ 2000064) (hC : Lies W C M.length (i64f M)) (hW : Below w.heap.size w W) (hB' : Lies W B L.length (i64f L)) => refkeep0_any B C L M L.length M.length cB cC v W rfl rfl hL hM2 hB' hC
  rw [hR, hch] at HK
  rw [hR]
  rw [keep0_is] at hR
  have HOp := Lib.hid (fun d W => without_parts L R ch v hR hch d W)
  have b0 : ∀ o1 o2 o3, Below w.heap.size w (((w.alloc o1).alloc o2).alloc o3) := fun o1 o2 o3 => ((below1 w o1).alloc (by simp) o2).alloc (by simp; omega) o3
  have hkt : kd.tmod 6 = 0 := by rw [Int.tmod_eq_emod_of_nonneg hk0]; exact hko
  have Hd := Lib.hid hd
  have HBl := Lib.hid hB
  have Hw1 : Hid (IntKind.i64.wrap 0 = 0) := by show _ = _; rfl
  clear hd hB hZ hnz hcz hM her hR hch hnl
  go_enter Tryd.func18, Tryd.ntmps18
  have C3 : Cell3 (((w.alloc (.cells #[.int .i64 s, .slice A m c, .int .i64 (L.length : Nat)] 27)).alloc (.cells #[.int .u8 kd, .int .i64 v, .slice Z nz cz] 44)).alloc (.cells #[.int .i64 0, .slice none 0 0, .int .i64 0] 27)) w.heap.size s A m c (L.length : Nat) := ((Cell3.new w s _ A m c).below (below1 _ _)).below (below1 _ _)
  have C5 : At3 (((w.alloc (.cells #[.int .i64 s, .slice A m c, .int .i64 (L.length : Nat)] 27)).alloc (.cells #[.int .u8 kd, .int .i64 v, .slice Z nz cz] 44)).alloc (.cells #[.int .i64 0, .slice none 0 0, .int .i64 0] 27)) (w.heap.size + 1) (.int .u8 kd) (.int .i64 v) (.slice Z nz cz) := by
    have := (At3.new (w.alloc (.cells #[.int .i64 s, .slice A m c, .int .i64 (L.length : Nat)] 27)) (.int .u8 kd) (.int .i64 v) (.slice Z nz cz) 44).below (below1 _ (.cells #[.int .i64 0, .slice none 0 0, .int .i64 0] 27))
    simpa using this
  have C6 : Cell3 (((w.alloc (.cells #[.int .i64 s, .slice A m c, .int .i64 (L.length : Nat)] 27)).alloc (.cells #[.int .u8 kd, .int .i64 v, .slice Z nz cz] 44)).alloc (.cells #[.int .i64 0, .slice none 0 0, .int .i64 0] 27)) (w.heap.size + 2) 0 none 0 0 0 := by
    have := Cell3.new ((w.alloc (.cells #[.int .i64 s, .slice A m c, .int .i64 (L.length : Nat)] 27)).alloc (.cells #[.int .u8 kd, .int .i64 v, .slice Z nz cz] 44)) 0 0 none 0 0
    simpa using this
  have HB0 := Lib.hid (b0 (.cells #[.int .i64 s, .slice A m c, .int .i64 (L.length : Nat)] 27) (.cells #[.int .u8 kd, .int .i64 v, .slice Z nz cz] 44) (.cells #[.int .i64 0, .slice none 0 0, .int .i64 0] 27))
  have H3 := Lib.hid C3
  have H5 := Lib.hid C5
  have H6 := Lib.hid C6
  clear C3 C5 C6 b0
  go_wp2_with fail
  refine (HN.out _ HB0.out).mono ?_
  rintro e w1 ⟨A1, k1, rfl, hl1, -, hb1⟩
  have HL1 := Lib.hid hl1
  have HB1 := Lib.hid (HB0.out.trans (hb1.mono HB0.out.size))
  have H3 := Lib.hid (H3.out.below hb1)
  have H5 := Lib.hid (H5.out.below hb1)
  have H6 := Lib.hid (H6.out.below hb1)
  clear hl1 hb1 HB0 HN
  go_wp2_with fail
  refine (HO1.out _ _ _ HL1.out).mono ?_
  rintro e w2 ⟨s1, B1, m1, d1, rfl, hd1, hb2⟩
  have o2 := below1 w2 (.cells #[.int .i64 s1, .slice B1 m1 d1, .int .i64 (M.length : Nat)] 27)
  have b2 := hb2.trans (o2.mono hb2.size)
  have HX10 := Lib.hid (Box.new hd1)
  have hMl := hd1.len
  have HL1 := Lib.hid (HL1.out.below b2)
  have HB2 := Lib.hid (HB1.out.trans (b2.mono HB1.out.size))
  have H3 := Lib.hid (H3.out.below b2)
  have H5 := Lib.hid (H5.out.below b2)
  have H6 := Lib.hid (H6.out.below b2)
  clear hd1 hb2 o2 b2 HB1 HO1
  go_wp2_with fail
  refine (HO2.out _ _ _ HL1.out).mono ?_
  rintro e w3 ⟨v3, rfl, ho3, hb3⟩
  obtain ⟨A3, c3, rfl, hl3, -⟩ := own_lies ho3
  have hfar : ∀ ad, A3 = some ad → 0 < M.length → w.heap.size < ad.block := by
    intro ad e hp
    subst e
    obtain ⟨g, hg⟩ : ∃ g, (Value.slice (some ad) M.length c3).ownBlock = some g := ⟨ad.block, rfl⟩
    have h1 := own_ge ho3 g hg
    have h2 : g = ad.block := by simpa [Value.ownBlock] using hg.symm
    have h3 := H3.out.lt
    have h4 := HB2.out.size
    simp at h1 h3
    omega
  have HX10 := Lib.hid (HX10.out.below hb3)
  have HL3 := Lib.hid hl3
  have HB4 := Lib.hid (HB2.out.trans (hb3.mono HB2.out.size))
  have H3 := Lib.hid (H3.out.below hb3)
  have H5 := Lib.hid (H5.out.below hb3)
  have H6 := Lib.hid (H6.out.below hb3)
  have HX4 := Lib.hid (Hd.out.below HB4.out)
  have Hfar := Lib.hid hfar
  clear ho3 hl3 hb3 HB2 HL1 HO2 hfar
  obtain ⟨-, t0, t1, t2⟩ := H5.out
  obtain ⟨q0, q1, q2⟩ := H3.out.cells
  go_wp2_with fail
  refine (HOp.out _ _ (HX4.out) (hT.below HB4.out)).mono ?_
  rintro e w4 ⟨s4, B4, m4, d4, rfl, hd4, hb4⟩
  have HB5 := Lib.hid (HB4.out.trans (hb4.mono HB4.out.size))
  have N3 := H3.out.below hb4
  have N5 := H5.out.below hb4
  have N6 := H6.out.below hb4
  have NL := HL3.out.below hb4
  obtain ⟨q0, q1, q2⟩ := N3.cells
  have f0 := N3.free 0
  have f1 := N3.free 1
  have f2 := N3.free 2
  have S3 := Lib.hid (store3_same N3 s4 (R.length : Nat) B4 m4 d4)
  have S5 := Lib.hid (N5.store (g' := w.heap.size) (by omega) (.int .i64 s4) (.slice B4 m4 d4) (.int .i64 (R.length : Nat)))
  have S6 := Lib.hid (N6.store (g' := w.heap.size) (by omega) (.int .i64 s4) (.slice B4 m4 d4) (.int .i64 (R.length : Nat)))
  have SD := Lib.hid (hd4.store N3 (.int .i64 s4) (.slice B4 m4 d4) (.int .i64 (R.length : Nat)))
  have HBs := Lib.hid (store3_below HB5.out w.heap.size (Nat.le_refl _) (.int .i64 s4) (.slice B4 m4 d4) (.int .i64 (R.length : Nat)))
  have SB := Lib.hid (HBl.out.below HBs.out)
  have SL : Hid (Lies (store3 w4 w.heap.size (.int .i64 s4) (.slice B4 m4 d4) (.int .i64 (R.length : Nat))) A3 M.length (i64f M)) := by
    by_cases hp : 0 < M.length
    · exact NL.store (fun ad e => by have := Hfar.out ad e hp; omega) _ _ _
    · exact fun h => absurd h hp
  obtain ⟨-, t0, t1, t2⟩ := S5.out
  clear hd4 hb4 HB4 HB5 H3 H5 H6 N3 N5 N6 NL HL3 HX4 HX10 HOp Hfar HBl
  go_wp2_with fail
  refine (HK.out _ _ _ hMl SL.out HBs.out SB.out).mono ?_
  rintro e w6 ⟨v6, rfl, ho6, hb6⟩
  obtain ⟨A6, c6, rfl, -, -⟩ := own_lies ho6
  have T3 := S3.out.below hb6
  have T6 := S6.out.below hb6
  have TD := Lib.hid (SD.out.below hb6)
  have HBt := Lib.hid (HBs.out.trans (hb6.mono HBs.out.size))
  have hlt6 := S6.out.lt
  have Ho := Lib.hid ho6
  clear q0 q1 q2 f0 f1 f2 t0 t1 t2
  obtain ⟨q0, q1, q2⟩ := T3.cells
  obtain ⟨t0, t1, t2⟩ := T6.cells
  have f0 := T6.free 0
  have f1 := T6.free 1
  have f2 := T6.free 2
  have H6 := Lib.hid T6
  clear T3 T6 ho6 hb6 S3 S5 S6 SD HBs SB SL HK
  go_wp2_with fail
  obtain ⟨r0, r1, r2⟩ := out_cells w6 (w.heap.size + 2) _ _ _ (.int .i64 s4) (.slice B4 m4 d4) (.int .i64 (R.length : Nat)) t0 t1 t2
  exact bodyPost_ret (v := .tuple #[.agg #[.int .i64 s4, .slice B4 m4 d4, .int .i64 (R.length : Nat)], .slice A6 R.length c6, .bool true]) (by simp [results, Tryd.results18, go_sem, r0, r1, r2]) rfl
    ⟨_, _, _, _, _, _, rfl, TD.out.store H6.out _ _ _, own_base (own_store Ho.out hlt6 _ _ _) (by rw [store3_size] at hlt6 ⊢; omega), store3_below HBt.out _ (by omega) _ _ _⟩

theorem refkeep1_any (A B : Option Addr) (zs M : List Int) (n m cA cB : Nat) (v : Int) (w : World) (hn : n = zs.length) (hmm : m = M.length) (hbig : n ≤ 1000000) (hbm' : m ≤ 2000064) (hA : Lies w A n (i64f zs)) (hB : Lies w B m (i64f M)) :
    Calls Tryd.prog 46 #[.slice A n cA, .int .i64 1, .int .i64 v, .slice B m cB] w (GivesOf w (zs.filter (keepB 1 v M)) (chg zs (zs.filter (keepB 1 v M)))) := by
  by_cases hp : 0 < n
  · obtain ⟨a, rfl, ha, hca⟩ := hA hp
    exact refkeep1 a B zs M n m cA cB v w hn hmm hp hbig hbm' ha hca hB
  · have : zs = [] := List.eq_nil_of_length_eq_zero (by omega)
    subst this
    have h0 : n = 0 := by omega
    rw [h0]
    exact refkeep_none A B 1 v cA m cB w

theorem keep1_is (v : Int) (M : List Int) : keepB 1 v M = fun u => decide (u = v) := by funext u; unfold keepB; simp

set_option maxHeartbeats 4000000 in
set_option maxRecDepth 100000 in
theorem less1 (s : Int) (A B Z : Option Addr) (m c cB nz cz : Nat) (L zs : List Int) (kd v : Int) (w : World) (hd : IsDom w (.agg #[.int .i64 s, .slice A m c, .int .i64 (L.length : Nat)]) L) (hB : Lies w B L.length (i64f L)) (hL : L.length ≤ 1000000) (hT : Tab w)
    (hZ : Lies w Z nz (i64f zs)) (hnz : nz = zs.length) (hcz : nz ≤ cz) (hk0 : 0 ≤ kd) (hko : kd % 6 = 1) :
    Calls Tryd.prog 18 #[.agg #[.int .i64 s, .slice A m c, .int .i64 (L.length : Nat)], .slice B L.length cB, .agg #[.int .u8 kd, .int .i64 v, .slice Z nz cz]] w (GivesLess w (L.filter (keepB 1 v (ofL (nearL zs))))) := by
  obtain ⟨M, hM⟩ : ∃ M, ofL (nearL zs) = M := ⟨_, rfl⟩
  obtain ⟨er, her⟩ : ∃ er, ofErr (nearL zs) = er := ⟨_, rfl⟩
  rw [hM]
  obtain ⟨R, hR⟩ : ∃ R, L.filter (keepB 1 v M) = R := ⟨_, rfl⟩
  obtain ⟨ch, hch⟩ : ∃ ch, chg L R = ch := ⟨_, rfl⟩
  have hnl : (nearL zs).length ≤ 40 := by rw [near_len]; omega
  have HN := Lib.hid fun W (hW : Below w.heap.size w W) => (near_any Z zs cz W (by rw [← hnz]; exact hZ.below hW) (by rw [← hnz]; exact hcz)).mono fun _ _ => GivesInts.slice
  rw [← hnz] at HN
  have HO1 := Lib.hid fun A1 k1 W (h : Lies W A1 (nearL zs).length (i64f (nearL zs))) => of_near A1 zs k1 _ W rfl h
  have HO2 := Lib.hid fun A1 k1 W (h : Lies W A1 (nearL zs).length (i64f (nearL zs))) => refof_any A1 (nearL zs) _ k1 W rfl h (by omega)
  rw [hM, her] at HO1 HO2
  have HK := Lib.hid fun C cC W (hM2 : M.length ≤ 2000064) (hC : Lies W C M.length (i64f M)) (hW : Below w.heap.size w W) (hB' : Lies W B L.length (i64f L)) => refkeep1_any B C L M L.length M.length cB cC v W rfl rfl hL hM2 hB' hC
  rw [hR, hch] at HK
  rw [hR]
  rw [keep1_is] at hR
  have HOp := Lib.hid (fun d W => only_parts L R ch v hR hch d W)
  have b0 : ∀ o1 o2 o3, Below w.heap.size w (((w.alloc o1).alloc o2).alloc o3) := fun o1 o2 o3 => ((below1 w o1).alloc (by simp) o2).alloc (by simp; omega) o3
  have hkt : kd.tmod 6 = 1 := by rw [Int.tmod_eq_emod_of_nonneg hk0]; exact hko
  have Hd := Lib.hid hd
  have HBl := Lib.hid hB
  have Hw1 : Hid (IntKind.i64.wrap 1 = 1) := by show _ = _; rfl
  clear hd hB hZ hnz hcz hM her hR hch hnl
  go_enter Tryd.func18, Tryd.ntmps18
  have C3 : Cell3 (((w.alloc (.cells #[.int .i64 s, .slice A m c, .int .i64 (L.length : Nat)] 27)).alloc (.cells #[.int .u8 kd, .int .i64 v, .slice Z nz cz] 44)).alloc (.cells #[.int .i64 0, .slice none 0 0, .int .i64 0] 27)) w.heap.size s A m c (L.length : Nat) := ((Cell3.new w s _ A m c).below (below1 _ _)).below (below1 _ _)
  have C5 : At3 (((w.alloc (.cells #[.int .i64 s, .slice A m c, .int .i64 (L.length : Nat)] 27)).alloc (.cells #[.int .u8 kd, .int .i64 v, .slice Z nz cz] 44)).alloc (.cells #[.int .i64 0, .slice none 0 0, .int .i64 0] 27)) (w.heap.size + 1) (.int .u8 kd) (.int .i64 v) (.slice Z nz cz) := by
    have := (At3.new (w.alloc (.cells #[.int .i64 s, .slice A m c, .int .i64 (L.length : Nat)] 27)) (.int .u8 kd) (.int .i64 v) (.slice Z nz cz) 44).below (below1 _ (.cells #[.int .i64 0, .slice none 0 0, .int .i64 0] 27))
    simpa using this
  have C6 : Cell3 (((w.alloc (.cells #[.int .i64 s, .slice A m c, .int .i64 (L.length : Nat)] 27)).alloc (.cells #[.int .u8 kd, .int .i64 v, .slice Z nz cz] 44)).alloc (.cells #[.int .i64 0, .slice none 0 0, .int .i64 0] 27)) (w.heap.size + 2) 0 none 0 0 0 := by
    have := Cell3.new ((w.alloc (.cells #[.int .i64 s, .slice A m c, .int .i64 (L.length : Nat)] 27)).alloc (.cells #[.int .u8 kd, .int .i64 v, .slice Z nz cz] 44)) 0 0 none 0 0
    simpa using this
  have HB0 := Lib.hid (b0 (.cells #[.int .i64 s, .slice A m c, .int .i64 (L.length : Nat)] 27) (.cells #[.int .u8 kd, .int .i64 v, .slice Z nz cz] 44) (.cells #[.int .i64 0, .slice none 0 0, .int .i64 0] 27))
  have H3 := Lib.hid C3
  have H5 := Lib.hid C5
  have H6 := Lib.hid C6
  clear C3 C5 C6 b0
  go_wp2_with fail
  refine (HN.out _ HB0.out).mono ?_
  rintro e w1 ⟨A1, k1, rfl, hl1, -, hb1⟩
  have HL1 := Lib.hid hl1
  have HB1 := Lib.hid (HB0.out.trans (hb1.mono HB0.out.size))
  have H3 := Lib.hid (H3.out.below hb1)
  have H5 := Lib.hid (H5.out.below hb1)
  have H6 := Lib.hid (H6.out.below hb1)
  clear hl1 hb1 HB0 HN
  go_wp2_with fail
  refine (HO1.out _ _ _ HL1.out).mono ?_
  rintro e w2 ⟨s1, B1, m1, d1, rfl, hd1, hb2⟩
  have o2 := below1 w2 (.cells #[.int .i64 s1, .slice B1 m1 d1, .int .i64 (M.length : Nat)] 27)
  have b2 := hb2.trans (o2.mono hb2.size)
  have HX10 := Lib.hid (Box.new hd1)
  have hMl := hd1.len
  have HL1 := Lib.hid (HL1.out.below b2)
  have HB2 := Lib.hid (HB1.out.trans (b2.mono HB1.out.size))
  have H3 := Lib.hid (H3.out.below b2)
  have H5 := Lib.hid (H5.out.below b2)
  have H6 := Lib.hid (H6.out.below b2)
  clear hd1 hb2 o2 b2 HB1 HO1
  go_wp2_with fail
  refine (HO2.out _ _ _ HL1.out).mono ?_
  rintro e w3 ⟨v3, rfl, ho3, hb3⟩
  obtain ⟨A3, c3, rfl, hl3, -⟩ := own_lies ho3
  have hfar : ∀ ad, A3 = some ad → 0 < M.length → w.heap.size < ad.block := by
    intro ad e hp
    subst e
    obtain ⟨g, hg⟩ : ∃ g, (Value.slice (some ad) M.length c3).ownBlock = some g := ⟨ad.block, rfl⟩
    have h1 := own_ge ho3 g hg
    have h2 : g = ad.block := by simpa [Value.ownBlock] using hg.symm
    have h3 := H3.out.lt
    have h4 := HB2.out.size
    simp at h1 h3
    omega
  have HX10 := Lib.hid (HX10.out.below hb3)
  have HL3 := Lib.hid hl3
  have HB4 := Lib.hid (HB2.out.trans (hb3.mono HB2.out.size))
  have H3 := Lib.hid (H3.out.below hb3)
  have H5 := Lib.hid (H5.out.below hb3)
  have H6 := Lib.hid (H6.out.below hb3)
  have HX4 := Lib.hid (Hd.out.below HB4.out)
  have Hfar := Lib.hid hfar
  clear ho3 hl3 hb3 HB2 HL1 HO2 hfar
  obtain ⟨-, t0, t1, t2⟩ := H5.out
  obtain ⟨q0, q1, q2⟩ := H3.out.cells
  go_wp2_with fail
  refine (HOp.out _ _ (HX4.out) (hT.below HB4.out)).mono ?_
  rintro e w4 ⟨s4, B4, m4, d4, rfl, hd4, hb4⟩
  have HB5 := Lib.hid (HB4.out.trans (hb4.mono HB4.out.size))
  have N3 := H3.out.below hb4
  have N5 := H5.out.below hb4
  have N6 := H6.out.below hb4
  have NL := HL3.out.below hb4
  obtain ⟨q0, q1, q2⟩ := N3.cells
  have f0 := N3.free 0
  have f1 := N3.free 1
  have f2 := N3.free 2
  have S3 := Lib.hid (store3_same N3 s4 (R.length : Nat) B4 m4 d4)
  have S5 := Lib.hid (N5.store (g' := w.heap.size) (by omega) (.int .i64 s4) (.slice B4 m4 d4) (.int .i64 (R.length : Nat)))
  have S6 := Lib.hid (N6.store (g' := w.heap.size) (by omega) (.int .i64 s4) (.slice B4 m4 d4) (.int .i64 (R.length : Nat)))
  have SD := Lib.hid (hd4.store N3 (.int .i64 s4) (.slice B4 m4 d4) (.int .i64 (R.length : Nat)))
  have HBs := Lib.hid (store3_below HB5.out w.heap.size (Nat.le_refl _) (.int .i64 s4) (.slice B4 m4 d4) (.int .i64 (R.length : Nat)))
  have SB := Lib.hid (HBl.out.below HBs.out)
  have SL : Hid (Lies (store3 w4 w.heap.size (.int .i64 s4) (.slice B4 m4 d4) (.int .i64 (R.length : Nat))) A3 M.length (i64f M)) := by
    by_cases hp : 0 < M.length
    · exact NL.store (fun ad e => by have := Hfar.out ad e hp; omega) _ _ _
    · exact fun h => absurd h hp
  obtain ⟨-, t0, t1, t2⟩ := S5.out
  clear hd4 hb4 HB4 HB5 H3 H5 H6 N3 N5 N6 NL HL3 HX4 HX10 HOp Hfar HBl
  go_wp2_with fail
  refine (HK.out _ _ _ hMl SL.out HBs.out SB.out).mono ?_
  rintro e w6 ⟨v6, rfl, ho6, hb6⟩
  obtain ⟨A6, c6, rfl, -, -⟩ := own_lies ho6
  have T3 := S3.out.below hb6
  have T6 := S6.out.below hb6
  have TD := Lib.hid (SD.out.below hb6)
  have HBt := Lib.hid (HBs.out.trans (hb6.mono HBs.out.size))
  have hlt6 := S6.out.lt
  have Ho := Lib.hid ho6
  clear q0 q1 q2 f0 f1 f2 t0 t1 t2
  obtain ⟨q0, q1, q2⟩ := T3.cells
  obtain ⟨t0, t1, t2⟩ := T6.cells
  have f0 := T6.free 0
  have f1 := T6.free 1
  have f2 := T6.free 2
  have H6 := Lib.hid T6
  clear T3 T6 ho6 hb6 S3 S5 S6 SD HBs SB SL HK
  go_wp2_with fail
  obtain ⟨r0, r1, r2⟩ := out_cells w6 (w.heap.size + 2) _ _ _ (.int .i64 s4) (.slice B4 m4 d4) (.int .i64 (R.length : Nat)) t0 t1 t2
  exact bodyPost_ret (v := .tuple #[.agg #[.int .i64 s4, .slice B4 m4 d4, .int .i64 (R.length : Nat)], .slice A6 R.length c6, .bool true]) (by simp [results, Tryd.results18, go_sem, r0, r1, r2]) rfl
    ⟨_, _, _, _, _, _, rfl, TD.out.store H6.out _ _ _, own_base (own_store Ho.out hlt6 _ _ _) (by rw [store3_size] at hlt6 ⊢; omega), store3_below HBt.out _ (by omega) _ _ _⟩

theorem refkeep2_any (A B : Option Addr) (zs M : List Int) (n m cA cB : Nat) (v : Int) (w : World) (hn : n = zs.length) (hmm : m = M.length) (hbig : n ≤ 1000000) (hbm' : m ≤ 2000064) (hA : Lies w A n (i64f zs)) (hB : Lies w B m (i64f M)) :
    Calls Tryd.prog 46 #[.slice A n cA, .int .i64 2, .int .i64 v, .slice B m cB] w (GivesOf w (zs.filter (keepB 2 v M)) (chg zs (zs.filter (keepB 2 v M)))) := by
  by_cases hp : 0 < n
  · obtain ⟨a, rfl, ha, hca⟩ := hA hp
    exact refkeep2 a B zs M n m cA cB v w hn hmm hp hbig hbm' ha hca hB
  · have : zs = [] := List.eq_nil_of_length_eq_zero (by omega)
    subst this
    have h0 : n = 0 := by omega
    rw [h0]
    exact refkeep_none A B 2 v cA m cB w

theorem keep2_is (v : Int) (M : List Int) : keepB 2 v M = fun u => decide (v ≤ u) := by funext u; unfold keepB; simp

set_option maxHeartbeats 4000000 in
set_option maxRecDepth 100000 in
theorem less2 (s : Int) (A B Z : Option Addr) (m c cB nz cz : Nat) (L zs : List Int) (kd v : Int) (w : World) (hd : IsDom w (.agg #[.int .i64 s, .slice A m c, .int .i64 (L.length : Nat)]) L) (hB : Lies w B L.length (i64f L)) (hL : L.length ≤ 1000000) (hT : Tab w)
    (hZ : Lies w Z nz (i64f zs)) (hnz : nz = zs.length) (hcz : nz ≤ cz) (hk0 : 0 ≤ kd) (hko : kd % 6 = 2) :
    Calls Tryd.prog 18 #[.agg #[.int .i64 s, .slice A m c, .int .i64 (L.length : Nat)], .slice B L.length cB, .agg #[.int .u8 kd, .int .i64 v, .slice Z nz cz]] w (GivesLess w (L.filter (keepB 2 v (ofL (nearL zs))))) := by
  obtain ⟨M, hM⟩ : ∃ M, ofL (nearL zs) = M := ⟨_, rfl⟩
  obtain ⟨er, her⟩ : ∃ er, ofErr (nearL zs) = er := ⟨_, rfl⟩
  rw [hM]
  obtain ⟨R, hR⟩ : ∃ R, L.filter (keepB 2 v M) = R := ⟨_, rfl⟩
  obtain ⟨ch, hch⟩ : ∃ ch, chg L R = ch := ⟨_, rfl⟩
  have hnl : (nearL zs).length ≤ 40 := by rw [near_len]; omega
  have HN := Lib.hid fun W (hW : Below w.heap.size w W) => (near_any Z zs cz W (by rw [← hnz]; exact hZ.below hW) (by rw [← hnz]; exact hcz)).mono fun _ _ => GivesInts.slice
  rw [← hnz] at HN
  have HO1 := Lib.hid fun A1 k1 W (h : Lies W A1 (nearL zs).length (i64f (nearL zs))) => of_near A1 zs k1 _ W rfl h
  have HO2 := Lib.hid fun A1 k1 W (h : Lies W A1 (nearL zs).length (i64f (nearL zs))) => refof_any A1 (nearL zs) _ k1 W rfl h (by omega)
  rw [hM, her] at HO1 HO2
  have HK := Lib.hid fun C cC W (hM2 : M.length ≤ 2000064) (hC : Lies W C M.length (i64f M)) (hW : Below w.heap.size w W) (hB' : Lies W B L.length (i64f L)) => refkeep2_any B C L M L.length M.length cB cC v W rfl rfl hL hM2 hB' hC
  rw [hR, hch] at HK
  rw [hR]
  rw [keep2_is] at hR
  have HOp := Lib.hid (fun d W => least_parts L R ch v hR hch d W)
  have b0 : ∀ o1 o2 o3, Below w.heap.size w (((w.alloc o1).alloc o2).alloc o3) := fun o1 o2 o3 => ((below1 w o1).alloc (by simp) o2).alloc (by simp; omega) o3
  have hkt : kd.tmod 6 = 2 := by rw [Int.tmod_eq_emod_of_nonneg hk0]; exact hko
  have Hd := Lib.hid hd
  have HBl := Lib.hid hB
  have Hw1 : Hid (IntKind.i64.wrap 2 = 2) := by show _ = _; rfl
  clear hd hB hZ hnz hcz hM her hR hch hnl
  go_enter Tryd.func18, Tryd.ntmps18
  have C3 : Cell3 (((w.alloc (.cells #[.int .i64 s, .slice A m c, .int .i64 (L.length : Nat)] 27)).alloc (.cells #[.int .u8 kd, .int .i64 v, .slice Z nz cz] 44)).alloc (.cells #[.int .i64 0, .slice none 0 0, .int .i64 0] 27)) w.heap.size s A m c (L.length : Nat) := ((Cell3.new w s _ A m c).below (below1 _ _)).below (below1 _ _)
  have C5 : At3 (((w.alloc (.cells #[.int .i64 s, .slice A m c, .int .i64 (L.length : Nat)] 27)).alloc (.cells #[.int .u8 kd, .int .i64 v, .slice Z nz cz] 44)).alloc (.cells #[.int .i64 0, .slice none 0 0, .int .i64 0] 27)) (w.heap.size + 1) (.int .u8 kd) (.int .i64 v) (.slice Z nz cz) := by
    have := (At3.new (w.alloc (.cells #[.int .i64 s, .slice A m c, .int .i64 (L.length : Nat)] 27)) (.int .u8 kd) (.int .i64 v) (.slice Z nz cz) 44).below (below1 _ (.cells #[.int .i64 0, .slice none 0 0, .int .i64 0] 27))
    simpa using this
  have C6 : Cell3 (((w.alloc (.cells #[.int .i64 s, .slice A m c, .int .i64 (L.length : Nat)] 27)).alloc (.cells #[.int .u8 kd, .int .i64 v, .slice Z nz cz] 44)).alloc (.cells #[.int .i64 0, .slice none 0 0, .int .i64 0] 27)) (w.heap.size + 2) 0 none 0 0 0 := by
    have := Cell3.new ((w.alloc (.cells #[.int .i64 s, .slice A m c, .int .i64 (L.length : Nat)] 27)).alloc (.cells #[.int .u8 kd, .int .i64 v, .slice Z nz cz] 44)) 0 0 none 0 0
    simpa using this
  have HB0 := Lib.hid (b0 (.cells #[.int .i64 s, .slice A m c, .int .i64 (L.length : Nat)] 27) (.cells #[.int .u8 kd, .int .i64 v, .slice Z nz cz] 44) (.cells #[.int .i64 0, .slice none 0 0, .int .i64 0] 27))
  have H3 := Lib.hid C3
  have H5 := Lib.hid C5
  have H6 := Lib.hid C6
  clear C3 C5 C6 b0
  go_wp2_with fail
  refine (HN.out _ HB0.out).mono ?_
  rintro e w1 ⟨A1, k1, rfl, hl1, -, hb1⟩
  have HL1 := Lib.hid hl1
  have HB1 := Lib.hid (HB0.out.trans (hb1.mono HB0.out.size))
  have H3 := Lib.hid (H3.out.below hb1)
  have H5 := Lib.hid (H5.out.below hb1)
  have H6 := Lib.hid (H6.out.below hb1)
  clear hl1 hb1 HB0 HN
  go_wp2_with fail
  refine (HO1.out _ _ _ HL1.out).mono ?_
  rintro e w2 ⟨s1, B1, m1, d1, rfl, hd1, hb2⟩
  have o2 := below1 w2 (.cells #[.int .i64 s1, .slice B1 m1 d1, .int .i64 (M.length : Nat)] 27)
  have b2 := hb2.trans (o2.mono hb2.size)
  have HX10 := Lib.hid (Box.new hd1)
  have hMl := hd1.len
  have HL1 := Lib.hid (HL1.out.below b2)
  have HB2 := Lib.hid (HB1.out.trans (b2.mono HB1.out.size))
  have H3 := Lib.hid (H3.out.below b2)
  have H5 := Lib.hid (H5.out.below b2)
  have H6 := Lib.hid (H6.out.below b2)
  clear hd1 hb2 o2 b2 HB1 HO1
  go_wp2_with fail
  refine (HO2.out _ _ _ HL1.out).mono ?_
  rintro e w3 ⟨v3, rfl, ho3, hb3⟩
  obtain ⟨A3, c3, rfl, hl3, -⟩ := own_lies ho3
  have hfar : ∀ ad, A3 = some ad → 0 < M.length → w.heap.size < ad.block := by
    intro ad e hp
    subst e
    obtain ⟨g, hg⟩ : ∃ g, (Value.slice (some ad) M.length c3).ownBlock = some g := ⟨ad.block, rfl⟩
    have h1 := own_ge ho3 g hg
    have h2 : g = ad.block := by simpa [Value.ownBlock] using hg.symm
    have h3 := H3.out.lt
    have h4 := HB2.out.size
    simp at h1 h3
    omega
  have HX10 := Lib.hid (HX10.out.below hb3)
  have HL3 := Lib.hid hl3
  have HB4 := Lib.hid (HB2.out.trans (hb3.mono HB2.out.size))
  have H3 := Lib.hid (H3.out.below hb3)
  have H5 := Lib.hid (H5.out.below hb3)
  have H6 := Lib.hid (H6.out.below hb3)
  have HX4 := Lib.hid (Hd.out.below HB4.out)
  have Hfar := Lib.hid hfar
  clear ho3 hl3 hb3 HB2 HL1 HO2 hfar
  obtain ⟨-, t0, t1, t2⟩ := H5.out
  obtain ⟨q0, q1, q2⟩ := H3.out.cells
  go_wp2_with fail
  refine (HOp.out _ _ (HX4.out) (hT.below HB4.out)).mono ?_
  rintro e w4 ⟨s4, B4, m4, d4, rfl, hd4, hb4⟩
  have HB5 := Lib.hid (HB4.out.trans (hb4.mono HB4.out.size))
  have N3 := H3.out.below hb4
  have N5 := H5.out.below hb4
  have N6 := H6.out.below hb4
  have NL := HL3.out.below hb4
  obtain ⟨q0, q1, q2⟩ := N3.cells
  have f0 := N3.free 0
  have f1 := N3.free 1
  have f2 := N3.free 2
  have S3 := Lib.hid (store3_same N3 s4 (R.length : Nat) B4 m4 d4)
  have S5 := Lib.hid (N5.store (g' := w.heap.size) (by omega) (.int .i64 s4) (.slice B4 m4 d4) (.int .i64 (R.length : Nat)))
  have S6 := Lib.hid (N6.store (g' := w.heap.size) (by omega) (.int .i64 s4) (.slice B4 m4 d4) (.int .i64 (R.length : Nat)))
  have SD := Lib.hid (hd4.store N3 (.int .i64 s4) (.slice B4 m4 d4) (.int .i64 (R.length : Nat)))
  have HBs := Lib.hid (store3_below HB5.out w.heap.size (Nat.le_refl _) (.int .i64 s4) (.slice B4 m4 d4) (.int .i64 (R.length : Nat)))
  have SB := Lib.hid (HBl.out.below HBs.out)
  have SL : Hid (Lies (store3 w4 w.heap.size (.int .i64 s4) (.slice B4 m4 d4) (.int .i64 (R.length : Nat))) A3 M.length (i64f M)) := by
    by_cases hp : 0 < M.length
    · exact NL.store (fun ad e => by have := Hfar.out ad e hp; omega) _ _ _
    · exact fun h => absurd h hp
  obtain ⟨-, t0, t1, t2⟩ := S5.out
  clear hd4 hb4 HB4 HB5 H3 H5 H6 N3 N5 N6 NL HL3 HX4 HX10 HOp Hfar HBl
  go_wp2_with fail
  refine (HK.out _ _ _ hMl SL.out HBs.out SB.out).mono ?_
  rintro e w6 ⟨v6, rfl, ho6, hb6⟩
  obtain ⟨A6, c6, rfl, -, -⟩ := own_lies ho6
  have T3 := S3.out.below hb6
  have T6 := S6.out.below hb6
  have TD := Lib.hid (SD.out.below hb6)
  have HBt := Lib.hid (HBs.out.trans (hb6.mono HBs.out.size))
  have hlt6 := S6.out.lt
  have Ho := Lib.hid ho6
  clear q0 q1 q2 f0 f1 f2 t0 t1 t2
  obtain ⟨q0, q1, q2⟩ := T3.cells
  obtain ⟨t0, t1, t2⟩ := T6.cells
  have f0 := T6.free 0
  have f1 := T6.free 1
  have f2 := T6.free 2
  have H6 := Lib.hid T6
  clear T3 T6 ho6 hb6 S3 S5 S6 SD HBs SB SL HK
  go_wp2_with fail
  obtain ⟨r0, r1, r2⟩ := out_cells w6 (w.heap.size + 2) _ _ _ (.int .i64 s4) (.slice B4 m4 d4) (.int .i64 (R.length : Nat)) t0 t1 t2
  exact bodyPost_ret (v := .tuple #[.agg #[.int .i64 s4, .slice B4 m4 d4, .int .i64 (R.length : Nat)], .slice A6 R.length c6, .bool true]) (by simp [results, Tryd.results18, go_sem, r0, r1, r2]) rfl
    ⟨_, _, _, _, _, _, rfl, TD.out.store H6.out _ _ _, own_base (own_store Ho.out hlt6 _ _ _) (by rw [store3_size] at hlt6 ⊢; omega), store3_below HBt.out _ (by omega) _ _ _⟩

theorem refkeep3_any (A B : Option Addr) (zs M : List Int) (n m cA cB : Nat) (v : Int) (w : World) (hn : n = zs.length) (hmm : m = M.length) (hbig : n ≤ 1000000) (hbm' : m ≤ 2000064) (hA : Lies w A n (i64f zs)) (hB : Lies w B m (i64f M)) :
    Calls Tryd.prog 46 #[.slice A n cA, .int .i64 3, .int .i64 v, .slice B m cB] w (GivesOf w (zs.filter (keepB 3 v M)) (chg zs (zs.filter (keepB 3 v M)))) := by
  by_cases hp : 0 < n
  · obtain ⟨a, rfl, ha, hca⟩ := hA hp
    exact refkeep3 a B zs M n m cA cB v w hn hmm hp hbig hbm' ha hca hB
  · have : zs = [] := List.eq_nil_of_length_eq_zero (by omega)
    subst this
    have h0 : n = 0 := by omega
    rw [h0]
    exact refkeep_none A B 3 v cA m cB w

theorem keep3_is (v : Int) (M : List Int) : keepB 3 v M = fun u => decide (u ≤ v) := by funext u; unfold keepB; simp

set_option maxHeartbeats 4000000 in
set_option maxRecDepth 100000 in
theorem less3 (s : Int) (A B Z : Option Addr) (m c cB nz cz : Nat) (L zs : List Int) (kd v : Int) (w : World) (hd : IsDom w (.agg #[.int .i64 s, .slice A m c, .int .i64 (L.length : Nat)]) L) (hB : Lies w B L.length (i64f L)) (hL : L.length ≤ 1000000) (hT : Tab w)
    (hZ : Lies w Z nz (i64f zs)) (hnz : nz = zs.length) (hcz : nz ≤ cz) (hk0 : 0 ≤ kd) (hko : kd % 6 = 3) :
    Calls Tryd.prog 18 #[.agg #[.int .i64 s, .slice A m c, .int .i64 (L.length : Nat)], .slice B L.length cB, .agg #[.int .u8 kd, .int .i64 v, .slice Z nz cz]] w (GivesLess w (L.filter (keepB 3 v (ofL (nearL zs))))) := by
  obtain ⟨M, hM⟩ : ∃ M, ofL (nearL zs) = M := ⟨_, rfl⟩
  obtain ⟨er, her⟩ : ∃ er, ofErr (nearL zs) = er := ⟨_, rfl⟩
  rw [hM]
  obtain ⟨R, hR⟩ : ∃ R, L.filter (keepB 3 v M) = R := ⟨_, rfl⟩
  obtain ⟨ch, hch⟩ : ∃ ch, chg L R = ch := ⟨_, rfl⟩
  have hnl : (nearL zs).length ≤ 40 := by rw [near_len]; omega
  have HN := Lib.hid fun W (hW : Below w.heap.size w W) => (near_any Z zs cz W (by rw [← hnz]; exact hZ.below hW) (by rw [← hnz]; exact hcz)).mono fun _ _ => GivesInts.slice
  rw [← hnz] at HN
  have HO1 := Lib.hid fun A1 k1 W (h : Lies W A1 (nearL zs).length (i64f (nearL zs))) => of_near A1 zs k1 _ W rfl h
  have HO2 := Lib.hid fun A1 k1 W (h : Lies W A1 (nearL zs).length (i64f (nearL zs))) => refof_any A1 (nearL zs) _ k1 W rfl h (by omega)
  rw [hM, her] at HO1 HO2
  have HK := Lib.hid fun C cC W (hM2 : M.length ≤ 2000064) (hC : Lies W C M.length (i64f M)) (hW : Below w.heap.size w W) (hB' : Lies W B L.length (i64f L)) => refkeep3_any B C L M L.length M.length cB cC v W rfl rfl hL hM2 hB' hC
  rw [hR, hch] at HK
  rw [hR]
  rw [keep3_is] at hR
  have HOp := Lib.hid (fun d W => most_parts L R ch v hR hch d W)
  have b0 : ∀ o1 o2 o3, Below w.heap.size w (((w.alloc o1).alloc o2).alloc o3) := fun o1 o2 o3 => ((below1 w o1).alloc (by simp) o2).alloc (by simp; omega) o3
  have hkt : kd.tmod 6 = 3 := by rw [Int.tmod_eq_emod_of_nonneg hk0]; exact hko
  have Hd := Lib.hid hd
  have HBl := Lib.hid hB
  have Hw1 : Hid (IntKind.i64.wrap 3 = 3) := by show _ = _; rfl
  clear hd hB hZ hnz hcz hM her hR hch hnl
  go_enter Tryd.func18, Tryd.ntmps18
  have C3 : Cell3 (((w.alloc (.cells #[.int .i64 s, .slice A m c, .int .i64 (L.length : Nat)] 27)).alloc (.cells #[.int .u8 kd, .int .i64 v, .slice Z nz cz] 44)).alloc (.cells #[.int .i64 0, .slice none 0 0, .int .i64 0] 27)) w.heap.size s A m c (L.length : Nat) := ((Cell3.new w s _ A m c).below (below1 _ _)).below (below1 _ _)
  have C5 : At3 (((w.alloc (.cells #[.int .i64 s, .slice A m c, .int .i64 (L.length : Nat)] 27)).alloc (.cells #[.int .u8 kd, .int .i64 v, .slice Z nz cz] 44)).alloc (.cells #[.int .i64 0, .slice none 0 0, .int .i64 0] 27)) (w.heap.size + 1) (.int .u8 kd) (.int .i64 v) (.slice Z nz cz) := by
    have := (At3.new (w.alloc (.cells #[.int .i64 s, .slice A m c, .int .i64 (L.length : Nat)] 27)) (.int .u8 kd) (.int .i64 v) (.slice Z nz cz) 44).below (below1 _ (.cells #[.int .i64 0, .slice none 0 0, .int .i64 0] 27))
    simpa using this
  have C6 : Cell3 (((w.alloc (.cells #[.int .i64 s, .slice A m c, .int .i64 (L.length : Nat)] 27)).alloc (.cells #[.int .u8 kd, .int .i64 v, .slice Z nz cz] 44)).alloc (.cells #[.int .i64 0, .slice none 0 0, .int .i64 0] 27)) (w.heap.size + 2) 0 none 0 0 0 := by
    have := Cell3.new ((w.alloc (.cells #[.int .i64 s, .slice A m c, .int .i64 (L.length : Nat)] 27)).alloc (.cells #[.int .u8 kd, .int .i64 v, .slice Z nz cz] 44)) 0 0 none 0 0
    simpa using this
  have HB0 := Lib.hid (b0 (.cells #[.int .i64 s, .slice A m c, .int .i64 (L.length : Nat)] 27) (.cells #[.int .u8 kd, .int .i64 v, .slice Z nz cz] 44) (.cells #[.int .i64 0, .slice none 0 0, .int .i64 0] 27))
  have H3 := Lib.hid C3
  have H5 := Lib.hid C5
  have H6 := Lib.hid C6
  clear C3 C5 C6 b0
  go_wp2_with fail
  refine (HN.out _ HB0.out).mono ?_
  rintro e w1 ⟨A1, k1, rfl, hl1, -, hb1⟩
  have HL1 := Lib.hid hl1
  have HB1 := Lib.hid (HB0.out.trans (hb1.mono HB0.out.size))
  have H3 := Lib.hid (H3.out.below hb1)
  have H5 := Lib.hid (H5.out.below hb1)
  have H6 := Lib.hid (H6.out.below hb1)
  clear hl1 hb1 HB0 HN
  go_wp2_with fail
  refine (HO1.out _ _ _ HL1.out).mono ?_
  rintro e w2 ⟨s1, B1, m1, d1, rfl, hd1, hb2⟩
  have o2 := below1 w2 (.cells #[.int .i64 s1, .slice B1 m1 d1, .int .i64 (M.length : Nat)] 27)
  have b2 := hb2.trans (o2.mono hb2.size)
  have HX10 := Lib.hid (Box.new hd1)
  have hMl := hd1.len
  have HL1 := Lib.hid (HL1.out.below b2)
  have HB2 := Lib.hid (HB1.out.trans (b2.mono HB1.out.size))
  have H3 := Lib.hid (H3.out.below b2)
  have H5 := Lib.hid (H5.out.below b2)
  have H6 := Lib.hid (H6.out.below b2)
  clear hd1 hb2 o2 b2 HB1 HO1
  go_wp2_with fail
  refine (HO2.out _ _ _ HL1.out).mono ?_
  rintro e w3 ⟨v3, rfl, ho3, hb3⟩
  obtain ⟨A3, c3, rfl, hl3, -⟩ := own_lies ho3
  have hfar : ∀ ad, A3 = some ad → 0 < M.length → w.heap.size < ad.block := by
    intro ad e hp
    subst e
    obtain ⟨g, hg⟩ : ∃ g, (Value.slice (some ad) M.length c3).ownBlock = some g := ⟨ad.block, rfl⟩
    have h1 := own_ge ho3 g hg
    have h2 : g = ad.block := by simpa [Value.ownBlock] using hg.symm
    have h3 := H3.out.lt
    have h4 := HB2.out.size
    simp at h1 h3
    omega
  have HX10 := Lib.hid (HX10.out.below hb3)
  have HL3 := Lib.hid hl3
  have HB4 := Lib.hid (HB2.out.trans (hb3.mono HB2.out.size))
  have H3 := Lib.hid (H3.out.below hb3)
  have H5 := Lib.hid (H5.out.below hb3)
  have H6 := Lib.hid (H6.out.below hb3)
  have HX4 := Lib.hid (Hd.out.below HB4.out)
  have Hfar := Lib.hid hfar
  clear ho3 hl3 hb3 HB2 HL1 HO2 hfar
  obtain ⟨-, t0, t1, t2⟩ := H5.out
  obtain ⟨q0, q1, q2⟩ := H3.out.cells
  go_wp2_with fail
  refine (HOp.out _ _ (HX4.out) (hT.below HB4.out)).mono ?_
  rintro e w4 ⟨s4, B4, m4, d4, rfl, hd4, hb4⟩
  have HB5 := Lib.hid (HB4.out.trans (hb4.mono HB4.out.size))
  have N3 := H3.out.below hb4
  have N5 := H5.out.below hb4
  have N6 := H6.out.below hb4
  have NL := HL3.out.below hb4
  obtain ⟨q0, q1, q2⟩ := N3.cells
  have f0 := N3.free 0
  have f1 := N3.free 1
  have f2 := N3.free 2
  have S3 := Lib.hid (store3_same N3 s4 (R.length : Nat) B4 m4 d4)
  have S5 := Lib.hid (N5.store (g' := w.heap.size) (by omega) (.int .i64 s4) (.slice B4 m4 d4) (.int .i64 (R.length : Nat)))
  have S6 := Lib.hid (N6.store (g' := w.heap.size) (by omega) (.int .i64 s4) (.slice B4 m4 d4) (.int .i64 (R.length : Nat)))
  have SD := Lib.hid (hd4.store N3 (.int .i64 s4) (.slice B4 m4 d4) (.int .i64 (R.length : Nat)))
  have HBs := Lib.hid (store3_below HB5.out w.heap.size (Nat.le_refl _) (.int .i64 s4) (.slice B4 m4 d4) (.int .i64 (R.length : Nat)))
  have SB := Lib.hid (HBl.out.below HBs.out)
  have SL : Hid (Lies (store3 w4 w.heap.size (.int .i64 s4) (.slice B4 m4 d4) (.int .i64 (R.length : Nat))) A3 M.length (i64f M)) := by
    by_cases hp : 0 < M.length
    · exact NL.store (fun ad e => by have := Hfar.out ad e hp; omega) _ _ _
    · exact fun h => absurd h hp
  obtain ⟨-, t0, t1, t2⟩ := S5.out
  clear hd4 hb4 HB4 HB5 H3 H5 H6 N3 N5 N6 NL HL3 HX4 HX10 HOp Hfar HBl
  go_wp2_with fail
  refine (HK.out _ _ _ hMl SL.out HBs.out SB.out).mono ?_
  rintro e w6 ⟨v6, rfl, ho6, hb6⟩
  obtain ⟨A6, c6, rfl, -, -⟩ := own_lies ho6
  have T3 := S3.out.below hb6
  have T6 := S6.out.below hb6
  have TD := Lib.hid (SD.out.below hb6)
  have HBt := Lib.hid (HBs.out.trans (hb6.mono HBs.out.size))
  have hlt6 := S6.out.lt
  have Ho := Lib.hid ho6
  clear q0 q1 q2 f0 f1 f2 t0 t1 t2
  obtain ⟨q0, q1, q2⟩ := T3.cells
  obtain ⟨t0, t1, t2⟩ := T6.cells
  have f0 := T6.free 0
  have f1 := T6.free 1
  have f2 := T6.free 2
  have H6 := Lib.hid T6
  clear T3 T6 ho6 hb6 S3 S5 S6 SD HBs SB SL HK
  go_wp2_with fail
  obtain ⟨r0, r1, r2⟩ := out_cells w6 (w.heap.size + 2) _ _ _ (.int .i64 s4) (.slice B4 m4 d4) (.int .i64 (R.length : Nat)) t0 t1 t2
  exact bodyPost_ret (v := .tuple #[.agg #[.int .i64 s4, .slice B4 m4 d4, .int .i64 (R.length : Nat)], .slice A6 R.length c6, .bool true]) (by simp [results, Tryd.results18, go_sem, r0, r1, r2]) rfl
    ⟨_, _, _, _, _, _, rfl, TD.out.store H6.out _ _ _, own_base (own_store Ho.out hlt6 _ _ _) (by rw [store3_size] at hlt6 ⊢; omega), store3_below HBt.out _ (by omega) _ _ _⟩

theorem refkeep4_any (A B : Option Addr) (zs M : List Int) (n m cA cB : Nat) (v : Int) (w : World) (hn : n = zs.length) (hmm : m = M.length) (hbig : n ≤ 1000000) (hbm' : m ≤ 2000064) (hA : Lies w A n (i64f zs)) (hB : Lies w B m (i64f M)) :
    Calls Tryd.prog 46 #[.slice A n cA, .int .i64 4, .int .i64 v, .slice B m cB] w (GivesOf w (zs.filter (keepB 4 v M)) (chg zs (zs.filter (keepB 4 v M)))) := by
  by_cases hp : 0 < n
  · obtain ⟨a, rfl, ha, hca⟩ := hA hp
    exact refkeep4 a B zs M n m cA cB v w hn hmm hp hbig hbm' ha hca hB
  · have : zs = [] := List.eq_nil_of_length_eq_zero (by omega)
    subst this
    have h0 : n = 0 := by omega
    rw [h0]
    exact refkeep_none A B 4 v cA m cB w

theorem keep4_is (v : Int) (M : List Int) : keepB 4 v M = fun u => decide (u ∈ M) := by funext u; unfold keepB; simp

set_option maxHeartbeats 4000000 in
set_option maxRecDepth 100000 in
theorem less4 (s : Int) (A B Z : Option Addr) (m c cB nz cz : Nat) (L zs : List Int) (kd v : Int) (w : World) (hd : IsDom w (.agg #[.int .i64 s, .slice A m c, .int .i64 (L.length : Nat)]) L) (hB : Lies w B L.length (i64f L)) (hL : L.length ≤ 1000000) (hT : Tab w)
    (hZ : Lies w Z nz (i64f zs)) (hnz : nz = zs.length) (hcz : nz ≤ cz) (hk0 : 0 ≤ kd) (hko : kd % 6 = 4) :
    Calls Tryd.prog 18 #[.agg #[.int .i64 s, .slice A m c, .int .i64 (L.length : Nat)], .slice B L.length cB, .agg #[.int .u8 kd, .int .i64 v, .slice Z nz cz]] w (GivesLess w (L.filter (keepB 4 v (ofL (nearL zs))))) := by
  obtain ⟨M, hM⟩ : ∃ M, ofL (nearL zs) = M := ⟨_, rfl⟩
  obtain ⟨er, her⟩ : ∃ er, ofErr (nearL zs) = er := ⟨_, rfl⟩
  rw [hM]
  obtain ⟨R, hR⟩ : ∃ R, L.filter (keepB 4 v M) = R := ⟨_, rfl⟩
  obtain ⟨ch, hch⟩ : ∃ ch, chg L R = ch := ⟨_, rfl⟩
  have hnl : (nearL zs).length ≤ 40 := by rw [near_len]; omega
  have HN := Lib.hid fun W (hW : Below w.heap.size w W) => (near_any Z zs cz W (by rw [← hnz]; exact hZ.below hW) (by rw [← hnz]; exact hcz)).mono fun _ _ => GivesInts.slice
  rw [← hnz] at HN
  have HO1 := Lib.hid fun A1 k1 W (h : Lies W A1 (nearL zs).length (i64f (nearL zs))) => of_near A1 zs k1 _ W rfl h
  have HO2 := Lib.hid fun A1 k1 W (h : Lies W A1 (nearL zs).length (i64f (nearL zs))) => refof_any A1 (nearL zs) _ k1 W rfl h (by omega)
  rw [hM, her] at HO1 HO2
  have HK := Lib.hid fun C cC W (hM2 : M.length ≤ 2000064) (hC : Lies W C M.length (i64f M)) (hW : Below w.heap.size w W) (hB' : Lies W B L.length (i64f L)) => refkeep4_any B C L M L.length M.length cB cC v W rfl rfl hL hM2 hB' hC
  rw [hR, hch] at HK
  rw [hR]
  rw [keep4_is] at hR
  have HOp := Lib.hid (fun d e W => and_parts L M R ch hR hch d e W)
  have b0 : ∀ o1 o2 o3, Below w.heap.size w (((w.alloc o1).alloc o2).alloc o3) := fun o1 o2 o3 => ((below1 w o1).alloc (by simp) o2).alloc (by simp; omega) o3
  have hkt : kd.tmod 6 = 4 := by rw [Int.tmod_eq_emod_of_nonneg hk0]; exact hko
  have Hd := Lib.hid hd
  have HBl := Lib.hid hB
  have Hw1 : Hid (IntKind.i64.wrap 4 = 4) := by show _ = _; rfl
  clear hd hB hZ hnz hcz hM her hR hch hnl
  go_enter Tryd.func18, Tryd.ntmps18
  have C3 : Cell3 (((w.alloc (.cells #[.int .i64 s, .slice A m c, .int .i64 (L.length : Nat)] 27)).alloc (.cells #[.int .u8 kd, .int .i64 v, .slice Z nz cz] 44)).alloc (.cells #[.int .i64 0, .slice none 0 0, .int .i64 0] 27)) w.heap.size s A m c (L.length : Nat) := ((Cell3.new w s _ A m c).below (below1 _ _)).below (below1 _ _)
  have C5 : At3 (((w.alloc (.cells #[.int .i64 s, .slice A m c, .int .i64 (L.length : Nat)] 27)).alloc (.cells #[.int .u8 kd, .int .i64 v, .slice Z nz cz] 44)).alloc (.cells #[.int .i64 0, .slice none 0 0, .int .i64 0] 27)) (w.heap.size + 1) (.int .u8 kd) (.int .i64 v) (.slice Z nz cz) := by
    have := (At3.new (w.alloc (.cells #[.int .i64 s, .slice A m c, .int .i64 (L.length : Nat)] 27)) (.int .u8 kd) (.int .i64 v) (.slice Z nz cz) 44).below (below1 _ (.cells #[.int .i64 0, .slice none 0 0, .int .i64 0] 27))
    simpa using this
  have C6 : Cell3 (((w.alloc (.cells #[.int .i64 s, .slice A m c, .int .i64 (L.length : Nat)] 27)).alloc (.cells #[.int .u8 kd, .int .i64 v, .slice Z nz cz] 44)).alloc (.cells #[.int .i64 0, .slice none 0 0, .int .i64 0] 27)) (w.heap.size + 2) 0 none 0 0 0 := by
    have := Cell3.new ((w.alloc (.cells #[.int .i64 s, .slice A m c, .int .i64 (L.length : Nat)] 27)).alloc (.cells #[.int .u8 kd, .int .i64 v, .slice Z nz cz] 44)) 0 0 none 0 0
    simpa using this
  have HB0 := Lib.hid (b0 (.cells #[.int .i64 s, .slice A m c, .int .i64 (L.length : Nat)] 27) (.cells #[.int .u8 kd, .int .i64 v, .slice Z nz cz] 44) (.cells #[.int .i64 0, .slice none 0 0, .int .i64 0] 27))
  have H3 := Lib.hid C3
  have H5 := Lib.hid C5
  have H6 := Lib.hid C6
  clear C3 C5 C6 b0
  go_wp2_with fail
  refine (HN.out _ HB0.out).mono ?_
  rintro e w1 ⟨A1, k1, rfl, hl1, -, hb1⟩
  have HL1 := Lib.hid hl1
  have HB1 := Lib.hid (HB0.out.trans (hb1.mono HB0.out.size))
  have H3 := Lib.hid (H3.out.below hb1)
  have H5 := Lib.hid (H5.out.below hb1)
  have H6 := Lib.hid (H6.out.below hb1)
  clear hl1 hb1 HB0 HN
  go_wp2_with fail
  refine (HO1.out _ _ _ HL1.out).mono ?_
  rintro e w2 ⟨s1, B1, m1, d1, rfl, hd1, hb2⟩
  have o2 := below1 w2 (.cells #[.int .i64 s1, .slice B1 m1 d1, .int .i64 (M.length : Nat)] 27)
  have b2 := hb2.trans (o2.mono hb2.size)
  have HX10 := Lib.hid (Box.new hd1)
  have hMl := hd1.len
  have HL1 := Lib.hid (HL1.out.below b2)
  have HB2 := Lib.hid (HB1.out.trans (b2.mono HB1.out.size))
  have H3 := Lib.hid (H3.out.below b2)
  have H5 := Lib.hid (H5.out.below b2)
  have H6 := Lib.hid (H6.out.below b2)
  clear hd1 hb2 o2 b2 HB1 HO1
  go_wp2_with fail
  refine (HO2.out _ _ _ HL1.out).mono ?_
  rintro e w3 ⟨v3, rfl, ho3, hb3⟩
  obtain ⟨A3, c3, rfl, hl3, -⟩ := own_lies ho3
  have hfar : ∀ ad, A3 = some ad → 0 < M.length → w.heap.size < ad.block := by
    intro ad e hp
    subst e
    obtain ⟨g, hg⟩ : ∃ g, (Value.slice (some ad) M.length c3).ownBlock = some g := ⟨ad.block, rfl⟩
    have h1 := own_ge ho3 g hg
    have h2 : g = ad.block := by simpa [Value.ownBlock] using hg.symm
    have h3 := H3.out.lt
    have h4 := HB2.out.size
    simp at h1 h3
    omega
  have HX10 := Lib.hid (HX10.out.below hb3)
  have HL3 := Lib.hid hl3
  have HB4 := Lib.hid (HB2.out.trans (hb3.mono HB2.out.size))
  have H3 := Lib.hid (H3.out.below hb3)
  have H5 := Lib.hid (H5.out.below hb3)
  have H6 := Lib.hid (H6.out.below hb3)
  have HX4 := Lib.hid (Hd.out.below HB4.out)
  have Hfar := Lib.hid hfar
  clear ho3 hl3 hb3 HB2 HL1 HO2 hfar
  obtain ⟨-, t0, t1, t2⟩ := H5.out
  obtain ⟨q0, q1, q2⟩ := H3.out.cells
  obtain ⟨-, m0, m1', m2⟩ := HX10.out.at3
  go_wp2_with fail
  refine (HOp.out _ _ _ (HX4.out) (HX10.out.dom) (hT.below HB4.out)).mono ?_
  rintro e w4 ⟨s4, B4, m4, d4, rfl, hd4, hb4⟩
  have HB5 := Lib.hid (HB4.out.trans (hb4.mono HB4.out.size))
  have N3 := H3.out.below hb4
  have N5 := H5.out.below hb4
  have N6 := H6.out.below hb4
  have NL := HL3.out.below hb4
  obtain ⟨q0, q1, q2⟩ := N3.cells
  have f0 := N3.free 0
  have f1 := N3.free 1
  have f2 := N3.free 2
  have S3 := Lib.hid (store3_same N3 s4 (R.length : Nat) B4 m4 d4)
  have S5 := Lib.hid (N5.store (g' := w.heap.size) (by omega) (.int .i64 s4) (.slice B4 m4 d4) (.int .i64 (R.length : Nat)))
  have S6 := Lib.hid (N6.store (g' := w.heap.size) (by omega) (.int .i64 s4) (.slice B4 m4 d4) (.int .i64 (R.length : Nat)))
  have SD := Lib.hid (hd4.store N3 (.int .i64 s4) (.slice B4 m4 d4) (.int .i64 (R.length : Nat)))
  have HBs := Lib.hid (store3_below HB5.out w.heap.size (Nat.le_refl _) (.int .i64 s4) (.slice B4 m4 d4) (.int .i64 (R.length : Nat)))
  have SB := Lib.hid (HBl.out.below HBs.out)
  have SL : Hid (Lies (store3 w4 w.heap.size (.int .i64 s4) (.slice B4 m4 d4) (.int .i64 (R.length : Nat))) A3 M.length (i64f M)) := by
    by_cases hp : 0 < M.length
    · exact NL.store (fun ad e => by have := Hfar.out ad e hp; omega) _ _ _
    · exact fun h => absurd h hp
  obtain ⟨-, t0, t1, t2⟩ := S5.out
  clear hd4 hb4 HB4 HB5 H3 H5 H6 N3 N5 N6 NL HL3 HX4 HX10 HOp Hfar HBl
  go_wp2_with fail
  refine (HK.out _ _ _ hMl SL.out HBs.out SB.out).mono ?_
  rintro e w6 ⟨v6, rfl, ho6, hb6⟩
  obtain ⟨A6, c6, rfl, -, -⟩ := own_lies ho6
  have T3 := S3.out.below hb6
  have T6 := S6.out.below hb6
  have TD := Lib.hid (SD.out.below hb6)
  have HBt := Lib.hid (HBs.out.trans (hb6.mono HBs.out.size))
  have hlt6 := S6.out.lt
  have Ho := Lib.hid ho6
  clear q0 q1 q2 f0 f1 f2 t0 t1 t2
  obtain ⟨q0, q1, q2⟩ := T3.cells
  obtain ⟨t0, t1, t2⟩ := T6.cells
  have f0 := T6.free 0
  have f1 := T6.free 1
  have f2 := T6.free 2
  have H6 := Lib.hid T6
  clear T3 T6 ho6 hb6 S3 S5 S6 SD HBs SB SL HK
  go_wp2_with fail
  obtain ⟨r0, r1, r2⟩ := out_cells w6 (w.heap.size + 2) _ _ _ (.int .i64 s4) (.slice B4 m4 d4) (.int .i64 (R.length : Nat)) t0 t1 t2
  exact bodyPost_ret (v := .tuple #[.agg #[.int .i64 s4, .slice B4 m4 d4, .int .i64 (R.length : Nat)], .slice A6 R.length c6, .bool true]) (by simp [results, Tryd.results18, go_sem, r0, r1, r2]) rfl
    ⟨_, _, _, _, _, _, rfl, TD.out.store H6.out _ _ _, own_base (own_store Ho.out hlt6 _ _ _) (by rw [store3_size] at hlt6 ⊢; omega), store3_below HBt.out _ (by omega) _ _ _⟩

theorem refkeep5_any (A B : Option Addr) (zs M : List Int) (n m cA cB : Nat) (v : Int) (w : World) (hn : n = zs.length) (hmm : m = M.length) (hbig : n ≤ 1000000) (hbm' : m ≤ 2000064) (hA : Lies w A n (i64f zs)) (hB : Lies w B m (i64f M)) :
    Calls Tryd.prog 46 #[.slice A n cA, .int .i64 5, .int .i64 v, .slice B m cB] w (GivesOf w (zs.filter (keepB 5 v M)) (chg zs (zs.filter (keepB 5 v M)))) := by
  by_cases hp : 0 < n
  · obtain ⟨a, rfl, ha, hca⟩ := hA hp
    exact refkeep5 a B zs M n m cA cB v w hn hmm hp hbig hbm' ha hca hB
  · have : zs = [] := List.eq_nil_of_length_eq_zero (by omega)
    subst this
    have h0 : n = 0 := by omega
    rw [h0]
    exact refkeep_none A B 5 v cA m cB w

theorem keep5_is (v : Int) (M : List Int) : keepB 5 v M = fun u => decide (u ∉ M) := by funext u; unfold keepB; simp

set_option maxHeartbeats 4000000 in
set_option maxRecDepth 100000 in
theorem less5 (s : Int) (A B Z : Option Addr) (m c cB nz cz : Nat) (L zs : List Int) (kd v : Int) (w : World) (hd : IsDom w (.agg #[.int .i64 s, .slice A m c, .int .i64 (L.length : Nat)]) L) (hB : Lies w B L.length (i64f L)) (hL : L.length ≤ 1000000) (hT : Tab w)
    (hZ : Lies w Z nz (i64f zs)) (hnz : nz = zs.length) (hcz : nz ≤ cz) (hk0 : 0 ≤ kd) (hko : kd % 6 = 5) :
    Calls Tryd.prog 18 #[.agg #[.int .i64 s, .slice A m c, .int .i64 (L.length : Nat)], .slice B L.length cB, .agg #[.int .u8 kd, .int .i64 v, .slice Z nz cz]] w (GivesLess w (L.filter (keepB 5 v (ofL (nearL zs))))) := by
  obtain ⟨M, hM⟩ : ∃ M, ofL (nearL zs) = M := ⟨_, rfl⟩
  obtain ⟨er, her⟩ : ∃ er, ofErr (nearL zs) = er := ⟨_, rfl⟩
  rw [hM]
  obtain ⟨R, hR⟩ : ∃ R, L.filter (keepB 5 v M) = R := ⟨_, rfl⟩
  obtain ⟨ch, hch⟩ : ∃ ch, chg L R = ch := ⟨_, rfl⟩
  have hnl : (nearL zs).length ≤ 40 := by rw [near_len]; omega
  have HN := Lib.hid fun W (hW : Below w.heap.size w W) => (near_any Z zs cz W (by rw [← hnz]; exact hZ.below hW) (by rw [← hnz]; exact hcz)).mono fun _ _ => GivesInts.slice
  rw [← hnz] at HN
  have HO1 := Lib.hid fun A1 k1 W (h : Lies W A1 (nearL zs).length (i64f (nearL zs))) => of_near A1 zs k1 _ W rfl h
  have HO2 := Lib.hid fun A1 k1 W (h : Lies W A1 (nearL zs).length (i64f (nearL zs))) => refof_any A1 (nearL zs) _ k1 W rfl h (by omega)
  rw [hM, her] at HO1 HO2
  have HK := Lib.hid fun C cC W (hM2 : M.length ≤ 2000064) (hC : Lies W C M.length (i64f M)) (hW : Below w.heap.size w W) (hB' : Lies W B L.length (i64f L)) => refkeep5_any B C L M L.length M.length cB cC v W rfl rfl hL hM2 hB' hC
  rw [hR, hch] at HK
  rw [hR]
  rw [keep5_is] at hR
  have HOp := Lib.hid (fun d e W => minus_parts L M R ch hR hch d e W)
  have b0 : ∀ o1 o2 o3, Below w.heap.size w (((w.alloc o1).alloc o2).alloc o3) := fun o1 o2 o3 => ((below1 w o1).alloc (by simp) o2).alloc (by simp; omega) o3
  have hkt : kd.tmod 6 = 5 := by rw [Int.tmod_eq_emod_of_nonneg hk0]; exact hko
  have Hd := Lib.hid hd
  have HBl := Lib.hid hB
  have Hw1 : Hid (IntKind.i64.wrap 5 = 5) := by show _ = _; rfl
  clear hd hB hZ hnz hcz hM her hR hch hnl
  go_enter Tryd.func18, Tryd.ntmps18
  have C3 : Cell3 (((w.alloc (.cells #[.int .i64 s, .slice A m c, .int .i64 (L.length : Nat)] 27)).alloc (.cells #[.int .u8 kd, .int .i64 v, .slice Z nz cz] 44)).alloc (.cells #[.int .i64 0, .slice none 0 0, .int .i64 0] 27)) w.heap.size s A m c (L.length : Nat) := ((Cell3.new w s _ A m c).below (below1 _ _)).below (below1 _ _)
  have C5 : At3 (((w.alloc (.cells #[.int .i64 s, .slice A m c, .int .i64 (L.length : Nat)] 27)).alloc (.cells #[.int .u8 kd, .int .i64 v, .slice Z nz cz] 44)).alloc (.cells #[.int .i64 0, .slice none 0 0, .int .i64 0] 27)) (w.heap.size + 1) (.int .u8 kd) (.int .i64 v) (.slice Z nz cz) := by
    have := (At3.new (w.alloc (.cells #[.int .i64 s, .slice A m c, .int .i64 (L.length : Nat)] 27)) (.int .u8 kd) (.int .i64 v) (.slice Z nz cz) 44).below (below1 _ (.cells #[.int .i64 0, .slice none 0 0, .int .i64 0] 27))
    simpa using this
  have C6 : Cell3 (((w.alloc (.cells #[.int .i64 s, .slice A m c, .int .i64 (L.length : Nat)] 27)).alloc (.cells #[.int .u8 kd, .int .i64 v, .slice Z nz cz] 44)).alloc (.cells #[.int .i64 0, .slice none 0 0, .int .i64 0] 27)) (w.heap.size + 2) 0 none 0 0 0 := by
    have := Cell3.new ((w.alloc (.cells #[.int .i64 s, .slice A m c, .int .i64 (L.length : Nat)] 27)).alloc (.cells #[.int .u8 kd, .int .i64 v, .slice Z nz cz] 44)) 0 0 none 0 0
    simpa using this
  have HB0 := Lib.hid (b0 (.cells #[.int .i64 s, .slice A m c, .int .i64 (L.length : Nat)] 27) (.cells #[.int .u8 kd, .int .i64 v, .slice Z nz cz] 44) (.cells #[.int .i64 0, .slice none 0 0, .int .i64 0] 27))
  have H3 := Lib.hid C3
  have H5 := Lib.hid C5
  have H6 := Lib.hid C6
  clear C3 C5 C6 b0
  go_wp2_with fail
  refine (HN.out _ HB0.out).mono ?_
  rintro e w1 ⟨A1, k1, rfl, hl1, -, hb1⟩
  have HL1 := Lib.hid hl1
  have HB1 := Lib.hid (HB0.out.trans (hb1.mono HB0.out.size))
  have H3 := Lib.hid (H3.out.below hb1)
  have H5 := Lib.hid (H5.out.below hb1)
  have H6 := Lib.hid (H6.out.below hb1)
  clear hl1 hb1 HB0 HN
  go_wp2_with fail
  refine (HO1.out _ _ _ HL1.out).mono ?_
  rintro e w2 ⟨s1, B1, m1, d1, rfl, hd1, hb2⟩
  have o2 := below1 w2 (.cells #[.int .i64 s1, .slice B1 m1 d1, .int .i64 (M.length : Nat)] 27)
  have b2 := hb2.trans (o2.mono hb2.size)
  have HX10 := Lib.hid (Box.new hd1)
  have hMl := hd1.len
  have HL1 := Lib.hid (HL1.out.below b2)
  have HB2 := Lib.hid (HB1.out.trans (b2.mono HB1.out.size))
  have H3 := Lib.hid (H3.out.below b2)
  have H5 := Lib.hid (H5.out.below b2)
  have H6 := Lib.hid (H6.out.below b2)
  clear hd1 hb2 o2 b2 HB1 HO1
  go_wp2_with fail
  refine (HO2.out _ _ _ HL1.out).mono ?_
  rintro e w3 ⟨v3, rfl, ho3, hb3⟩
  obtain ⟨A3, c3, rfl, hl3, -⟩ := own_lies ho3
  have hfar : ∀ ad, A3 = some ad → 0 < M.length → w.heap.size < ad.block := by
    intro ad e hp
    subst e
    obtain ⟨g, hg⟩ : ∃ g, (Value.slice (some ad) M.length c3).ownBlock = some g := ⟨ad.block, rfl⟩
    have h1 := own_ge ho3 g hg
    have h2 : g = ad.block := by simpa [Value.ownBlock] using hg.symm
    have h3 := H3.out.lt
    have h4 := HB2.out.size
    simp at h1 h3
    omega
  have HX10 := Lib.hid (HX10.out.below hb3)
  have HL3 := Lib.hid hl3
  have HB4 := Lib.hid (HB2.out.trans (hb3.mono HB2.out.size))
  have H3 := Lib.hid (H3.out.below hb3)
  have H5 := Lib.hid (H5.out.below hb3)
  have H6 := Lib.hid (H6.out.below hb3)
  have HX4 := Lib.hid (Hd.out.below HB4.out)
  have Hfar := Lib.hid hfar
  clear ho3 hl3 hb3 HB2 HL1 HO2 hfar
  obtain ⟨-, t0, t1, t2⟩ := H5.out
  obtain ⟨q0, q1, q2⟩ := H3.out.cells
  obtain ⟨-, m0, m1', m2⟩ := HX10.out.at3
  go_wp2_with fail
  refine (HOp.out _ _ _ (HX4.out) (HX10.out.dom) (hT.below HB4.out)).mono ?_
  rintro e w4 ⟨s4, B4, m4, d4, rfl, hd4, hb4⟩
  have HB5 := Lib.hid (HB4.out.trans (hb4.mono HB4.out.size))
  have N3 := H3.out.below hb4
  have N5 := H5.out.below hb4
  have N6 := H6.out.below hb4
  have NL := HL3.out.below hb4
  obtain ⟨q0, q1, q2⟩ := N3.cells
  have f0 := N3.free 0
  have f1 := N3.free 1
  have f2 := N3.free 2
  have S3 := Lib.hid (store3_same N3 s4 (R.length : Nat) B4 m4 d4)
  have S5 := Lib.hid (N5.store (g' := w.heap.size) (by omega) (.int .i64 s4) (.slice B4 m4 d4) (.int .i64 (R.length : Nat)))
  have S6 := Lib.hid (N6.store (g' := w.heap.size) (by omega) (.int .i64 s4) (.slice B4 m4 d4) (.int .i64 (R.length : Nat)))
  have SD := Lib.hid (hd4.store N3 (.int .i64 s4) (.slice B4 m4 d4) (.int .i64 (R.length : Nat)))
  have HBs := Lib.hid (store3_below HB5.out w.heap.size (Nat.le_refl _) (.int .i64 s4) (.slice B4 m4 d4) (.int .i64 (R.length : Nat)))
  have SB := Lib.hid (HBl.out.below HBs.out)
  have SL : Hid (Lies (store3 w4 w.heap.size (.int .i64 s4) (.slice B4 m4 d4) (.int .i64 (R.length : Nat))) A3 M.length (i64f M)) := by
    by_cases hp : 0 < M.length
    · exact NL.store (fun ad e => by have := Hfar.out ad e hp; omega) _ _ _
    · exact fun h => absurd h hp
  obtain ⟨-, t0, t1, t2⟩ := S5.out
  clear hd4 hb4 HB4 HB5 H3 H5 H6 N3 N5 N6 NL HL3 HX4 HX10 HOp Hfar HBl
  go_wp2_with fail
  refine (HK.out _ _ _ hMl SL.out HBs.out SB.out).mono ?_
  rintro e w6 ⟨v6, rfl, ho6, hb6⟩
  obtain ⟨A6, c6, rfl, -, -⟩ := own_lies ho6
  have T3 := S3.out.below hb6
  have T6 := S6.out.below hb6
  have TD := Lib.hid (SD.out.below hb6)
  have HBt := Lib.hid (HBs.out.trans (hb6.mono HBs.out.size))
  have hlt6 := S6.out.lt
  have Ho := Lib.hid ho6
  clear q0 q1 q2 f0 f1 f2 t0 t1 t2
  obtain ⟨q0, q1, q2⟩ := T3.cells
  obtain ⟨t0, t1, t2⟩ := T6.cells
  have f0 := T6.free 0
  have f1 := T6.free 1
  have f2 := T6.free 2
  have H6 := Lib.hid T6
  clear T3 T6 ho6 hb6 S3 S5 S6 SD HBs SB SL HK
  go_wp2_with fail
  obtain ⟨r0, r1, r2⟩ := out_cells w6 (w.heap.size + 2) _ _ _ (.int .i64 s4) (.slice B4 m4 d4) (.int .i64 (R.length : Nat)) t0 t1 t2
  exact bodyPost_ret (v := .tuple #[.agg #[.int .i64 s4, .slice B4 m4 d4, .int .i64 (R.length : Nat)], .slice A6 R.length c6, .bool true]) (by simp [results, Tryd.results18, go_sem, r0, r1, r2]) rfl
    ⟨_, _, _, _, _, _, rfl, TD.out.store H6.out _ _ _, own_base (own_store Ho.out hlt6 _ _ _) (by rw [store3_size] at hlt6 ⊢; omega), store3_below HBt.out _ (by omega) _ _ _⟩

theorem less_any (s : Int) (A B Z : Option Addr) (m c cB nz cz : Nat) (L zs : List Int) (kd v : Int) (w : World) (hd : IsDom w (.agg #[.int .i64 s, .slice A m c, .int .i64 (L.length : Nat)]) L) (hB : Lies w B L.length (i64f L)) (hL : L.length ≤ 1000000) (hT : Tab w)
    (hZ : Lies w Z nz (i64f zs)) (hnz : nz = zs.length) (hcz : nz ≤ cz) (hk0 : 0 ≤ kd) :
    ∃ R, R.length ≤ L.length ∧ Calls Tryd.prog 18 #[.agg #[.int .i64 s, .slice A m c, .int .i64 (L.length : Nat)], .slice B L.length cB, .agg #[.int .u8 kd, .int .i64 v, .slice Z nz cz]] w (GivesLess w R) := by
  have h6 : kd % 6 = 0 ∨ kd % 6 = 1 ∨ kd % 6 = 2 ∨ kd % 6 = 3 ∨ kd % 6 = 4 ∨ kd % 6 = 5 := by omega
  rcases h6 with h | h | h | h | h | h
  · exact ⟨_, keep_len _ _ _ _, less0 s A B Z m c cB nz cz L zs kd v w hd hB hL hT hZ hnz hcz hk0 h⟩
  · exact ⟨_, keep_len _ _ _ _, less1 s A B Z m c cB nz cz L zs kd v w hd hB hL hT hZ hnz hcz hk0 h⟩
  · exact ⟨_, keep_len _ _ _ _, less2 s A B Z m c cB nz cz L zs kd v w hd hB hL hT hZ hnz hcz hk0 h⟩
  · exact ⟨_, keep_len _ _ _ _, less3 s A B Z m c cB nz cz L zs kd v w hd hB hL hT hZ hnz hcz hk0 h⟩
  · exact ⟨_, keep_len _ _ _ _, less4 s A B Z m c cB nz cz L zs kd v w hd hB hL hT hZ hnz hcz hk0 h⟩
  · exact ⟨_, keep_len _ _ _ _, less5 s A B Z m c cB nz cz L zs kd v w hd hB hL hT hZ hnz hcz hk0 h⟩
end Go.Proofs.YtgfhnmlakjcfaaaDoor

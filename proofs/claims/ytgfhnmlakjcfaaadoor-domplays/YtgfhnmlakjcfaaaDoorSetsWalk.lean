/- The walk of the law DomSets: it returns true. -/
import Derived.Test.YtgfhnmlakjcfaaaDoorWakes
import Derived.Lib.QuietBelow
namespace Go.Proofs.YtgfhnmlakjcfaaaDoor
open Go.RowKit Go.Sort

/-- A domain in a box. -/
structure Box (W : World) (g : Nat) (s : Int) (A : Option Addr) (n c : Nat) (L : List Int) : Prop where
  at3 : At3 W g (.int .i64 s) (.slice A n c) (.int .i64 (L.length : Nat))
  dom : IsDom W (.agg #[.int .i64 s, .slice A n c, .int .i64 (L.length : Nat)]) L

theorem Box.below {W W' : World} {g : Nat} {s : Int} {A : Option Addr} {n c : Nat} {L : List Int} (h : Box W g s A n c L) (hb : Below W.heap.size W W') : Box W' g s A n c L := ⟨h.at3.below hb, h.dom.below hb⟩
theorem Box.new {W : World} {s : Int} {A : Option Addr} {n c : Nat} {L : List Int} (h : IsDom W (.agg #[.int .i64 s, .slice A n c, .int .i64 (L.length : Nat)]) L) :
    Box (W.alloc (.cells #[.int .i64 s, .slice A n c, .int .i64 (L.length : Nat)] 27)) W.heap.size s A n c L := ⟨At3.new _ _ _ _ _, h.below (below1 _ _)⟩

/-- A new domain, with its parts named. -/
def GivesParts (w : World) (R : List Int) (ch : Int) (e : Ending) (w' : World) : Prop :=
  ∃ s A n c, e = .returned (.tuple #[.agg #[.int .i64 s, .slice A n c, .int .i64 (R.length : Nat)], .int .i64 ch]) ∧ IsDom w' (.agg #[.int .i64 s, .slice A n c, .int .i64 (R.length : Nat)]) R ∧ Below w.heap.size w w'
theorem GivesDom.parts {w w' : World} {R : List Int} {ch : Int} {e : Ending} (h : GivesDom w R ch e w') : GivesParts w R ch e w' := by
  obtain ⟨d, he, hd, hb⟩ := h
  obtain ⟨s, A, ws, c, rfl, -⟩ := id hd
  exact ⟨s, A, ws.length, c, he, hd, hb⟩

/-- Of(near(..)). -/
theorem of_near (A : Option Addr) (zs : List Int) (c n : Nat) (w : World) (hn : n = (nearL zs).length) (h : Lies w A n (i64f (nearL zs))) : Calls Tryd.prog 8 #[.slice A n c] w (GivesParts w (ofL (nearL zs)) (ofErr (nearL zs))) := by
  subst hn
  exact (of_dom A (nearL zs) c w h (by rw [near_len]; omega)).mono fun _ _ => GivesDom.parts

/-- A new slice, with its parts named. -/
def GivesSlice (w : World) (zs : List Int) (e : Ending) (w' : World) : Prop :=
  ∃ A c, e = .returned (.slice A zs.length c) ∧ Lies w' A zs.length (i64f zs) ∧ zs.length ≤ c ∧ Below w.heap.size w w'
theorem GivesInts.slice {w w' : World} {zs : List Int} {e : Ending} (h : GivesInts w zs e w') : GivesSlice w zs e w' := by
  obtain ⟨v, rfl, ho, hb⟩ := h
  obtain ⟨A, c, rfl, hl, hc⟩ := own_lies ho
  exact ⟨A, c, rfl, hl, hc, hb⟩

theorem tmod_small (z : Int) : -3000 < z.tmod 3000 ∧ z.tmod 3000 < 3000 := by
  have : (z.tmod 3000).natAbs = z.natAbs % 3000 := Int.natAbs_tmod z 3000
  omega

theorem IsDom.len {W : World} {d : Value} {L : List Int} (h : IsDom W d L) : L.length ≤ 2000064 := by
  obtain ⟨s, A, ws, c, -, -, hF, rfl⟩ := h
  have := len_le_listOf ws s
  have := hF.len
  omega

/-- And and Minus, what they return under a name. -/
theorem and_parts (L M P : List Int) (ch : Int) (hP : L.filter (fun u => decide (u ∈ M)) = P) (hc : chg L P = ch) (d e : Value) (W : World) (h : IsDom W d L) (he : IsDom W e M) (hT : Tab W) : Calls Tryd.prog 19 #[d, e] W (GivesParts W P ch) := by
  subst hP hc
  exact (and_dom d e L M W h he hT).mono fun _ _ => GivesDom.parts
theorem minus_parts (L M P : List Int) (ch : Int) (hP : L.filter (fun u => decide (u ∉ M)) = P) (hc : chg L P = ch) (d e : Value) (W : World) (h : IsDom W d L) (he : IsDom W e M) (hT : Tab W) : Calls Tryd.prog 20 #[d, e] W (GivesParts W P ch) := by
  subst hP hc
  exact (minus_dom d e L M W h he hT).mono fun _ _ => GivesDom.parts
theorem list_parts (L : List Int) (d : Value) (W : World) (h : IsDom W d L) (hT : Tab W) : Calls Tryd.prog 21 #[d] W (GivesSlice W L) :=
  (list_dom d L W h hT).mono fun _ _ => GivesInts.slice
theorem has_parts (L : List Int) (d : Value) (v : Int) (b : Bool) (W : World) (h : IsDom W d L) (hv : decide (v ∈ L) = b) (h1 : -9223372036854775808 ≤ v) (h2 : v ≤ 9223372036854775807) :
    Calls Tryd.prog 16 #[d, .int .i64 v] W fun e w' => e = .returned (.bool b) ∧ Below W.heap.size W w' := by
  subst hv
  exact has_dom d L v W h h1 h2

theorem equal_parts (L M : List Int) (d e : Value) (b : Bool) (W : World) (hd : IsDom W d L) (he : IsDom W e M) (hb : decide (L = M) = b) :
    Calls Tryd.prog 22 #[d, e] W fun e w' => e = .returned (.bool b) ∧ Below W.heap.size W w' := by
  subst hb
  exact equal_dom d e L M W hd he

/-- What the law asks, of the lists. -/
theorem sets_lens (L M : List Int) : (L.filter fun u => decide (u ∈ M)).length + (L.filter fun u => decide (u ∉ M)).length = L.length := by
  induction L with
  | nil => rfl
  | cons a l ih => by_cases h : a ∈ M <;> simp [h] at ih ⊢ <;> omega

theorem sets_none (L M : List Int) : (L.filter fun u => decide (u ∈ M)).filter (fun u => decide (u ∈ L.filter fun u => decide (u ∉ M))) = [] := by
  rw [List.filter_eq_nil_iff]
  intro u hu
  simp only [List.mem_filter, decide_eq_true_eq] at hu ⊢
  intro h
  exact h.2 hu.2

theorem filter_swap {L M : List Int} (hL : L.Pairwise (· < ·)) (hM : M.Pairwise (· < ·)) : (L.filter fun u => decide (u ∈ M)) = M.filter fun u => decide (u ∈ L) := by
  apply eq_of_rising _ _ (hL.filter _) (hM.filter _)
  intro u
  simp only [List.mem_filter, decide_eq_true_eq]
  exact And.comm

theorem sets_equal {L M : List Int} (hL : L.Pairwise (· < ·)) (hM : M.Pairwise (· < ·)) :
    L = M ↔ (L.filter fun u => decide (u ∈ M)).length = L.length ∧ (L.filter fun u => decide (u ∈ M)).length = M.length := by
  constructor
  · rintro rfl
    have : (L.filter fun u => decide (u ∈ L)) = L := List.filter_eq_self.2 (by simp)
    rw [this]; exact ⟨rfl, rfl⟩
  · rintro ⟨h1, h2⟩
    rw [List.length_filter_eq_length_iff] at h1
    rw [filter_swap hL hM, List.length_filter_eq_length_iff] at h2
    apply eq_of_rising _ _ hL hM
    intro u
    exact ⟨fun h => by simpa using h1 u h, fun h => by simpa using h2 u h⟩

theorem minus_nil (L M : List Int) : (L.filter fun u => decide (u ∉ M)).length = 0 ↔ (L.filter fun u => decide (u ∈ M)).length = L.length := by
  have := sets_lens L M; omega

set_option maxHeartbeats 4000000 in
set_option maxRecDepth 100000 in
theorem sets_walk (X Y : Option Addr) (xs ys : List Int) (cx cy nx ny : Nat) (w : World) (hT : Tab w) (hnx : nx = xs.length) (hny : ny = ys.length) (hx : Lies w X nx (i64f xs)) (hy : Lies w Y ny (i64f ys)) (hcx : nx ≤ cx) (hcy : ny ≤ cy) :
    Calls Tryd.prog 5 #[.slice X nx cx, .slice Y ny cy] w fun e w' => e = .returned (.bool true) ∧ Below w.heap.size w w' := by
  have N1 := near_any X xs cx w (by rw [← hnx]; exact hx) (by rw [← hnx]; exact hcx)
  rw [← hnx] at N1
  have HN1 := Lib.hid N1
  have HN2 := Lib.hid fun W (hW : Below w.heap.size w W) => near_any Y ys cy W (by rw [← hny]; exact hy.below hW) (by rw [← hny]; exact hcy)
  rw [← hny] at HN2
  clear N1 hx hy hnx hny hcx hcy
  obtain ⟨L, hL⟩ : ∃ L, ofL (nearL xs) = L := ⟨_, rfl⟩
  obtain ⟨M, hM⟩ : ∃ M, ofL (nearL ys) = M := ⟨_, rfl⟩
  have O1 := fun A c n W => of_near A xs c n W
  have O2 := fun A c n W => of_near A ys c n W
  rw [hL] at O1
  rw [hM] at O2
  generalize ofErr (nearL xs) = er1 at O1
  generalize ofErr (nearL ys) = er2 at O2
  have HO1 := Lib.hid O1
  have HO2 := Lib.hid O2
  have hLr : L.Pairwise (· < ·) := by rw [← hL]; unfold ofL; split; exact rising_setOf _; exact List.Pairwise.nil
  have hMr : M.Pairwise (· < ·) := by rw [← hM]; unfold ofL; split; exact rising_setOf _; exact List.Pairwise.nil
  obtain ⟨P, hP⟩ : ∃ P, L.filter (fun u => decide (u ∈ M)) = P := ⟨_, rfl⟩
  obtain ⟨Q, hQ⟩ : ∃ Q, L.filter (fun u => decide (u ∉ M)) = Q := ⟨_, rfl⟩
  obtain ⟨F, hF⟩ : ∃ F, M.filter (fun u => decide (u ∉ L)) = F := ⟨_, rfl⟩
  obtain ⟨G, hG⟩ : ∃ G, P.filter (fun u => decide (u ∈ Q)) = G := ⟨_, rfl⟩
  obtain ⟨cG, hcG⟩ : ∃ c, chg P G = c := ⟨_, rfl⟩
  have HAnd := Lib.hid (and_parts L M P _ hP rfl)
  have HMin := Lib.hid (minus_parts L M Q _ hQ rfl)
  have HMin2 := Lib.hid (minus_parts M L F _ hF rfl)
  have HAnd2 := Lib.hid (and_parts P Q G cG hG hcG)
  have f1 : P.length + Q.length = L.length := by rw [← hP, ← hQ]; exact sets_lens L M
  have f2 : G.length = 0 := by rw [← hG, ← hP, ← hQ, sets_none]; rfl
  have f3 : cG = if P.length = 0 then 0 else 4 := by
    rw [← hcG]; unfold chg
    rw [f2]
    by_cases h : P.length = 0
    · rw [if_pos h.symm, if_pos h]
    · rw [if_neg (fun e => h e.symm), if_pos rfl, if_neg h]
  have f4 : L = M ↔ P.length = L.length ∧ P.length = M.length := by rw [← hP]; exact sets_equal hLr hMr
  have f5 : Q.length = 0 ↔ P.length = L.length := by rw [← hP, ← hQ]; exact minus_nil L M
  have f6 : F.length = 0 ↔ P.length = M.length := by
    rw [← hF, ← hP, filter_swap hLr hMr]; exact minus_nil M L
  have f7 : ∀ v ∈ L, decide (v ∈ P) = decide (v ∈ M) ∧ decide (v ∈ Q) = !decide (v ∈ M) := by
    intro v hv
    rw [← hP, ← hQ]
    by_cases h : v ∈ M <;> simp [hv, h]
  have f8 : ∀ v ∈ L, -2000000 ≤ v ∧ v ≤ 2000000 := by
    intro v hv
    rw [← hL] at hv
    unfold ofL at hv
    split at hv
    · rename_i h0
      rw [mem_setOf] at hv
      have hv2 := hv
      unfold nearL at hv2
      obtain ⟨z, -, rfl⟩ := List.mem_map.1 hv2
      have := tmod_small z
      omega
    · simp at hv
  have F1 := Lib.hid (And.intro f1 (And.intro f2 (And.intro f3 (And.intro f4 (And.intro f5 f6)))))
  have F7 := Lib.hid f7
  have F8 := Lib.hid f8
  clear O1 O2 hL hM hP hQ hF hG hcG hLr hMr f1 f2 f3 f4 f5 f6 f7 f8
  go_enter Tryd.func5, Tryd.ntmps5
  go_wp2_with fail
  refine HN1.out.mono ?_
  intro e w1 h1
  obtain ⟨A1, k1, rfl, hl1, -, hb1⟩ := h1.slice
  have HL1 := Lib.hid hl1
  clear h1 hl1
  go_wp2_with fail
  refine (HO1.out _ _ _ _ rfl HL1.out).mono ?_
  rintro e w2 ⟨s1, B1, m1, d1, rfl, hd1, hb2⟩
  have b2 := hb1.trans (hb2.mono hb1.size)
  have X1 := Box.new hd1
  have o2 := below1 w2 (.cells #[.int .i64 s1, .slice B1 m1 d1, .int .i64 (L.length : Nat)] 27)
  have b2' := b2.trans (o2.mono b2.size)
  have HB2 := Lib.hid b2'
  have HX1 := Lib.hid X1
  clear hb1 hb2 b2 b2' o2 X1 hd1 HL1 HN1 HO1
  go_wp2_with fail
  refine (HN2.out _ HB2.out).mono ?_
  intro e w3 h3
  obtain ⟨A3, k3, rfl, hl3, -, hb3⟩ := h3.slice
  have HB3 := Lib.hid (HB2.out.trans (hb3.mono HB2.out.size))
  have HX1 := Lib.hid (HX1.out.below hb3)
  have HL3 := Lib.hid hl3
  clear h3 hl3 hb3 HB2
  go_wp2_with fail
  refine (HO2.out _ _ _ _ rfl HL3.out).mono ?_
  rintro e w4 ⟨s2, B2, m2, d2, rfl, hd2, hb4⟩
  have o4 := below1 w4 (.cells #[.int .i64 s2, .slice B2 m2 d2, .int .i64 (M.length : Nat)] 27)
  have b4 := hb4.trans (o4.mono hb4.size)
  have HB4 := Lib.hid (HB3.out.trans (b4.mono HB3.out.size))
  have HX1 := Lib.hid (HX1.out.below b4)
  have HX2 := Lib.hid (Box.new hd2)
  obtain ⟨-, x0, x1, x2⟩ := HX1.out.at3
  obtain ⟨-, y0, y1, y2⟩ := HX2.out.at3
  clear hd2 hb4 o4 b4 HB3 HL3 HN2 HO2
  go_wp2_with fail
  refine (HAnd.out _ _ _ HX1.out.dom HX2.out.dom (hT.below HB4.out)).mono ?_
  rintro e w5 ⟨s3, B3, m3, d3, rfl, hd3, hb5⟩
  have o5 := below1 w5 (.cells #[.int .i64 s3, .slice B3 m3 d3, .int .i64 (P.length : Nat)] 27)
  have b5 := hb5.trans (o5.mono hb5.size)
  have HB5 := Lib.hid (HB4.out.trans (b5.mono HB4.out.size))
  have HX1 := Lib.hid (HX1.out.below b5)
  have HX2 := Lib.hid (HX2.out.below b5)
  have HX3 := Lib.hid (Box.new hd3)
  obtain ⟨-, x0, x1, x2⟩ := HX1.out.at3
  obtain ⟨-, y0, y1, y2⟩ := HX2.out.at3
  clear hd3 hb5 o5 b5 HB4 HAnd
  go_wp2_with fail
  refine (HMin.out _ _ _ HX1.out.dom HX2.out.dom (hT.below HB5.out)).mono ?_
  rintro e w6 ⟨s4, B4, m4, d4, rfl, hd4, hb6⟩
  have o6 := below1 w6 (.cells #[.int .i64 s4, .slice B4 m4 d4, .int .i64 (Q.length : Nat)] 27)
  have b6 := hb6.trans (o6.mono hb6.size)
  have HB6 := Lib.hid (HB5.out.trans (b6.mono HB5.out.size))
  have HX1 := Lib.hid (HX1.out.below b6)
  have HX2 := Lib.hid (HX2.out.below b6)
  have HX3 := Lib.hid (HX3.out.below b6)
  have HX4 := Lib.hid (Box.new hd4)
  obtain ⟨-, x0, x1, x2⟩ := HX1.out.at3
  clear hd4 hb6 o6 b6 HB5 HMin
  go_wp2_with fail
  refine (list_parts _ _ _ HX1.out.dom (hT.below HB6.out)).mono ?_
  rintro e w7 ⟨A7, k7, rfl, hl7, -, hb7⟩
  have HB7 := Lib.hid (HB6.out.trans (hb7.mono HB6.out.size))
  have HX1 := Lib.hid (HX1.out.below hb7)
  have HX2 := Lib.hid (HX2.out.below hb7)
  have HX3 := Lib.hid (HX3.out.below hb7)
  have HX4 := Lib.hid (HX4.out.below hb7)
  have HL7 := Lib.hid hl7
  clear hl7 hb7 HB6
  have hLn := HX1.out.dom.len
  go_wp2_with fail
  go_loopw [47] (fun i wr => ∃ k : Nat, k ≤ L.length ∧ i = .int .i64 (k : Nat) ∧ Below w7.heap.size w7 wr) (fun i _ => L.length - (intOf i).toNat)
  case atStart => exact ⟨0, Nat.zero_le _, rfl, Below.refl _ _⟩
  case round =>
    obtain ⟨k, hk, rfl, hbr⟩ := hrel
    by_cases hlt : k < L.length
    · have hv := getD_mem L k hlt
      obtain ⟨g1, g2⟩ := F7.out _ hv
      obtain ⟨g3, g4⟩ := F8.out _ hv
      obtain ⟨ad, hA, hadb, hadc⟩ := HL7.out (by omega)
      subst hA
      have ck : wr.cell? (ad.add k) = some (.int .i64 (L.getD k 0)) := (hbr.cell (by rw [add_block]; exact hadb)).trans (hadc k hlt)
      generalize L.getD k 0 = v at *
      obtain ⟨bM, hbM⟩ : ∃ b, decide (v ∈ M) = b := ⟨_, rfl⟩
      rw [hbM] at g1 g2
      have X2 := HX2.out.below hbr
      have X3 := HX3.out.below hbr
      have X4 := HX4.out.below hbr
      have c3 : ∀ d os, Calls Tryd.prog 16 #[(Value.agg #[.int .i64 s3, .slice B3 m3 d3, .int .i64 (P.length : Nat)]), .int .i64 v] (grow (redrawn wr d) os) fun e w'' => e = .returned (.bool bM) ∧ ∃ p : Regrown, w'' = grow (redrawn wr p.d) p.os := fun d os => Calls.regrown_of (has_parts P _ v bM _ (X3.dom.below (below_regrown wr d os)) g1 (by omega) (by omega))
      have c4 : ∀ d os, Calls Tryd.prog 16 #[(Value.agg #[.int .i64 s4, .slice B4 m4 d4, .int .i64 (Q.length : Nat)]), .int .i64 v] (grow (redrawn wr d) os) fun e w'' => e = .returned (.bool (!bM)) ∧ ∃ p : Regrown, w'' = grow (redrawn wr p.d) p.os := fun d os => Calls.regrown_of (has_parts Q _ v (!bM) _ (X4.dom.below (below_regrown wr d os)) g2 (by omega) (by omega))
      have c2 : ∀ d os, Calls Tryd.prog 16 #[(Value.agg #[.int .i64 s2, .slice B2 m2 d2, .int .i64 (M.length : Nat)]), .int .i64 v] (grow (redrawn wr d) os) fun e w'' => e = .returned (.bool bM) ∧ ∃ p : Regrown, w'' = grow (redrawn wr p.d) p.os := fun d os => Calls.regrown_of (has_parts M _ v bM _ (X2.dom.below (below_regrown wr d os)) hbM (by omega) (by omega))
      obtain ⟨-, y0, y1, y2⟩ := X2.at3
      obtain ⟨-, p0, p1, p2⟩ := X3.at3
      obtain ⟨-, q0, q1, q2⟩ := X4.at3
      have Y0 := cell_regrown y0
      have Y1 := cell_regrown y1
      have Y2 := cell_regrown y2
      have P0 := cell_regrown p0
      have P1 := cell_regrown p1
      have P2 := cell_regrown p2
      have Q0 := cell_regrown q0
      have Q1 := cell_regrown q1
      have Q2 := cell_regrown q2
      have C2 := Lib.hid c2
      have C3 := Lib.hid c3
      have C4 := Lib.hid c4
      clear g1 g2 g3 g4 hv hbM X2 X3 X4 c2 c3 c4 y0 y1 y2 p0 p1 p2 q0 q1 q2
      cases bM
      all_goals
        go_wp2
        refine wp_region_quiet_below (by kernel_rfl) (by kernel_rfl) ?_
        repeat (first | go_big_quiet_step ((first | (go_at_call_of 16 (Value.agg #[.int .i64 s3, .slice B3 m3 d3, .int .i64 (P.length : Nat)]); exact C3.out _ _) | (go_at_call_of 16 (Value.agg #[.int .i64 s4, .slice B4 m4 d4, .int .i64 (Q.length : Nat)]); exact C4.out _ _) | (go_at_call_of 16 (Value.agg #[.int .i64 s2, .slice B2 m2 d2, .int .i64 (M.length : Nat)]); exact C2.out _ _))) | quiet_step ((first | (go_at_call_of 16 (Value.agg #[.int .i64 s3, .slice B3 m3 d3, .int .i64 (P.length : Nat)]); exact C3.out _ _) | (go_at_call_of 16 (Value.agg #[.int .i64 s4, .slice B4 m4 d4, .int .i64 (Q.length : Nat)]); exact C4.out _ _) | (go_at_call_of 16 (Value.agg #[.int .i64 s2, .slice B2 m2 d2, .int .i64 (M.length : Nat)]); exact C2.out _ _))))
        refine wpQuiet_nil ?_
        intro _ hw'
        obtain ⟨⟨dq, osq⟩, hw''⟩ := hw'
        subst hw''
        have hbq := hbr.trans ((below_regrown wr dq osq).mono hbr.size)
        generalize grow (redrawn wr dq) osq = wq at hbq
        clear Y0 Y1 Y2 P0 P1 P2 Q0 Q1 Q2
        go_wp2
        go_roundw
        case rel => exact ⟨k + 1, by omega, by go_num, hbq⟩
        case measure => simp [intOf]; omega
    · have X1 := HX1.out.below hbr
      have X2 := HX2.out.below hbr
      obtain ⟨-, x0, x1, x2⟩ := X1.at3
      obtain ⟨-, y0, y1, y2⟩ := X2.at3
      have HBr := Lib.hid (HB7.out.trans (hbr.mono HB7.out.size))
      have HX1 := Lib.hid X1
      have HX2 := Lib.hid X2
      have HX3 := Lib.hid (HX3.out.below hbr)
      have HX4 := Lib.hid (HX4.out.below hbr)
      clear X1 X2 HL7 HB7 hbr F7 F8
      go_wp2_with fail
      refine (HMin2.out _ _ _ HX2.out.dom HX1.out.dom (hT.below HBr.out)).mono ?_
      rintro e w8 ⟨s5, B5, m5, d5, rfl, hd5, hb8⟩
      have o8 := below1 w8 (.cells #[.int .i64 s5, .slice B5 m5 d5, .int .i64 (F.length : Nat)] 27)
      have b8 := hb8.trans (o8.mono hb8.size)
      have HB8 := Lib.hid (HBr.out.trans (b8.mono HBr.out.size))
      have HX1 := Lib.hid (HX1.out.below b8)
      have HX2 := Lib.hid (HX2.out.below b8)
      have HX3 := Lib.hid (HX3.out.below b8)
      have HX4 := Lib.hid (HX4.out.below b8)
      have HX5 := Lib.hid (Box.new hd5)
      obtain ⟨-, p0, p1, p2⟩ := HX3.out.at3
      obtain ⟨-, q0, q1, q2⟩ := HX4.out.at3
      clear hd5 hb8 o8 b8 HBr HMin2 x0 x1 x2 y0 y1 y2
      go_wp2_with fail
      refine (HAnd2.out _ _ _ HX3.out.dom HX4.out.dom (hT.below HB8.out)).mono ?_
      rintro e w9 ⟨s6, B6, m6, d6, rfl, hd6, hb9⟩
      have o9 := below1 w9 (.cells #[.int .i64 s6, .slice B6 m6 d6, .int .i64 (G.length : Nat)] 27)
      have b9 := hb9.trans (o9.mono hb9.size)
      have HB9 := Lib.hid (HB8.out.trans (b9.mono HB8.out.size))
      have X1 := HX1.out.below b9
      have X2 := HX2.out.below b9
      have X3 := HX3.out.below b9
      have X4 := HX4.out.below b9
      have X5 := HX5.out.below b9
      have X6 := Box.new hd6
      obtain ⟨W, hW⟩ : ∃ W, w9.alloc (.cells #[.int .i64 s6, .slice B6 m6 d6, .int .i64 (G.length : Nat)] 27) = W := ⟨_, rfl⟩
      rw [hW] at HB9 X1 X2 X3 X4 X5 X6
      have HW := Lib.hid hW
      clear hd6 hb9 o9 b9 HB8 HAnd2 p0 p1 p2 q0 q1 q2 HX1 HX2 HX3 HX4 HX5 hW
      obtain ⟨f1, f2, f3, f4, f5, f6⟩ := F1.out
      have lP := X3.dom.len
      have lQ := X4.dom.len
      obtain ⟨b1, hb1⟩ : ∃ b, decide (P.length = L.length) = b := ⟨_, rfl⟩
      obtain ⟨b2, hb2⟩ : ∃ b, decide (P.length = M.length) = b := ⟨_, rfl⟩
      obtain ⟨b3, hb3⟩ : ∃ b, decide (P.length = 0) = b := ⟨_, rfl⟩
      obtain ⟨bE, hbE⟩ : ∃ b, decide (L = M) = b := ⟨_, rfl⟩
      have hbE2 : decide (M = L) = bE := by rw [← hbE]; exact decide_eq_decide.2 ⟨Eq.symm, Eq.symm⟩
      have hE : bE = (b1 && b2) := by
        rw [← hbE, ← hb1, ← hb2, Bool.eq_iff_iff]
        simpa using f4
      have e1 : ((P.length : Int) == (L.length : Int)) = b1 := by rw [← hb1, Bool.eq_iff_iff]; simp only [beq_iff_eq, decide_eq_true_eq]; omega
      have e2 : ((P.length : Int) == (M.length : Int)) = b2 := by rw [← hb2, Bool.eq_iff_iff]; simp only [beq_iff_eq, decide_eq_true_eq]; omega
      have e3 : ((Q.length : Int) == 0) = b1 := by rw [← hb1, Bool.eq_iff_iff]; simp only [beq_iff_eq, decide_eq_true_eq]; omega
      have e4 : ((F.length : Int) == 0) = b2 := by rw [← hb2, Bool.eq_iff_iff]; simp only [beq_iff_eq, decide_eq_true_eq]; omega
      have e5 : ((G.length : Int) == 0) = true := beq_iff_eq.2 (by omega)
      have e6 : (cG == 4) = !b3 := by
        rw [f3, ← hb3]
        by_cases h : P.length = 0 <;> simp [h]
      have e7 : decide ((0 : Int) < (P.length : Int)) = !b3 := by
        rw [← hb3]
        by_cases h : P.length = 0 <;> simp [h]; omega
      have e8 : decide (0 < P.length) = !b3 := by
        rw [← hb3]
        by_cases h : P.length = 0 <;> simp [h]; omega
      have e9 : IntKind.i64.wrap ((P.length : Int) + (Q.length : Int)) = (L.length : Int) := by
        rw [show (P.length : Int) + (Q.length : Int) = (L.length : Int) by omega]
        exact IntWalk.i64_in _ (by omega)
      have e10 : (P.length : Int) + (Q.length : Int) = (L.length : Int) := by omega
      have HBX := Lib.hid (And.intro X1 (And.intro X2 (And.intro X3 (And.intro X4 (And.intro X5 X6)))))
      subst hE
      have z1 : Hid (∀ d os, Calls Tryd.prog 13 #[(Value.agg #[.int .i64 s1, .slice B1 m1 d1, .int .i64 (L.length : Nat)])] (grow (redrawn W d) os) fun e w'' => e = .returned (.int .i64 (L.length : Nat)) ∧ ∃ p : Regrown, w'' = grow (redrawn W p.d) p.os) := fun d os => Calls.regrown_of (size_dom _ L _ (X1.dom.below (below_regrown W d os)))
      have z2 : Hid (∀ d os, Calls Tryd.prog 13 #[(Value.agg #[.int .i64 s2, .slice B2 m2 d2, .int .i64 (M.length : Nat)])] (grow (redrawn W d) os) fun e w'' => e = .returned (.int .i64 (M.length : Nat)) ∧ ∃ p : Regrown, w'' = grow (redrawn W p.d) p.os) := fun d os => Calls.regrown_of (size_dom _ M _ (X2.dom.below (below_regrown W d os)))
      have z3 : Hid (∀ d os, Calls Tryd.prog 13 #[(Value.agg #[.int .i64 s3, .slice B3 m3 d3, .int .i64 (P.length : Nat)])] (grow (redrawn W d) os) fun e w'' => e = .returned (.int .i64 (P.length : Nat)) ∧ ∃ p : Regrown, w'' = grow (redrawn W p.d) p.os) := fun d os => Calls.regrown_of (size_dom _ P _ (X3.dom.below (below_regrown W d os)))
      obtain ⟨-, x0, x1, x2⟩ := X1.at3
      have Rx0 := cell_regrown x0
      have Rx1 := cell_regrown x1
      have Rx2 := cell_regrown x2
      obtain ⟨-, y0, y1, y2⟩ := X2.at3
      have Ry0 := cell_regrown y0
      have Ry1 := cell_regrown y1
      have Ry2 := cell_regrown y2
      obtain ⟨-, p0, p1, p2⟩ := X3.at3
      have Rp0 := cell_regrown p0
      have Rp1 := cell_regrown p1
      have Rp2 := cell_regrown p2
      clear f1 f2 f3 f4 f5 f6 lP lQ F1 hb1 hb2 hb3 X1 X2 X3 X4 X5 X6 x0 x1 x2 y0 y1 y2 p0 p1 p2
      have HE1 := Lib.hid (And.intro hbE hbE2)
      clear hbE hbE2
      go_wp2_with fail
      rw [HW.out]
      cases b1 <;> cases b2
      all_goals
        refine wp_region_quiet_below (by kernel_rfl) (by kernel_rfl) ?_
        repeat (first | go_big_quiet_step ((first | (go_at_call_of 13 (Value.agg #[.int .i64 s1, .slice B1 m1 d1, .int .i64 (L.length : Nat)]); exact z1.out _ _) | (go_at_call_of 13 (Value.agg #[.int .i64 s2, .slice B2 m2 d2, .int .i64 (M.length : Nat)]); exact z2.out _ _) | (go_at_call_of 13 (Value.agg #[.int .i64 s3, .slice B3 m3 d3, .int .i64 (P.length : Nat)]); exact z3.out _ _))) | quiet_step ((first | (go_at_call_of 13 (Value.agg #[.int .i64 s1, .slice B1 m1 d1, .int .i64 (L.length : Nat)]); exact z1.out _ _) | (go_at_call_of 13 (Value.agg #[.int .i64 s2, .slice B2 m2 d2, .int .i64 (M.length : Nat)]); exact z2.out _ _) | (go_at_call_of 13 (Value.agg #[.int .i64 s3, .slice B3 m3 d3, .int .i64 (P.length : Nat)]); exact z3.out _ _))))
        refine wpQuiet_nil ?_
        intro _ hw'
        obtain ⟨⟨dq, osq⟩, hw''⟩ := hw'
        subst hw''
        have hbq := below_regrown W dq osq
        generalize grow (redrawn W dq) osq = V at hbq
        obtain ⟨X1, X2, X3, X4, X5, X6⟩ := HBX.out
        have HBV := Lib.hid (HB9.out.trans (hbq.mono HB9.out.size))
        have X1 := X1.below hbq
        have X2 := X2.below hbq
        have X3 := X3.below hbq
        have X4 := X4.below hbq
        have X5 := X5.below hbq
        have X6 := X6.below hbq
        have zw : Hid (∀ d os, Calls Tryd.prog 17 #[] (grow (redrawn V d) os) fun e w'' => e = .returned (.bool true) ∧ ∃ p : Regrown, w'' = grow (redrawn V p.d) p.os) := fun d os => Calls.regrown_of (wakes_true _ ((hT.below HBV.out).below (below_regrown V d os)))
        clear z1 z2 z3 Rx0 Rx1 Rx2 Ry0 Ry1 Ry2 Rp0 Rp1 Rp2
        have z1 : Hid (∀ d os, Calls Tryd.prog 13 #[(Value.agg #[.int .i64 s1, .slice B1 m1 d1, .int .i64 (L.length : Nat)])] (grow (redrawn V d) os) fun e w'' => e = .returned (.int .i64 (L.length : Nat)) ∧ ∃ p : Regrown, w'' = grow (redrawn V p.d) p.os) := fun d os => Calls.regrown_of (size_dom _ L _ (X1.dom.below (below_regrown V d os)))
        have z2 : Hid (∀ d os, Calls Tryd.prog 13 #[(Value.agg #[.int .i64 s2, .slice B2 m2 d2, .int .i64 (M.length : Nat)])] (grow (redrawn V d) os) fun e w'' => e = .returned (.int .i64 (M.length : Nat)) ∧ ∃ p : Regrown, w'' = grow (redrawn V p.d) p.os) := fun d os => Calls.regrown_of (size_dom _ M _ (X2.dom.below (below_regrown V d os)))
        have z3 : Hid (∀ d os, Calls Tryd.prog 13 #[(Value.agg #[.int .i64 s3, .slice B3 m3 d3, .int .i64 (P.length : Nat)])] (grow (redrawn V d) os) fun e w'' => e = .returned (.int .i64 (P.length : Nat)) ∧ ∃ p : Regrown, w'' = grow (redrawn V p.d) p.os) := fun d os => Calls.regrown_of (size_dom _ P _ (X3.dom.below (below_regrown V d os)))
        have z4 : Hid (∀ d os, Calls Tryd.prog 13 #[(Value.agg #[.int .i64 s4, .slice B4 m4 d4, .int .i64 (Q.length : Nat)])] (grow (redrawn V d) os) fun e w'' => e = .returned (.int .i64 (Q.length : Nat)) ∧ ∃ p : Regrown, w'' = grow (redrawn V p.d) p.os) := fun d os => Calls.regrown_of (size_dom _ Q _ (X4.dom.below (below_regrown V d os)))
        have z5 : Hid (∀ d os, Calls Tryd.prog 13 #[(Value.agg #[.int .i64 s5, .slice B5 m5 d5, .int .i64 (F.length : Nat)])] (grow (redrawn V d) os) fun e w'' => e = .returned (.int .i64 (F.length : Nat)) ∧ ∃ p : Regrown, w'' = grow (redrawn V p.d) p.os) := fun d os => Calls.regrown_of (size_dom _ F _ (X5.dom.below (below_regrown V d os)))
        have z6 : Hid (∀ d os, Calls Tryd.prog 13 #[(Value.agg #[.int .i64 s6, .slice B6 m6 d6, .int .i64 (G.length : Nat)])] (grow (redrawn V d) os) fun e w'' => e = .returned (.int .i64 (G.length : Nat)) ∧ ∃ p : Regrown, w'' = grow (redrawn V p.d) p.os) := fun d os => Calls.regrown_of (size_dom _ G _ (X6.dom.below (below_regrown V d os)))
        have ze := Lib.hid fun d os => Calls.regrown_of (equal_parts L M (Value.agg #[.int .i64 s1, .slice B1 m1 d1, .int .i64 (L.length : Nat)]) (Value.agg #[.int .i64 s2, .slice B2 m2 d2, .int .i64 (M.length : Nat)]) _ (grow (redrawn V d) os) (X1.dom.below (below_regrown V d os)) (X2.dom.below (below_regrown V d os)) HE1.out.1)
        have zf := Lib.hid fun d os => Calls.regrown_of (equal_parts M L (Value.agg #[.int .i64 s2, .slice B2 m2 d2, .int .i64 (M.length : Nat)]) (Value.agg #[.int .i64 s1, .slice B1 m1 d1, .int .i64 (L.length : Nat)]) _ (grow (redrawn V d) os) (X2.dom.below (below_regrown V d os)) (X1.dom.below (below_regrown V d os)) HE1.out.2)
        obtain ⟨-, x0, x1, x2⟩ := X1.at3
        have Rx0 := cell_regrown x0
        have Rx1 := cell_regrown x1
        have Rx2 := cell_regrown x2
        obtain ⟨-, y0, y1, y2⟩ := X2.at3
        have Ry0 := cell_regrown y0
        have Ry1 := cell_regrown y1
        have Ry2 := cell_regrown y2
        obtain ⟨-, p0, p1, p2⟩ := X3.at3
        have Rp0 := cell_regrown p0
        have Rp1 := cell_regrown p1
        have Rp2 := cell_regrown p2
        obtain ⟨-, q0, q1, q2⟩ := X4.at3
        have Rq0 := cell_regrown q0
        have Rq1 := cell_regrown q1
        have Rq2 := cell_regrown q2
        obtain ⟨-, f0, f1, f2⟩ := X5.at3
        have Rf0 := cell_regrown f0
        have Rf1 := cell_regrown f1
        have Rf2 := cell_regrown f2
        obtain ⟨-, g0, g1, g2⟩ := X6.at3
        have Rg0 := cell_regrown g0
        have Rg1 := cell_regrown g1
        have Rg2 := cell_regrown g2
        clear X1 X2 X3 X4 X5 X6 x0 x1 x2 y0 y1 y2 p0 p1 p2 q0 q1 q2 f0 f1 f2 g0 g1 g2 HBX
        cases b3
        all_goals
          go_wp2_with fail
          refine wp_region_quiet_below (by kernel_rfl) (by kernel_rfl) ?_
          repeat (first | go_big_quiet_step ((first | (go_at_call 17; exact zw.out _ _) | (go_at_call_of 13 (Value.agg #[.int .i64 s1, .slice B1 m1 d1, .int .i64 (L.length : Nat)]); exact z1.out _ _) | (go_at_call_of 13 (Value.agg #[.int .i64 s2, .slice B2 m2 d2, .int .i64 (M.length : Nat)]); exact z2.out _ _) | (go_at_call_of 13 (Value.agg #[.int .i64 s3, .slice B3 m3 d3, .int .i64 (P.length : Nat)]); exact z3.out _ _) | (go_at_call_of 13 (Value.agg #[.int .i64 s4, .slice B4 m4 d4, .int .i64 (Q.length : Nat)]); exact z4.out _ _) | (go_at_call_of 13 (Value.agg #[.int .i64 s5, .slice B5 m5 d5, .int .i64 (F.length : Nat)]); exact z5.out _ _) | (go_at_call_of 13 (Value.agg #[.int .i64 s6, .slice B6 m6 d6, .int .i64 (G.length : Nat)]); exact z6.out _ _) | (go_at_call 22; with_reducible first | exact ze.out _ _ | exact zf.out _ _))) | quiet_step ((first | (go_at_call 17; exact zw.out _ _) | (go_at_call_of 13 (Value.agg #[.int .i64 s1, .slice B1 m1 d1, .int .i64 (L.length : Nat)]); exact z1.out _ _) | (go_at_call_of 13 (Value.agg #[.int .i64 s2, .slice B2 m2 d2, .int .i64 (M.length : Nat)]); exact z2.out _ _) | (go_at_call_of 13 (Value.agg #[.int .i64 s3, .slice B3 m3 d3, .int .i64 (P.length : Nat)]); exact z3.out _ _) | (go_at_call_of 13 (Value.agg #[.int .i64 s4, .slice B4 m4 d4, .int .i64 (Q.length : Nat)]); exact z4.out _ _) | (go_at_call_of 13 (Value.agg #[.int .i64 s5, .slice B5 m5 d5, .int .i64 (F.length : Nat)]); exact z5.out _ _) | (go_at_call_of 13 (Value.agg #[.int .i64 s6, .slice B6 m6 d6, .int .i64 (G.length : Nat)]); exact z6.out _ _) | (go_at_call 22; with_reducible first | exact ze.out _ _ | exact zf.out _ _))))
          refine wpQuiet_nil ?_
          intro _ hw'
          obtain ⟨⟨dz, osz⟩, hw''⟩ := hw'
          subst hw''
          have hbz := HBV.out.trans ((below_regrown V dz osz).mono HBV.out.size)
          go_wp2
          go_ret
          exact ⟨rfl, hbz⟩
end Go.Proofs.YtgfhnmlakjcfaaaDoor

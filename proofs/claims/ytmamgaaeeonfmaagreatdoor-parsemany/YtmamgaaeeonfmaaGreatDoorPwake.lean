/- Contract: Parse, whole. -/
import Derived.Test.YtmamgaaeeonfmaaGreatDoorPparse2
import Derived.Test.YtmamgaaeeonfmaaGreatDoorPera
namespace Go.Proofs.YtmamgaaeeonfmaaGreatDoor
open Go.RowKit Go.Sort Go.Maps

set_option maxHeartbeats 4000000 in
set_option maxRecDepth 100000 in
theorem parse_text (s : ByteArray) (w : World) (hs : s.size ≤ 9223372036854775807) (hE : EntIn w) (hT : TabZ w) (he : (lexA (bl s)).2.2 = 0) : Calls Tryz.prog 6 #[.string s] w (ParseR w (parseA (bl s))) := by
  have CL := Lib.hid (lex_fresh s (start3 w) hs)
  have HB := Lib.hid (start3_boxes w)
  have HS := Lib.hid (start3_below w)
  have HE := Lib.hid hE
  have HT := Lib.hid hT
  obtain ⟨l0, l1, l2, l3⟩ := lexA_ok he
  have HPA : Hid (parseA (bl s) = match itemsP (bl s).length (lexA (bl s)).1.length noMod (lexA (bl s)).1 with
    | .error (p, e) => (noMod, p, e)
    | .ok m => (m, 0, 0)) := Lib.hid (by unfold parseA; rw [if_neg (by simp [he])]; rfl)
  rw [he, l0] at CL
  generalize parseA (bl s) = PA at HPA ⊢
  generalize (lexA (bl s)).1 = toks at CL HPA l2 l3
  have hsz : s.size = (bl s).length := (bl_len s).symm
  have hmf : ∀ (fn : Fn) (first cap : Array Value) (w : World), (Instr.makeFunc fn first cap).run Tryz.prog w = .ok (.func fn first cap) w := fun _ _ _ _ => rfl
  have hmm := makeMap_none
  clear he l0 hE hT
  rw [← bl_len] at hs
  generalize hen : (bl s).length = en at HPA l1 l2 l3 hsz
  clear hen hs
  go_enter_defers Tryz.func6, Tryz.ntmps6
  go_wp2_with fail
  change Calls _ _ _ (start3 w) _
  refine CL.out.mono ?_
  rintro e w1 ⟨v, rfl, htk, b1⟩
  have hfr := own_ge htk
  obtain ⟨t, rfl, hti, hto⟩ := toks_in ⟨_, htk⟩ (by omega) (fun x hx => by have := (l3 x hx).1; omega)
  have hB1 := HB.out.below b1
  have hb1 : Below w.heap.size w w1 := HS.out.trans (b1.mono HS.out.size)
  have HB2 := Lib.hid (hB1.two (.int .i64 0) (.int .i64 0))
  have HS2 : Hid (Below w.heap.size w ((w1.setCell ⟨w.heap.size + 1, 0, none⟩ (.int .i64 0)).setCell ⟨w.heap.size + 2, 0, none⟩ (.int .i64 0))) := Lib.hid ((hb1.setCell (p := ⟨w.heap.size + 1, 0, none⟩) (by simp) _).setCell (p := ⟨w.heap.size + 2, 0, none⟩) (by simp) _)
  obtain ⟨-, a1, a2⟩ := hB1.cells
  obtain ⟨-, f1, f2⟩ := hB1.free 0
  have HFR : Hid (∀ g, t.A = some ⟨g, 0, none⟩ → w.heap.size + 3 ≤ g) := Lib.hid (fun g e => by have := hfr g (by rw [e]; rfl); simp at this; omega)
  have HTI := Lib.hid hti
  have HTO := Lib.hid hto
  have HK : Hid (∀ (g : Nat) (cur : Array Value), w1.heap[g]? = some (.cells cur 63 (0, 0)) → ((w1.setCell ⟨w.heap.size + 1, 0, none⟩ (.int .i64 0)).setCell ⟨w.heap.size + 2, 0, none⟩ (.int .i64 0)).heap[g]? = w1.heap[g]?) := Lib.hid (fun g cur hg => (Below.heap_setCell _ _ _ _ (ty_ne hg hB1.e (by decide))).trans (Below.heap_setCell _ _ _ _ (ty_ne hg hB1.a (by decide))))
  clear CL b1 hB1 hb1 HB HS htk hti hto hfr
  go_upto_region 2 with fail
  change Code.wp _ _ _ _ ((w1.setCell ⟨w.heap.size + 1, 0, none⟩ (.int .i64 0)).setCell ⟨w.heap.size + 2, 0, none⟩ (.int .i64 0))
  clear a1 a2 f1 f2
  generalize (w1.setCell ⟨w.heap.size + 1, 0, none⟩ (.int .i64 0)).setCell ⟨w.heap.size + 2, 0, none⟩ (.int .i64 0) = w2 at *
  obtain ⟨⟨q0, q1, q2, q3, q4⟩, a1, a2⟩ := HB2.out.cells
  obtain ⟨hti2, hto2⟩ := HTI.out.same HTO.out HK.out
  have hPl : w.heap.size + 2 < w2.heap.size := lt_of_obj HB2.out.e
  have HGE : Hid (1 < w.heap.size ∧ 6 < w.heap.size) := Lib.hid ⟨HE.out.1, HT.out.1⟩
  cases hres : itemsP en toks.length noMod toks with
  | error f =>
    have HPE : Hid (PA = (noMod, f.1, f.2)) := Lib.hid (by rw [HPA.out, hres])
    have HP3 := Lib.hid (IsP.start (en := en) [] (fun p hp => absurd hp (by simp)) (HE.out.below HS2.out) (HT.out.below HS2.out) hti2 hto2)
    have CI := Lib.hid (items_any _ HP3.out toks.length (Nat.le_refl _))
    unfold AllR at CI
    simp only [hres] at CI
    have b23 : Below w2.heap.size w2 ((w2.alloc (.map #[] 0)).alloc (.cells (pcells t ⟨en, .map (some w2.heap.size), ⟨none, 0, 0⟩, ⟨none, 0, 0⟩, ⟨none, 0, 0⟩, 0, 0, []⟩) 48)) := (below1 w2 _).trans ((below1 _ _).mono (by simp))
    have HB3 := Lib.hid (HB2.out.below b23)
    have HNS : Hid (∀ g, g ≤ w.heap.size + 2 → startS [] (w2.heap.size + 1) t g = false) := Lib.hid (fun g h2 => startS_no (by omega) (fun h0 e => by have := HFR.out g e; omega) (fun p hp => absurd hp (by simp)))
    have HLOW : Hid (∀ w4, Mv (startS [] (w2.heap.size + 1) t) ((w2.alloc (.map #[] 0)).alloc (.cells (pcells t ⟨en, .map (some w2.heap.size), ⟨none, 0, 0⟩, ⟨none, 0, 0⟩, ⟨none, 0, 0⟩, 0, 0, []⟩) 48)) w4 → Boxes3 w4 w.heap.size #[.slice none 0 0, .slice none 0 0, .slice none 0 0, .int .i64 0, .int .i64 0] (.int .i64 0) (.int .i64 0) ∧ Below w.heap.size w w4) := Lib.hid (fun w4 hm => ⟨⟨(hm.block _ (lt_of_obj HB3.out.m) (HNS.out _ (by omega))).trans HB3.out.m, (hm.block _ (lt_of_obj HB3.out.a) (HNS.out _ (by omega))).trans HB3.out.a, (hm.block _ (lt_of_obj HB3.out.e) (HNS.out _ (by omega))).trans HB3.out.e⟩, (HS2.out.trans (b23.mono (by omega))).trans (hm.below (by simp; omega) (fun g hg => HNS.out g (by omega)))⟩)
    clear hti2 hto2 b23 HTI HTO HK HE HT HNS HB3 l1 l2 l3 HFR hres HPA
    go_wp2_with fail
    refine CI.out.mono ?_
    rintro e w4 ⟨m4, rfl⟩
    obtain ⟨hB4, hb4⟩ := HLOW.out w4 m4
    clear CI HLOW m4 q0 q1 q2 q3 q4 a1 a2 HB2 HS2
    show Leaves _ _ _ _ _ _ _
    refine leaves_cons (f := 13) (args := #[.pointer (some ⟨w.heap.size, 0, none⟩), .pointer (some ⟨w.heap.size + 1, 0, none⟩), .pointer (some ⟨w.heap.size + 2, 0, none⟩)]) (by simp) (by simp [go_sem]) ?_
    refine (catch_fault w.heap.size _ _ _ _ _ _ _ f w4 hB4).mono ?_
    rintro e u' w5 ⟨rfl, rfl, hb5, hl5⟩
    show Leaves _ _ _ _ [] .returning _
    refine results3 hb5 ?_ ?_ ?_ ⟨⟨⟨none, 0, 0⟩, ⟨none, 0, 0⟩, ⟨none, 0, 0⟩⟩, ?_, ?_, hb4.trans hl5⟩
    · rfl
    · rfl
    · rfl
    · rw [HPE.out]; rfl
    · rw [HPE.out]; exact noMod_in w5
  | ok m' =>
    have HPE : Hid (PA = (m', 0, 0)) := Lib.hid (by rw [HPA.out, hres])
    obtain ⟨kp, hkp⟩ : ∃ kp : List (Nat × Array Value × TypeId), kp = [(w.heap.size, #[.slice none 0 0, .slice none 0 0, .slice none 0 0, .int .i64 0, .int .i64 0], 26), (w.heap.size + 1, #[.int .i64 0], 3), (w.heap.size + 2, #[.int .i64 0], 27)] := ⟨_, rfl⟩
    have HKP := Lib.hid hkp
    have HP3 := Lib.hid (IsP.start (en := en) kp (fun p hp => by
      rw [hkp] at hp
      simp only [List.mem_cons, List.not_mem_nil, or_false] at hp
      have g1 := HGE.out.1
      have g2 := HGE.out.2
      rcases hp with rfl | rfl | rfl
      · exact ⟨HB2.out.m, by simp, by simp only; omega, by simp only; omega⟩
      · exact ⟨HB2.out.a, by simp, by simp only; omega, by simp only; omega⟩
      · exact ⟨HB2.out.e, by simp, by simp only; omega, by simp only; omega⟩) (HE.out.below HS2.out) (HT.out.below HS2.out) hti2 hto2)
    have CI := Lib.hid (items_any _ HP3.out toks.length (Nat.le_refl _))
    unfold AllR at CI
    simp only [hres] at CI
    have b23 : Below w2.heap.size w2 ((w2.alloc (.map #[] 0)).alloc (.cells (pcells t ⟨en, .map (some w2.heap.size), ⟨none, 0, 0⟩, ⟨none, 0, 0⟩, ⟨none, 0, 0⟩, 0, 0, kp⟩) 48)) := (below1 w2 _).trans ((below1 _ _).mono (by simp))
    have HLOW : Hid (∀ w4, Mv (startS kp (w2.heap.size + 1) t) ((w2.alloc (.map #[] 0)).alloc (.cells (pcells t ⟨en, .map (some w2.heap.size), ⟨none, 0, 0⟩, ⟨none, 0, 0⟩, ⟨none, 0, 0⟩, 0, 0, kp⟩) 48)) w4 → Below w.heap.size w w4) := Lib.hid (fun w4 hm => (HS2.out.trans (b23.mono (by omega))).trans (hm.below (by simp; omega) (fun g hg => startS_no (by omega) (fun h0 e => by have := HFR.out g e; omega) (fun p hp => by
      rw [hkp] at hp
      simp only [List.mem_cons, List.not_mem_nil, or_false] at hp
      rcases hp with rfl | rfl | rfl <;> (simp only; omega)))))
    clear hti2 hto2 b23 HTI HTO HK HE HT l1 l2 l3 HFR hres HPA hkp
    go_wp2_with fail
    refine CI.out.mono ?_
    rintro e w4 ⟨m4, rfl, S', r', t', -, ⟨-, hk⟩, hp⟩
    have HLO4 := Lib.hid (HLOW.out w4 m4)
    have hkept := hp.px.kept
    rw [hk.trans HKP.out] at hkept
    have k0 := hkept _ (List.mem_cons_self ..)
    have k1 := hkept _ (List.mem_cons_of_mem _ (List.mem_cons_self ..))
    have k2 := hkept _ (List.mem_cons_of_mem _ (List.mem_cons_of_mem _ (List.mem_cons_self ..)))
    have hB4 : Boxes3 w4 w.heap.size #[.slice none 0 0, .slice none 0 0, .slice none 0 0, .int .i64 0, .int .i64 0] (.int .i64 0) (.int .i64 0) := ⟨k0.1, k1.1, k2.1⟩
    have HSP : Hid (S' w.heap.size = true ∧ S' (w.heap.size + 1) = true ∧ S' (w.heap.size + 2) = true) := Lib.hid ⟨k0.2.1, k1.2.1, k2.2.1⟩
    have HP4 := Lib.hid hp
    have HB4 := Lib.hid hB4
    clear CI HLOW m4 q0 q1 q2 q3 q4 a1 a2 HB2 HS2 hkept k0 k1 k2 hk HKP
    obtain ⟨-, -, -, c3, c4, c5, c6, c7⟩ := hp.px.tk.cells
    obtain ⟨⟨q0, q1, q2, q3, q4⟩, a1, a2⟩ := hB4.cells
    have f0 := fun j => (hB4.free j).1
    have f1 := (hB4.free 0).2.1
    have f2 := (hB4.free 0).2.2
    have hBne : w2.heap.size + 1 ≠ w.heap.size := by omega
    clear hp hB4
    have HX := Lib.hid (HB4.out.set7 (.slice r'.n.A r'.n.n r'.n.c) (.slice r'.d.A r'.d.n r'.d.c) (.slice r'.c.A r'.c.n r'.c.c) (.int .i64 r'.goal) (.int .i64 r'.obj) (.int .i64 0) (.int .i64 0))
    have HMF := Lib.hid (HP4.out.mod7 HB4.out HSP.out (.slice r'.n.A r'.n.n r'.n.c) (.slice r'.d.A r'.d.n r'.d.c) (.slice r'.c.A r'.c.n r'.c.c) (.int .i64 r'.goal) (.int .i64 r'.obj) (.int .i64 0) (.int .i64 0))
    have HBF := Lib.hid (below_set7 HLO4.out (Nat.le_refl _) (.slice r'.n.A r'.n.n r'.n.c) (.slice r'.d.A r'.d.n r'.d.c) (.slice r'.c.A r'.c.n r'.c.c) (.int .i64 r'.goal) (.int .i64 r'.obj) (.int .i64 0) (.int .i64 0))
    go_wp2_with fail
    show Leaves _ _ _ _ _ _ _
    refine leaves_cons (f := 13) (args := #[.pointer (some ⟨w.heap.size, 0, none⟩), .pointer (some ⟨w.heap.size + 1, 0, none⟩), .pointer (some ⟨w.heap.size + 2, 0, none⟩)]) (by simp) (by simp [go_sem]) ?_
    refine (catch_idle _ _ _ _).mono ?_
    rintro e u' w5 ⟨rfl, rfl, b5⟩
    show Leaves _ _ _ _ [] .returning _
    refine results3 (HX.out.below b5) ?_ ?_ ?_ ⟨⟨r'.n, r'.d, r'.c⟩, ?_, ?_, ?_⟩
    · rfl
    · rfl
    · rfl
    · rw [HPE.out, HP4.out.goal, HP4.out.obj]; rfl
    · rw [HPE.out]; exact HMF.out.below b5
    · exact HBF.out.trans (b5.mono HBF.out.size)

/-- What Parse tells of any text. -/
theorem parse_any (s : ByteArray) (w : World) (hs : s.size ≤ 9223372036854775807) (hE : EntIn w) (hT : TabZ w) : Calls Tryz.prog 6 #[.string s] w (ParseR w (parseA (bl s))) := by
  by_cases he : (lexA (bl s)).2.2 = 0
  · exact parse_text s w hs hE hT he
  · refine (parse_lex s w hs he).mono ?_
    rintro e w' ⟨rfl, hb⟩
    have hp : parseA (bl s) = (noMod, (lexA (bl s)).2.1, (lexA (bl s)).2.2) := by unfold parseA; rw [if_pos he]
    rw [hp]
    exact ⟨⟨⟨none, 0, 0⟩, ⟨none, 0, 0⟩, ⟨none, 0, 0⟩⟩, rfl, noMod_in w', hb⟩
end Go.Proofs.YtmamgaaeeonfmaaGreatDoor

/- What layer 7's wakes tells: true. -/
namespace Go.Proofs.YtmamgaaeeonfmaaGreatDoor
open Go.RowKit Go.Sort Go.Maps

theorem bl_one : bl ⟨#[118, 97, 114, 32, 49, 46, 46, 51, 58, 32, 120, 59, 32, 118, 97, 114, 32, 123, 53, 44, 50, 125, 58, 32, 121, 59, 32, 37, 32, 99, 10, 99, 111, 110, 115, 116, 114, 97, 105, 110, 116, 32, 108, 105, 110, 95, 108, 101, 40, 91, 49, 44, 45, 50, 93, 44, 91, 120, 44, 121, 93, 44, 55, 41, 59, 32, 115, 111, 108, 118, 101, 32, 109, 105, 110, 105, 109, 105, 122, 101, 32, 121, 59]⟩ = wtext1 := rfl
theorem bl_two : bl ⟨#[118, 97, 114, 32, 49, 46, 46, 51, 58, 32, 120, 59, 32, 99, 111, 110, 115, 116, 114, 97, 105, 110, 116, 32, 97, 108, 108, 95, 100, 105, 102, 102, 101, 114, 101, 110, 116, 40, 91, 120, 44, 121, 93, 41, 59]⟩ = wtext2 := rfl
theorem parse_one (s : ByteArray) (hs : bl s = wtext1) (w : World) (hE : EntIn w) (hT : TabZ w) : Calls Tryz.prog 6 #[.string s] w fun e w' => ∃ v : ModV, e = .returned (.tuple #[v.val 1 1, .int .i64 0, .int .i64 0]) ∧ ModIn w' v wmod ∧ Below w.heap.size w w' := by
  refine (parse_any s w (by have := bl_len s; rw [hs] at this; rw [← this]; decide) hE hT).mono ?_
  rw [hs, wake_one]
  rintro e w' ⟨v, h1, h2, h3⟩
  exact ⟨v, h1, h2, h3⟩
theorem parse_two (s : ByteArray) (hs : bl s = wtext2) (w : World) (hE : EntIn w) (hT : TabZ w) : Calls Tryz.prog 6 #[.string s] w fun e w' => ∃ v : ModV, e = .returned (.tuple #[v.val 0 0, .int .i64 41, .int .i64 7]) ∧ Below w.heap.size w w' := by
  refine (parse_any s w (by have := bl_len s; rw [hs] at this; rw [← this]; decide) hE hT).mono ?_
  rw [hs, wake_two]
  rintro e w' ⟨v, h1, h2, h3⟩
  exact ⟨v, h1, h3⟩
theorem wmod_view {w : World} {v : ModV} (h : ModIn w v wmod) : v.n.n = 2 ∧ v.d.n = 2 ∧ v.c.n = 1 ∧ ∃ (ad ad2 : Addr) (c2 g o : Nat), v.d.A = some ad ∧ ad.block < w.heap.size ∧ w.cell? (ad.add 1) = some (.slice (some ad2) 2 c2) ∧ ad2.block < w.heap.size ∧ w.cell? (ad2.add 0) = some (.int .i64 2) ∧ v.c.A = some ⟨g, o, none⟩ ∧ g < w.heap.size ∧ w.cell? ⟨g, o + 6, none⟩ = some (.int .i64 7) := by
  have hd : v.d.n = 2 := h.d.len
  have hc : v.c.n = 1 := h.c.len
  obtain ⟨ad, e1, l1, c1⟩ := h.d.lies (by omega)
  obtain ⟨u, e2, i2⟩ := c1 1 (by omega)
  have hu : u.n = 2 := i2.len
  obtain ⟨ad2, e3, l3, c3⟩ := i2.lies (by omega)
  obtain ⟨g, o, e4, l4, c4⟩ := h.c.lies (by omega)
  obtain ⟨cv, h5, -⟩ := c4 0 (by omega)
  have h6 := h5 6 (.int .i64 7) rfl
  rw [e3, hu] at e2
  exact ⟨h.n.len, hd, hc, ad, ad2, u.c, g, o, e1, l1, e2, l3, c3 0 (by omega), e4, l4, by simpa using h6⟩

set_option maxHeartbeats 4000000 in
set_option maxRecDepth 100000 in
theorem parse_wakes (w : World) (hE : EntIn w) (hT : TabZ w) : Calls Tryz.prog 7 #[] w fun e w' => e = .returned (.bool true) ∧ Below w.heap.size w w' := by
  have C1 := Lib.hid (parse_one _ bl_one w hE hT)
  have C2 := Lib.hid (fun W => parse_two _ bl_two W)
  have HE := Lib.hid hE
  have HT := Lib.hid hT
  clear hE hT
  go_enter Tryz.func7, Tryz.ntmps7
  go_wp2_with fail
  refine C1.out.mono ?_
  rintro e w1 ⟨v, rfl, hm, b1⟩
  obtain ⟨n1, n2, n3, ad, ad2, c2, g, o, e1, l1, q1, l2, q2, e2, l3, q3⟩ := wmod_view hm
  obtain ⟨⟨nA, nn, nc⟩, ⟨dA, dn, dc⟩, ⟨cA, cn, cc⟩⟩ := v
  simp only at n1 n2 n3 e1 e2
  subst n1; subst n2; subst n3; subst e1; subst e2
  have B1 := Lib.hid b1
  have Q1 := Lib.hid q1
  have Q2 := Lib.hid q2
  have Q3 := Lib.hid q3
  clear b1 q1 q2 q3 hm C1
  have L1 := Lib.hid l1
  have L2 := Lib.hid l2
  have L3 := Lib.hid l3
  clear l1 l2 l3
  go_wp2_with fail
  have BA := Lib.hid (B1.out.trans ((below1 w1 (Obj.cells #[Value.slice nA 2 nc, Value.slice (some ad) 2 dc, Value.slice (some ⟨g, o, none⟩) 1 cc, Value.int .i64 1, Value.int .i64 1] 26)).mono B1.out.size))
  refine (C2.out _ (HE.out.below BA.out) (HT.out.below BA.out)).mono ?_
  rintro e w2 ⟨v2, rfl, b2⟩
  have bx : ∀ (j : Nat) (v : Value), (#[Value.slice nA 2 nc, Value.slice (some ad) 2 dc, Value.slice (some ⟨g, o, none⟩) 1 cc, Value.int .i64 1, Value.int .i64 1] : Array Value)[j]? = some v → w2.cell? ⟨w1.heap.size, j, none⟩ = some v := fun j v hj => by
    rw [b2.cell (by simp)]
    simpa using hj
  have hsz : w1.heap.size < w2.heap.size := by have := b2.size; simp at this; omega
  have st : ∀ (a : Addr) (x : Value), a.block < w1.heap.size → w1.cell? a = some x → w2.cell? a = some x := fun a x ha hx => by
    rw [b2.cell (by simp; omega), (below1 w1 _).cell ha]
    exact hx
  have q1 := st _ _ (by rw [add_block]; exact L1.out) Q1.out
  have q2 := st _ _ (by rw [add_block]; exact L2.out) Q2.out
  have q3 := st _ _ L3.out Q3.out
  have B2 := Lib.hid (BA.out.trans (b2.mono BA.out.size))
  have SZ := Lib.hid hsz
  have HL : Hid ((ad.add 1).block < w2.heap.size ∧ (ad2.add 0).block < w2.heap.size ∧ g < w2.heap.size) := Lib.hid (by
    have l1 := L1.out
    have l2 := L2.out
    have l3 := L3.out
    rw [add_block, add_block]
    omega)
  have x0 := bx 0 _ rfl
  have x1 := bx 1 _ rfl
  have x2 := bx 2 _ rfl
  have x3 := bx 3 _ rfl
  have x4 := bx 4 _ rfl
  have X : Hid (∀ W : World, Below w2.heap.size w2 W → W.cell? (ad.add 1) = some (.slice (some ad2) 2 c2) ∧ W.cell? (ad2.add 0) = some (.int .i64 2) ∧ W.cell? ⟨g, o + 6, none⟩ = some (.int .i64 7) ∧ W.cell? ⟨w1.heap.size, 0, none⟩ = some (.slice nA 2 nc) ∧ W.cell? ⟨w1.heap.size, 1, none⟩ = some (.slice (some ad) 2 dc) ∧ W.cell? ⟨w1.heap.size, 2, none⟩ = some (.slice (some ⟨g, o, none⟩) 1 cc) ∧ W.cell? ⟨w1.heap.size, 3, none⟩ = some (.int .i64 1) ∧ W.cell? ⟨w1.heap.size, 4, none⟩ = some (.int .i64 1)) := Lib.hid (fun W hW =>
    ⟨(hW.cell HL.out.1).trans q1, (hW.cell HL.out.2.1).trans q2, (hW.cell HL.out.2.2).trans q3, (hW.cell SZ.out).trans x0, (hW.cell SZ.out).trans x1, (hW.cell SZ.out).trans x2, (hW.cell SZ.out).trans x3, (hW.cell SZ.out).trans x4⟩)
  clear b2 bx hsz st q1 q2 q3 x0 x1 x2 x3 x4 C2 L1 L2 L3 Q1 Q2 Q3 HE HT BA B1
  obtain ⟨⟨nA2, nn2, nc2⟩, ⟨dA2, dn2, dc2⟩, ⟨cA2, cn2, cc2⟩⟩ := v2
  go_upto_region 3 with fail
  change Code.wp _ _ _ _ (w2.alloc _)
  have B3 := Lib.hid (B2.out.trans ((below1 w2 (Obj.cells #[Value.slice nA2 nn2 nc2, Value.slice dA2 dn2 dc2, Value.slice cA2 cn2 cc2, Value.int .i64 0, Value.int .i64 0] 26)).mono B2.out.size))
  obtain ⟨y1, y2, y3, y4, y5, y6, y7, y8⟩ := X.out _ (below1 w2 (Obj.cells #[Value.slice nA2 nn2 nc2, Value.slice dA2 dn2 dc2, Value.slice cA2 cn2 cc2, Value.int .i64 0, Value.int .i64 0] 26))
  clear X B2 HL SZ
  generalize w2.alloc (Obj.cells #[Value.slice nA2 nn2 nc2, Value.slice dA2 dn2 dc2, Value.slice cA2 cn2 cc2, Value.int .i64 0, Value.int .i64 0] 26) = W at *
  have y1' : W.cell? ⟨ad.block, ad.off + 1, none⟩ = some (.slice (some ad2) 2 c2) := by simpa [Addr.add] using y1
  have y2' : W.cell? ad2 = some (.int .i64 2) := by simpa [Addr.add] using y2
  clear y1 y2
  go_wp2_with fail
  go_ret
  exact ⟨rfl, B3.out⟩
end Go.Proofs.YtmamgaaeeonfmaaGreatDoor

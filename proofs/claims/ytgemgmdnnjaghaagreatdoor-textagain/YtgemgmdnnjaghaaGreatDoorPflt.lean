/- Contract: Parse, whole. -/
import Derived.Test.YtgemgmdnnjaghaaGreatDoorPparse2
import Derived.Test.YtgemgmdnnjaghaaGreatDoorPblankm
import Derived.Test.YtgemgmdnnjaghaaGreatDoorPm
import Derived.Test.YtgemgmdnnjaghaaGreatDoorPcatch2
namespace Go.Proofs.YtgemgmdnnjaghaaGreatDoor
open Go.RowKit Go.Sort Go.Maps

set_option maxHeartbeats 4000000 in
set_option maxRecDepth 100000 in
theorem parse_text (s : ByteArray) (w : World) (hs : s.size ≤ 9223372036854775807) (hE : EntIn w) (hT : TabZ w) (he : (lexA (bl s)).2.2 = 0) : Calls Tryz.prog 15 #[.string s] w (ParseR w (parseA (bl s))) := by
  have CL := Lib.hid (lex_fresh s (start3 w) hs)
  have HB := Lib.hid (start3_boxes w)
  have HS := Lib.hid (start3_below w)
  have HE := Lib.hid hE
  have HT := Lib.hid hT
  obtain ⟨l0, l1, l2, l3⟩ := lexA_ok he
  have HPA : Hid (parseA (bl s) = match itemsP (bl s).length (lexA (bl s)).1.length noMod (lexA (bl s)).1 with
    | .error (p, e) => (noMod, p, e)
    | .ok m => (m, 0, 0)) := Lib.hid (by unfold parseA; rw [if_neg (by simp [he])]; rfl)
  rw [he, l0] at CL
  generalize parseA (bl s) = PA at HPA ⊢
  generalize (lexA (bl s)).1 = toks at CL HPA l2 l3
  have hsz : s.size = (bl s).length := (bl_len s).symm
  have hmf : ∀ (fn : Fn) (first cap : Array Value) (w : World), (Instr.makeFunc fn first cap).run Tryz.prog w = .ok (.func fn first cap) w := fun _ _ _ _ => rfl
  have hmm := makeMap_none
  clear he l0 hE hT
  rw [← bl_len] at hs
  generalize hen : (bl s).length = en at HPA l1 l2 l3 hsz
  clear hen hs
  go_enter_defers Tryz.func15, Tryz.ntmps15
  go_wp2_with fail
  change Calls _ _ _ (start3 w) _
  refine CL.out.mono ?_
  rintro e w1 ⟨v, rfl, htk, b1⟩
  have hfr := own_ge htk
  obtain ⟨t, rfl, hti, hto⟩ := toks_in ⟨_, htk⟩ (by omega) (fun x hx => by have := (l3 x hx).1; omega)
  have hB1 := HB.out.below b1
  have hb1 : Below w.heap.size w w1 := HS.out.trans (b1.mono HS.out.size)
  have HB2 := Lib.hid (hB1.two (.int .i64 0) (.int .i64 0))
  have HS2 : Hid (Below w.heap.size w ((w1.setCell ⟨w.heap.size + 1, 0, none⟩ (.int .i64 0)).setCell ⟨w.heap.size + 2, 0, none⟩ (.int .i64 0))) := Lib.hid ((hb1.setCell (p := ⟨w.heap.size + 1, 0, none⟩) (by simp) _).setCell (p := ⟨w.heap.size + 2, 0, none⟩) (by simp) _)
  obtain ⟨-, a1, a2⟩ := hB1.cells
  obtain ⟨-, f1, f2⟩ := hB1.free 0
  have HFR : Hid (∀ g, t.A = some ⟨g, 0, none⟩ → w.heap.size + 3 ≤ g) := Lib.hid (fun g e => by have := hfr g (by rw [e]; rfl); simp at this; omega)
  have HTI := Lib.hid hti
  have HTO := Lib.hid hto
  have HK : Hid (∀ (g : Nat) (cur : Array Value), w1.heap[g]? = some (.cells cur 118 (0, 0)) → ((w1.setCell ⟨w.heap.size + 1, 0, none⟩ (.int .i64 0)).setCell ⟨w.heap.size + 2, 0, none⟩ (.int .i64 0)).heap[g]? = w1.heap[g]?) := Lib.hid (fun g cur hg => (Below.heap_setCell _ _ _ _ (ty_ne hg hB1.e (by decide))).trans (Below.heap_setCell _ _ _ _ (ty_ne hg hB1.a (by decide))))
  clear CL b1 hB1 hb1 HB HS htk hti hto hfr
  go_upto_region 2 with fail
  change Code.wp _ _ _ _ ((w1.setCell ⟨w.heap.size + 1, 0, none⟩ (.int .i64 0)).setCell ⟨w.heap.size + 2, 0, none⟩ (.int .i64 0))
  clear a1 a2 f1 f2
  generalize (w1.setCell ⟨w.heap.size + 1, 0, none⟩ (.int .i64 0)).setCell ⟨w.heap.size + 2, 0, none⟩ (.int .i64 0) = w2 at *
  obtain ⟨⟨q0, q1, q2, q3, q4⟩, a1, a2⟩ := HB2.out.cells
  obtain ⟨hti2, hto2⟩ := HTI.out.same HTO.out HK.out
  have hPl : w.heap.size + 2 < w2.heap.size := lt_of_obj HB2.out.e
  have HGE : Hid (0 < w.heap.size ∧ 5 < w.heap.size) := Lib.hid ⟨HE.out.1, HT.out.1⟩
  cases hres : itemsP en toks.length noMod toks with
  | error f =>
    have HPE : Hid (PA = (noMod, f.1, f.2)) := Lib.hid (by rw [HPA.out, hres])
    have HP3 := Lib.hid (IsP.start (en := en) [] (fun p hp => absurd hp (by simp)) (HE.out.below HS2.out) (HT.out.below HS2.out) hti2 hto2)
    have CI := Lib.hid (items_any _ HP3.out toks.length (Nat.le_refl _))
    unfold AllR at CI
    simp only [hres] at CI
    have b23 : Below w2.heap.size w2 ((w2.alloc (.map #[] 0)).alloc (.cells (pcells t ⟨en, .map (some w2.heap.size), ⟨none, 0, 0⟩, ⟨none, 0, 0⟩, ⟨none, 0, 0⟩, 0, 0, []⟩) 84)) := (below1 w2 _).trans ((below1 _ _).mono (by simp))
    have HB3 := Lib.hid (HB2.out.below b23)
    have HNS : Hid (∀ g, g ≤ w.heap.size + 2 → startS [] (w2.heap.size + 1) t g = false) := Lib.hid (fun g h2 => startS_no (by omega) (fun h0 e => by have := HFR.out g e; omega) (fun p hp => absurd hp (by simp)))
    have HLOW : Hid (∀ w4, Mv (startS [] (w2.heap.size + 1) t) ((w2.alloc (.map #[] 0)).alloc (.cells (pcells t ⟨en, .map (some w2.heap.size), ⟨none, 0, 0⟩, ⟨none, 0, 0⟩, ⟨none, 0, 0⟩, 0, 0, []⟩) 84)) w4 → Boxes3 w4 w.heap.size #[.slice none 0 0, .slice none 0 0, .slice none 0 0, .int .i64 0, .int .i64 0] (.int .i64 0) (.int .i64 0) ∧ Below w.heap.size w w4) := Lib.hid (fun w4 hm => ⟨⟨(hm.block _ (lt_of_obj HB3.out.m) (HNS.out _ (by omega))).trans HB3.out.m, (hm.block _ (lt_of_obj HB3.out.a) (HNS.out _ (by omega))).trans HB3.out.a, (hm.block _ (lt_of_obj HB3.out.e) (HNS.out _ (by omega))).trans HB3.out.e⟩, (HS2.out.trans (b23.mono (by omega))).trans (hm.below (by simp; omega) (fun g hg => HNS.out g (by omega)))⟩)
    clear hti2 hto2 b23 HTI HTO HK HE HT HNS HB3 l1 l2 l3 HFR hres HPA
    go_wp2_with fail
    refine CI.out.mono ?_
    rintro e w4 ⟨m4, rfl⟩
    obtain ⟨hB4, hb4⟩ := HLOW.out w4 m4
    clear CI HLOW m4 q0 q1 q2 q3 q4 a1 a2 HB2 HS2
    show Leaves _ _ _ _ _ _ _
    refine leaves_cons (f := 38) (args := #[.pointer (some ⟨w.heap.size, 0, none⟩), .pointer (some ⟨w.heap.size + 1, 0, none⟩), .pointer (some ⟨w.heap.size + 2, 0, none⟩)]) (by simp) (by simp [go_sem]) ?_
    refine (catch_fault w.heap.size _ _ _ _ _ _ _ f w4 hB4).mono ?_
    rintro e u' w5 ⟨rfl, rfl, hb5, hl5⟩
    show Leaves _ _ _ _ [] .returning _
    refine results3 hb5 ?_ ?_ ?_ ⟨⟨⟨none, 0, 0⟩, ⟨none, 0, 0⟩, ⟨none, 0, 0⟩⟩, ?_, ?_, hb4.trans hl5⟩
    · rfl
    · rfl
    · rfl
    · rw [HPE.out]; rfl
    · rw [HPE.out]; exact noMod_in w5
  | ok m' =>
    have HPE : Hid (PA = (m', 0, 0)) := Lib.hid (by rw [HPA.out, hres])
    obtain ⟨kp, hkp⟩ : ∃ kp : List (Nat × Array Value × TypeId), kp = [(w.heap.size, #[.slice none 0 0, .slice none 0 0, .slice none 0 0, .int .i64 0, .int .i64 0], 30), (w.heap.size + 1, #[.int .i64 0], 3), (w.heap.size + 2, #[.int .i64 0], 32)] := ⟨_, rfl⟩
    have HKP := Lib.hid hkp
    have HP3 := Lib.hid (IsP.start (en := en) kp (fun p hp => by
      rw [hkp] at hp
      simp only [List.mem_cons, List.not_mem_nil, or_false] at hp
      have g1 := HGE.out.1
      have g2 := HGE.out.2
      rcases hp with rfl | rfl | rfl
      · exact ⟨HB2.out.m, by simp, by simp only; omega, by simp only; omega⟩
      · exact ⟨HB2.out.a, by simp, by simp only; omega, by simp only; omega⟩
      · exact ⟨HB2.out.e, by simp, by simp only; omega, by simp only; omega⟩) (HE.out.below HS2.out) (HT.out.below HS2.out) hti2 hto2)
    have CI := Lib.hid (items_any _ HP3.out toks.length (Nat.le_refl _))
    unfold AllR at CI
    simp only [hres] at CI
    have b23 : Below w2.heap.size w2 ((w2.alloc (.map #[] 0)).alloc (.cells (pcells t ⟨en, .map (some w2.heap.size), ⟨none, 0, 0⟩, ⟨none, 0, 0⟩, ⟨none, 0, 0⟩, 0, 0, kp⟩) 84)) := (below1 w2 _).trans ((below1 _ _).mono (by simp))
    have HLOW : Hid (∀ w4, Mv (startS kp (w2.heap.size + 1) t) ((w2.alloc (.map #[] 0)).alloc (.cells (pcells t ⟨en, .map (some w2.heap.size), ⟨none, 0, 0⟩, ⟨none, 0, 0⟩, ⟨none, 0, 0⟩, 0, 0, kp⟩) 84)) w4 → Below w.heap.size w w4) := Lib.hid (fun w4 hm => (HS2.out.trans (b23.mono (by omega))).trans (hm.below (by simp; omega) (fun g hg => startS_no (by omega) (fun h0 e => by have := HFR.out g e; omega) (fun p hp => by
      rw [hkp] at hp
      simp only [List.mem_cons, List.not_mem_nil, or_false] at hp
      rcases hp with rfl | rfl | rfl <;> (simp only; omega)))))
    clear hti2 hto2 b23 HTI HTO HK HE HT l1 l2 l3 HFR hres HPA hkp
    go_wp2_with fail
    refine CI.out.mono ?_
    rintro e w4 ⟨m4, rfl, S', r', t', -, ⟨-, hk⟩, hp⟩
    have HLO4 := Lib.hid (HLOW.out w4 m4)
    have hkept := hp.px.kept
    rw [hk.trans HKP.out] at hkept
    have k0 := hkept _ (List.mem_cons_self ..)
    have k1 := hkept _ (List.mem_cons_of_mem _ (List.mem_cons_self ..))
    have k2 := hkept _ (List.mem_cons_of_mem _ (List.mem_cons_of_mem _ (List.mem_cons_self ..)))
    have hB4 : Boxes3 w4 w.heap.size #[.slice none 0 0, .slice none 0 0, .slice none 0 0, .int .i64 0, .int .i64 0] (.int .i64 0) (.int .i64 0) := ⟨k0.1, k1.1, k2.1⟩
    have HSP : Hid (S' w.heap.size = true ∧ S' (w.heap.size + 1) = true ∧ S' (w.heap.size + 2) = true) := Lib.hid ⟨k0.2.1, k1.2.1, k2.2.1⟩
    have HP4 := Lib.hid hp
    have HB4 := Lib.hid hB4
    clear CI HLOW m4 q0 q1 q2 q3 q4 a1 a2 HB2 HS2 hkept k0 k1 k2 hk HKP
    obtain ⟨-, -, -, c3, c4, c5, c6, c7⟩ := hp.px.tk.cells
    obtain ⟨⟨q0, q1, q2, q3, q4⟩, a1, a2⟩ := hB4.cells
    have f0 := fun j => (hB4.free j).1
    have f1 := (hB4.free 0).2.1
    have f2 := (hB4.free 0).2.2
    have hBne : w2.heap.size + 1 ≠ w.heap.size := by omega
    clear hp hB4
    have HX := Lib.hid (HB4.out.set7 (.slice r'.n.A r'.n.n r'.n.c) (.slice r'.d.A r'.d.n r'.d.c) (.slice r'.c.A r'.c.n r'.c.c) (.int .i64 r'.goal) (.int .i64 r'.obj) (.int .i64 0) (.int .i64 0))
    have HMF := Lib.hid (HP4.out.mod7 HB4.out HSP.out (.slice r'.n.A r'.n.n r'.n.c) (.slice r'.d.A r'.d.n r'.d.c) (.slice r'.c.A r'.c.n r'.c.c) (.int .i64 r'.goal) (.int .i64 r'.obj) (.int .i64 0) (.int .i64 0))
    have HBF := Lib.hid (below_set7 HLO4.out (Nat.le_refl _) (.slice r'.n.A r'.n.n r'.n.c) (.slice r'.d.A r'.d.n r'.d.c) (.slice r'.c.A r'.c.n r'.c.c) (.int .i64 r'.goal) (.int .i64 r'.obj) (.int .i64 0) (.int .i64 0))
    go_wp2_with fail
    show Leaves _ _ _ _ _ _ _
    refine leaves_cons (f := 38) (args := #[.pointer (some ⟨w.heap.size, 0, none⟩), .pointer (some ⟨w.heap.size + 1, 0, none⟩), .pointer (some ⟨w.heap.size + 2, 0, none⟩)]) (by simp) (by simp [go_sem]) ?_
    refine (catch_idle _ _ _ _).mono ?_
    rintro e u' w5 ⟨rfl, rfl, b5⟩
    show Leaves _ _ _ _ [] .returning _
    refine results3 (HX.out.below b5) ?_ ?_ ?_ ⟨⟨r'.n, r'.d, r'.c⟩, ?_, ?_, ?_⟩
    · rfl
    · rfl
    · rfl
    · rw [HPE.out, HP4.out.goal, HP4.out.obj]; rfl
    · rw [HPE.out]; exact HMF.out.below b5
    · exact HBF.out.trans (b5.mono HBF.out.size)

/-- What Parse tells of any text. -/
theorem parse_any (s : ByteArray) (w : World) (hs : s.size ≤ 9223372036854775807) (hE : EntIn w) (hT : TabZ w) : Calls Tryz.prog 15 #[.string s] w (ParseR w (parseA (bl s))) := by
  by_cases he : (lexA (bl s)).2.2 = 0
  · exact parse_text s w hs hE hT he
  · refine (parse_lex s w hs he).mono ?_
    rintro e w' ⟨rfl, hb⟩
    have hp : parseA (bl s) = (noMod, (lexA (bl s)).2.1, (lexA (bl s)).2.2) := by unfold parseA; rw [if_pos he]
    rw [hp]
    exact ⟨⟨⟨none, 0, 0⟩, ⟨none, 0, 0⟩, ⟨none, 0, 0⟩⟩, rfl, noMod_in w', hb⟩
end Go.Proofs.YtgemgmdnnjaghaaGreatDoor

/- What layer 7's wakes tells: true. -/
namespace Go.Proofs.YtgemgmdnnjaghaaGreatDoor
open Go.RowKit Go.Sort Go.Maps

theorem bl_one : bl ⟨#[118, 97, 114, 32, 49, 46, 46, 51, 58, 32, 120, 59, 32, 118, 97, 114, 32, 123, 53, 44, 50, 125, 58, 32, 121, 59, 32, 37, 32, 99, 10, 99, 111, 110, 115, 116, 114, 97, 105, 110, 116, 32, 108, 105, 110, 95, 108, 101, 40, 91, 49, 44, 45, 50, 93, 44, 91, 120, 44, 121, 93, 44, 55, 41, 59, 32, 115, 111, 108, 118, 101, 32, 109, 105, 110, 105, 109, 105, 122, 101, 32, 121, 59]⟩ = wtext1 := rfl
theorem bl_two : bl ⟨#[118, 97, 114, 32, 49, 46, 46, 51, 58, 32, 120, 59, 32, 99, 111, 110, 115, 116, 114, 97, 105, 110, 116, 32, 97, 108, 108, 95, 100, 105, 102, 102, 101, 114, 101, 110, 116, 40, 91, 120, 44, 121, 93, 41, 59]⟩ = wtext2 := rfl
theorem parse_one (s : ByteArray) (hs : bl s = wtext1) (w : World) (hE : EntIn w) (hT : TabZ w) : Calls Tryz.prog 15 #[.string s] w fun e w' => ∃ v : ModV, e = .returned (.tuple #[v.val 1 1, .int .i64 0, .int .i64 0]) ∧ ModIn w' v wmod ∧ Below w.heap.size w w' := by
  refine (parse_any s w (by have := bl_len s; rw [hs] at this; rw [← this]; decide) hE hT).mono ?_
  rw [hs, wake_one]
  rintro e w' ⟨v, h1, h2, h3⟩
  exact ⟨v, h1, h2, h3⟩
theorem parse_two (s : ByteArray) (hs : bl s = wtext2) (w : World) (hE : EntIn w) (hT : TabZ w) : Calls Tryz.prog 15 #[.string s] w fun e w' => ∃ v : ModV, e = .returned (.tuple #[v.val 0 0, .int .i64 41, .int .i64 7]) ∧ Below w.heap.size w w' := by
  refine (parse_any s w (by have := bl_len s; rw [hs] at this; rw [← this]; decide) hE hT).mono ?_
  rw [hs, wake_two]
  rintro e w' ⟨v, h1, h2, h3⟩
  exact ⟨v, h1, h3⟩
theorem wmod_view {w : World} {v : ModV} (h : ModIn w v wmod) : v.n.n = 2 ∧ v.d.n = 2 ∧ v.c.n = 1 ∧ ∃ (ad ad2 : Addr) (c2 g o : Nat), v.d.A = some ad ∧ ad.block < w.heap.size ∧ w.cell? (ad.add 1) = some (.slice (some ad2) 2 c2) ∧ ad2.block < w.heap.size ∧ w.cell? (ad2.add 0) = some (.int .i64 2) ∧ v.c.A = some ⟨g, o, none⟩ ∧ g < w.heap.size ∧ w.cell? ⟨g, o + 6, none⟩ = some (.int .i64 7) := by
  have hd : v.d.n = 2 := h.d.len
  have hc : v.c.n = 1 := h.c.len
  obtain ⟨ad, e1, l1, c1⟩ := h.d.lies (by omega)
  obtain ⟨u, e2, i2⟩ := c1 1 (by omega)
  have hu : u.n = 2 := i2.len
  obtain ⟨ad2, e3, l3, c3⟩ := i2.lies (by omega)
  obtain ⟨g, o, e4, l4, c4⟩ := h.c.lies (by omega)
  obtain ⟨cv, h5, -⟩ := c4 0 (by omega)
  have h6 := h5 6 (.int .i64 7) rfl
  rw [e3, hu] at e2
  exact ⟨h.n.len, hd, hc, ad, ad2, u.c, g, o, e1, l1, e2, l3, c3 0 (by omega), e4, l4, by simpa using h6⟩

end Go.Proofs.YtgemgmdnnjaghaaGreatDoor

/- Where a text is wrong is in it, and a fault has an error: pure. -/
namespace Go.Proofs.YtgemgmdnnjaghaaGreatDoor
open Go.RowKit

def Near (en : Nat) (ts : List Tok) : Prop := ∀ t ∈ ts, t.at_ ≤ en
theorem near_ahead {en : Nat} {ts : List Tok} (h : Near en ts) : (aheadT en ts).at_ ≤ en := by
  cases ts with
  | nil => exact Nat.le_refl _
  | cons t r => exact h t (by simp)
theorem near_tail {en : Nat} {ts : List Tok} (h : Near en ts) : Near en ts.tail := fun t ht => h t (List.mem_of_mem_tail ht)
def FltR {α : Type} (en : Nat) : PR α → Prop
  | .error f => f.1 ≤ en ∧ f.2 ≠ 0
  | .ok (_, r) => Near en r
def FltW (en : Nat) : Except Flt (List Tok) → Prop
  | .error f => f.1 ≤ en ∧ f.2 ≠ 0
  | .ok r => Near en r
theorem FltR.bad {α : Type} {en : Nat} {a : PR α} {f : Flt} (h : FltR en a) (e : a = .error f) : f.1 ≤ en ∧ f.2 ≠ 0 := by rw [e] at h; exact h
theorem FltR.good {α : Type} {en : Nat} {a : PR α} {x : α} {r : List Tok} (h : FltR en a) (e : a = .ok (x, r)) : Near en r := by rw [e] at h; exact h
theorem FltW.bad {en : Nat} {a : Except Flt (List Tok)} {f : Flt} (h : FltW en a) (e : a = .error f) : f.1 ≤ en ∧ f.2 ≠ 0 := by rw [e] at h; exact h
theorem FltW.good {en : Nat} {a : Except Flt (List Tok)} {r : List Tok} (h : FltW en a) (e : a = .ok r) : Near en r := by rw [e] at h; exact h
theorem takeP_f {en k : Nat} {ts : List Tok} (h : Near en ts) : FltR en (takeP en k ts) := by
  unfold takeP
  split
  · exact near_tail h
  · exact ⟨near_ahead h, by simp⟩
theorem takeP_at {en k : Nat} {ts r : List Tok} {t : Tok} (h : Near en ts) (e : takeP en k ts = .ok (t, r)) : t.at_ ≤ en := by
  rw [(take_len e).2.1]
  exact near_ahead h
theorem wantP_f {en : Nat} {s : Bs} {ts : List Tok} (h : Near en ts) : FltW en (wantP en s ts) := by
  unfold wantP
  split
  · exact near_tail h
  · exact ⟨near_ahead h, by simp⟩
def Fine {α : Type} (en : Nat) (el : List Tok → PR α) : Prop := ∀ ts, Near en ts → FltR en (el ts)
theorem numP_f (en : Nat) : Fine en (numP en) := by
  intro ts h
  unfold numP
  split
  · next f e => exact (takeP_f h).bad e
  · next t r e => exact (takeP_f h).good e
theorem placeP_f (en : Nat) (names : List Bs) : Fine en (placeP en names) := by
  intro ts h
  unfold placeP
  split
  · next f e => exact (takeP_f h).bad e
  · next t r e =>
    split
    · exact (takeP_f h).good e
    · exact ⟨takeP_at h e, by simp⟩
theorem tailP_f {α : Type} {en : Nat} {last : Bs} {el : List Tok → PR α} (he : Fine en el) : ∀ n, Fine en (tailP en last el n) := by
  intro n
  induction n with
  | zero =>
    intro ts h
    simp only [tailP]
    split
    · exact near_tail h
    · exact ⟨near_ahead h, by simp⟩
  | succ n ih =>
    intro ts h
    simp only [tailP]
    split
    · exact near_tail h
    · split
      · next f e => exact (wantP_f h).bad e
      · next r e =>
        have h1 := (wantP_f h).good e
        split
        · next f e2 => exact (he _ h1).bad e2
        · next x r2 e2 =>
          have h2 := (he _ h1).good e2
          split
          · next f e3 => exact (ih _ h2).bad e3
          · next xs r3 e3 => exact (ih _ h2).good e3
theorem listP_f {α : Type} {en : Nat} {first last : Bs} {el : List Tok → PR α} (he : Fine en el) : Fine en (listP en first last el) := by
  intro ts h
  unfold listP
  split
  · next f e => exact (wantP_f h).bad e
  · next r e =>
    have h1 := (wantP_f h).good e
    split
    · exact near_tail h1
    · split
      · next f e2 => exact (he _ h1).bad e2
      · next x r2 e2 =>
        have h2 := (he _ h1).good e2
        split
        · next f e3 => exact (tailP_f he _ _ h2).bad e3
        · next xs r3 e3 => exact (tailP_f he _ _ h2).good e3
theorem rowP_f (en : Nat) : Fine en (rowP en) := listP_f (numP_f en)
theorem rosP_f (en : Nat) : Fine en (rosP en) := by
  intro ts h
  unfold rosP
  split
  · split
    · next f e => exact (listP_f (numP_f en) _ h).bad e
    · next l r e => exact (listP_f (numP_f en) _ h).good e
  · split
    · next f e => exact (takeP_f h).bad e
    · next t r e =>
      have h1 := (takeP_f h).good e
      split
      · next f e2 => exact (wantP_f h1).bad e2
      · next r1 e2 =>
        have h2 := (wantP_f h1).good e2
        split
        · next f e3 => exact (takeP_f h2).bad e3
        · next t2 r2 e3 => exact (takeP_f h2).good e3
theorem domP_f (en : Nat) : Fine en (domP en) := by
  intro ts h
  unfold domP
  split
  · next f e => exact (rosP_f en _ h).bad e
  · next l e r hr =>
    split
    · exact (rosP_f en _ h).good hr
    · next he => exact ⟨near_ahead h, he⟩
theorem newNameP_f (en : Nat) (names : List Bs) : Fine en (newNameP en names) := by
  intro ts h
  unfold newNameP
  split
  · next f e => exact (takeP_f h).bad e
  · next t r e =>
    split
    · exact ⟨takeP_at h e, by simp⟩
    · split
      · exact ⟨takeP_at h e, by simp⟩
      · exact (takeP_f h).good e
theorem varP_f {en : Nat} {m : ModL} {start : Tok} (hs : start.at_ ≤ en) : Fine en (varP en m start) := by
  intro ts h
  unfold varP
  split
  · exact ⟨hs, by simp⟩
  · split
    · next f e => exact (domP_f en _ h).bad e
    · next d r e =>
      have h1 := (domP_f en _ h).good e
      split
      · next f e2 => exact (wantP_f h1).bad e2
      · next r1 e2 =>
        have h2 := (wantP_f h1).good e2
        split
        · next f e3 => exact (newNameP_f en _ _ h2).bad e3
        · next b r2 e3 =>
          have h3 := (newNameP_f en _ _ h2).good e3
          split
          · next f e4 => exact (wantP_f h3).bad e4
          · next r3 e4 => exact (wantP_f h3).good e4
theorem partP_f {en : Nat} {names : List Bs} {letter : Nat} {c : ConL} : Fine en (partP en names letter c) := by
  intro ts h
  unfold partP
  split
  · split
    · next f e => exact (placeP_f en _ _ h).bad e
    · next x r e => exact (placeP_f en _ _ h).good e
  split
  · split
    · next f e => exact (placeP_f en _ _ h).bad e
    · next x r e => exact (placeP_f en _ _ h).good e
  split
  · split
    · next f e => exact (listP_f (placeP_f en _) _ h).bad e
    · next x r e => exact (listP_f (placeP_f en _) _ h).good e
  split
  · split
    · next f e => exact (listP_f (placeP_f en _) _ h).bad e
    · next x r e => exact (listP_f (placeP_f en _) _ h).good e
  split
  · split
    · next f e => exact (rowP_f en _ h).bad e
    · next x r e => exact (rowP_f en _ h).good e
  split
  · split
    · next f e => exact (rowP_f en _ h).bad e
    · next x r e => exact (rowP_f en _ h).good e
  split
  · split
    · next f e => exact (rowP_f en _ h).bad e
    · next x r e => exact (rowP_f en _ h).good e
  split
  · split
    · next f e => exact (numP_f en _ h).bad e
    · next x r e => exact (numP_f en _ h).good e
  split
  · split
    · next f e => exact (listP_f (rowP_f en) _ h).bad e
    · next x r e => exact (listP_f (rowP_f en) _ h).good e
  exact h
theorem partsP_f {en : Nat} {names : List Bs} : ∀ (bs : List UInt8) (i : Nat) (c : ConL), Fine en (partsP en names i bs c) := by
  intro bs
  induction bs with
  | nil => intro i c ts h; exact h
  | cons b bs ih =>
    intro i c ts h
    simp only [partsP]
    have hw : FltW en (if 0 < i then wantP en [44] ts else .ok ts) := by
      split
      · exact wantP_f h
      · exact h
    split
    · next f e => exact hw.bad e
    · next r e =>
      have h1 := hw.good e
      split
      · next f e2 => exact (partP_f _ h1).bad e2
      · next c2 r2 e2 => exact ih _ _ _ ((partP_f _ h1).good e2)
theorem conP_f {en : Nat} {m : ModL} {start : Tok} (hs : start.at_ ≤ en) : Fine en (conP en m start) := by
  intro ts h
  unfold conP
  split
  · exact ⟨hs, by simp⟩
  · split
    · next f e => exact (takeP_f h).bad e
    · next t r e =>
      have h1 := (takeP_f h).good e
      have ht := takeP_at h e
      split
      · exact ⟨ht, by simp⟩
      · split
        · next f e2 => exact (wantP_f h1).bad e2
        · next r1 e2 =>
          have h2 := (wantP_f h1).good e2
          split
          · next f e3 => exact (partsP_f _ _ _ _ h2).bad e3
          · next c r2 e3 =>
            have h3 := (partsP_f _ _ _ _ h2).good e3
            split
            · next f e4 => exact (wantP_f h3).bad e4
            · next r3 e4 =>
              have h4 := (wantP_f h3).good e4
              split
              · next hr => exact ⟨ht, hr⟩
              · split
                · next f e5 => exact (wantP_f h4).bad e5
                · next r4 e5 => exact (wantP_f h4).good e5
theorem goalP_f {en : Nat} {m : ModL} : Fine en (goalP en m) := by
  intro ts h
  unfold goalP
  split
  · next f e => exact (takeP_f h).bad e
  · next t r e =>
    have h1 := (takeP_f h).good e
    have ht := takeP_at h e
    have hg : FltR en (if t.text = [115, 97, 116, 105, 115, 102, 121] then .ok ({ m with goal := 0 }, r)
      else if t.text = [109, 105, 110, 105, 109, 105, 122, 101] then (match placeP en m.names r with | .error f => .error f | .ok (x, r2) => .ok ({ m with goal := 1, obj := x }, r2))
      else if t.text = [109, 97, 120, 105, 109, 105, 122, 101] then (match placeP en m.names r with | .error f => .error f | .ok (x, r2) => .ok ({ m with goal := 2, obj := x }, r2))
      else .error (t.at_, 6) : PR ModL) := by
      split
      · exact h1
      · split
        · split
          · next f e2 => exact (placeP_f en _ _ h1).bad e2
          · next x r2 e2 => exact (placeP_f en _ _ h1).good e2
        · split
          · split
            · next f e2 => exact (placeP_f en _ _ h1).bad e2
            · next x r2 e2 => exact (placeP_f en _ _ h1).good e2
          · exact ⟨ht, by simp⟩
    split
    · next f e2 => exact hg.bad e2
    · next m2 r2 e2 =>
      have h2 := hg.good e2
      split
      · next f e3 => exact (wantP_f h2).bad e3
      · next r3 e3 => exact (wantP_f h2).good e3
theorem itemsP_f {en : Nat} : ∀ (n : Nat) (m : ModL) (ts : List Tok) (f : Flt), Near en ts → itemsP en n m ts = .error f → f.1 ≤ en ∧ f.2 ≠ 0 := by
  intro n
  induction n with
  | zero =>
    intro m ts f h e
    simp only [itemsP] at e
    injection e with e
    subst e
    exact ⟨near_ahead h, by simp⟩
  | succ n ih =>
    intro m ts f h e
    simp only [itemsP] at e
    split at e
    · next f' e1 => injection e with e; subst e; exact (takeP_f h).bad e1
    · next t r e1 =>
      have h1 := (takeP_f h).good e1
      have ht := takeP_at h e1
      split at e
      · split at e
        · next f' e2 => injection e with e; subst e; exact (varP_f ht _ h1).bad e2
        · next m2 r2 e2 => exact ih _ _ _ ((varP_f ht _ h1).good e2) e
      · split at e
        · split at e
          · next f' e2 => injection e with e; subst e; exact (conP_f ht _ h1).bad e2
          · next m2 r2 e2 => exact ih _ _ _ ((conP_f ht _ h1).good e2) e
        · split at e
          · split at e
            · next f' e2 => injection e with e; subst e; exact (goalP_f _ h1).bad e2
            · next m2 r2 e2 =>
              split at e
              · cases e
              · injection e with e; subst e; exact ⟨near_ahead ((goalP_f _ h1).good e2), by simp⟩
          · injection e with e; subst e; exact ⟨ht, by simp⟩
/-- What Parse tells, plainly. -/
theorem parseA_bad {bs : Bs} (h : (parseA bs).2.2 ≠ 0) : (parseA bs).1 = noMod ∧ (parseA bs).2.1 ≤ bs.length := by
  unfold parseA at h ⊢
  split
  · next he =>
    refine ⟨rfl, ?_⟩
    simp only
    unfold lexA
    split
    · simp only; omega
    · rcases hr : lexL bs 0 with ⟨p, e⟩ | l
      · have := (lexL_error hr).2
        simp only [lexT]
        omega
      · simp only [lexT]; omega
  · next he =>
    rw [if_neg he] at h
    have he0 : (lexA bs).2.2 = 0 := by simpa using he
    have l3 := (lexA_ok he0).2.2.2
    rcases hi : itemsP bs.length (lexA bs).1.length noMod (lexA bs).1 with ⟨p, e⟩ | m
    · exact ⟨rfl, (itemsP_f _ _ _ _ (fun t ht => (l3 t ht).2) hi).1⟩
    · rw [hi] at h
      exact absurd rfl h
theorem parseA_good {bs : Bs} (h : (parseA bs).2.2 = 0) : checkE (parseA bs).1 = (-1, 0) ∧ (parseA bs).2.1 = 0 := by
  unfold parseA at h ⊢
  split
  · next he => rw [if_pos he] at h; exact absurd h he
  · next he =>
    rw [if_neg he] at h
    have he0 : (lexA bs).2.2 = 0 := by simpa using he
    have l3 := (lexA_ok he0).2.2.2
    rcases hi : itemsP bs.length (lexA bs).1.length noMod (lexA bs).1 with ⟨p, e⟩ | m
    · rw [hi] at h
      exact absurd h (itemsP_f _ _ _ _ (fun t ht => (l3 t ht).2) hi).2
    · exact ⟨items_check _ _ _ _ noMod_good hi, rfl⟩
end Go.Proofs.YtgemgmdnnjaghaaGreatDoor

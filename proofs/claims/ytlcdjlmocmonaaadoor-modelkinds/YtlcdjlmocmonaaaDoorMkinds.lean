/- The walk of ModelKinds. -/
import Derived.Test.YtlcdjlmocmonaaaDoorMstrs
import Derived.Test.YtlcdjlmocmonaaaDoorMpure
namespace Go.Proofs.YtlcdjlmocmonaaaDoor
open Go.RowKit Go.Sort

set_option maxRecDepth 100000 in
theorem words_at (w : World) : Calls Tryd.prog 5 #[] w fun e w' => e = .returned (.slice (some ⟨w.heap.size, 0, none⟩) 24 24) ∧ IsStrs w' ⟨some ⟨w.heap.size, 0, none⟩, 24, 24⟩ wordsL ∧ Below w.heap.size w w' := by
  go_enter Tryd.func5, Tryd.ntmps5
  go_wp2_with fail
  go_ret
  exact ⟨rfl, strs_new w wordsL _ (by decide), below1 _ _⟩

theorem strs_drop1 {w : World} {g n c : Nat} {l : List Bs} (h : IsStrs w ⟨some ⟨g, 0, none⟩, n + 1, c + 1⟩ l) : IsStrs w ⟨some ⟨g, 1, none⟩, n, c⟩ (l.drop 1) := by
  have hl := h.len
  have hb := h.big
  have hc := h.cap
  simp only at hl hb hc
  refine ⟨by rw [List.length_drop]; simp only; omega, fun h0 => ?_, by simp only; omega, by simp only; omega⟩
  obtain ⟨ad, e, hbk, hcl⟩ := h.lies (by simp only; omega)
  cases e
  refine ⟨_, rfl, hbk, fun j hj => ?_⟩
  have := hcl (j + 1) (by simp only at hj ⊢; omega)
  rw [Addr.add_mid] at this ⊢
  rw [show 1 + j = 0 + (j + 1) by omega, this]
  show some (strV (l.getD (j + 1) [])) = some (strV ((l.drop 1).getD j []))
  rw [List.getD_eq_getElem?_getD, List.getD_eq_getElem?_getD, List.getElem?_drop, show 1 + j = j + 1 by omega]

theorem kinds_all : ((List.range 24).map fun k : Nat => ((foundF (kindP ((k : Nat) : Int))).1.word, (foundF (kindP ((k : Nat) : Int))).2, (foundF (kindP ((k : Nat) : Int))).1.shape, (foundF (wordP ⟨(wordsL.getD k []).toArray⟩)).1.k, (foundF (wordP ⟨(wordsL.getD k []).toArray⟩)).2)) = (List.range 24).map fun k => (wordsL.getD k [], decide (0 < k), shapesL.getD k [], k, decide (0 < k)) := by kernel_rfl
theorem kinds_at {k : Nat} (h : k < 24) : (foundF (kindP ((k : Nat) : Int))).1.word = wordsL.getD k [] ∧ (foundF (kindP ((k : Nat) : Int))).2 = decide (0 < k) ∧ (foundF (kindP ((k : Nat) : Int))).1.shape = shapesL.getD k [] ∧ (foundF (wordP ⟨(wordsL.getD k []).toArray⟩)).1.k = k ∧ (foundF (wordP ⟨(wordsL.getD k []).toArray⟩)).2 = decide (0 < k) := by
  have := List.map_inj_left.1 kinds_all k (List.mem_range.2 h)
  simp only [Prod.mk.injEq] at this
  exact this

/-- What a kind's number tells: of others there is none. -/
theorem kind_known (kd : Int) : (foundF (kindP kd)).2 = (decide (1 ≤ kd) && decide (kd ≤ 23)) ∧ ((decide (1 ≤ kd) && decide (kd ≤ 23)) = false → foundF (kindP kd) = (noEnt, false)) := by
  by_cases h : kd < 1 ∨ 23 < kd
  · rw [found_out h]
    refine ⟨?_, fun _ => rfl⟩
    show false = _
    rcases h with h | h <;> simp <;> omega
  · obtain ⟨k, hk⟩ : ∃ k : Nat, kd = ((k + 1 : Nat) : Int) := ⟨(kd - 1).toNat, by omega⟩
    have hb : (decide (1 ≤ kd) && decide (kd ≤ 23)) = true := by simp; omega
    rw [hb]
    refine ⟨?_, fun e => by cases e⟩
    rw [hk, found_in (by omega)]

theorem words_drop : wordsL.drop 1 = ents.map Ent.word := by kernel_rfl
theorem word_known (s : ByteArray) : (foundF (wordP s)).2 = (wordsL.drop 1).any (· == bl s) ∧ ((wordsL.drop 1).any (· == bl s) = false → foundF (wordP s) = (noEnt, false)) := by
  have hbl : s.toList = bl s := ByteArray.toList_eq _
  have e1 : (wordsL.drop 1).any (· == bl s) = ents.any (wordP s) := by
    rw [words_drop, List.any_map]
    congr 1
    funext e
    unfold wordP
    rw [hbl]
    rfl
  rw [e1]
  unfold foundF
  cases hf : ents.find? (wordP s) with
  | some e =>
    have : ents.any (wordP s) = true := List.any_eq_true.2 ⟨e, List.mem_of_find?_eq_some hf, List.find?_some hf⟩
    rw [this]
    exact ⟨rfl, fun e => by cases e⟩
  | none =>
    have : ents.any (wordP s) = false := by
      rw [List.any_eq_false]
      exact List.find?_eq_none.1 hf
    rw [this]
    exact ⟨rfl, fun _ => rfl⟩

set_option maxHeartbeats 8000000 in
set_option maxRecDepth 100000 in
theorem kinds_walk (kd : Int) (s : ByteArray) (w : World) (hE : EntIn w) : Calls Tryd.prog 3 #[.int .i64 kd, .string s] w fun e w' => e = .returned (.bool true) ∧ Below w.heap.size w w' := by
  have CW := Lib.hid words_at
  have C1 := Lib.hid word_kind
  have C2 := Lib.hid kind_word
  have C3 := Lib.hid shape_kind
  have C4 := Lib.hid shapes_any
  have C5 := Lib.hid wakes_true
  have HE := Lib.hid hE
  have HK := Lib.hid (kind_known kd)
  have HS := Lib.hid (word_known s)
  have HAT := Lib.hid (fun k (h : k < 24) => kinds_at h)
  clear hE
  go_enter Tryd.func3, Tryd.ntmps3
  go_wp2_with fail
  refine (CW.out _).mono ?_
  rintro e w1 ⟨rfl, hx1, b1⟩
  have B1 := Lib.hid b1
  have HX := Lib.hid hx1
  clear b1 hx1
  go_wp2_with fail
  go_loopw [19] (fun i wr => ∃ k : Nat, i = .int .i64 (k : Nat) ∧ k ≤ 24 ∧ Hid (Below w1.heap.size w1 wr)) (fun i _ => 24 - (intOf i).toNat)
  case atStart => exact ⟨0, rfl, by omega, Lib.hid (Below.refl _ _)⟩
  case round =>
    obtain ⟨k, rfl, hk, HB⟩ := hrel
    by_cases hlt : k < 24
    · obtain ⟨ad, ead, had, hcl⟩ := (HX.out.below HB.out).lies (by simp)
      cases ead
      have hck : wr.cell? ⟨w.heap.size, k, none⟩ = some (.string ⟨(wordsL.getD k []).toArray⟩) := by
        have := hcl k hlt
        rw [Addr.add_mid, Nat.zero_add] at this
        exact this
      have HW : Hid (Below w.heap.size w wr) := Lib.hid (B1.out.trans (HB.out.mono B1.out.size))
      obtain ⟨q1, q2, q3, q4, q5⟩ := HAT.out k hlt
      have D1 := Lib.hid (C1.out ((k : Nat) : Int) wr (HE.out.below HW.out))
      have D2 := Lib.hid (fun W h => C2.out ⟨(wordsL.getD k []).toArray⟩ W h)
      have D3 := Lib.hid (fun W h => C3.out ((k : Nat) : Int) W h)
      rw [q1, q2] at D1
      rw [q4, q5] at D2
      rw [q3] at D3
      clear hcl had q1 q2 q3 q4 q5
      generalize wordsL.getD k [] = y at hck D1 D2
      have hsh : Hid (∀ W x, IsStrs W x shapesL → ∃ ad, x.A = some ad ∧ W.cell? (ad.add k) = some (.string ⟨(shapesL.getD k []).toArray⟩) ∧ x.n = 24) := Lib.hid (fun W x hx => by
        obtain ⟨ad, e, _, hc⟩ := hx.lies (by rw [hx.len]; decide)
        exact ⟨ad, e, hc k (by rw [hx.len]; exact hlt), hx.len⟩)
      generalize shapesL.getD k [] = z at D3 hsh
      by_cases h0 : 0 < k
      · have hd : decide (0 < k) = true := by simpa using h0
        rw [hd] at D1 D2
        clear hd
        go_wp2_with fail
        refine D1.out.mono ?_
        rintro e w2 ⟨rfl, b2⟩
        have B2 := Lib.hid (HB.out.trans (b2.mono HB.out.size))
        have W2 := Lib.hid (HW.out.trans (b2.mono HW.out.size))
        clear b2
        go_wp2_with fail
        refine (D2.out _ (HE.out.below W2.out)).mono ?_
        rintro e w3 ⟨rfl, b3⟩
        have B3 := Lib.hid (B2.out.trans (b3.mono B2.out.size))
        have W3 := Lib.hid (W2.out.trans (b3.mono W2.out.size))
        clear b3
        go_wp2_with fail
        refine (D3.out _ (HE.out.below W3.out)).mono ?_
        rintro e w4 ⟨rfl, b4⟩
        have B4 := Lib.hid (B3.out.trans (b4.mono B3.out.size))
        clear b4
        go_wp2_with fail
        refine (C4.out _).mono ?_
        rintro e w5 ⟨⟨x, rfl, hx⟩, b5⟩
        obtain ⟨ad, eA, hcz, hxn⟩ := hsh.out _ _ hx
        have B5 := Lib.hid (B4.out.trans (b5.mono B4.out.size))
        have hkx : k < x.n := by omega
        rw [eA]
        clear b5 hx hxn eA
        go_wp2_with fail
        go_roundw
        case rel => exact ⟨k + 1, by go_num, by omega, B5⟩
        case measure => simp [intOf]; omega
      · have hd : decide (0 < k) = false := by simpa using h0
        rw [hd] at D1 D2
        clear hd
        go_wp2_with fail
        refine D1.out.mono ?_
        rintro e w2 ⟨rfl, b2⟩
        have B2 := Lib.hid (HB.out.trans (b2.mono HB.out.size))
        have W2 := Lib.hid (HW.out.trans (b2.mono HW.out.size))
        clear b2
        go_wp2_with fail
        refine (D2.out _ (HE.out.below W2.out)).mono ?_
        rintro e w3 ⟨rfl, b3⟩
        have B3 := Lib.hid (B2.out.trans (b3.mono B2.out.size))
        have W3 := Lib.hid (W2.out.trans (b3.mono W2.out.size))
        clear b3
        go_wp2_with fail
        refine (D3.out _ (HE.out.below W3.out)).mono ?_
        rintro e w4 ⟨rfl, b4⟩
        have B4 := Lib.hid (B3.out.trans (b4.mono B3.out.size))
        clear b4
        go_wp2_with fail
        refine (C4.out _).mono ?_
        rintro e w5 ⟨⟨x, rfl, hx⟩, b5⟩
        obtain ⟨ad, eA, hcz, hxn⟩ := hsh.out _ _ hx
        have B5 := Lib.hid (B4.out.trans (b5.mono B4.out.size))
        have hkx : k < x.n := by omega
        rw [eA]
        clear b5 hx hxn eA
        go_wp2_with fail
        go_roundw
        case rel => exact ⟨k + 1, by go_num, by omega, B5⟩
        case measure => simp [intOf]; omega
    · have HW : Hid (Below w.heap.size w wr) := Lib.hid (B1.out.trans (HB.out.mono B1.out.size))
      have D1 := Lib.hid (C1.out kd wr (HE.out.below HW.out))
      have D2 := Lib.hid (fun W h => C2.out s W h)
      have D3 := Lib.hid (fun W h => C3.out kd W h)
      have D4 := Lib.hid (fun x W (h : IsStrs W x (wordsL.drop 1)) => contains_strs x _ s W h)
      generalize foundF (kindP kd) = fd at HK D1 D3
      generalize foundF (wordP s) = fw at HS D2
      obtain ⟨⟨fk, fw1, fs⟩, fb⟩ := fd
      obtain ⟨⟨gk, gw1, gs⟩, gb⟩ := fw
      simp only at HK HS D1 D2 D3
      generalize (wordsL.drop 1).any (· == bl s) = KN at HS D4
      obtain ⟨hk1, hk2⟩ := HK.out
      obtain ⟨hs1, hs2⟩ := HS.out
      subst hs1
      have HK2 := Lib.hid hk2
      have HS2 := Lib.hid hs2
      have HK1 := Lib.hid hk1
      clear HK HS hk2 hs2 hk1
      go_wp2_with fail
      refine D1.out.mono ?_
      rintro e w2 ⟨rfl, b2⟩
      have W2 := Lib.hid (HW.out.trans (b2.mono HW.out.size))
      clear b2
      go_upto_region 10 with fail
      go_cut [13] (fun a wx => a = .bool fb ∧ w2 = wx)
      case first =>
        by_cases h1 : 1 ≤ kd
        · go_wp2_with fail
          go_meet
          case rel => exact ⟨congrArg Value.bool (by rw [HK1.out]; simp; omega), by first | rfl | trivial⟩
        · go_wp2_with fail
          go_meet
          case rel => exact ⟨congrArg Value.bool (by rw [HK1.out]; simp; omega), by first | rfl | trivial⟩
      case rest =>
        obtain ⟨rfl, rfl⟩ := hcut
        go_wp2_with fail
        refine (D2.out _ (HE.out.below W2.out)).mono ?_
        rintro e w3 ⟨rfl, b3⟩
        have W3 := Lib.hid (W2.out.trans (b3.mono W2.out.size))
        clear b3
        go_wp2_with fail
        refine (CW.out _).mono ?_
        rintro e w4 ⟨rfl, hx4, b4⟩
        have W4 := Lib.hid (W3.out.trans (b4.mono W3.out.size))
        have HX4 := Lib.hid (strs_drop1 hx4)
        clear b4 hx4
        go_wp2_with fail
        refine (D4.out ⟨some ⟨w3.heap.size, 1, none⟩, 23, 23⟩ _ HX4.out).mono ?_
        rintro e w5 ⟨rfl, rfl⟩
        go_wp2_with fail
        refine (C5.out _ (HE.out.below W4.out)).mono ?_
        rintro e w6 ⟨rfl, b6⟩
        have W6 := Lib.hid (W4.out.trans (b6.mono W4.out.size))
        clear b6
        cases fb
        · have hn := HK2.out HK1.out.symm
          cases hn
          cases gb
          · have hm := HS2.out rfl
            cases hm
            go_wp2_with fail
            refine (D3.out _ (HE.out.below W6.out)).mono ?_
            rintro e w7 ⟨rfl, b7⟩
            have W7 := Lib.hid (W6.out.trans (b7.mono W6.out.size))
            clear b7
            go_wp2_with fail
            go_ret
            exact ⟨rfl, W7.out⟩
          · go_wp2_with fail
            refine (D3.out _ (HE.out.below W6.out)).mono ?_
            rintro e w7 ⟨rfl, b7⟩
            have W7 := Lib.hid (W6.out.trans (b7.mono W6.out.size))
            clear b7
            go_wp2_with fail
            go_ret
            exact ⟨rfl, W7.out⟩
        · cases gb
          · have hm := HS2.out rfl
            cases hm
            go_wp2_with fail
            go_ret
            exact ⟨rfl, W6.out⟩
          · go_wp2_with fail
            go_ret
            exact ⟨rfl, W6.out⟩
end Go.Proofs.YtlcdjlmocmonaaaDoor

/- The walk of ParseBlanks. -/
import Derived.Test.YtmamgaaeeonfmaaGreatDoorPwake
import Derived.Test.YtmamgaaeeonfmaaGreatDoorPblankr
import Derived.Test.YtmamgaaeeonfmaaGreatDoorPreplace
import Derived.Test.YtmamgaaeeonfmaaGreatDoorMequal3
import Derived.Test.YtmamgaaeeonfmaaGreatDoorMstr
import Derived.Lib.MinMax
import Derived.Lib.IndexLaws
namespace Go.Proofs.YtmamgaaeeonfmaaGreatDoor
open Go.RowKit Go.Sort Go.Maps

theorem bl_append (a b : ByteArray) : bl (a ++ b) = bl a ++ bl b := by
  simp [bl]
/-- The library's MaxLen holds some number. -/
def MaxC (w : World) : Prop := ∃ m, w.cell? ⟨0, 0, none⟩ = some (.int .i64 m)
theorem MaxC.below {w w' : World} (h : MaxC w) (hb : Below w.heap.size w w') : MaxC w' := by
  obtain ⟨m, hm⟩ := h
  exact ⟨m, (hb.cell (World.block_lt_of_cell? w _ hm)).trans hm⟩
theorem replace_one (s : ByteArray) (x : UInt8) (new : ByteArray) (w : World) (hC : MaxC w) (hs : s.size ≤ 1000000) (hn : new.size ≤ 1000) :
    Calls Tryz.prog 10 #[.string s, .string ⟨#[x]⟩, .string new] w fun e w' => e = .returned (.string (txt ((bl s).flatMap (rep x (bl new))))) ∧ Below w.heap.size w w' := by
  obtain ⟨m, hm⟩ := hC
  have hc : Lib.countB s ⟨#[x]⟩ ≤ s.size := by
    show Lib.count s.data.toList [x] ≤ s.size
    rw [Lib.count_one]
    exact List.count_le_length
  have hp : Lib.countB s ⟨#[x]⟩ * new.size ≤ 1000000 * 1000 := Nat.mul_le_mul (by omega) hn
  refine (Tryz.strings_ReplaceAll s ⟨#[x]⟩ new m w (by omega) hm (Nat.le_refl 1) (by omega)).mono ?_
  rintro e w' ⟨rfl, hb⟩
  refine ⟨?_, hb⟩
  have := replaceAll_rep x (bl new) (bl s)
  unfold txt
  rw [← this]
  rfl
theorem signs_at (k : Nat) (h : k < 9) : (#[.string ⟨#[40]⟩, .string ⟨#[41]⟩, .string ⟨#[91]⟩, .string ⟨#[93]⟩, .string ⟨#[123]⟩, .string ⟨#[125]⟩, .string ⟨#[44]⟩, .string ⟨#[59]⟩, .string ⟨#[58]⟩] : Array Value)[k]? = some (.string ⟨#[signsL.getD k 0]⟩) := by
  have h9 : k = 0 ∨ k = 1 ∨ k = 2 ∨ k = 3 ∨ k = 4 ∨ k = 5 ∨ k = 6 ∨ k = 7 ∨ k = 8 := by omega
  rcases h9 with rfl | rfl | rfl | rfl | rfl | rfl | rfl | rfl | rfl <;> rfl
theorem has_no {s : ByteArray} {c : UInt8} (h : hasC s c = false) : ∀ x ∈ bl s, x ≠ c := by
  intro x hx e
  subst e
  unfold hasC at h
  simp only [decide_eq_false_iff_not] at h
  apply h
  apply Classical.byContradiction
  intro hlt
  have hge := Lib.indexByte_ge (bl s) x
  obtain ⟨k, hk⟩ := List.getElem?_of_mem hx
  exact Lib.indexByte_none (by omega : Lib.indexByte (bl s) x = -1) k hk
theorem sgx_nil : ∀ l : Bs, l.flatMap (sgx []) = l
  | [] => rfl
  | c :: l => by
    rw [List.flatMap_cons, sgx_nil l]
    rfl
abbrev signO : Obj := Obj.cells #[.string ⟨#[40]⟩, .string ⟨#[41]⟩, .string ⟨#[91]⟩, .string ⟨#[93]⟩, .string ⟨#[123]⟩, .string ⟨#[125]⟩, .string ⟨#[44]⟩, .string ⟨#[59]⟩, .string ⟨#[58]⟩] 9
theorem rep_len (x : UInt8) {new : Bs} (k : Nat) (hn : new.length ≤ k) (hk : 1 ≤ k) : ∀ s : Bs, (s.flatMap (rep x new)).length ≤ k * s.length
  | [] => by simp
  | c :: s => by
    have := rep_len x k hn hk s
    rw [List.flatMap_cons, List.length_append, List.length_cons, Nat.mul_add, Nat.mul_one]
    have h1 : (rep x new c).length ≤ k := by
      unfold rep
      split
      · exact hn
      · simpa using hk
    omega
theorem eq_self (m : ModL) : eqMod m m = true := (eqMod_iff m m).2 rfl
/-- Parse of a text whose model is known. -/
theorem parse_known {m : ModL} {bs : Bs} (hp : parseA bs = (m, 0, 0)) (S : ByteArray) (hS : bl S = bs) (hl : S.size ≤ 1000000) (W : World) (hE : EntIn W) (hT : TabZ W) : Calls Tryz.prog 6 #[.string S] W fun e w' => ∃ v : ModV, e = .returned (.tuple #[v.val m.goal m.obj, .int .i64 0, .int .i64 0]) ∧ ModIn w' v m ∧ Below W.heap.size W w' := by
  refine (parse_any S W (by omega) hE hT).mono ?_
  rw [hS, hp]
  rintro e w' ⟨v, h1, h2, h3⟩
  exact ⟨v, h1, h2, h3⟩
abbrev modO (v : ModV) (m : ModL) : Obj := Obj.cells #[Value.slice v.n.A v.n.n v.n.c, Value.slice v.d.A v.d.n v.d.c, Value.slice v.c.A v.c.n v.c.c, Value.int .i64 m.goal, Value.int .i64 m.obj] 26
/-- A model that lies in a box, and stays there. -/
structure Boxed (W : World) (b : Nat) (v : ModV) (m : ModL) : Prop where
  mod : ModIn W v m
  lt : b < W.heap.size
  c0 : W.cell? ⟨b, 0, none⟩ = some (.slice v.n.A v.n.n v.n.c)
  c1 : W.cell? ⟨b, 1, none⟩ = some (.slice v.d.A v.d.n v.d.c)
  c2 : W.cell? ⟨b, 2, none⟩ = some (.slice v.c.A v.c.n v.c.c)
  c3 : W.cell? ⟨b, 3, none⟩ = some (.int .i64 m.goal)
  c4 : W.cell? ⟨b, 4, none⟩ = some (.int .i64 m.obj)
theorem Boxed.below {W W' : World} {b : Nat} {v : ModV} {m : ModL} (h : Boxed W b v m) (hb : Below W.heap.size W W') : Boxed W' b v m :=
  ⟨h.mod.below hb, Nat.lt_of_lt_of_le h.lt hb.size, (hb.cell h.lt).trans h.c0, (hb.cell h.lt).trans h.c1, (hb.cell h.lt).trans h.c2, (hb.cell h.lt).trans h.c3, (hb.cell h.lt).trans h.c4⟩
theorem Boxed.new {W : World} {v : ModV} {m : ModL} (h : ModIn W v m) : Boxed (W.alloc (modO v m)) W.heap.size v m :=
  ⟨h.below (below1 _ _), by simp, by simp [modO], by simp [modO], by simp [modO], by simp [modO], by simp [modO]⟩

set_option maxHeartbeats 4000000 in
set_option maxRecDepth 100000 in
theorem blanks_walk (s more : ByteArray) (w : World) (hs : s.size ≤ 9223372036854775807) (hmo : more.size ≤ 9223372036854775807) (hE : EntIn w) (hT : TabZ w) (hC : MaxC w) : Calls Tryz.prog 4 #[.string s, .string more] w fun e w' => e = .returned (.bool true) ∧ Below w.heap.size w w' := by
  have C1 := Lib.hid parse_any
  have C2 := Lib.hid parse_wakes
  have C3 := Lib.hid equal_any
  have C4 := Lib.hid contains_one
  have C5 := Lib.hid replace_one
  have HE := Lib.hid hE
  have HT := Lib.hid hT
  have HC := Lib.hid hC
  clear hE hT hC
  have hsz : (s.extract 0 (min (s.size : Int) 1000).toNat).size ≤ 1000 := by
    rw [ByteArray.size_extract]
    omega
  have hmz : (more.extract 0 (min (more.size : Int) 20).toNat).size ≤ 20 := by
    rw [ByteArray.size_extract]
    omega
  go_enter Tryz.func4, Tryz.ntmps4
  go_wp2_with fail
  generalize s.extract 0 (min (s.size : Int) 1000).toNat = t at hsz
  generalize min (s.size : Int) 1000 = mm
  refine (C1.out t _ (by omega) HE.out HT.out).mono ?_
  rintro e w1 ⟨v, rfl, hm, b1⟩
  generalize hR : parseA (bl t) = R at hm
  obtain ⟨m, p, er⟩ := R
  simp only at hm ⊢
  have HR := Lib.hid hR
  have B1 := Lib.hid b1
  have M1 := Lib.hid hm
  clear hm b1 hR
  obtain ⟨⟨nA, nn, nc⟩, ⟨dA, dn, dc⟩, ⟨cA, cn, cc⟩⟩ := v
  have BA := Lib.hid (B1.out.trans ((below1 w1 (Obj.cells #[Value.slice nA nn nc, Value.slice dA dn dc, Value.slice cA cn cc, Value.int .i64 m.goal, Value.int .i64 m.obj] 26)).mono B1.out.size))
  cases hz : (er != 0) with
  | true =>
    go_wp2_with fail
    refine (C2.out _ (HE.out.below BA.out) (HT.out.below BA.out)).mono ?_
    rintro e w2 ⟨rfl, b2⟩
    have B2 := Lib.hid (BA.out.trans (b2.mono BA.out.size))
    clear b2
    go_wp2_with fail
    go_ret
    exact ⟨rfl, B2.out⟩
  | false =>
    have he : er = 0 := by simpa using hz
    subst he
    go_wp2_with fail
    generalize more.extract 0 (min (more.size : Int) 20).toNat = u at hmz
    generalize min (more.size : Int) 20 = mm2
    refine (C5.out u 10 _ _ (HC.out.below BA.out) (by omega) (by decide)).mono ?_
    have hq10 := rep_no10 (bl u)
    have hql := rep_len1 (bl u)
    rw [show bl ⟨#[32]⟩ = [32] from rfl]
    generalize (bl u).flatMap (rep 10 [32]) = q at hq10 hql ⊢
    rw [bl_len] at hql
    have HQ := Lib.hid hq10
    have hq20 : q.length ≤ 20 := by omega
    have HQ2 := Lib.hid hq20
    clear hq10 hql hq20
    rintro e w2 ⟨rfl, b2⟩
    have X2 := Lib.hid ((Boxed.new M1.out).below b2)
    have B2 := Lib.hid (BA.out.trans (b2.mono BA.out.size))
    clear b2 BA B1 M1
    have hc : bl (⟨#[37, 32]⟩ ++ txt q ++ ⟨#[10]⟩) = comL q := by
      rw [bl_append, bl_append, bl_txt]
      unfold comL
      rfl
    have HCQ := Lib.hid hc
    clear hc
    have hQ20 : (txt q).size ≤ 20 := by rw [txt_size]; exact HQ2.out
    go_wp2_with fail
    generalize hc0 : (⟨#[37, 32]⟩ : ByteArray) ++ txt q ++ ⟨#[10]⟩ = c0 at HCQ
    have HCS : Hid (c0.size ≤ 23) := Lib.hid (by
      have := HQ2.out
      rw [← bl_len, HCQ.out]
      unfold comL
      simp
      omega)
    clear hc0 hQ20
    go_loopw [9, 43] (fun tv i wr => ∃ k : Nat, k ≤ 9 ∧ i = .int .i64 (k : Nat) ∧ tv = .string (txt ((bl t).flatMap (sgx (signsL.take k)))) ∧ Below (w2.alloc signO).heap.size (w2.alloc signO) wr) (fun _ i _ => 9 - (intOf i).toNat)
    case atStart => exact ⟨0, by omega, rfl, by rw [List.take_zero, sgx_nil, txt_bl], Below.refl _ _⟩
    case round =>
      obtain ⟨k, hk, rfl, rfl, hbr⟩ := hrel
      by_cases hlt : k < 9
      · have cx : wr.cell? ⟨w2.heap.size, k, none⟩ = some (.string ⟨#[signsL.getD k 0]⟩) := by
          rw [hbr.cell (by simp)]
          have := signs_at k hlt
          simpa [signO] using this
        have hstep := signs_step (bl t) k hlt
        have hlen := sgx_len (signsL.take k) (bl t)
        rw [bl_len] at hlen
        have hbl : bl (⟨#[10]⟩ ++ ⟨#[signsL.getD k 0]⟩ ++ ⟨#[32, 9]⟩) = [10, signsL.getD k 0, 32, 9] := by
          rw [bl_append, bl_append]
          rfl
        generalize signsL.getD k 0 = x at cx hstep hbl
        generalize hT1 : (bl t).flatMap (sgx (signsL.take k)) = T1 at hstep hlen
        have HS := Lib.hid hstep
        have HBR := Lib.hid hbr
        have HX := Lib.hid hbl
        have HTL : Hid ((txt T1).size ≤ 4000) := Lib.hid (by rw [txt_size]; omega)
        clear hstep hbr hbl hT1 hlen
        go_wp2_with fail
        have hbw : Below w2.heap.size w2 wr := (below1 w2 signO).trans (HBR.out.mono (by simp))
        refine (C5.out (txt T1) x _ wr (HC.out.below (B2.out.trans (hbw.mono B2.out.size))) (by have := HTL.out; omega) (by rw [← bl_len, HX.out]; simp)).mono ?_
        rw [bl_txt, HX.out, HS.out]
        rintro e w3 ⟨rfl, b3⟩
        clear hbw
        go_wp2_with fail
        go_roundw
        case rel => exact ⟨k + 1, by omega, by go_num, rfl, HBR.out.trans (b3.mono HBR.out.size)⟩
        case measure => simp [intOf]; omega
      · have hk9 : k = 9 := by omega
        subst hk9
        have hbw : Below w2.heap.size w2 wr := (below1 w2 signO).trans (hbr.mono (by simp))
        have X3 := Lib.hid (X2.out.below hbw)
        have B3 := Lib.hid (B2.out.trans (hbw.mono B2.out.size))
        have hlen := sgx_len signsL (bl t)
        rw [bl_len] at hlen
        rw [show signsL.take 9 = signsL from rfl]
        have hP : (parseA (bl t)).2.2 = 0 := by rw [HR.out]
        have hts : (bl t).length ≤ 1000 := by rw [bl_len]; exact hsz
        have CA := Lib.hid (parse_known (blanks_one HQ.out hts HQ2.out hP))
        have CB := Lib.hid (fun h => parse_known (blanks_two HQ.out hts HQ2.out h hP))
        rw [HR.out] at CA CB
        simp only at CA CB
        have hS1 : bl (c0 ++ t ++ ⟨#[10]⟩ ++ c0) = comL q ++ bl t ++ 10 :: comL q := by
          rw [bl_append, bl_append, bl_append, HCQ.out, List.append_assoc, List.append_assoc, List.append_assoc]
          rfl
        have HS1 := Lib.hid hS1
        have hcs := HCS.out
        have HZ1 : Hid ((c0 ++ t ++ ⟨#[10]⟩ ++ c0).size ≤ 1000000) := Lib.hid (by
          have h1 : (⟨#[10]⟩ : ByteArray).size = 1 := rfl
          rw [ByteArray.size_append, ByteArray.size_append, ByteArray.size_append]
          omega)
        have HZ2 : Hid ((c0 ++ ⟨#[59]⟩).size ≤ 24) := Lib.hid (by
          have h1 : (⟨#[59]⟩ : ByteArray).size = 1 := rfl
          rw [ByteArray.size_append]
          omega)
        generalize hT9 : (bl t).flatMap (sgx signsL) = T9 at hlen CB
        have HT9 := Lib.hid hlen
        clear hT9 hlen hbr hbw hP hts hS1 X2 B2 HR hlt hk C1
        go_wp2_with fail
        refine (CA.out _ HS1.out HZ1.out _ (HE.out.below B3.out) (HT.out.below B3.out)).mono ?_
        rintro e w4 ⟨v2, rfl, m4, b4⟩
        have X4 := Lib.hid (And.intro ((X3.out.below b4).below (below1 _ (modO v2 m))) (Boxed.new m4))
        have B4 := Lib.hid (B3.out.trans ((b4.trans ((below1 w4 (modO v2 m)).mono b4.size)).mono B3.out.size))
        clear X3 B3 m4 b4 CA HS1
        obtain ⟨⟨nA2, nn2, nc2⟩, ⟨dA2, dn2, dc2⟩, ⟨cA2, cn2, cc2⟩⟩ := v2
        go_wp2_with fail
        refine (C4.out t 37 _).mono ?_
        rintro e w5 ⟨rfl, rfl⟩
        cases hh : hasC t 37 with
        | true =>
          clear C4 C5 CB
          go_wp2_with fail
          refine (C2.out _ (HE.out.below B4.out) (HT.out.below B4.out)).mono ?_
          rintro e w5 ⟨rfl, b5⟩
          have X5 := Lib.hid (And.intro (X4.out.1.below b5) (X4.out.2.below b5))
          have B5 := Lib.hid (B4.out.trans (b5.mono B4.out.size))
          clear X4 B4 b5
          have p0 : w5.cell? ⟨w1.heap.size, 0, none⟩ = some (.slice nA nn nc) := X5.out.1.c0
          have p1 : w5.cell? ⟨w1.heap.size, 1, none⟩ = some (.slice dA dn dc) := X5.out.1.c1
          have p2 : w5.cell? ⟨w1.heap.size, 2, none⟩ = some (.slice cA cn cc) := X5.out.1.c2
          have p3 : w5.cell? ⟨w1.heap.size, 3, none⟩ = some (.int .i64 m.goal) := X5.out.1.c3
          have p4 : w5.cell? ⟨w1.heap.size, 4, none⟩ = some (.int .i64 m.obj) := X5.out.1.c4
          have q0 : w5.cell? ⟨w4.heap.size, 0, none⟩ = some (.slice nA2 nn2 nc2) := X5.out.2.c0
          have q1 : w5.cell? ⟨w4.heap.size, 1, none⟩ = some (.slice dA2 dn2 dc2) := X5.out.2.c1
          have q2 : w5.cell? ⟨w4.heap.size, 2, none⟩ = some (.slice cA2 cn2 cc2) := X5.out.2.c2
          have q3 : w5.cell? ⟨w4.heap.size, 3, none⟩ = some (.int .i64 m.goal) := X5.out.2.c3
          have q4 : w5.cell? ⟨w4.heap.size, 4, none⟩ = some (.int .i64 m.obj) := X5.out.2.c4
          go_wp2_with fail
          refine (C3.out ⟨⟨nA, nn, nc⟩, ⟨dA, dn, dc⟩, ⟨cA, cn, cc⟩⟩ ⟨⟨nA2, nn2, nc2⟩, ⟨dA2, dn2, dc2⟩, ⟨cA2, cn2, cc2⟩⟩ m m _ X5.out.1.mod X5.out.2.mod).mono ?_
          rw [eq_self]
          rintro e w6 ⟨rfl, b6⟩
          have B6 := Lib.hid (B5.out.trans (b6.mono B5.out.size))
          clear b6 X5 B5 p0 p1 p2 p3 p4 q0 q1 q2 q3 q4
          go_wp2_with fail
          go_ret
          exact ⟨rfl, B6.out⟩
        | false =>
          have CB' := Lib.hid (CB.out (has_no hh))
          have hN : bl (c0 ++ ⟨#[59]⟩) = comL q ++ [59] := by
            rw [bl_append, HCQ.out]
            rfl
          have HN := Lib.hid hN
          have HT9s : Hid ((txt T9).size ≤ 4000) := Lib.hid (by have := HT9.out; rw [txt_size]; omega)
          clear CB hh hN C4
          go_wp2_with fail
          refine (C5.out (txt T9) 59 _ _ (HC.out.below B4.out) (by have := HT9s.out; omega) (by have := HZ2.out; omega)).mono ?_
          rw [bl_txt, HN.out]
          rintro e w5 ⟨rfl, b5⟩
          have X5 := Lib.hid (And.intro (X4.out.1.below b5) (X4.out.2.below b5))
          have B5 := Lib.hid (B4.out.trans (b5.mono B4.out.size))
          clear X4 B4 b5
          go_wp2_with fail
          refine (CB'.out _ (bl_txt _) ?_ _ (HE.out.below B5.out) (HT.out.below B5.out)).mono ?_
          · rw [txt_size]
            have hz := HZ2.out
            rw [← bl_len, HN.out] at hz
            have := rep_len 59 24 hz (by decide) T9
            have := HT9.out
            omega
          rintro e w6 ⟨v3, rfl, m6, b6⟩
          have X6 := Lib.hid (And.intro ((X5.out.1.below b6).below (below1 _ (modO v3 m))) (And.intro ((X5.out.2.below b6).below (below1 _ (modO v3 m))) (Boxed.new m6)))
          have B6 := Lib.hid (B5.out.trans ((b6.trans ((below1 w6 (modO v3 m)).mono b6.size)).mono B5.out.size))
          clear X5 B5 m6 b6 CB'
          obtain ⟨⟨nA3, nn3, nc3⟩, ⟨dA3, dn3, dc3⟩, ⟨cA3, cn3, cc3⟩⟩ := v3
          go_wp2_with fail
          refine (C2.out _ (HE.out.below B6.out) (HT.out.below B6.out)).mono ?_
          rintro e w7 ⟨rfl, b7⟩
          have X7 := Lib.hid (And.intro (X6.out.1.below b7) (And.intro (X6.out.2.1.below b7) (X6.out.2.2.below b7)))
          have B7 := Lib.hid (B6.out.trans (b7.mono B6.out.size))
          clear X6 B6 b7
          have p0 : w7.cell? ⟨w1.heap.size, 0, none⟩ = some (.slice nA nn nc) := X7.out.1.c0
          have p1 : w7.cell? ⟨w1.heap.size, 1, none⟩ = some (.slice dA dn dc) := X7.out.1.c1
          have p2 : w7.cell? ⟨w1.heap.size, 2, none⟩ = some (.slice cA cn cc) := X7.out.1.c2
          have p3 : w7.cell? ⟨w1.heap.size, 3, none⟩ = some (.int .i64 m.goal) := X7.out.1.c3
          have p4 : w7.cell? ⟨w1.heap.size, 4, none⟩ = some (.int .i64 m.obj) := X7.out.1.c4
          have q0 : w7.cell? ⟨w4.heap.size, 0, none⟩ = some (.slice nA2 nn2 nc2) := X7.out.2.1.c0
          have q1 : w7.cell? ⟨w4.heap.size, 1, none⟩ = some (.slice dA2 dn2 dc2) := X7.out.2.1.c1
          have q2 : w7.cell? ⟨w4.heap.size, 2, none⟩ = some (.slice cA2 cn2 cc2) := X7.out.2.1.c2
          have q3 : w7.cell? ⟨w4.heap.size, 3, none⟩ = some (.int .i64 m.goal) := X7.out.2.1.c3
          have q4 : w7.cell? ⟨w4.heap.size, 4, none⟩ = some (.int .i64 m.obj) := X7.out.2.1.c4
          go_wp2_with fail
          refine (C3.out ⟨⟨nA, nn, nc⟩, ⟨dA, dn, dc⟩, ⟨cA, cn, cc⟩⟩ ⟨⟨nA2, nn2, nc2⟩, ⟨dA2, dn2, dc2⟩, ⟨cA2, cn2, cc2⟩⟩ m m _ X7.out.1.mod X7.out.2.1.mod).mono ?_
          rw [eq_self]
          rintro e w8 ⟨rfl, b8⟩
          have X8 := Lib.hid (And.intro (X7.out.1.below b8) (X7.out.2.2.below b8))
          have B8 := Lib.hid (B7.out.trans (b8.mono B7.out.size))
          clear b8 X7 B7 p0 p1 p2 p3 p4 q0 q1 q2 q3 q4
          have p0 : w8.cell? ⟨w1.heap.size, 0, none⟩ = some (.slice nA nn nc) := X8.out.1.c0
          have p1 : w8.cell? ⟨w1.heap.size, 1, none⟩ = some (.slice dA dn dc) := X8.out.1.c1
          have p2 : w8.cell? ⟨w1.heap.size, 2, none⟩ = some (.slice cA cn cc) := X8.out.1.c2
          have p3 : w8.cell? ⟨w1.heap.size, 3, none⟩ = some (.int .i64 m.goal) := X8.out.1.c3
          have p4 : w8.cell? ⟨w1.heap.size, 4, none⟩ = some (.int .i64 m.obj) := X8.out.1.c4
          have q0 : w8.cell? ⟨w6.heap.size, 0, none⟩ = some (.slice nA3 nn3 nc3) := X8.out.2.c0
          have q1 : w8.cell? ⟨w6.heap.size, 1, none⟩ = some (.slice dA3 dn3 dc3) := X8.out.2.c1
          have q2 : w8.cell? ⟨w6.heap.size, 2, none⟩ = some (.slice cA3 cn3 cc3) := X8.out.2.c2
          have q3 : w8.cell? ⟨w6.heap.size, 3, none⟩ = some (.int .i64 m.goal) := X8.out.2.c3
          have q4 : w8.cell? ⟨w6.heap.size, 4, none⟩ = some (.int .i64 m.obj) := X8.out.2.c4
          go_wp2_with fail
          refine (C3.out ⟨⟨nA, nn, nc⟩, ⟨dA, dn, dc⟩, ⟨cA, cn, cc⟩⟩ ⟨⟨nA3, nn3, nc3⟩, ⟨dA3, dn3, dc3⟩, ⟨cA3, cn3, cc3⟩⟩ m m _ X8.out.1.mod X8.out.2.mod).mono ?_
          rw [eq_self]
          rintro e w9 ⟨rfl, b9⟩
          have B9 := Lib.hid (B8.out.trans (b9.mono B8.out.size))
          clear b9 X8 B8 p0 p1 p2 p3 p4 q0 q1 q2 q3 q4
          go_wp2_with fail
          go_ret
          exact ⟨rfl, B9.out⟩
end Go.Proofs.YtmamgaaeeonfmaaGreatDoor

/- Contracts: Itoa, Join, naming, lists of anything. -/
import Derived.Test.YtgemgmdnnjaghaaGreatDoorTprint
import Derived.Test.YtgemgmdnnjaghaaGreatDoorTshelf
import Derived.Test.YtgemgmdnnjaghaaGreatDoorPm
import Derived.Lib.AppendIntMem
import Derived.Lib.Hide
namespace Go.Proofs.YtgemgmdnnjaghaaGreatDoor
open Go.RowKit Go.Sort

/-- The library's table of powers of ten. -/
def PowIn (w : World) : Prop := Lib.TabIs Tryz.prog w "internal/strconv.uint64pow10" .u64 Lib.pow10Tab
theorem PowIn.below {w w' : World} (h : PowIn w) (hb : Below w.heap.size w w') : PowIn w' := Lib.tabBelow_of_tabIs h w' hb
theorem itoa_any (n : Int) (w : World) (hP : PowIn w) (h0 : -9999999999 ≤ n) (h1 : n ≤ 9999999999) : Calls Tryz.prog 51 #[.int .i64 n] w fun e w' => e = .returned (.string (txt (Lib.itoa n))) ∧ Below w.heap.size w w' := by
  refine (Tryz.strconv_Itoa n (by omega) (by omega) w hP).mono ?_
  rintro e w' ⟨rfl, k, os, rfl⟩
  exact ⟨rfl, Lib.below_grow _ _ (Nat.le_refl _) k os⟩
theorem join_row (g c : Nat) (ls : List Bs) (sep : UInt8) (w : World) (hrow : ∀ (j : Nat) x, ls[j]? = some x → w.cell? ⟨g, j, none⟩ = some (.string (txt x))) (hg : g < w.heap.size) (hN : ls.length ≤ 1000000) (hcap : ls.length ≤ c) (hlen : (Lib.join ls [sep]).length ≤ 1000000000) :
    Calls Tryz.prog 24 #[.slice (some ⟨g, 0, none⟩) ls.length c, .string ⟨#[sep]⟩] w fun e w' => e = .returned (.string (txt (Lib.join ls [sep]))) ∧ Below w.heap.size w w' := by
  have hm : (ls.map txt).map (·.data.toList) = ls := by
    rw [List.map_map]
    conv => rhs; rw [← List.map_id ls]
    apply List.map_congr_left
    intro x _
    simp [txt]
  have := Tryz.strings_Join g 0 c (ls.map txt) ⟨#[sep]⟩ w (fun j x hj => by
    rw [List.getElem?_map] at hj
    obtain ⟨y, hy, rfl⟩ := Option.map_eq_some_iff.1 hj
    rw [Nat.zero_add]
    exact hrow j y hy) hg (by rw [List.length_map]; omega) (by rw [List.length_map]; omega) (by rw [hm]; exact Nat.le_trans hlen (by decide))
  rw [hm, List.length_map] at this
  exact this
theorem naming1_same (v : Int) (x : Sl) (names : List Bs) (a : Nat) (w : World) (h : IsStrs w x names) (hc : w.cell? ⟨a, 0, none⟩ = some (.slice x.A x.n x.c)) (h0 : 0 ≤ v) (h1 : v < (names.length : Int)) :
    Calls Tryz.prog 50 (#[.int .i64 v] ++ #[.pointer (some ⟨a, 0, none⟩)]) w fun e w' => e = .returned (.string (txt (nmV names v))) ∧ w = w' := by
  show Calls Tryz.prog 50 #[.int .i64 v, .pointer (some ⟨a, 0, none⟩)] w _
  obtain ⟨A, n, c⟩ := x
  obtain ⟨hn, hL, hbig, hcap⟩ := h
  simp only at hn hL hbig hcap hc
  obtain ⟨k, rfl⟩ : ∃ k : Nat, v = (k : Int) := ⟨v.toNat, by omega⟩
  have hk : k < n := by omega
  obtain ⟨ad, rfl, hbk, hcl⟩ := hL (by omega)
  have hck := hcl k hk
  have he : nmV names ((k : Nat) : Int) = names.getD k [] := by
    unfold nmV
    simp
  rw [he]
  have hck2 : w.cell? (ad.add k) = some (.string (txt (names.getD k []))) := hck
  generalize names.getD k [] = b at hck2
  clear hcl he hn hL h0 h1 hck
  go_enter Tryz.func50, Tryz.ntmps50
  go_wp2_with fail
  go_ret
  exact ⟨rfl, rfl⟩
theorem naming1_any (v : Int) (x : Sl) (names : List Bs) (a : Nat) (w : World) (h : IsStrs w x names) (hc : w.cell? ⟨a, 0, none⟩ = some (.slice x.A x.n x.c)) (h0 : 0 ≤ v) (h1 : v < (names.length : Int)) :
    Calls Tryz.prog 50 (#[.int .i64 v] ++ #[.pointer (some ⟨a, 0, none⟩)]) w fun e w' => e = .returned (.string (txt (nmV names v))) ∧ Below w.heap.size w w' :=
  (naming1_same v x names a w h hc h0 h1).mono fun _ _ ⟨h2, h3⟩ => ⟨h2, h3 ▸ Below.refl _ _⟩

/-- A row of texts that is being filled. -/
def RS (ss : List Bs) (n k : Nat) : List Value := (ss.take k).map (fun b => Value.string (txt b)) ++ List.replicate (n - k) (.string ⟨#[]⟩)
theorem RS_set {ss : List Bs} {n k : Nat} (h : k < ss.length) (hn : k < n) : (RS ss n k).set k (.string (txt (ss.getD k []))) = RS ss n (k + 1) := by
  unfold RS
  have hl : ((ss.take k).map (fun b => Value.string (txt b))).length = k := by rw [List.length_map, List.length_take]; omega
  rw [List.set_append_right _ _ (by omega), hl, Nat.sub_self]
  obtain ⟨j, hj⟩ : ∃ j, n - k = j + 1 := ⟨n - k - 1, by omega⟩
  rw [hj, List.replicate_succ, List.set_cons_zero, show n - (k + 1) = j by omega, List.take_add_one, List.getElem?_eq_getElem h, List.map_append, List.append_assoc, List.getD_eq_getElem?_getD, List.getElem?_eq_getElem h]
  rfl
theorem RS_at {ss : List Bs} {n k : Nat} (hs : k ≤ ss.length) (hn : k < n) : (RS ss n k)[k]? = some (RS ss n k)[k]?.get! := by
  have : k < (RS ss n k).length := by
    unfold RS
    rw [List.length_append, List.length_replicate, List.length_map, List.length_take]
    by_cases h : k ≤ ss.length
    · rw [Nat.min_eq_left h]; omega
    · exact absurd hs h
  rw [List.getElem?_eq_getElem this]
  rfl
theorem infoStr9 : (Tryz.prog.info? 9).map (fun i => (i.zero, i.size, i.bytes)) = some (some (.string ⟨#[]⟩), 1, 16) := by kernel_rfl
theorem bl_append' (a b : ByteArray) : bl (a ++ b) = bl a ++ bl b := by
  simp [bl]

set_option maxHeartbeats 4000000 in
set_option maxRecDepth 100000 in
theorem list_ints (g : Nat) (caps : Array Value) (eg : ∀ args w, (callFunc g args).run Tryz.prog w = .ok (.enter g args) w) (f : Int → Bs) (first last : UInt8) (x : Sl) (L : List (Int)) (w : World) (h : IsInts w x L) (hs : L.length ≤ 1000000) (hlen : (brT first last (L.map f)).length ≤ 1000000000)
    (hp : ∀ z ∈ L, ∀ (W : World), Below w.heap.size w W → Calls Tryz.prog g (#[.int .i64 z] ++ caps) W fun e w' => e = .returned (.string (txt (f z))) ∧ Below W.heap.size W w') :
    Calls Tryz.prog 52 #[.string ⟨#[first]⟩, .slice x.A x.n x.c, .string ⟨#[last]⟩, .func (.func g) #[] caps] w fun e w' => e = .returned (.string (txt (brT first last (L.map f)))) ∧ Below w.heap.size w w' := by
  obtain ⟨A, n, c⟩ := x
  obtain ⟨hn, hL, hbig, hcap⟩ := h
  simp only at hn hL hbig ⊢
  obtain ⟨i0, hi, hz0, hz1, hz2⟩ := info_parts infoStr9
  have hmk : (Instr.makeSlice 26 (.int .i64 (n : Nat)) (.int .i64 (n : Nat))).run Tryz.prog w = .ok (.slice (some ⟨w.heap.size, 0, none⟩) n n) (w.alloc (.cells (madeCells #[.string ⟨#[]⟩] n) 9)) := by
    have := run_make (P := Tryz.prog) w 26 9 i0 (.string ⟨#[]⟩) Tryz.underlying26 hi hz0 .i64 .i64 (n : Nat) (n : Nat) (by omega) (by omega) (by rw [hz2]; omega) (by omega)
    rw [this, hz1]
    simp [Value.cells]
  have hrow : (w.alloc (.cells (madeCells #[.string ⟨#[]⟩] n) 9)).ownsRow w.heap.size 9 1 (.slice (some ⟨w.heap.size, 0, none⟩) n n) n (RS (L.map f) n 0) := by
    have := World.ownsRow_lit (base := w.heap.size) (e := 9) (size := 1) w (madeCells #[Value.string ⟨#[]⟩] n) n (Nat.le_refl _) (by unfold maxLen; omega) (by simp [madeCells])
    rw [toList_madeCells_one] at this
    simpa [RS] using this
  have HR := Lib.hid hrow
  have HL := Lib.hid hL
  have HP := Lib.hid hp
  have Hn := Lib.hid hn.symm
  have HLEN := Lib.hid hlen
  have hn6 : n ≤ 1000000 := by omega
  clear hp hL hn hlen hs hi hz0 hz1 hz2 hrow
  go_enter Tryz.func52, Tryz.ntmps52
  go_wp2_with fail
  go_loopw [17] (fun i wr => ∃ k : Nat, k ≤ n ∧ i = .int .i64 (k : Nat) ∧ Hid (wr.ownsRow w.heap.size 9 1 (.slice (some ⟨w.heap.size, 0, none⟩) n n) n (RS (L.map f) n k)) ∧ Hid (Below w.heap.size w wr)) (fun i _ => n - (intOf i).toNat)
  case atStart => exact ⟨0, by omega, rfl, HR, Lib.hid (below1 _ _)⟩
  case round =>
    obtain ⟨k, hk, rfl, HO, HB⟩ := hrel
    by_cases hlt : k < n
    · obtain ⟨ad, rfl, hbk, hcl⟩ := HL.out (by omega)
      have hck : wr.cell? (ad.add k) = some (.int .i64 (L.getD k 0)) := (HB.out.cell (by rw [add_block]; exact hbk)).trans (hcl k hlt)
      have hlk : k < (L.map f).length := by rw [List.length_map, Hn.out]; exact hlt
      have HK : Hid (k ≤ (L.map f).length) := Lib.hid (Nat.le_of_lt hlk)
      have HS := Lib.hid (RS_set (ss := L.map f) (n := n) (k := k) hlk hlt)
      have hLk : k < L.length := by rw [Hn.out]; exact hlt
      have hfk : (L.map f).getD k [] = f (L.getD k 0) := by
        rw [List.getD_eq_getElem?_getD, List.getElem?_map, List.getD_eq_getElem?_getD, List.getElem?_eq_getElem hLk]
        rfl
      have hin : L.getD k 0 ∈ L := by
        rw [List.getD_eq_getElem?_getD, List.getElem?_eq_getElem hLk]
        exact List.getElem_mem hLk
      have cS := Lib.hid (HP.out _ hin wr HB.out)
      rw [hfk] at HS
      clear hcl hbk hfk hin hlk hLk
      generalize L.getD k 0 = z at hck HS cS
      go_wp2_with fail
      refine cS.out.mono ?_
      rintro e w1 ⟨rfl, b1⟩
      have hO1 := own_below HO.out b1
      have cw := hO1.cellAt k (by omega)
      rw [RS_at (ss := L.map f) (n := n) (k := k) HK.out hlt] at cw
      have fw := hO1.frozenAt k
      have hst := (hO1.stored k (.string (txt (f z)))).1
      rw [HS.out] at hst
      have HO2 := Lib.hid hst
      have HB2 := Lib.hid (HB.out.trans (b1.mono HB.out.size))
      clear hst hO1 b1 cS
      go_wp2_with fail
      go_roundw
      case rel => exact ⟨k + 1, by omega, by go_num, HO2, Lib.hid (HB2.out.setCell (p := ⟨w.heap.size, k, none⟩) (Nat.le_refl _) _)⟩
      case measure => simp [intOf]; omega
    · have hkn : k = n := by omega
      subst hkn
      have hl : (L.map f).length = k := by rw [List.length_map, Hn.out]
      have HJ := Lib.hid (join_row w.heap.size k (L.map f) 44 wr (fun j y hj => by
        have hjl := (List.getElem?_eq_some_iff.1 hj).1
        rw [HO.out.cellAt j (by omega)]
        unfold RS
        rw [Nat.sub_self, List.replicate_zero, List.append_nil, List.take_of_length_le (by omega), List.getElem?_map, hj]
        rfl) (own_lt HO.out rfl).2 (by omega) (by omega) (by
          have := HLEN.out
          unfold brT at this
          rw [join_cj]
          simp at this
          omega))
      rw [hl, join_cj] at HJ
      have hq : (txt (cj 44 (L.map f))).size ≤ 1000000000 := by
        have := HLEN.out
        unfold brT at this
        rw [txt_size]
        simp at this
        omega
      have HT : Hid ((⟨#[first]⟩ : ByteArray) ++ txt (cj 44 (L.map f)) ++ ⟨#[last]⟩ = txt (brT first last (L.map f))) := Lib.hid (bl_inj (by
        rw [bl_append', bl_append', bl_txt, bl_txt]
        rfl))
      have hf1 : (⟨#[first]⟩ : ByteArray).size = 1 := rfl
      have hf2 : (⟨#[last]⟩ : ByteArray).size = 1 := rfl
      clear HO hl
      go_wp2_with fail
      refine HJ.out.mono ?_
      rintro e w1 ⟨rfl, b1⟩
      have B1 := Lib.hid (HB.out.trans (b1.mono HB.out.size))
      clear b1 HJ
      generalize txt (cj 44 (L.map f)) = q at hq HT
      go_wp2_with fail
      go_ret
      exact ⟨by rw [← HT.out]; rfl, B1.out⟩
set_option maxHeartbeats 4000000 in
set_option maxRecDepth 100000 in
theorem list_rows (g : Nat) (caps : Array Value) (eg : ∀ args w, (callFunc g args).run Tryz.prog w = .ok (.enter g args) w) (f : List Int → Bs) (first last : UInt8) (x : Sl) (L : List (List Int)) (w : World) (h : IsRows w x L) (hs : L.length ≤ 1000000) (hlen : (brT first last (L.map f)).length ≤ 1000000000)
    (hp : ∀ z ∈ L, ∀ u : Sl, ∀ (W : World), Below w.heap.size w W → IsInts W u z → Calls Tryz.prog g (#[.slice u.A u.n u.c] ++ caps) W fun e w' => e = .returned (.string (txt (f z))) ∧ Below W.heap.size W w') :
    Calls Tryz.prog 119 #[.string ⟨#[first]⟩, .slice x.A x.n x.c, .string ⟨#[last]⟩, .func (.func g) #[] caps] w fun e w' => e = .returned (.string (txt (brT first last (L.map f)))) ∧ Below w.heap.size w w' := by
  obtain ⟨A, n, c⟩ := x
  obtain ⟨hn, hbig, hL⟩ := h
  simp only at hn hL hbig ⊢
  obtain ⟨i0, hi, hz0, hz1, hz2⟩ := info_parts infoStr9
  have hmk : (Instr.makeSlice 26 (.int .i64 (n : Nat)) (.int .i64 (n : Nat))).run Tryz.prog w = .ok (.slice (some ⟨w.heap.size, 0, none⟩) n n) (w.alloc (.cells (madeCells #[.string ⟨#[]⟩] n) 9)) := by
    have := run_make (P := Tryz.prog) w 26 9 i0 (.string ⟨#[]⟩) Tryz.underlying26 hi hz0 .i64 .i64 (n : Nat) (n : Nat) (by omega) (by omega) (by rw [hz2]; omega) (by omega)
    rw [this, hz1]
    simp [Value.cells]
  have hrow : (w.alloc (.cells (madeCells #[.string ⟨#[]⟩] n) 9)).ownsRow w.heap.size 9 1 (.slice (some ⟨w.heap.size, 0, none⟩) n n) n (RS (L.map f) n 0) := by
    have := World.ownsRow_lit (base := w.heap.size) (e := 9) (size := 1) w (madeCells #[Value.string ⟨#[]⟩] n) n (Nat.le_refl _) (by unfold maxLen; omega) (by simp [madeCells])
    rw [toList_madeCells_one] at this
    simpa [RS] using this
  have HR := Lib.hid hrow
  have HL := Lib.hid hL
  have HP := Lib.hid hp
  have Hn := Lib.hid hn.symm
  have HLEN := Lib.hid hlen
  have hn6 : n ≤ 1000000 := by omega
  clear hp hL hn hlen hs hi hz0 hz1 hz2 hrow
  go_enter Tryz.func119, Tryz.ntmps119
  go_wp2_with fail
  go_loopw [17] (fun i wr => ∃ k : Nat, k ≤ n ∧ i = .int .i64 (k : Nat) ∧ Hid (wr.ownsRow w.heap.size 9 1 (.slice (some ⟨w.heap.size, 0, none⟩) n n) n (RS (L.map f) n k)) ∧ Hid (Below w.heap.size w wr)) (fun i _ => n - (intOf i).toNat)
  case atStart => exact ⟨0, by omega, rfl, HR, Lib.hid (below1 _ _)⟩
  case round =>
    obtain ⟨k, hk, rfl, HO, HB⟩ := hrel
    by_cases hlt : k < n
    · obtain ⟨ad, rfl, hbk, hcl⟩ := HL.out (by omega)
      obtain ⟨u, hu1, hu2⟩ := hcl k hlt
      have hck : wr.cell? (ad.add k) = some (.slice u.A u.n u.c) := (HB.out.cell (by rw [add_block]; exact hbk)).trans hu1
      have hlk : k < (L.map f).length := by rw [List.length_map, Hn.out]; exact hlt
      have HK : Hid (k ≤ (L.map f).length) := Lib.hid (Nat.le_of_lt hlk)
      have HS := Lib.hid (RS_set (ss := L.map f) (n := n) (k := k) hlk hlt)
      have hLk : k < L.length := by rw [Hn.out]; exact hlt
      have hfk : (L.map f).getD k [] = f (L.getD k []) := by
        rw [List.getD_eq_getElem?_getD, List.getElem?_map, List.getD_eq_getElem?_getD, List.getElem?_eq_getElem hLk]
        rfl
      have hin : L.getD k [] ∈ L := by
        rw [List.getD_eq_getElem?_getD, List.getElem?_eq_getElem hLk]
        exact List.getElem_mem hLk
      have cS := Lib.hid (HP.out _ hin u wr HB.out (hu2.below HB.out))
      clear hu1 hu2
      rw [hfk] at HS
      clear hcl hbk hfk hin hlk hLk
      generalize L.getD k [] = z at HS cS
      go_wp2_with fail
      refine cS.out.mono ?_
      rintro e w1 ⟨rfl, b1⟩
      have hO1 := own_below HO.out b1
      have cw := hO1.cellAt k (by omega)
      rw [RS_at (ss := L.map f) (n := n) (k := k) HK.out hlt] at cw
      have fw := hO1.frozenAt k
      have hst := (hO1.stored k (.string (txt (f z)))).1
      rw [HS.out] at hst
      have HO2 := Lib.hid hst
      have HB2 := Lib.hid (HB.out.trans (b1.mono HB.out.size))
      clear hst hO1 b1 cS
      go_wp2_with fail
      go_roundw
      case rel => exact ⟨k + 1, by omega, by go_num, HO2, Lib.hid (HB2.out.setCell (p := ⟨w.heap.size, k, none⟩) (Nat.le_refl _) _)⟩
      case measure => simp [intOf]; omega
    · have hkn : k = n := by omega
      subst hkn
      have hl : (L.map f).length = k := by rw [List.length_map, Hn.out]
      have HJ := Lib.hid (join_row w.heap.size k (L.map f) 44 wr (fun j y hj => by
        have hjl := (List.getElem?_eq_some_iff.1 hj).1
        rw [HO.out.cellAt j (by omega)]
        unfold RS
        rw [Nat.sub_self, List.replicate_zero, List.append_nil, List.take_of_length_le (by omega), List.getElem?_map, hj]
        rfl) (own_lt HO.out rfl).2 (by omega) (by omega) (by
          have := HLEN.out
          unfold brT at this
          rw [join_cj]
          simp at this
          omega))
      rw [hl, join_cj] at HJ
      have hq : (txt (cj 44 (L.map f))).size ≤ 1000000000 := by
        have := HLEN.out
        unfold brT at this
        rw [txt_size]
        simp at this
        omega
      have HT : Hid ((⟨#[first]⟩ : ByteArray) ++ txt (cj 44 (L.map f)) ++ ⟨#[last]⟩ = txt (brT first last (L.map f))) := Lib.hid (bl_inj (by
        rw [bl_append', bl_append', bl_txt, bl_txt]
        rfl))
      have hf1 : (⟨#[first]⟩ : ByteArray).size = 1 := rfl
      have hf2 : (⟨#[last]⟩ : ByteArray).size = 1 := rfl
      clear HO hl
      go_wp2_with fail
      refine HJ.out.mono ?_
      rintro e w1 ⟨rfl, b1⟩
      have B1 := Lib.hid (HB.out.trans (b1.mono HB.out.size))
      clear b1 HJ
      generalize txt (cj 44 (L.map f)) = q at hq HT
      go_wp2_with fail
      go_ret
      exact ⟨by rw [← HT.out]; rfl, B1.out⟩
end Go.Proofs.YtgemgmdnnjaghaaGreatDoor

/- Contracts: lists of bytes with a function that counts; rows. -/
namespace Go.Proofs.YtgemgmdnnjaghaaGreatDoor
open Go.RowKit Go.Sort

theorem eItoa : ∀ args w, (callFunc 51 args).run Tryz.prog w = .ok (.enter 51 args) w := enters_of Tryz.func51 (by kernel_rfl) rfl
theorem eNaming1 : ∀ args w, (callFunc 50 args).run Tryz.prog w = .ok (.enter 50 args) w := enters_of Tryz.func50 (by kernel_rfl) rfl
theorem ePart1 : ∀ args w, (callFunc 81 args).run Tryz.prog w = .ok (.enter 81 args) w := enters_of Tryz.func81 (by kernel_rfl) rfl
theorem ePart11 : ∀ args w, (callFunc 84 args).run Tryz.prog w = .ok (.enter 84 args) w := enters_of Tryz.func84 (by kernel_rfl) rfl

theorem trow_any (g : Nat) (caps : Array Value) (eg : ∀ args w, (callFunc g args).run Tryz.prog w = .ok (.enter g args) w) (f : Int → Bs) (x : Sl) (L : List Int) (w : World) (h : IsInts w x L) (hs : L.length ≤ 1000000) (hlen : (brT 91 93 (L.map f)).length ≤ 1000000000)
    (hp : ∀ z ∈ L, ∀ (W : World), Below w.heap.size w W → Calls Tryz.prog g (#[.int .i64 z] ++ caps) W fun e w' => e = .returned (.string (txt (f z))) ∧ Below W.heap.size W w') :
    Calls Tryz.prog 82 #[.slice x.A x.n x.c, .func (.func g) #[] caps] w fun e w' => e = .returned (.string (txt (brT 91 93 (L.map f)))) ∧ Below w.heap.size w w' := by
  have C := Lib.hid (list_ints g caps eg f 91 93 x L w h hs hlen hp)
  clear hp eg hlen hs h
  go_enter Tryz.func82, Tryz.ntmps82
  go_wp2_with fail
  refine C.out.mono ?_
  rintro e w1 ⟨rfl, b1⟩
  have B1 := Lib.hid b1
  clear b1 C
  go_wp2_with fail
  go_ret
  exact ⟨rfl, B1.out⟩
/-- A row of numbers. -/
theorem row_nums (x : Sl) (L : List Int) (w : World) (hP : PowIn w) (h : IsInts w x L) (hs : L.length ≤ 1000000) (hb : ∀ v ∈ L, -9999999999 ≤ v ∧ v ≤ 9999999999) (hlen : (rowT L).length ≤ 1000000000) :
    Calls Tryz.prog 82 #[.slice x.A x.n x.c, .func (.func 51) #[] #[]] w fun e w' => e = .returned (.string (txt (rowT L))) ∧ Below w.heap.size w w' :=
  trow_any 51 #[] eItoa Lib.itoa x L w h hs hlen (fun z hz W hW => by
    have := itoa_any z W (hP.below hW) (hb z hz).1 (hb z hz).2
    simpa using this)
/-- A row of variables. -/
theorem row_names (a : Nat) (y x : Sl) (names : List Bs) (L : List Int) (w : World) (hy : IsStrs w y names) (hc : w.cell? ⟨a, 0, none⟩ = some (.slice y.A y.n y.c)) (h : IsInts w x L) (hs : L.length ≤ 1000000) (hb : ∀ v ∈ L, 0 ≤ v ∧ v < (names.length : Int)) (hlen : (plT names L).length ≤ 1000000000) :
    Calls Tryz.prog 82 #[.slice x.A x.n x.c, .func (.func 50) #[] #[.pointer (some ⟨a, 0, none⟩)]] w fun e w' => e = .returned (.string (txt (plT names L))) ∧ Below w.heap.size w w' :=
  trow_any 50 #[.pointer (some ⟨a, 0, none⟩)] eNaming1 (nmV names) x L w h hs hlen (fun z hz W hW =>
    naming1_any z y names a W (hy.below hW) ((hW.cell (World.block_lt_of_cell? w _ hc)).trans hc) (hb z hz).1 (hb z hz).2)
theorem part11_any (x : Sl) (L : List Int) (w : World) (hP : PowIn w) (h : IsInts w x L) (hs : L.length ≤ 1000000) (hb : ∀ v ∈ L, -9999999999 ≤ v ∧ v ≤ 9999999999) (hlen : (rowT L).length ≤ 1000000000) :
    Calls Tryz.prog 84 (#[.slice x.A x.n x.c] ++ #[]) w fun e w' => e = .returned (.string (txt (rowT L))) ∧ Below w.heap.size w w' := by
  show Calls Tryz.prog 84 #[.slice x.A x.n x.c] w _
  have C := Lib.hid (row_nums x L w hP h hs hb hlen)
  clear hP h hs hb hlen
  go_enter Tryz.func84, Tryz.ntmps84
  go_wp2_with fail
  refine C.out.mono ?_
  rintro e w1 ⟨rfl, b1⟩
  have B1 := Lib.hid b1
  clear b1 C
  go_wp2_with fail
  go_ret
  exact ⟨rfl, B1.out⟩
theorem trows_any (x : Sl) (R : List (List Int)) (w : World) (hP : PowIn w) (h : IsRows w x R) (hs : R.length ≤ 1000000) (hsr : ∀ l ∈ R, l.length ≤ 1000000) (hb : ∀ l ∈ R, ∀ v ∈ l, -9999999999 ≤ v ∧ v ≤ 9999999999) (hlen : (rwsT R).length ≤ 1000000000) (hlr : ∀ l ∈ R, (rowT l).length ≤ 1000000000) :
    Calls Tryz.prog 83 #[.slice x.A x.n x.c, .func (.func 84) #[] #[]] w fun e w' => e = .returned (.string (txt (rwsT R))) ∧ Below w.heap.size w w' := by
  have C := Lib.hid (list_rows 84 #[] ePart11 rowT 91 93 x R w h hs hlen (fun z hz u W hW hu => part11_any u z W (hP.below hW) hu (hsr z hz) (hb z hz) (hlr z hz)))
  clear hP h hs hb hlen hsr hlr
  go_enter Tryz.func83, Tryz.ntmps83
  go_wp2_with fail
  refine C.out.mono ?_
  rintro e w1 ⟨rfl, b1⟩
  have B1 := Lib.hid b1
  clear b1 C
  go_wp2_with fail
  go_ret
  exact ⟨rfl, B1.out⟩

/-- What a call leaves that may write to a block of numbers: rows of texts and of bytes stay. -/
structure Keeps (w w' : World) : Prop where
  size : w.heap.size ≤ w'.heap.size
  block : ∀ (g : Nat) (cur : Array Value) (t : TypeId) (fr : Nat × Nat), w.heap[g]? = some (.cells cur t fr) → t ≠ 3 → w'.heap[g]? = w.heap[g]?
theorem Keeps.of {w w' : World} (h : Below w.heap.size w w') : Keeps w w' := ⟨h.size, fun g _ _ _ hg _ => h.block g (lt_of_obj hg)⟩
theorem Keeps.trans {a b c : World} (h : Keeps a b) (h2 : Keeps b c) : Keeps a c := ⟨Nat.le_trans h.size h2.size, fun g cur t fr hg ht => (h2.block g cur t fr ((h.block g cur t fr hg ht).trans hg) ht).trans (h.block g cur t fr hg ht)⟩
theorem Keeps.own {w w' : World} {b : Nat} {v : Value} {n : Nat} {xs : List Value} (h : Keeps w w') (ho : w.ownsRow b 9 1 v n xs) : w'.ownsRow b 9 1 v n xs := own_same ho fun g hg hl => by
  obtain ⟨cur, hc⟩ := own_typed ho hg
  exact h.block g cur 9 _ hc (by decide)
/-- A block of bytes. -/
def IsBts (w : World) (g : Nat) (sh : List UInt8) : Prop := ∃ cur fr, w.heap[g]? = some (.cells cur 5 fr) ∧ ∀ j, j < sh.length → w.cell? ⟨g, j, none⟩ = some (.int .u8 ((sh.getD j 0).toNat : Int))
theorem IsBts.keeps {w w' : World} {g : Nat} {sh : List UInt8} (h : IsBts w g sh) (hk : Keeps w w') : IsBts w' g sh := by
  obtain ⟨cur, fr, hg, hc⟩ := h
  have e := hk.block g cur 5 fr hg (by decide)
  exact ⟨cur, fr, e.trans hg, fun j hj => by
    have h1 : w'.cell? ⟨g, j, none⟩ = w.cell? ⟨g, j, none⟩ := World.cell?_of_block (w := w) e
    rw [h1]
    exact hc j hj⟩

set_option maxHeartbeats 4000000 in
set_option maxRecDepth 100000 in
theorem list_bytes (g : Nat) (caps : Array Value) (eg : ∀ args w, (callFunc g args).run Tryz.prog w = .ok (.enter g args) w) (ss : List Bs) (first last : UInt8) (gb cb : Nat) (L : List UInt8) (w : World) (h : IsBts w gb L) (hs : L.length ≤ 1000) (hl : ss.length = L.length) (hlen : (brT first last ss).length ≤ 1000000000)
    (J : Nat → World → Prop) (hJ0 : J 0 w) (hJs : ∀ k W W', J k W → Below w.heap.size W W' → J k W')
    (hp : ∀ k, k < L.length → ∀ (W : World), J k W → Calls Tryz.prog g (#[.int .u8 ((L.getD k 0).toNat : Int)] ++ caps) W fun e w' => e = .returned (.string (txt (ss.getD k []))) ∧ J (k + 1) w' ∧ Keeps W w') :
    Calls Tryz.prog 54 #[.string ⟨#[first]⟩, .slice (some ⟨gb, 0, none⟩) L.length cb, .string ⟨#[last]⟩, .func (.func g) #[] caps] w fun e w' => e = .returned (.string (txt (brT first last ss))) ∧ J L.length w' ∧ Keeps w w' := by
  obtain ⟨n, hn⟩ : ∃ n, n = L.length := ⟨_, rfl⟩
  rw [← hn] at hs hl hp ⊢
  obtain ⟨i0, hi, hz0, hz1, hz2⟩ := info_parts infoStr9
  have hmk : (Instr.makeSlice 26 (.int .i64 (n : Nat)) (.int .i64 (n : Nat))).run Tryz.prog w = .ok (.slice (some ⟨w.heap.size, 0, none⟩) n n) (w.alloc (.cells (madeCells #[.string ⟨#[]⟩] n) 9)) := by
    have := run_make (P := Tryz.prog) w 26 9 i0 (.string ⟨#[]⟩) Tryz.underlying26 hi hz0 .i64 .i64 (n : Nat) (n : Nat) (by omega) (by omega) (by rw [hz2]; omega) (by omega)
    rw [this, hz1]
    simp [Value.cells]
  have hrow : (w.alloc (.cells (madeCells #[.string ⟨#[]⟩] n) 9)).ownsRow w.heap.size 9 1 (.slice (some ⟨w.heap.size, 0, none⟩) n n) n (RS ss n 0) := by
    have := World.ownsRow_lit (base := w.heap.size) (e := 9) (size := 1) w (madeCells #[Value.string ⟨#[]⟩] n) n (Nat.le_refl _) (by unfold maxLen; omega) (by simp [madeCells])
    rw [toList_madeCells_one] at this
    simpa [RS] using this
  have HR := Lib.hid hrow
  have HBT := Lib.hid h
  have HP := Lib.hid hp
  have HJ0 := Lib.hid hJ0
  have HJS := Lib.hid hJs
  have Hn := Lib.hid hn
  have Hl := Lib.hid hl
  have HLEN := Lib.hid hlen
  clear hp h hJ0 hJs hn hl hlen hi hz0 hz1 hz2 hrow
  go_enter Tryz.func54, Tryz.ntmps54
  go_wp2_with fail
  go_loopw [17] (fun i wr => ∃ k : Nat, k ≤ n ∧ i = .int .i64 (k : Nat) ∧ Hid (wr.ownsRow w.heap.size 9 1 (.slice (some ⟨w.heap.size, 0, none⟩) n n) n (RS ss n k)) ∧ Hid (J k wr) ∧ Hid (Keeps w wr)) (fun i _ => n - (intOf i).toNat)
  case atStart => exact ⟨0, by omega, rfl, HR, Lib.hid (HJS.out _ _ _ HJ0.out (below1 _ _)), Lib.hid (Keeps.of (below1 _ _))⟩
  case round =>
    obtain ⟨k, hk, rfl, HO, HJ, HB⟩ := hrel
    by_cases hlt : k < n
    · obtain ⟨cur, fr, -, hcl⟩ := HBT.out.keeps HB.out
      have hck := hcl k (by rw [← Hn.out]; exact hlt)
      have hlk : k < ss.length := by rw [Hl.out]; exact hlt
      have HK : Hid (k ≤ ss.length) := Lib.hid (Nat.le_of_lt hlk)
      have HS := Lib.hid (RS_set (ss := ss) (n := n) (k := k) hlk hlt)
      have cS := Lib.hid (HP.out k hlt wr HJ.out)
      clear hcl hlk
      generalize ((L.getD k 0).toNat : Int) = z at hck cS
      generalize ss.getD k [] = b at HS cS
      go_wp2_with fail
      refine cS.out.mono ?_
      rintro e w1 ⟨rfl, j1, b1⟩
      have hO1 := b1.own HO.out
      have cw := hO1.cellAt k (by omega)
      rw [RS_at (ss := ss) (n := n) (k := k) HK.out hlt] at cw
      have fw := hO1.frozenAt k
      have hst := (hO1.stored k (.string (txt b))).1
      rw [HS.out] at hst
      have HO2 := Lib.hid hst
      have hsc : Below w.heap.size w1 (w1.setCell ⟨w.heap.size, k, none⟩ (.string (txt b))) := (Below.refl _ _).setCell (p := ⟨w.heap.size, k, none⟩) (Nat.le_refl _) _
      have HJ2 := Lib.hid (HJS.out _ _ _ j1 hsc)
      have HB2 : Hid (Keeps w (w1.setCell ⟨w.heap.size, k, none⟩ (.string (txt b)))) := Lib.hid ⟨Nat.le_trans HB.out.size (Nat.le_trans b1.size hsc.size), fun g2 cur2 t2 fr2 hg2 ht2 => by
        rw [hsc.block g2 (lt_of_obj hg2)]
        exact (HB.out.trans b1).block g2 cur2 t2 fr2 hg2 ht2⟩
      clear hst hO1 b1 j1 hsc cS HS HO HJ HB
      go_wp2_with fail
      go_roundw
      case rel => exact ⟨k + 1, by omega, by go_num, HO2, HJ2, HB2⟩
      case measure => simp [intOf]; omega
    · have hkn : k = n := by omega
      subst hkn
      have hl : ss.length = k := Hl.out
      have HJN := Lib.hid (join_row w.heap.size k ss 44 wr (fun j y hj => by
        have hjl := (List.getElem?_eq_some_iff.1 hj).1
        rw [HO.out.cellAt j (by omega)]
        unfold RS
        rw [Nat.sub_self, List.replicate_zero, List.append_nil, List.take_of_length_le (by omega), List.getElem?_map, hj]
        rfl) (own_lt HO.out rfl).2 (by omega) (by omega) (by
          have := HLEN.out
          unfold brT at this
          rw [join_cj]
          simp at this
          omega))
      rw [hl, join_cj] at HJN
      have hq : (txt (cj 44 ss)).size ≤ 1000000000 := by
        have := HLEN.out
        unfold brT at this
        rw [txt_size]
        simp at this
        omega
      have HT : Hid ((⟨#[first]⟩ : ByteArray) ++ txt (cj 44 ss) ++ ⟨#[last]⟩ = txt (brT first last ss)) := Lib.hid (bl_inj (by
        rw [bl_append', bl_append', bl_txt, bl_txt]
        rfl))
      have hf1 : (⟨#[first]⟩ : ByteArray).size = 1 := rfl
      have hf2 : (⟨#[last]⟩ : ByteArray).size = 1 := rfl
      clear HO hl
      go_wp2_with fail
      refine HJN.out.mono ?_
      rintro e w1 ⟨rfl, b1⟩
      have HJ3 := Lib.hid (HJS.out _ _ _ HJ.out (b1.mono HB.out.size))
      have B1 := Lib.hid (HB.out.trans (Keeps.of b1))
      clear b1 HJN HJ
      generalize txt (cj 44 ss) = q at hq HT
      go_wp2_with fail
      go_ret
      exact ⟨by rw [← HT.out]; rfl, HJ3.out, B1.out⟩
end Go.Proofs.YtgemgmdnnjaghaaGreatDoor

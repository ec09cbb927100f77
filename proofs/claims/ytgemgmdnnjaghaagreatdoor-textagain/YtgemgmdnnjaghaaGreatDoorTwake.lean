/- Contracts: Line; Print of a model that may not be. -/
import Derived.Test.YtgemgmdnnjaghaaGreatDoorTprintw
import Derived.Test.YtgemgmdnnjaghaaGreatDoorMshapes
import Derived.Test.YtgemgmdnnjaghaaGreatDoorPblankm
import Derived.BigRegion
namespace Go.Proofs.YtgemgmdnnjaghaaGreatDoor
open Go.RowKit Go.Sort

set_option maxHeartbeats 4000000 in
set_option maxRecDepth 100000 in
theorem print_bad (v : ModV) (m : ModL) (w : World) (hE : EntIn w) (hI : ModIn w v m) (hck : (checkE m).2 ≠ 0) :
    Calls Tryz.prog 8 #[v.val m.goal m.obj] w fun e w' => e = .returned (.tuple #[.string ⟨#[]⟩, .int .i64 (checkE m).2]) ∧ Below w.heap.size w w' := by
  have bA := below1 w (modT v m.goal m.obj)
  have CC := Lib.hid (check_any v m (w.alloc (modT v m.goal m.obj)) (hE.below bA) (hI.below bA))
  have HBA := Lib.hid bA
  have hne : ((checkE m).2 != 0) = true := by simpa using hck
  clear bA hI hE hck
  generalize checkE m = ce at *
  obtain ⟨c1, c2⟩ := ce
  simp only at hne CC ⊢
  go_enter Tryz.func8, Tryz.ntmps8
  go_wp2_with fail
  refine CC.out.mono ?_
  rintro e w1 ⟨rfl, b1⟩
  have B1 := Lib.hid (HBA.out.trans (b1.mono HBA.out.size))
  clear b1 CC
  go_wp2_with fail
  go_ret2
  exact ⟨rfl, B1.out⟩

set_option maxHeartbeats 4000000 in
set_option maxRecDepth 100000 in
theorem line_of (u : ConV) (y : Sl) (c : ConL) (names : List Bs) (w : World) (hE : EntIn w) (hP : PowIn w) (hc : ConIn w u c) (hy : IsStrs w y names) (hm : ∀ b ∈ names, mayNameB b = true) (hr : rightE c (names.length : Int) = 0) (hwt : wtC c ≤ 1000000)
    (hcon : ∀ (a : Nat) (W : World), CIn W a u y c names → Calls Tryz.prog 22 #[u.val c.kind c.K, nameF a] W fun e w' => e = .returned (.string (txt (conT names c))) ∧ Below W.heap.size W w') :
    Calls Tryz.prog 9 #[u.val c.kind c.K, .slice y.A y.n y.c] w fun e w' => e = .returned (.tuple #[.string (txt (conT names c)), .int .i64 0]) ∧ Below w.heap.size w w' := by
  have bA := below1 w (conO u c)
  have CR := Lib.hid (right_any u c (names.length : Int) (w.alloc (conO u c)) (hE.below bA) (hc.below bA))
  rw [hr] at CR
  have hn : (y.n : Int) = (names.length : Int) := by rw [hy.len]
  rw [← hn] at CR
  have HBA := Lib.hid bA
  have hok := con_ok hr
  have HC : Hid (∀ W, Below w.heap.size w W → Calls Tryz.prog 22 #[u.val c.kind c.K, nameF W.heap.size] (W.alloc (namesO y)).drew fun e w' => e = .returned (.string (txt (conT names c))) ∧ Below w.heap.size w w') := Lib.hid (fun W hW => by
    have b1 : Below W.heap.size W (W.alloc (namesO y)).drew := (below1 W (namesO y)).drew
    have hb := hW.trans (b1.mono hW.size)
    refine (hcon W.heap.size _ ⟨hc.below hb, by simp, hy.below hb, hP.below hb, hE.below hb, hm, hok, hwt⟩).mono ?_
    rintro e w' ⟨h1, h2⟩
    exact ⟨h1, hb.trans (h2.mono hb.size)⟩)
  clear bA hE hP hc hy hm hr hwt hcon hok hn
  go_enter Tryz.func9, Tryz.ntmps9
  go_wp2_with fail
  refine CR.out.mono ?_
  rintro e w1 ⟨rfl, b1⟩
  have hb1 := HBA.out.trans (b1.mono HBA.out.size)
  have HX : ∀ (j : Nat) (x : Value), (u.cells c.kind c.K)[j]? = some x → w1.drew.cell? ⟨w.heap.size, j, none⟩ = some x ∧ (w1.alloc (namesO y)).drew.cell? ⟨w.heap.size, j, none⟩ = some x := fun j x hj => by
    have hlt : w.heap.size < w1.heap.size := by have := b1.size; simp at this; omega
    have h0 : w1.cell? ⟨w.heap.size, j, none⟩ = some x := by
      rw [b1.cell (by simp)]
      simpa using hj
    have b2 : Below w1.heap.size w1 (w1.alloc (namesO y)).drew := (below1 w1 (namesO y)).drew
    exact ⟨h0, (b2.cell hlt).trans h0⟩
  obtain ⟨a0, b0⟩ := HX 0 (.int .i64 c.kind) rfl
  obtain ⟨a1, b1'⟩ := HX 1 (.slice u.a.A u.a.n u.a.c) rfl
  obtain ⟨a2, b2'⟩ := HX 2 (.slice u.b.A u.b.n u.b.c) rfl
  obtain ⟨a3, b3'⟩ := HX 3 (.slice u.c.A u.c.n u.c.c) rfl
  obtain ⟨a4, b4'⟩ := HX 4 (.slice u.d.A u.d.n u.d.c) rfl
  obtain ⟨a5, b5'⟩ := HX 5 (.slice u.e.A u.e.n u.e.c) rfl
  obtain ⟨a6, b6'⟩ := HX 6 (.int .i64 c.K) rfl
  obtain ⟨a7, b7'⟩ := HX 7 (.slice u.r.A u.r.n u.r.c) rfl
  have C := Lib.hid (HC.out w1 hb1)
  clear HX b1 hb1 HBA CR HC
  go_upto_region 4 with fail
  go_region_with (first
    | (go_at_call 20; refine (naming_any y _).mono ?_; rintro e w2 ⟨rfl, rfl⟩)
    | (go_at_call 22; refine C.out.mono ?_; rintro e w3 ⟨rfl, B3⟩))
  all_goals
    go_wp2_with fail
    go_ret2
    exact ⟨rfl, B3⟩
end Go.Proofs.YtgemgmdnnjaghaaGreatDoor

/- What layer 8's wakes tells, given a constraint's line: true. -/
namespace Go.Proofs.YtgemgmdnnjaghaaGreatDoor
open Go.RowKit Go.Sort

def wcon : ConL := { noCon with kind := 2, A := [0, 1], C := [1, -2], K := 7 }
def wmod8 : ModL := ⟨[[120]], [[1, 3]], [], 0, 0⟩
def wbad8 : ModL := ⟨[[120]], [], [], 0, 0⟩
theorem it1 : Lib.itoa 1 = [49] := by unfold Lib.itoa; rw [if_neg (by decide), show (1 : Int).toNat = 1 from rfl, Lib.decDigits_one (by decide)]; rfl
theorem it3 : Lib.itoa 3 = [51] := by unfold Lib.itoa; rw [if_neg (by decide), show (3 : Int).toNat = 3 from rfl, Lib.decDigits_one (by decide)]; rfl
theorem it7 : Lib.itoa 7 = [55] := by unfold Lib.itoa; rw [if_neg (by decide), show (7 : Int).toNat = 7 from rfl, Lib.decDigits_one (by decide)]; rfl
theorem itm2 : Lib.itoa (-2) = [45, 50] := by unfold Lib.itoa; rw [if_pos (by decide), show (-2 : Int).natAbs = 2 from rfl, Lib.decDigits_one (by decide)]; rfl
theorem went : entOf wcon = ⟨2, [108, 105, 110, 95, 108, 101], [99, 86, 107]⟩ := by kernel_rfl
theorem wline : conT [[120], [121]] wcon = [99, 111, 110, 115, 116, 114, 97, 105, 110, 116, 32, 108, 105, 110, 95, 108, 101, 40, 91, 49, 44, 45, 50, 93, 44, 91, 120, 44, 121, 93, 44, 55, 41, 59] := by
  have h1 : partsT [[120], [121]] wcon 0 [99, 86, 107] = [brT 91 93 [Lib.itoa 1, Lib.itoa (-2)], [91, 120, 44, 121, 93], Lib.itoa 7] := rfl
  unfold conT
  rw [went]
  simp only
  rw [h1, it1, itm2, it7]
  rfl
theorem wtext : printT wmod8 = [118, 97, 114, 32, 123, 49, 44, 51, 125, 58, 32, 120, 59, 10, 115, 111, 108, 118, 101, 32, 115, 97, 116, 105, 115, 102, 121, 59, 10] := by
  have h1 : printT wmod8 = [118, 97, 114, 32] ++ brT 123 125 [Lib.itoa 1, Lib.itoa 3] ++ [58, 32] ++ [120] ++ [59] ++ [10] ++ ([115, 111, 108, 118, 101, 32, 115, 97, 116, 105, 115, 102, 121, 59] ++ [10]) := rfl
  rw [h1, it1, it3]
  rfl
theorem wr1 : rightE wcon (([[120], [121]] : List Bs).length : Int) = 0 := by kernel_rfl
theorem wc1 : checkE wmod8 = (-1, 0) := by kernel_rfl
theorem wc2 : checkE wbad8 = (-1, 2) := by kernel_rfl
theorem wnm : ∀ b ∈ ([[120], [121]] : List Bs), mayNameB b = true := by
  have : ([[120], [121]] : List Bs).all mayNameB = true := by kernel_rfl
  exact List.all_eq_true.1 this

/-- The contract of a constraint's line, for all. -/
def LineOK : Prop := ∀ (v : ConV) (c : ConL) (a : Nat) (y : Sl) (names : List Bs) (w : World), CIn w a v y c names → Calls Tryz.prog 22 #[v.val c.kind c.K, nameF a] w fun e w' => e = .returned (.string (txt (conT names c))) ∧ Below w.heap.size w w'

abbrev wA (w : World) : World := ((w.alloc (.cells #[.int .i64 0, .int .i64 1] 3)).alloc (.cells #[.int .i64 1, .int .i64 (-2)] 3)).alloc (.cells #[.string ⟨#[120]⟩, .string ⟨#[121]⟩] 9)
abbrev wB (w : World) : World := ((w.alloc (.cells #[.string ⟨#[120]⟩] 9)).alloc (.cells #[.int .i64 1, .int .i64 3] 3)).alloc (.cells #[.slice (some ⟨w.heap.size + 1, 0, none⟩) 2 2] 35)
theorem below_wA (w : World) : Below w.heap.size w (wA w) := ((below1 w _).alloc (by simp) _).alloc (by simp; omega) _
theorem below_wB (w : World) : Below w.heap.size w (wB w) := ((below1 w _).alloc (by simp) _).alloc (by simp; omega) _

theorem cell_new (W : World) (x : Value) (t : TypeId) : (W.alloc (.cells #[x] t)).cell? ⟨W.heap.size, 0, none⟩ = some x := by simp
set_option maxHeartbeats 4000000 in
set_option maxRecDepth 100000 in
theorem text_wakes (HC : LineOK) (w : World) (hE : EntIn w) (hP : PowIn w) : Calls Tryz.prog 11 #[] w fun e w' => e = .returned (.bool true) ∧ Below w.heap.size w w' := by
  have C1 : Hid (Calls Tryz.prog 9 #[.agg #[.int .i64 2, .slice (some ⟨w.heap.size, 0, none⟩) 2 2, .slice none 0 0, .slice (some ⟨w.heap.size + 1, 0, none⟩) 2 2, .slice none 0 0, .slice none 0 0, .int .i64 7, .slice none 0 0], .slice (some ⟨w.heap.size + 1 + 1, 0, none⟩) 2 2] (wA w) fun e w' => e = .returned (.tuple #[.string ⟨#[99, 111, 110, 115, 116, 114, 97, 105, 110, 116, 32, 108, 105, 110, 95, 108, 101, 40, 91, 49, 44, 45, 50, 93, 44, 91, 120, 44, 121, 93, 44, 55, 41, 59]⟩, .int .i64 0]) ∧ Below (wA w).heap.size (wA w) w') := Lib.hid (by
    have b := below_wA w
    have i1 := ints_new w [0, 1] 3 (by simp)
    have i2 := ints_new (w.alloc (.cells #[.int .i64 0, .int .i64 1] 3)) [1, -2] 3 (by simp)
    have i3 := strs_new ((w.alloc (.cells #[.int .i64 0, .int .i64 1] 3)).alloc (.cells #[.int .i64 1, .int .i64 (-2)] 3)) [[120], [121]] 9 (by simp)
    have b2 := below1 (w.alloc (.cells #[.int .i64 0, .int .i64 1] 3)) (.cells #[.int .i64 1, .int .i64 (-2)] 3)
    have b3 := below1 ((w.alloc (.cells #[.int .i64 0, .int .i64 1] 3)).alloc (.cells #[.int .i64 1, .int .i64 (-2)] 3)) (.cells #[.string ⟨#[120]⟩, .string ⟨#[121]⟩] 9)
    have e1 : (w.alloc (.cells #[.int .i64 0, .int .i64 1] 3)).heap.size = w.heap.size + 1 := by simp
    have e2 : ((w.alloc (.cells #[.int .i64 0, .int .i64 1] 3)).alloc (.cells #[.int .i64 1, .int .i64 (-2)] 3)).heap.size = w.heap.size + 1 + 1 := by simp
    have j2 := i2.below b3
    rw [e1] at j2
    rw [e2] at i3
    have := line_of ⟨⟨some ⟨w.heap.size, 0, none⟩, 2, 2⟩, ⟨none, 0, 0⟩, ⟨some ⟨w.heap.size + 1, 0, none⟩, 2, 2⟩, ⟨none, 0, 0⟩, ⟨none, 0, 0⟩, ⟨none, 0, 0⟩⟩ ⟨some ⟨w.heap.size + 1 + 1, 0, none⟩, 2, 2⟩ wcon [[120], [121]] (wA w) (hE.below b) (hP.below b) ⟨(i1.below b2).below b3, IsInts.nil _, j2, IsInts.nil _, IsInts.nil _, IsRows.nil _⟩ i3 wnm wr1 (by decide) (fun a W h => HC _ _ _ _ _ _ h)
    rw [wline] at this
    exact this)
  have C2 : Hid (∀ W, Below w.heap.size w W → Calls Tryz.prog 8 #[.agg #[.slice (some ⟨W.heap.size, 0, none⟩) 1 1, .slice (some ⟨W.heap.size + 1 + 1, 0, none⟩) 1 1, .slice none 0 0, .int .i64 0, .int .i64 0]] (wB W) fun e w' => e = .returned (.tuple #[.string ⟨#[118, 97, 114, 32, 123, 49, 44, 51, 125, 58, 32, 120, 59, 10, 115, 111, 108, 118, 101, 32, 115, 97, 116, 105, 115, 102, 121, 59, 10]⟩, .int .i64 0]) ∧ Below (wB W).heap.size (wB W) w') := Lib.hid (fun W hW => by
    have b := below_wB W
    have hb := hW.trans (b.mono hW.size)
    have e1 : (W.alloc (.cells #[.string ⟨#[120]⟩] 9)).heap.size = W.heap.size + 1 := by simp
    have i1 := strs_new W [[120]] 9 (by simp)
    have b2 := below1 (W.alloc (.cells #[.string ⟨#[120]⟩] 9)) (.cells #[.int .i64 1, .int .i64 3] 3)
    have i2 := ints_new (W.alloc (.cells #[.string ⟨#[120]⟩] 9)) [1, 3] 3 (by simp)
    rw [e1] at i2
    have b3 := below1 ((W.alloc (.cells #[.string ⟨#[120]⟩] 9)).alloc (.cells #[.int .i64 1, .int .i64 3] 3)) (.cells #[.slice (some ⟨W.heap.size + 1, 0, none⟩) 2 2] 35)
    have hcell : (wB W).cell? ⟨((W.alloc (.cells #[.string ⟨#[120]⟩] 9)).alloc (.cells #[.int .i64 1, .int .i64 3] 3)).heap.size, 0, none⟩ = some (.slice (some ⟨W.heap.size + 1, 0, none⟩) 2 2) := cell_new _ _ _
    rw [show ((W.alloc (.cells #[.string ⟨#[120]⟩] 9)).alloc (.cells #[.int .i64 1, .int .i64 3] 3)).heap.size = W.heap.size + 1 + 1 by simp] at hcell
    have hrows : IsRows (wB W) ⟨some ⟨W.heap.size + 1 + 1, 0, none⟩, 1, 1⟩ [[1, 3]] := ⟨rfl, by simp, fun _ => ⟨_, rfl, by simp, fun i hi => by
      have hi1 : i < 1 := hi
      have hi0 : i = 0 := by omega
      subst hi0
      exact ⟨⟨some ⟨W.heap.size + 1, 0, none⟩, 2, 2⟩, by simpa [Addr.add] using hcell, i2.below b3⟩⟩⟩
    have := print_of ⟨⟨some ⟨W.heap.size, 0, none⟩, 1, 1⟩, ⟨some ⟨W.heap.size + 1 + 1, 0, none⟩, 1, 1⟩, ⟨none, 0, 0⟩⟩ wmod8 (wB W) (hE.below hb) (hP.below hb) ⟨(i1.below b2).below b3, hrows, IsCons.nil _, fun l hl => by simp [wmod8] at hl; subst hl; simp, fun b hb => by simp [wmod8] at hb; subst hb; simp⟩ wc1 (by decide) (fun c u a W h => HC _ _ _ _ _ _ h)
    rw [wtext] at this
    exact this)
  have C3 : Hid (∀ W, Below w.heap.size w W → Calls Tryz.prog 8 #[.agg #[.slice (some ⟨W.heap.size, 0, none⟩) 1 1, .slice none 0 0, .slice none 0 0, .int .i64 0, .int .i64 0]] (W.alloc (.cells #[.string ⟨#[120]⟩] 9)) fun e w' => e = .returned (.tuple #[.string ⟨#[]⟩, .int .i64 2]) ∧ Below (W.alloc (.cells #[.string ⟨#[120]⟩] 9)).heap.size (W.alloc (.cells #[.string ⟨#[120]⟩] 9)) w') := Lib.hid (fun W hW => by
    have b := below1 W (.cells #[.string ⟨#[120]⟩] 9)
    have hb := hW.trans (b.mono hW.size)
    have := print_bad ⟨⟨some ⟨W.heap.size, 0, none⟩, 1, 1⟩, ⟨none, 0, 0⟩, ⟨none, 0, 0⟩⟩ wbad8 (W.alloc (.cells #[.string ⟨#[120]⟩] 9)) (hE.below hb) ⟨strs_new W [[120]] 9 (by simp), IsRows.nil _, IsCons.nil _, fun l hl => by simp [wbad8] at hl, fun b hb => by simp [wbad8] at hb; subst hb; simp⟩ (by rw [wc2]; decide)
    rw [wc2] at this
    exact this)
  have HA := Lib.hid (below_wA w)
  have HBB := Lib.hid below_wB
  clear hE hP HC
  go_enter Tryz.func11, Tryz.ntmps11
  go_wp2_with fail
  refine C1.out.mono ?_
  rintro e w1 ⟨rfl, b1⟩
  have B1 := Lib.hid (HA.out.trans (b1.mono HA.out.size))
  clear b1 C1
  go_wp2_with fail
  refine (C2.out w1 B1.out).mono ?_
  rintro e w2 ⟨rfl, b2⟩
  have hbb := B1.out.trans ((HBB.out w1).mono B1.out.size)
  have B2 := Lib.hid (hbb.trans (b2.mono hbb.size))
  clear b2 C2 hbb B1
  go_wp2_with fail
  refine (C3.out w2 B2.out).mono ?_
  rintro e w3 ⟨rfl, b3⟩
  have hbb := B2.out.trans ((below1 w2 (.cells #[.string ⟨#[120]⟩] 9)).mono B2.out.size)
  have B3 := Lib.hid (hbb.trans (b3.mono hbb.size))
  clear b3 C3 hbb B2
  go_wp2_with fail
  go_ret
  exact ⟨rfl, B3.out⟩
end Go.Proofs.YtgemgmdnnjaghaaGreatDoor

/- Contract: the line of a constraint. -/
namespace Go.Proofs.YtgemgmdnnjaghaaGreatDoor
open Go.RowKit Go.Sort

set_option maxHeartbeats 60000000 in
set_option maxRecDepth 100000 in
theorem tcon_any (v : ConV) (c : ConL) (a : Nat) (y : Sl) (names : List Bs) (w : World) (h : CIn w a v y c names) :
    Calls Tryz.prog 22 #[v.val c.kind c.K, nameF a] w fun e w' => e = .returned (.string (txt (conT names c))) ∧ Below w.heap.size w w' := by
  have bA := below1 w (conO v c)
  have HCA := Lib.hid (h.below bA)
  have CW := Lib.hid (word_kind c.kind (w.alloc (conO v c)) (h.below bA).ent)
  have HBA := Lib.hid bA
  go_enter Tryz.func22, Tryz.ntmps22
  go_wp2_with fail
  refine CW.out.mono ?_
  rintro e w1 ⟨rfl, b1⟩
  clear bA
  have hb0 : Below w1.heap.size w1 w1.drew := (Below.refl _ _).drew
  have h1 := HCA.out.below b1
  have HB1 := Lib.hid (HBA.out.trans (b1.mono HBA.out.size))
  have HX : Hid (∀ W, Below w1.heap.size w1 W → W.cell? ⟨w.heap.size, 0, none⟩ = some (.int .i64 c.kind) ∧ W.cell? ⟨w.heap.size, 1, none⟩ = some (.slice v.a.A v.a.n v.a.c) ∧ W.cell? ⟨w.heap.size, 2, none⟩ = some (.slice v.b.A v.b.n v.b.c) ∧ W.cell? ⟨w.heap.size, 3, none⟩ = some (.slice v.c.A v.c.n v.c.c) ∧ W.cell? ⟨w.heap.size, 4, none⟩ = some (.slice v.d.A v.d.n v.d.c) ∧ W.cell? ⟨w.heap.size, 5, none⟩ = some (.slice v.e.A v.e.n v.e.c) ∧ W.cell? ⟨w.heap.size, 6, none⟩ = some (.int .i64 c.K) ∧ W.cell? ⟨w.heap.size, 7, none⟩ = some (.slice v.r.A v.r.n v.r.c)) := Lib.hid (fun W hW => by
    have hlt : w.heap.size < w1.heap.size := by have := b1.size; simp at this; omega
    refine ⟨?_, ?_, ?_, ?_, ?_, ?_, ?_, ?_⟩ <;> rw [hW.cell (p := ⟨w.heap.size, _, none⟩) hlt, b1.cell (by simp)] <;> simp)
  have HE1 : Hid (∀ W, Below w1.heap.size w1 W → CIn W a v y c names) := Lib.hid (fun W hW => h1.below hW)
  have hsh : (foundF (kindP c.kind)).1.shape = (entOf c).shape := rfl
  have hwd : (foundF (kindP c.kind)).1.word = (entOf c).word := rfl
  have CS := Lib.hid (shape_kind c.kind w1.drew (h1.below hb0).ent)
  rw [hsh] at CS
  rw [hwd]
  have HL : Hid ((conT names c).length ≤ 200000200 ∧ (entOf c).word.length ≤ 13) := Lib.hid (by
    obtain ⟨k, hk, _, he, hin⟩ := ent_in h.ok
    have hs := List.all_eq_true.1 ents_short _ hin
    rw [← he] at hs
    simp only [Bool.and_eq_true, decide_eq_true_eq] at hs
    have := con_len h.may h.ok
    have := h.wt
    exact ⟨by omega, hs.1⟩)
  obtain ⟨x0, x1, x2, x3, x4, x5, x6, x7⟩ := HX.out w1.drew hb0
  clear hsh hwd h1 h HCA CW HBA b1
  have hwz : (⟨(entOf c).word.toArray⟩ : ByteArray).size ≤ 13 := HL.out.2
  have HWB : Hid (bl ⟨(entOf c).word.toArray⟩ = (entOf c).word) := Lib.hid (by simp [bl])
  generalize (⟨(entOf c).word.toArray⟩ : ByteArray) = wS at hwz HWB ⊢
  have HLT : Hid ((txt (brT 40 41 (partsT names c 0 (entOf c).shape))).size ≤ 200000200) := Lib.hid (by
    have := HL.out.1
    unfold conT at this
    simp only [List.length_append] at this
    rw [txt_size]
    omega)
  have HX9 : Hid ((⟨#[99, 111, 110, 115, 116, 114, 97, 105, 110, 116, 32]⟩ : ByteArray) ++ wS ++ txt (brT 40 41 (partsT names c 0 (entOf c).shape)) ++ ⟨#[59]⟩ = txt (conT names c)) := Lib.hid (bl_inj (by
    rw [bl_append', bl_append', bl_append', bl_txt, bl_txt, HWB.out]
    rfl))
  obtain ⟨sS, hsS⟩ : ∃ sS : ByteArray, sS = ⟨(entOf c).shape.toArray⟩ := ⟨_, rfl⟩
  have HSS := Lib.hid hsS
  rw [← hsS] at CS
  clear hsS
  obtain ⟨bw, hbw⟩ : ∃ bw : World → World, ∀ W, bw W = Lib.bytesWorld W 5 sS := ⟨fun W => Lib.bytesWorld W 5 sS, fun _ => rfl⟩
  obtain ⟨gc, hgc⟩ : ∃ gc : World → Nat, ∀ W, gc W = grownCap W sS.size 0 5 := ⟨_, fun _ => rfl⟩
  have hcv : ∀ W : World, (convert 9 51 (.string sS)).run Tryz.prog W = .ok (.slice (some ⟨W.heap.size, 0, none⟩) sS.size (gc W)) (bw W) := fun W => by
    rw [hbw, hgc]
    exact Lib.run_convert_string_bytes W 9 51 5 sS Tryz.underlying9 Tryz.underlying51 Tryz.underlying5
  have HBW : Hid (∀ W, Below W.heap.size W (bw W)) := Lib.hid (fun W => by rw [hbw]; exact below_bytes W sS)
  have CLA : Hid (∀ w2, Below w1.heap.size w1 w2 → Calls Tryz.prog 54 #[.string ⟨#[40]⟩, .slice (some ⟨w2.heap.size, 0, none⟩) sS.size (gc w2), .string ⟨#[41]⟩, .func (.func 81) #[] #[.pointer (some ⟨(bw w2).heap.size + 2, 0, none⟩), .pointer (some ⟨(bw w2).heap.size + 1, 0, none⟩), .pointer (some ⟨(bw w2).heap.size, 0, none⟩)]] ((((bw w2).alloc (conO v c)).alloc (nameO a)).alloc (.cells #[.int .i64 0] 3)) fun e w' => e = .returned (.string (txt (brT 40 41 (partsT names c 0 (entOf c).shape)))) ∧ Below w1.heap.size w1 w') := Lib.hid (fun w2 h2 => by
    have hbb := h2.trans ((below_bytes w2 sS).mono h2.size)
    rw [hbw]
    exact con_listA HSS.out hbb (HE1.out _ hbb))
  have CLC : Hid (∀ w2, Below w1.heap.size w1 w2 → Calls Tryz.prog 54 #[.string ⟨#[40]⟩, .slice (some ⟨w2.heap.size + 1 + 1 + 1, 0, none⟩) sS.size (gc (((w2.alloc (conO v c)).alloc (nameO a)).alloc (.cells #[.int .i64 0] 3))), .string ⟨#[41]⟩, .func (.func 81) #[] #[.pointer (some ⟨w2.heap.size + 2, 0, none⟩), .pointer (some ⟨w2.heap.size + 1, 0, none⟩), .pointer (some ⟨w2.heap.size, 0, none⟩)]] (bw (((w2.alloc (conO v c)).alloc (nameO a)).alloc (.cells #[.int .i64 0] 3))) fun e w' => e = .returned (.string (txt (brT 40 41 (partsT names c 0 (entOf c).shape)))) ∧ Below w1.heap.size w1 w') := Lib.hid (fun w2 h2 => by
    rw [hbw]
    exact con_listC HSS.out h2 (HE1.out _ h2))
  clear hbw hgc HE1 HSS HL HWB
  generalize txt (brT 40 41 (partsT names c 0 (entOf c).shape)) = qq at CLA CLC HLT HX9
  have hlt := HLT.out
  go_upto_region 2 with fail
  go_region_with (first
    | (go_at_call 55; refine CS.out.mono ?_; rintro e w2 ⟨rfl, b2⟩; have hb2 := hb0.trans (b2.mono hb0.size); have hbb := hb2.trans ((HBW.out w2).mono hb2.size); obtain ⟨y0, y1, y2, y3, y4, y5, y6, y7⟩ := HX.out w2 hb2; obtain ⟨z0, z1, z2, z3, z4, z5, z6, z7⟩ := HX.out (bw w2) hbb)
    | (go_at_call 56; refine (tpart_any v c a _).mono ?_; rintro e w3 ⟨rfl, rfl⟩)
    | (go_at_call 54; (first | (with_reducible refine (CLA.out w2 hb2).mono ?_) | (with_reducible refine (CLC.out w2 hb2).mono ?_)); rintro e w4 ⟨rfl, b4⟩; clear x0 x1 x2 x3 x4 x5 x6 x7 y0 y1 y2 y3 y4 y5 y6 y7 z0 z1 z2 z3 z4 z5 z6 z7))
  all_goals
    go_wp2_with fail
    go_ret
    exact ⟨by rw [← HX9.out]; rfl, HB1.out.trans (b4.mono HB1.out.size)⟩
end Go.Proofs.YtgemgmdnnjaghaaGreatDoor

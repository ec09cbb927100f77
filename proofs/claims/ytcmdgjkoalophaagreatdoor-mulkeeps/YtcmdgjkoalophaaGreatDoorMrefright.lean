/- Whether a constraint holds of values. No walk. -/
import Derived.Test.YtcmdgjkoalophaaGreatDoorMshapes
import Derived.Test.YtcmdgjkoalophaaGreatDoorDBecame
import Derived.Test.YtcmdgjkoalophaaGreatDoorMpure
import Derived.Test.YtcmdgjkoalophaaGreatDoorMarity
import Derived.Test.YtcmdgjkoalophaaGreatDoorMcoefs
import Derived.Laws.AppendOwn
namespace Go.Proofs.YtcmdgjkoalophaaGreatDoor
open Go.RowKit

def atE (a : List Int) (v : Int) : Int := a.getD v.toNat 0
/-- The values of variables. -/
def valsE (l a : List Int) : List Int := l.map (atE a)
def sumN (f : Nat → Int) : Nat → Int
  | 0 => 0
  | k + 1 => sumN f k + f k
def noneN (p : Nat → Bool) (n : Nat) : Bool := !(List.range n).any p
def justB (b : Int) (so : Bool) : Bool := if so then b == 1 else b == 0
def placeB (v n : Int) : Bool := decide (1 ≤ v) && decide (v ≤ n)
def linB (c : ConL) (t : Int) (y : List Int) : Bool :=
  if c.kind = 1 then t == c.K else if c.kind = 2 then decide (t ≤ c.K) else if c.kind = 3 then t != c.K else justB (y.getD 0 0) (decide (t ≤ c.K))
def dotE (C x : List Int) : Int := sumN (fun i => C.getD i 0 * x.getD i 0) C.length
def worksB (k : Int) (x : List Int) : Bool :=
  if k = 5 then x.getD 0 0 * x.getD 1 0 == x.getD 2 0
  else if k = 6 then x.getD 1 0 != 0 && (x.getD 0 0).tdiv (x.getD 1 0) == x.getD 2 0
  else if k = 7 then x.getD 1 0 != 0 && (x.getD 0 0).tmod (x.getD 1 0) == x.getD 2 0
  else if k = 8 then max (x.getD 0 0) (-(x.getD 0 0)) == x.getD 1 0
  else if k = 9 then min (x.getD 0 0) (x.getD 1 0) == x.getD 2 0
  else max (x.getD 0 0) (x.getD 1 0) == x.getD 2 0
def toldB (k K x b : Int) : Bool :=
  if k = 13 then justB b (x == K) else if k = 14 then justB b (decide (x ≤ K))
  else if k = 15 then b == 0 || b == 1 && x == K else b == 0 || b == 1 && decide (x ≤ K)
def needF (c : ConL) (x : List Int) (t : Int) (i : Nat) : Int := if decide (x.getD i 0 ≤ t) && decide (t < x.getD i 0 + c.C.getD i 0) then c.D.getD i 0 else 0
def needE (c : ConL) (x : List Int) (t : Int) : Int := sumN (needF c x t) x.length
/-- The places gone through: so many steps are left, so many done. -/
def roundF (x : List Int) : Nat → Nat → Int → Bool
  | 0, _, _ => false
  | k + 1, s, at_ => if placeB (atE x (at_ - 1)) x.length = false then false else if atE x (at_ - 1) = 1 then s + 1 == x.length else roundF x k (s + 1) (atE x (at_ - 1))
def countE (x : List Int) (v : Int) : Int := sumN (fun i => if x.getD i 0 == v then 1 else 0) x.length
def lexB : List Int → List Int → Bool
  | [], _ => true
  | _ :: _, [] => false
  | a :: s, b :: t => if a < b then true else if b < a then false else lexB s t
def backB (x y : List Int) (i : Nat) : Bool := placeB (x.getD i 0) y.length && atE y (x.getD i 0 - 1) == (i : Int) + 1
def diffP (x : List Int) (i : Nat) : Bool := (x.take i).any (· == x.getD i 0)
def cumP (c : ConL) (x : List Int) (i : Nat) : Bool := decide (c.K < needE c x (x.getD i 0))
def gccP (c : ConL) (x : List Int) (i : Nat) : Bool := decide (countE x (c.C.getD i 0) < c.D.getD i 0) || decide (c.E.getD i 0 < countE x (c.C.getD i 0))
def invP (x y : List Int) (i : Nat) : Bool := !backB x y i || !backB y x i
/-- Does what a kind says hold of the values of A and B? -/
def meetsB (c : ConL) (x y : List Int) : Bool :=
  if 1 ≤ c.kind ∧ c.kind ≤ 4 then linB c (dotE c.C x) y
  else if 5 ≤ c.kind ∧ c.kind ≤ 10 then worksB c.kind x
  else if c.kind = 11 then placeB (x.getD 0 0) c.C.length && atE c.C (x.getD 0 0 - 1) == x.getD 1 0
  else if c.kind = 12 then x.any (· == 1) || y.any (· == 0)
  else if 13 ≤ c.kind ∧ c.kind ≤ 16 then toldB c.kind c.K (x.getD 0 0) (y.getD 0 0)
  else if c.kind = 17 then noneN (diffP x) x.length
  else if c.kind = 18 then c.rows.any (fun r => r == x)
  else if c.kind = 19 then noneN (cumP c x) x.length
  else if c.kind = 20 then roundF x x.length 0 1
  else if c.kind = 21 then noneN (gccP c x) c.C.length
  else if c.kind = 22 then lexB x y
  else if c.kind = 23 then noneN (invP x y) x.length
  else false
def holdsB (c : ConL) (a : List Int) : Bool := rightE c (a.length : Nat) == 0 && meetsB c (valsE c.A a) (valsE c.B a)
/-- What Holds tells. -/
def holdsE (c : ConL) (a : List Int) : Bool := !a.any (outB (-1000000) 1000000) && holdsB c a

/-! What a constraint that may be has, kind by kind. -/
structure ConR (n : Nat) (c : ConL) : Prop where
  k1 : 1 ≤ c.kind
  k23 : c.kind ≤ 23
  pa : ∀ v ∈ c.A, 0 ≤ v ∧ v < (n : Int)
  pb : ∀ v ∈ c.B, 0 ≤ v ∧ v < (n : Int)
  pc : ∀ v ∈ c.C, -1000000 ≤ v ∧ v ≤ 1000000
  pd : ∀ v ∈ c.D, 0 ≤ v ∧ v ≤ 1000000
  a64 : c.A.length ≤ 64
  a1 : c.kind ≠ 12 → 1 ≤ c.A.length
  b64 : c.B.length ≤ 64
  lin : c.kind ≤ 4 → c.C.length = c.A.length
  reif : c.kind = 4 → c.B.length = 1
  three : 5 ≤ c.kind → c.kind ≤ 10 → c.kind ≠ 8 → c.A.length = 3
  two : c.kind = 8 ∨ c.kind = 11 → c.A.length = 2
  c64 : c.C.length ≤ 64
  c11 : c.kind = 11 → 1 ≤ c.C.length
  told : 13 ≤ c.kind → c.kind ≤ 16 → c.A.length = 1 ∧ c.B.length = 1
  cum : c.kind = 19 → c.C.length = c.A.length ∧ c.D.length = c.A.length
  gcc : c.kind = 21 → c.D.length = c.C.length ∧ c.E.length = c.C.length
  pair : 22 ≤ c.kind → c.B.length = c.A.length
  rows : c.kind = 18 → ∀ r ∈ c.rows, r.length = c.A.length
end Go.Proofs.YtcmdgjkoalophaaGreatDoor

/- Contracts: the document's places and numbers: rows of their own, of so many numbers. -/
namespace Go.Proofs.YtcmdgjkoalophaaGreatDoor
open Go.RowKit Go.Sort

theorem slice_row {w : World} {base : Nat} {e : TypeId} {size n : Nat} {v : Value} {xs : List Value} (h : w.ownsRow base e size v n xs) : ∃ A c, v = .slice A n c := by
  rcases h.2 with ⟨rfl, rfl⟩ | ⟨g, cap, cur, rfl, _⟩
  · exact ⟨_, _, rfl⟩
  · exact ⟨_, _, rfl⟩
/-- A slice of numbers of some kind. -/
structure IsNs (k : IntKind) (w : World) (x : Sl) (L : List Int) : Prop where
  len : x.n = L.length
  lies : Lies w x.A x.n (fun j => .int k (L.getD j 0))
  big : x.n ≤ 9223372036854775807
  cap : x.n ≤ x.c
theorem IsNs.below {k : IntKind} {w w' : World} {v : Sl} {L : List Int} (h : IsNs k w v L) (hb : Below w.heap.size w w') : IsNs k w' v L := ⟨h.len, h.lies.below hb, h.big, h.cap⟩
/-- So many numbers, by a function. -/
def mkL (f : Nat → Int) (n : Nat) : List Int := (List.range n).map f
theorem mkL_len (f : Nat → Int) (n : Nat) : (mkL f n).length = n := by simp [mkL]
theorem mkL_succ (f : Nat → Int) (n : Nat) : mkL f (n + 1) = mkL f n ++ [f n] := by simp [mkL, List.range_succ]
theorem mkL_all {f : Nat → Int} {n : Nat} {p : Int → Prop} (h : ∀ i, i < n → p (f i)) : ∀ v ∈ mkL f n, p v := by
  intro v hv
  simp only [mkL, List.mem_map, List.mem_range] at hv
  obtain ⟨i, hi, rfl⟩ := hv
  exact h i hi
theorem mkL_getD (f : Nat → Int) {n i : Nat} (h : i < n) : (mkL f n).getD i 0 = f i := by
  rw [List.getD_eq_getElem?_getD, List.getElem?_eq_getElem (by rw [mkL_len]; exact h)]
  simp [mkL]

def plcE (l : List Int) (vars : Int) (i : Nat) : Int := (if i < l.length then l.getD i 0 else (i : Int)).tmod vars
def absIf (least v : Int) : Int := if v < 0 ∧ 0 ≤ least then -v else v
def numE (l : List Int) (fr : Nat) (least wide : Int) (i : Nat) : Int := absIf least ((if fr + i < l.length then l.getD (fr + i) 0 else 1).tmod wide)
theorem getD_in' {L : List Int} {lo hi : Int} (h : ∀ v ∈ L, lo ≤ v ∧ v ≤ hi) {i : Nat} (hi' : i < L.length) : lo ≤ L.getD i 0 ∧ L.getD i 0 ≤ hi := h _ (getD_mem L i hi')
theorem tmod_in (a b : Int) (hb : 1 ≤ b) : -b < a.tmod b ∧ a.tmod b < b := by
  have h := Int.natAbs_tmod a b
  have h2 : a.natAbs % b.natAbs < b.natAbs := Nat.mod_lt _ (by omega)
  generalize a.tmod b = r at *
  rw [← h] at h2
  omega
theorem plc_in {l : List Int} {vars : Int} (hv : 1 ≤ vars) (hl : ∀ v ∈ l, 0 ≤ v ∧ v ≤ 255) (i : Nat) : 0 ≤ plcE l vars i ∧ plcE l vars i < vars := by
  unfold plcE
  refine ⟨Int.tmod_nonneg _ ?_, (tmod_in _ _ hv).2⟩
  split
  · rename_i h; exact (getD_in' hl h).1
  · omega
theorem num_in (l : List Int) (fr : Nat) (least : Int) {wide : Int} (hw : 1 ≤ wide) (i : Nat) : -wide < numE l fr least wide i ∧ numE l fr least wide i < wide ∧ (0 ≤ least → 0 ≤ numE l fr least wide i) := by
  unfold numE absIf
  have := tmod_in (if fr + i < l.length then l.getD (fr + i) 0 else 1) wide hw
  generalize (if fr + i < l.length then l.getD (fr + i) 0 else 1).tmod wide = r at *
  split <;> omega

/-- A row of one's own, of numbers. -/
def Row3 (w : World) (b : Nat) (y : Sl) (L : List Int) : Prop := w.ownsRow b 3 1 (.slice y.A y.n y.c) L.length (I L)
theorem Row3.nil (w : World) (b : Nat) : Row3 w b ⟨none, 0, 0⟩ [] := World.ownsRow_nil _ _ _ _

set_option maxHeartbeats 1000000 in
set_option maxRecDepth 100000 in
theorem mkPlaces_any (x : Sl) (l : List Int) (n : Nat) (vars : Int) (w : World) (h : IsNs .u8 w x l) (hl : ∀ v ∈ l, 0 ≤ v ∧ v ≤ 255) (hv : 1 ≤ vars ∧ vars ≤ 1000000) (hn : n ≤ 1000) :
    Calls Tryz.prog 63 #[.slice x.A x.n x.c, .int .i64 (n : Nat), .int .i64 vars] w fun e w' => (∃ y : Sl, e = .returned (.slice y.A y.n y.c) ∧ Row3 w' w.heap.size y (mkL (plcE l vars) n)) ∧ Below w.heap.size w w' := by
  obtain ⟨A, m, c⟩ := x
  obtain ⟨hlen, hL, hbig, hcap⟩ := h
  simp only at hlen hL hbig ⊢
  have HL := Lib.hid hL
  have HV := Lib.hid (fun i => plc_in hv.1 hl i)
  have HB := Lib.hid hl
  have HN := Lib.hid hlen
  have hv0 : (vars == 0) = false := by simp; omega
  have hv1 : ¬ vars = 0 := by omega
  have HVV := Lib.hid hv
  obtain ⟨i0, hi, hz0, hz1, hz2⟩ := info_parts Tryz.info3
  clear hL hl hv hlen
  go_enter Tryz.func63, Tryz.ntmps63
  go_wp2_with fail
  go_loopw [7, 8] (fun s i wr => ∃ (k : Nat) (y : Sl), s = .slice y.A y.n y.c ∧ i = .int .i64 (k : Nat) ∧ k ≤ n ∧ Hid (wr.ownsRow w.heap.size 3 1 (.slice y.A y.n y.c) k (I (mkL (plcE l vars) k))) ∧ Hid (Below w.heap.size w wr)) (fun _ i _ => n - (intOf i).toNat)
  case atStart => exact ⟨0, ⟨none, 0, 0⟩, rfl, rfl, by omega, Lib.hid (World.ownsRow_nil _ _ _ _), Lib.hid (Below.refl _ _)⟩
  case round =>
    obtain ⟨k, y, rfl, rfl, hk, HO, HB0⟩ := hrel
    by_cases hlt : k < n
    · have HT : Hid (I (mkL (plcE l vars) (k + 1)) = I (mkL (plcE l vars) k) ++ [.int .i64 (plcE l vars k)]) := Lib.hid (by rw [mkL_succ, I_append]; rfl)
      have Z5 := Lib.hid HB0.out.size
      by_cases hkm : k < m
      · obtain ⟨ad, rfl, hbk, hcl⟩ := HL.out (by omega)
        have hck : wr.cell? (ad.add k) = some (.int .u8 (l.getD k 0)) := (HB0.out.cell (by rw [add_block]; exact hbk)).trans (hcl k hkm)
        have hb1 := getD_in' HB.out (i := k) (by rw [← HN.out]; exact hkm)
        have he : Hid (plcE l vars k = (l.getD k 0).tmod vars) := Lib.hid (by unfold plcE; rw [if_pos (by rw [← HN.out]; exact hkm)])
        have hp := HV.out k
        have hvv := HVV.out
        rw [he.out] at HT hp
        generalize l.getD k 0 = z at hck hb1 HT hp
        have w1 : IntKind.i64.wrap z = z := IntWalk.i64_in _ (by omega)
        have w2 : IntKind.i64.wrap (z.tmod vars) = z.tmod vars := IntWalk.i64_in _ (by omega)
        clear hcl hbk he hb1 hp hvv
        go_wp2_with (at_builtin; refine wpList_append_own _ rfl _ _ 26 rfl w.heap.size 3 i0 (.int .i64 0) 1 8 Tryz.underlying26 hi hz0 hz1 hz2 rfl (by decide) _ _ _ rfl (HO.out.alloc _) ⟨_, 0, none⟩ 1 1 [.int .i64 (z.tmod vars)] rfl rfl ?c1 ?c2 ?c3 ?c4 ?c5 ?_)
        case c1 => intro j u hj; match j, hj with | 0, hj => simp at hj; subst hj; simp [Addr.add]
        case c2 => intro u hu; simp at hu; subst hu; rfl
        case c3 => unfold maxLen; omega
        case c4 => omega
        case c5 => have := Z5.out; simp; omega
        intro v' w7 hown' hgrow _
        have HB7 := Lib.hid ((HB0.out.alloc HB0.out.size _).grown hgrow (by have := HB0.out.size; simp; omega) (own_ge HO.out))
        rw [← HT.out] at hown'
        obtain ⟨Y, kY, rfl⟩ := slice_row hown'
        have HO7 := Lib.hid hown'
        clear hown' hgrow HO HB0 hck
        go_wp2_with fail
        go_roundw
        case rel => exact ⟨k + 1, ⟨Y, _, kY⟩, rfl, by go_num, by omega, HO7, HB7⟩
        case measure => simp [intOf]; omega
      · have he : Hid (plcE l vars k = ((k : Nat) : Int) % vars) := Lib.hid (by unfold plcE; rw [if_neg (by rw [← HN.out]; exact hkm), Int.tmod_eq_emod_of_nonneg (by omega)])
        have hp := HV.out k
        have hvv := HVV.out
        rw [he.out] at HT hp
        have w2 : IntKind.i64.wrap (((k : Nat) : Int) % vars) = ((k : Nat) : Int) % vars := IntWalk.i64_in _ (by omega)
        clear he hp hvv
        go_wp2_with (at_builtin; refine wpList_append_own _ rfl _ _ 26 rfl w.heap.size 3 i0 (.int .i64 0) 1 8 Tryz.underlying26 hi hz0 hz1 hz2 rfl (by decide) _ _ _ rfl (HO.out.alloc _) ⟨_, 0, none⟩ 1 1 [.int .i64 (((k : Nat) : Int) % vars)] rfl rfl ?c1 ?c2 ?c3 ?c4 ?c5 ?_)
        case c1 => intro j u hj; match j, hj with | 0, hj => simp at hj; subst hj; simp [Addr.add]
        case c2 => intro u hu; simp at hu; subst hu; rfl
        case c3 => unfold maxLen; omega
        case c4 => omega
        case c5 => have := Z5.out; simp; omega
        intro v' w7 hown' hgrow _
        have HB7 := Lib.hid ((HB0.out.alloc HB0.out.size _).grown hgrow (by have := HB0.out.size; simp; omega) (own_ge HO.out))
        rw [← HT.out] at hown'
        obtain ⟨Y, kY, rfl⟩ := slice_row hown'
        have HO7 := Lib.hid hown'
        clear hown' hgrow HO HB0
        go_wp2_with fail
        go_roundw
        case rel => exact ⟨k + 1, ⟨Y, _, kY⟩, rfl, by go_num, by omega, HO7, HB7⟩
        case measure => simp [intOf]; omega
    · have HO2 : Hid (Row3 wr w.heap.size y (mkL (plcE l vars) n)) := Lib.hid (by have := HO.out; rw [show k = n by omega] at this; unfold Row3; rw [mkL_len]; exact this)
      clear HO
      go_wp2_with fail
      go_ret
      exact ⟨⟨y, rfl, HO2.out⟩, HB0.out⟩
set_option maxHeartbeats 1000000 in
set_option maxRecDepth 100000 in
theorem mkNumbers_any (x : Sl) (l : List Int) (fr n : Nat) (least wide : Int) (w : World) (h : IsNs .i8 w x l) (hl : ∀ v ∈ l, -128 ≤ v ∧ v ≤ 127) (hw : 1 ≤ wide ∧ wide ≤ 100) (hn : n ≤ 1000) (hf : fr ≤ 100000) :
    Calls Tryz.prog 64 #[.slice x.A x.n x.c, .int .i64 (fr : Nat), .int .i64 (n : Nat), .int .i64 least, .int .i64 wide] w fun e w' => (∃ y : Sl, e = .returned (.slice y.A y.n y.c) ∧ Row3 w' w.heap.size y (mkL (numE l fr least wide) n)) ∧ Below w.heap.size w w' := by
  obtain ⟨A, m, c⟩ := x
  obtain ⟨hlen, hL, hbig, hcap⟩ := h
  simp only at hlen hL hbig ⊢
  have HL := Lib.hid hL
  have HB := Lib.hid hl
  have HN := Lib.hid hlen
  have hv0 : (wide == 0) = false := by simp; omega
  have hv1 : ¬ wide = 0 := by omega
  have HVV := Lib.hid hw
  obtain ⟨i0, hi, hz0, hz1, hz2⟩ := info_parts Tryz.info3
  clear hL hl hw hlen
  go_enter Tryz.func64, Tryz.ntmps64
  go_wp2_with fail
  go_loopw [11, 12] (fun s i wr => ∃ (k : Nat) (y : Sl), s = .slice y.A y.n y.c ∧ i = .int .i64 (k : Nat) ∧ k ≤ n ∧ Hid (wr.ownsRow w.heap.size 3 1 (.slice y.A y.n y.c) k (I (mkL (numE l fr least wide) k))) ∧ Hid (Below w.heap.size w wr)) (fun _ i _ => n - (intOf i).toNat)
  case atStart => exact ⟨0, ⟨none, 0, 0⟩, rfl, rfl, by omega, Lib.hid (World.ownsRow_nil _ _ _ _), Lib.hid (Below.refl _ _)⟩
  case round =>
    obtain ⟨k, y, rfl, rfl, hk, HO, HB0⟩ := hrel
    by_cases hlt : k < n
    · have HT : Hid (I (mkL (numE l fr least wide) (k + 1)) = I (mkL (numE l fr least wide) k) ++ [.int .i64 (numE l fr least wide k)]) := Lib.hid (by rw [mkL_succ, I_append]; rfl)
      have Z5 := Lib.hid HB0.out.size
      have hcomp : Hid (fr + k = fr + k) := Lib.hid rfl
      obtain ⟨q, hq⟩ : ∃ q, q = fr + k := ⟨_, rfl⟩
      have HQ := Lib.hid hq
      have ws : IntKind.i64.wrap ((fr : Int) + (k : Int)) = ((q : Nat) : Int) := by rw [hq, ← Int.natCast_add]; exact IntWalk.i64_in _ (by omega)
      have hq6 : q ≤ 1000000 := by omega
      clear hq hcomp
      go_upto_if 24 with fail
      go_cut [13] (fun a wx => a = .int .i64 (if q < l.length then l.getD q 0 else 1) ∧ wr = wx)
      case first =>
        by_cases hkm : q < m
        · obtain ⟨ad, rfl, hbk, hcl⟩ := HL.out (by omega)
          have hck : wr.cell? (ad.add q) = some (.int .i8 (l.getD q 0)) := (HB0.out.cell (by rw [add_block]; exact hbk)).trans (hcl q hkm)
          have hb1 := getD_in' HB.out (i := q) (by rw [← HN.out]; exact hkm)
          obtain ⟨z, hz⟩ : ∃ z, z = l.getD q 0 := ⟨_, rfl⟩
          have E : Hid ((if q < l.length then l.getD q 0 else 1) = z) := Lib.hid (by rw [hz]; exact if_pos (by rw [← HN.out]; exact hkm))
          rw [← hz] at hck hb1
          clear hz
          have w1 : IntKind.i64.wrap z = z := IntWalk.i64_in _ (by omega)
          clear hcl hbk hb1
          go_wp2_with fail
          go_meet
          case rel => exact ⟨by rw [E.out], by first | rfl | trivial⟩
        · have E : Hid ((if q < l.length then l.getD q 0 else 1) = 1) := Lib.hid (if_neg (by rw [← HN.out]; exact hkm))
          go_wp2_with fail
          go_meet
          case rel => exact ⟨by rw [E.out], by first | rfl | trivial⟩
      case rest =>
        obtain ⟨rfl, rfl⟩ := hcut
        have he : Hid (numE l fr least wide k = absIf least ((if q < l.length then l.getD q 0 else 1).tmod wide)) := Lib.hid (by rw [HQ.out]; rfl)
        have hp := tmod_in (if q < l.length then l.getD q 0 else 1) wide HVV.out.1
        have hvv := HVV.out
        rw [he.out] at HT
        generalize (if q < l.length then l.getD q 0 else 1) = z at *
        have w2 : IntKind.i64.wrap (z.tmod wide) = z.tmod wide := IntWalk.i64_in _ (by omega)
        have w3 : IntKind.i64.wrap (-(z.tmod wide)) = -(z.tmod wide) := IntWalk.i64_in _ (by omega)
        clear hp hvv he
        by_cases h1 : z.tmod wide < 0
        · have e1 : decide (z.tmod wide < 0) = true := by simpa using h1
          by_cases h2 : 0 ≤ least
          · have e2 : decide (0 ≤ least) = true := by simpa using h2
            have HT2 : Hid (absIf least (z.tmod wide) = -(z.tmod wide)) := Lib.hid (by unfold absIf; rw [if_pos ⟨h1, h2⟩])
            rw [HT2.out] at HT
            clear HT2 h1 h2
            go_wp2_with (at_builtin; refine wpList_append_own _ rfl _ _ 26 rfl w.heap.size 3 i0 (.int .i64 0) 1 8 Tryz.underlying26 hi hz0 hz1 hz2 rfl (by decide) _ _ _ rfl (HO.out.alloc _) ⟨_, 0, none⟩ 1 1 [.int .i64 (-(z.tmod wide))] rfl rfl ?c1 ?c2 ?c3 ?c4 ?c5 ?_)
            case c1 => intro j u hj; match j, hj with | 0, hj => simp at hj; subst hj; simp [Addr.add]
            case c2 => intro u hu; simp at hu; subst hu; rfl
            case c3 => unfold maxLen; omega
            case c4 => omega
            case c5 => have := Z5.out; simp; omega
            intro v' w7 hown' hgrow _
            have HB7 := Lib.hid ((HB0.out.alloc HB0.out.size _).grown hgrow (by have := HB0.out.size; simp; omega) (own_ge HO.out))
            rw [← HT.out] at hown'
            obtain ⟨Y, kY, rfl⟩ := slice_row hown'
            have HO7 := Lib.hid hown'
            clear hown' hgrow HO HB0
            go_wp2_with fail
            go_roundw
            case rel => exact ⟨k + 1, ⟨Y, _, kY⟩, rfl, by go_num, by omega, HO7, HB7⟩
            case measure => simp [intOf]; omega
          · have e2 : decide (0 ≤ least) = false := by simpa using h2
            have HT2 : Hid (absIf least (z.tmod wide) = z.tmod wide) := Lib.hid (by unfold absIf; rw [if_neg (fun q => h2 q.2)])
            rw [HT2.out] at HT
            clear HT2 h1 h2
            go_wp2_with (at_builtin; refine wpList_append_own _ rfl _ _ 26 rfl w.heap.size 3 i0 (.int .i64 0) 1 8 Tryz.underlying26 hi hz0 hz1 hz2 rfl (by decide) _ _ _ rfl (HO.out.alloc _) ⟨_, 0, none⟩ 1 1 [.int .i64 (z.tmod wide)] rfl rfl ?c1 ?c2 ?c3 ?c4 ?c5 ?_)
            case c1 => intro j u hj; match j, hj with | 0, hj => simp at hj; subst hj; simp [Addr.add]
            case c2 => intro u hu; simp at hu; subst hu; rfl
            case c3 => unfold maxLen; omega
            case c4 => omega
            case c5 => have := Z5.out; simp; omega
            intro v' w7 hown' hgrow _
            have HB7 := Lib.hid ((HB0.out.alloc HB0.out.size _).grown hgrow (by have := HB0.out.size; simp; omega) (own_ge HO.out))
            rw [← HT.out] at hown'
            obtain ⟨Y, kY, rfl⟩ := slice_row hown'
            have HO7 := Lib.hid hown'
            clear hown' hgrow HO HB0
            go_wp2_with fail
            go_roundw
            case rel => exact ⟨k + 1, ⟨Y, _, kY⟩, rfl, by go_num, by omega, HO7, HB7⟩
            case measure => simp [intOf]; omega
        · have e1 : decide (z.tmod wide < 0) = false := by simpa using h1
          by_cases h2 : 0 ≤ least
          · skip
            have HT2 : Hid (absIf least (z.tmod wide) = z.tmod wide) := Lib.hid (by unfold absIf; rw [if_neg (fun q => h1 q.1)])
            rw [HT2.out] at HT
            clear HT2 h1 h2
            go_wp2_with (at_builtin; refine wpList_append_own _ rfl _ _ 26 rfl w.heap.size 3 i0 (.int .i64 0) 1 8 Tryz.underlying26 hi hz0 hz1 hz2 rfl (by decide) _ _ _ rfl (HO.out.alloc _) ⟨_, 0, none⟩ 1 1 [.int .i64 (z.tmod wide)] rfl rfl ?c1 ?c2 ?c3 ?c4 ?c5 ?_)
            case c1 => intro j u hj; match j, hj with | 0, hj => simp at hj; subst hj; simp [Addr.add]
            case c2 => intro u hu; simp at hu; subst hu; rfl
            case c3 => unfold maxLen; omega
            case c4 => omega
            case c5 => have := Z5.out; simp; omega
            intro v' w7 hown' hgrow _
            have HB7 := Lib.hid ((HB0.out.alloc HB0.out.size _).grown hgrow (by have := HB0.out.size; simp; omega) (own_ge HO.out))
            rw [← HT.out] at hown'
            obtain ⟨Y, kY, rfl⟩ := slice_row hown'
            have HO7 := Lib.hid hown'
            clear hown' hgrow HO HB0
            go_wp2_with fail
            go_roundw
            case rel => exact ⟨k + 1, ⟨Y, _, kY⟩, rfl, by go_num, by omega, HO7, HB7⟩
            case measure => simp [intOf]; omega
          · skip
            have HT2 : Hid (absIf least (z.tmod wide) = z.tmod wide) := Lib.hid (by unfold absIf; rw [if_neg (fun q => h1 q.1)])
            rw [HT2.out] at HT
            clear HT2 h1 h2
            go_wp2_with (at_builtin; refine wpList_append_own _ rfl _ _ 26 rfl w.heap.size 3 i0 (.int .i64 0) 1 8 Tryz.underlying26 hi hz0 hz1 hz2 rfl (by decide) _ _ _ rfl (HO.out.alloc _) ⟨_, 0, none⟩ 1 1 [.int .i64 (z.tmod wide)] rfl rfl ?c1 ?c2 ?c3 ?c4 ?c5 ?_)
            case c1 => intro j u hj; match j, hj with | 0, hj => simp at hj; subst hj; simp [Addr.add]
            case c2 => intro u hu; simp at hu; subst hu; rfl
            case c3 => unfold maxLen; omega
            case c4 => omega
            case c5 => have := Z5.out; simp; omega
            intro v' w7 hown' hgrow _
            have HB7 := Lib.hid ((HB0.out.alloc HB0.out.size _).grown hgrow (by have := HB0.out.size; simp; omega) (own_ge HO.out))
            rw [← HT.out] at hown'
            obtain ⟨Y, kY, rfl⟩ := slice_row hown'
            have HO7 := Lib.hid hown'
            clear hown' hgrow HO HB0
            go_wp2_with fail
            go_roundw
            case rel => exact ⟨k + 1, ⟨Y, _, kY⟩, rfl, by go_num, by omega, HO7, HB7⟩
            case measure => simp [intOf]; omega
    · have HO2 : Hid (Row3 wr w.heap.size y (mkL (numE l fr least wide) n)) := Lib.hid (by have := HO.out; rw [show k = n by omega] at this; unfold Row3; rw [mkL_len]; exact this)
      clear HO
      go_wp2_with fail
      go_ret
      exact ⟨⟨y, rfl, HO2.out⟩, HB0.out⟩
end Go.Proofs.YtcmdgjkoalophaaGreatDoor

/- Right and the document's Right tell the same: the whole. No walk. -/
namespace Go.Proofs.YtcmdgjkoalophaaGreatDoor
open Go.RowKit

theorem alike_all (c : ConL) (k : Nat) (hk : k < 23) (h : c.kind = ((k + 1 : Nat) : Int)) : Alike c ⟨((ents.getD k noEnt).shape).toArray⟩ := by
  have hh : k = 0 ∨ k = 1 ∨ k = 2 ∨ k = 3 ∨ k = 4 ∨ k = 5 ∨ k = 6 ∨ k = 7 ∨ k = 8 ∨ k = 9 ∨ k = 10 ∨ k = 11 ∨ k = 12 ∨ k = 13 ∨ k = 14 ∨ k = 15 ∨ k = 16 ∨ k = 17 ∨ k = 18 ∨ k = 19 ∨ k = 20 ∨ k = 21 ∨ k = 22 := by omega
  rcases hh with rfl | rfl | rfl | rfl | rfl | rfl | rfl | rfl | rfl | rfl | rfl | rfl | rfl | rfl | rfl | rfl | rfl | rfl | rfl | rfl | rfl | rfl | rfl
  · exact alike1 c h
  · exact alike2 c h
  · exact alike3 c h
  · exact alike4 c h
  · exact alike5 c h
  · exact alike6 c h
  · exact alike7 c h
  · exact alike8 c h
  · exact alike9 c h
  · exact alike10 c h
  · exact alike11 c h
  · exact alike12 c h
  · exact alike13 c h
  · exact alike14 c h
  · exact alike15 c h
  · exact alike16 c h
  · exact alike17 c h
  · exact alike18 c h
  · exact alike19 c h
  · exact alike20 c h
  · exact alike21 c h
  · exact alike22 c h
  · exact alike23 c h

def highV (vars : Int) : Int := if 0 < vars then vars - 1 else -1
theorem out_high (vars z : Int) : outB 0 (highV vars) z = outV vars z := by
  unfold outB outV highV
  rw [Bool.eq_iff_iff]
  split <;> simp <;> omega

/-- What the document's Right tells. -/
def refRightE (c : ConL) (vars : Int) : Int :=
  if c.kind < 1 ∨ 23 < c.kind then 9
  else if arityB c ⟨(shapesL.getD c.kind.toNat []).toArray⟩ = false then 10
  else if (c.A.any (outB 0 (highV vars)) || c.B.any (outB 0 (highV vars))) = true then 7
  else if coefsB c = false then 11 else 0

theorem nums_coefs {c : ConL} {sh : ByteArray} (h : Alike c sh) (hs : sizesB c sh = true) : numsB c = coefsB c := by
  unfold numsB coefsB secD
  by_cases h19 : c.kind = 19
  · rw [if_pos (.inl h19)]
  · by_cases h21 : c.kind = 21
    · rw [if_pos (.inr h21)]
    · rw [if_neg (by omega)]
      obtain ⟨e1, e2⟩ := h.2.1 hs h19 h21
      rw [e1, e2]
      rfl

theorem right_same (c : ConL) (vars : Int) : rightE c vars = refRightE c vars := by
  unfold rightE refRightE
  by_cases ho : c.kind < 1 ∨ 23 < c.kind
  · rw [found_out ho, if_pos rfl, if_pos ho]
  · obtain ⟨k, hk⟩ : ∃ k : Nat, c.kind = ((k + 1 : Nat) : Int) := ⟨(c.kind - 1).toNat, by omega⟩
    have hk23 : k < 23 := by omega
    have hA := alike_all c k hk23 hk
    rw [if_neg ho, hk, found_in hk23]
    simp only [Bool.true_eq_false, if_false]
    have e1 : (((k + 1 : Nat) : Int)).toNat = k + 1 := by omega
    rw [e1, shape_in hk23]
    rw [hA.1]
    have eo : ∀ L : List Int, L.any (outB 0 (highV vars)) = L.any (outV vars) := fun L => by
      congr 1
      funext z
      exact out_high vars z
    rw [eo, eo]
    cases hb : arityB c ⟨((ents.getD k noEnt).shape).toArray⟩
    · rfl
    · rw [nums_coefs hA (hA.1.trans hb)]
end Go.Proofs.YtcmdgjkoalophaaGreatDoor

/- Contract: the document's Right. -/
namespace Go.Proofs.YtcmdgjkoalophaaGreatDoor
open Go.RowKit Go.Sort

theorem shape_size (k : Nat) : (⟨(shapesL.getD k []).toArray⟩ : ByteArray).size ≤ 4611686018427387904 := by
  have h : shapesL.all (fun l => decide (l.length ≤ 10)) = true := by kernel_rfl
  show (shapesL.getD k []).toArray.size ≤ _
  rw [List.size_toArray]
  by_cases hk : k < shapesL.length
  · have := List.all_eq_true.1 h (shapesL.getD k []) (by rw [List.getD_eq_getElem?_getD, List.getElem?_eq_getElem hk]; exact List.getElem_mem hk)
    simp only [decide_eq_true_eq] at this
    omega
  · rw [List.getD_eq_getElem?_getD, List.getElem?_eq_none (by omega)]
    decide

set_option maxHeartbeats 8000000 in
set_option maxRecDepth 100000 in
theorem refright_any (v : ConV) (c : ConL) (vars : Int) (w : World) (h : ConIn w v c) (hvars : vars ≤ 9223372036854775807) : Calls Tryz.prog 51 #[v.val c.kind c.K, .int .i64 vars] w fun e w' => e = .returned (.int .i64 (refRightE c vars)) ∧ Below w.heap.size w w' := by
  have CS := Lib.hid shapes_any
  have CA : Hid (∀ W, Below w.heap.size w W → Calls Tryz.prog 104 #[v.val c.kind c.K, .string ⟨(shapesL.getD c.kind.toNat []).toArray⟩] W fun e w' => e = .returned (.bool (arityB c ⟨(shapesL.getD c.kind.toNat []).toArray⟩)) ∧ Below W.heap.size W w') := Lib.hid (fun W hW => arity_any v c _ W (h.below hW) (shape_size _))
  have CC : Hid (arityB c ⟨(shapesL.getD c.kind.toNat []).toArray⟩ = true → 1 ≤ c.kind → c.kind ≤ 23 → ∀ W, Below w.heap.size w W → Calls Tryz.prog 106 #[v.val c.kind c.K] W fun e w' => e = .returned (.bool (coefsB c)) ∧ Below W.heap.size W w') := Lib.hid (fun q q1 q2 W hW => coefs_any v c W (h.below hW) (fun e => by
    have hA := alike_all c 20 (by omega) e
    rw [e] at q
    exact hA.2.2 (hA.1.trans q) e))
  have C1 : Hid (∀ W, Below w.heap.size w W → Calls Tryz.prog 105 #[.slice v.a.A v.a.n v.a.c, .int .i64 0, .int .i64 (highV vars)] W fun e w' => e = .returned (.bool (!c.A.any (outB 0 (highV vars)))) ∧ W = w') := Lib.hid (fun W hW => refIn_any v.a c.A 0 (highV vars) W (h.a.below hW))
  have C2 : Hid (∀ W, Below w.heap.size w W → Calls Tryz.prog 105 #[.slice v.b.A v.b.n v.b.c, .int .i64 0, .int .i64 (highV vars)] W fun e w' => e = .returned (.bool (!c.B.any (outB 0 (highV vars)))) ∧ W = w') := Lib.hid (fun W hW => refIn_any v.b c.B 0 (highV vars) W (h.b.below hW))
  have hhi : Hid (highV vars = if 0 < vars then vars - 1 else -1) := Lib.hid rfl
  have HRES : Hid (refRightE c vars = if c.kind < 1 ∨ 23 < c.kind then 9 else if arityB c ⟨(shapesL.getD c.kind.toNat []).toArray⟩ = false then 10 else if (c.A.any (outB 0 (highV vars)) || c.B.any (outB 0 (highV vars))) = true then 7 else if coefsB c = false then 11 else 0) := Lib.hid rfl
  generalize refRightE c vars = RES at HRES ⊢
  generalize highV vars = HV at hhi C1 C2 HRES
  generalize c.A.any (outB 0 HV) = t2 at C1 HRES
  generalize c.B.any (outB 0 HV) = t3 at C2 HRES
  generalize coefsB c = t4 at CC HRES
  generalize hT1 : arityB c ⟨(shapesL.getD c.kind.toNat []).toArray⟩ = t1 at CA CC HRES
  clear hT1 h
  generalize c.kind = kd at *
  generalize c.K = kk at *
  obtain ⟨wb, hwb⟩ : ∃ wb, (w.alloc (.cells (v.cells kd kk) 37)) = wb := ⟨_, rfl⟩
  have Bb : Hid (Below (w.heap.size + 1) (w.alloc (.cells (v.cells kd kk) 37)) wb) := Lib.hid (by rw [← hwb, show w.heap.size + 1 = (w.alloc (.cells (v.cells kd kk) 37)).heap.size by simp]; exact Below.refl _ _)
  have HWB := Lib.hid hwb
  clear hwb
  go_enter Tryz.func51, Tryz.ntmps51
  go_upto_region 1 with fail
  change Code.wp _ _ _ _ (w.alloc (.cells (v.cells kd kk) 37))
  rw [HWB.out]
  clear HWB
  obtain ⟨c0, c1, c2, c3, c4, c5, c6, c7⟩ := box8 Bb.out
  by_cases h1 : kd < 1
  · have HR2 := Lib.hid (HRES.out.trans (if_pos (.inl h1)))
    have h1b : decide (kd < 1) = true := by simpa using h1
    clear h1
    go_wp2_with fail
    go_ret
    exact ⟨int_eq HR2.out.symm, of_boxed Bb.out⟩
  · have h1b : decide (kd < 1) = false := by simpa using h1
    by_cases h2 : 23 < kd
    · have HR2 := Lib.hid (HRES.out.trans (if_pos (.inr h2)))
      have h2b : decide (23 < kd) = true := by simpa using h2
      clear h1 h2
      go_wp2_with fail
      go_ret
      exact ⟨int_eq HR2.out.symm, of_boxed Bb.out⟩
    · have HR2 := Lib.hid (HRES.out.trans (if_neg (by omega)))
      have h2b : decide (23 < kd) = false := by simpa using h2
      obtain ⟨k, hk⟩ : ∃ k : Nat, kd = ((k : Nat) : Int) := ⟨kd.toNat, by omega⟩
      have HKR : Hid (1 ≤ k ∧ k ≤ 23) := Lib.hid (by omega)
      subst hk
      have CC2 : Hid (t1 = true → ∀ W, Below w.heap.size w W → Calls Tryz.prog 106 #[v.val ((k : Nat) : Int) kk] W fun e w' => e = .returned (.bool t4) ∧ Below W.heap.size W w') := Lib.hid (fun q => CC.out q (by omega) (by omega))
      clear h1 h2 CC
      go_wp2_with fail
      refine (CS.out _).mono ?_
      rintro e w1 ⟨⟨x, rfl, hx⟩, b1⟩
      have B1 : Hid (Below (w.heap.size + 1) (w.alloc (.cells (v.cells ((k : Nat) : Int) kk) 37)) w1) := Lib.hid (Bb.out.trans (b1.mono (by have := Bb.out.size; simpa using this)))
      obtain ⟨ad, ead, had, hcl⟩ := hx.lies (by rw [hx.len]; decide)
      have hxn : x.n = 24 := hx.len
      have hkn : k < x.n := by have := HKR.out; omega
      have hck : ∀ d os, (grow (redrawn w1 d) os).cell? (ad.add k) = some (.string ⟨(shapesL.getD k []).toArray⟩) := cell_regrown (hcl k hkn)
      have hkn2 : ((k : Nat) : Int) < ((x.n : Nat) : Int) := by omega
      rw [ead]
      clear b1 hx hcl had ead hxn c0 c1 c2 c3 c4 c5 c6 c7 CS
      have HCA := Lib.hid (bo_regrown (w := w1) (fun W hW => CA.out W ((of_boxed B1.out).trans (hW.mono (of_boxed B1.out).size))))
      have ek : (((k : Nat) : Int)).toNat = k := by omega
      rw [ek] at HCA
      clear ek CA
      generalize shapesL.getD k [] = SH at hck HCA
      obtain ⟨b0, b1, b2, b3, b4, b5, b6, b7⟩ := ConBox.of B1.out
      go_upto_region 4 with fail
      go_cut [6] (fun a wx => a = .bool t1 ∧ Hid (Below (w.heap.size + 1) (w.alloc (.cells (v.cells ((k : Nat) : Int) kk) 37)) wx))
      case first =>
        refine wp_region_quiet_below (by kernel_rfl) (by kernel_rfl) ?_
        repeat (first | go_big_quiet_step (first | (go_at_call 104; with_reducible exact HCA.out _ _)) | quiet_step (first | (go_at_call 104; with_reducible exact HCA.out _ _)))
        refine wpQuiet_nil ?_
        intro _ hw'
        obtain ⟨⟨dq, osq⟩, hw''⟩ := hw'
        subst hw''
        have B6 : Hid (Below (w.heap.size + 1) (w.alloc (.cells (v.cells ((k : Nat) : Int) kk) 37)) (grow (redrawn w1 dq) osq)) := Lib.hid (B1.out.trans ((below_regrown w1 dq osq).mono (by have := B1.out.size; simpa using this)))
        generalize grow (redrawn w1 dq) osq = W6 at *
        go_wp2_with fail
        go_meet
        case rel => exact ⟨rfl, B6⟩
      case rest =>
        obtain ⟨rfl, B6⟩ := hcut
        clear b0 b1 b2 b3 b4 b5 b6 b7 hck HCA
        obtain ⟨wc, rfl⟩ : ∃ wy, wy = wc := ⟨_, rfl⟩
        obtain ⟨c0, c1, c2, c3, c4, c5, c6, c7⟩ := box8 B6.out
        cases t1
        · have HR3 : Hid (RES = 10) := Lib.hid (by rw [HR2.out]; rfl)
          clear HR2
          go_wp2_with fail
          go_ret
          exact ⟨int_eq HR3.out.symm, of_boxed B6.out⟩
        · have CC3 := Lib.hid (CC2.out rfl)
          have HR3 : Hid (RES = if (t2 || t3) = true then 7 else if t4 = false then 11 else 0) := Lib.hid (by rw [HR2.out]; rfl)
          clear HR2 CC2
          go_upto_if 29 with fail
          go_cut [7] (fun a7 wz => a7 = .int .i64 HV ∧ wc = wz)
          case first =>
            by_cases h0 : 0 < vars
            · have hb : decide (0 < vars) = true := by simpa using h0
              have h1 := hhi.out
              rw [if_pos h0] at h1
              have H1 := Lib.hid h1
              clear h1
              go_wp2_with fail
              go_meet
              case rel => exact ⟨by rw [H1.out], by first | rfl | trivial⟩
            · have hb : decide (0 < vars) = false := by simpa using h0
              have h1 := hhi.out
              rw [if_neg h0] at h1
              have H1 := Lib.hid h1
              clear h1
              go_wp2_with fail
              go_meet
              case rel => exact ⟨by rw [H1.out], by first | rfl | trivial⟩
          case rest =>
            obtain ⟨rfl, rfl⟩ := hcut
            go_wp2_with fail
            refine (C1.out _ (of_boxed B6.out)).mono ?_
            rintro e w' ⟨rfl, rfl⟩
            go_wp2_with fail
            refine (C2.out _ (of_boxed B6.out)).mono ?_
            rintro e w' ⟨rfl, rfl⟩
            cases t2
            · cases t3
              · have HR4 : Hid (RES = if t4 = false then 11 else 0) := Lib.hid (by rw [HR3.out]; rfl)
                clear HR3
                go_wp2_with fail
                refine (CC3.out _ (of_boxed B6.out)).mono ?_
                rintro e w7 ⟨rfl, b7⟩
                have B7 := Lib.hid ((of_boxed B6.out).trans (b7.mono (of_boxed B6.out).size))
                clear b7
                cases t4
                · go_wp2_with fail
                  go_ret
                  exact ⟨int_eq (by rw [HR4.out]; rfl), B7.out⟩
                · go_wp2_with fail
                  go_ret
                  exact ⟨int_eq (by rw [HR4.out]; rfl), B7.out⟩
              · go_wp2_with fail
                go_ret
                exact ⟨int_eq (by rw [HR3.out]; rfl), of_boxed B6.out⟩
            · go_wp2_with fail
              go_ret
              exact ⟨int_eq (by rw [HR3.out]; rfl), of_boxed B6.out⟩
end Go.Proofs.YtcmdgjkoalophaaGreatDoor

/- Contract of the document's Fits (layer 10): shared by layers 10 to 22. -/
import Derived.Test.YtkhmocbfkpbpfaaGreatDoorSh1
import Derived.Test.YtkhmocbfkpbpfaaGreatDoorRg2
import Derived.Test.YtkhmocbfkpbpfaaGreatDoorGcon
import Derived.Test.YtkhmocbfkpbpfaaGreatDoorMkp
import Derived.Test.YtkhmocbfkpbpfaaGreatDoorMshapes
import Derived.Test.YtkhmocbfkpbpfaaGreatDoorRg6
import Derived.Deep.RegionHeld3
namespace Go.Proofs.YtkhmocbfkpbpfaaGreatDoor
open Go.RowKit Go.Sort

/-- May a constraint of kinds from one to another one be filtered, with these domains? -/
def fitsE (c : ConL) (D : List (List Int)) (first last : Int) : Bool :=
  !decide (c.kind < first) && !decide (last < c.kind) && decide (D.length = c.A.length + c.B.length) && (rightE c 256 == 0) && !D.any (fun l => l.length == 0)

set_option maxHeartbeats 4000000 in
set_option maxRecDepth 100000 in
theorem fits_any (v : ConV) (c : ConL) (x : Sl) (D : List (List Int)) (first last : Int) (w : World) (h : ConIn w v c) (hx : IsRows w x D) :
    Calls Tryz.prog 24 #[v.val c.kind c.K, .slice x.A x.n x.c, .int .i64 first, .int .i64 last] w fun e w' => e = .returned (.bool (fitsE c D first last)) ∧ Below w.heap.size w w' := by
  obtain ⟨wb, hwb⟩ : ∃ wb, cBox w v c.kind c.K = wb := ⟨_, rfl⟩
  have HR : Hid (RBox w.heap.size wb v c ⟨none, 0, 0⟩ [] ∧ Below w.heap.size w wb) := Lib.hid (hwb ▸ ⟨RBox.start h (IsInts.nil _), cBox_below _ _ _ _⟩)
  have HD := Lib.hid (hx.below HR.out.2)
  have hxb := hx.big
  have hab := h.a.big
  have hbb := h.b.big
  have CR : Hid (Calls Tryz.prog 65 #[v.val c.kind c.K, .int .i64 256] wb fun e w' => e = .returned (.int .i64 (rightE c 256)) ∧ Below wb.heap.size wb w') := Lib.hid (by
    rw [right_same]
    exact refright_any v c 256 wb HR.out.1.con (by omega))
  have HV : Hid (fitsE c D first last = (!decide (c.kind < first) && !decide (last < c.kind) && decide (x.n = v.a.n + v.b.n) && (rightE c 256 == 0) && !D.any (fun l => l.length == 0))) := Lib.hid (by unfold fitsE; rw [h.a.len, h.b.len, hx.len])
  have HN : Hid (noneN (fun i => (D.getD i []).length == 0) x.n = !D.any (fun l => l.length == 0)) := Lib.hid (by rw [hx.len]; exact none_rows (fun l => l.length == 0) D)
  obtain ⟨RES, hRES⟩ : ∃ B, B = fitsE c D first last := ⟨_, rfl⟩
  rw [← hRES] at HV ⊢
  have HWB := Lib.hid hwb
  obtain ⟨rr, hrr⟩ : ∃ rr, rr = rightE c 256 := ⟨_, rfl⟩
  rw [← hrr] at CR HV
  obtain ⟨OB, hOB⟩ : ∃ B, B = D.any (fun l => l.length == 0) := ⟨_, rfl⟩
  rw [← hOB] at HV HN
  have d0 := HR.out.1.c0
  have d1 := HR.out.1.c1
  have d2 := HR.out.1.c2
  have d3 := HR.out.1.c3
  have d4 := HR.out.1.c4
  have d5 := HR.out.1.c5
  have d6 := HR.out.1.c6
  have d7 := HR.out.1.c7
  have ws : IntKind.i64.wrap (((v.a.n : Nat) : Int) + ((v.b.n : Nat) : Int)) = ((v.a.n : Nat) : Int) + ((v.b.n : Nat) : Int) := IntWalk.i64_in _ (by omega)
  clear hwb h hx hRES hrr hOB
  cases g1 : decide (c.kind < first)
  case' true => have HF : Hid (RES = false) := Lib.hid (by rw [HV.out, g1]; rfl)
  case' false => cases g2 : decide (last < c.kind)
  case' false.true => have HF : Hid (RES = false) := Lib.hid (by rw [HV.out, g2]; simp)
  case' false.false => by_cases g3 : x.n = v.a.n + v.b.n
  case' neg =>
    have HF : Hid (RES = false) := Lib.hid (by rw [HV.out, decide_eq_false g3]; simp)
    have g4 : (((x.n : Nat) : Int) != ((v.a.n : Nat) : Int) + ((v.b.n : Nat) : Int)) = true := by simp; omega
    clear g3
  case' pos =>
    have HF0 : Hid (RES = ((rr == 0) && !OB)) := Lib.hid (by rw [HV.out, g1, g2, decide_eq_true g3]; simp)
    have g4 : (((x.n : Nat) : Int) != ((v.a.n : Nat) : Int) + ((v.b.n : Nat) : Int)) = false := by simp; omega
    clear g3
  case' pos =>
    clear HV
    go_enter Tryz.func24, Tryz.ntmps24
    go_upto_region 1 with fail
    change Code.wp _ _ _ _ (cBox w v c.kind c.K)
    rw [HWB.out]
    clear HWB
    go_wp2_with fail
    refine CR.out.mono ?_
    rintro e w1 ⟨rfl, b1⟩
    have HB1 := Lib.hid (HR.out.2.trans (b1.mono HR.out.2.size))
    have HD1 := Lib.hid (HD.out.below b1)
    clear b1 CR HD HR d0 d1 d2 d3 d4 d5 d6 d7
    cases g : (rr == 0)
    · have gn : (rr != 0) = true := by unfold bne; rw [g]; rfl
      have HW : Hid (RES = false) := Lib.hid (by rw [HF0.out, g]; simp)
      clear HF0 HN
      go_wp2_with fail
      go_ret
      exact ⟨ret_bool HW.out.symm, HB1.out⟩
    · have gn : (rr != 0) = false := by unfold bne; rw [g]; rfl
      have HW : Hid (RES = !OB) := Lib.hid (by rw [HF0.out, g]; simp)
      clear HF0
      go_wp2_with fail
      go_loopw [10] (fun i wr => ∃ (k : Nat), i = .int .i64 (k : Nat) ∧ k ≤ x.n ∧ Hid (noTo (fun i => (D.getD i []).length == 0) k) ∧ Hid (IsRows wr x D ∧ Below w.heap.size w wr)) (fun i _ => x.n - (intOf i).toNat)
      case atStart => exact ⟨0, rfl, by omega, Lib.hid (noTo_zero _), Lib.hid ⟨HD1.out, HB1.out⟩⟩
      case round =>
        clear HD1 HB1
        obtain ⟨k, rfl, hk, H0, HRR⟩ := hrel
        by_cases hlt : k < x.n
        · obtain ⟨ad, u, ex, qx, ux⟩ := rows_at HRR.out.1 k hlt
          rw [ex]
          have HST : Hid (((D.getD k []).length == 0) = false → noTo (fun i => (D.getD i []).length == 0) (k + 1)) := Lib.hid (fun e => noTo_step H0.out e)
          have HBAD : Hid (((D.getD k []).length == 0) = true → RES = false) := Lib.hid (fun e => by rw [HW.out, ← HN.out]; exact none_no (k := k) hlt e)
          have HL : Hid (u.n = (D.getD k []).length) := Lib.hid ux.len
          have hub := ux.big
          clear ex ux H0
          by_cases hz : u.n = 0
          · have e1 : (((u.n : Nat) : Int) == 0) = true := by simp [hz]
            have HF := Lib.hid (HBAD.out (by rw [← HL.out]; simp [hz]))
            clear hz HBAD HST
            go_wp2_with fail
            go_ret
            exact ⟨ret_bool HF.out.symm, HRR.out.2⟩
          · have e1 : (((u.n : Nat) : Int) == 0) = false := by simp [hz]
            have H2 := Lib.hid (HST.out (by rw [← HL.out]; simp [hz]))
            clear hz HBAD HST
            go_wp2_with fail
            go_roundw
            case rel => exact ⟨k + 1, by go_num, by omega, H2, HRR⟩
            case measure => simp [intOf]; omega
        · have HF : Hid (RES = true) := Lib.hid (by
            rw [HW.out, ← HN.out]
            exact none_yes (by have := H0.out; rwa [show k = x.n by omega] at this))
          clear H0 HN
          go_wp2_with fail
          go_ret
          exact ⟨ret_bool HF.out.symm, HRR.out.2⟩
  all_goals
    clear HV CR
    go_enter Tryz.func24, Tryz.ntmps24
    go_upto_region 1 with fail
    change Code.wp _ _ _ _ (cBox w v c.kind c.K)
    rw [HWB.out]
    clear HWB
    go_wp2_with fail
    go_ret
    exact ⟨ret_bool HF.out.symm, HR.out.2⟩
end Go.Proofs.YtkhmocbfkpbpfaaGreatDoor

/- What is left of the domains of a product, a quotient, a remainder: over lists. No walk. -/
namespace Go.Proofs.YtkhmocbfkpbpfaaGreatDoor
open Go.RowKit

/-- What a kind makes of two numbers. -/
def kindV (kind x y : Int) : Option Int :=
  if kind = 5 then some (x * y) else if kind = 9 then some (min x y) else if kind = 10 then some (max x y) else if y = 0 then none else if kind = 6 then some (x.tdiv y) else some (x.tmod y)
theorem kindV_9 (x y : Int) : kindV 9 x y = some (min x y) := by unfold kindV; rw [if_neg (by decide), if_pos rfl]
theorem kindV_10 (x y : Int) : kindV 10 x y = some (max x y) := by unfold kindV; rw [if_neg (by decide), if_neg (by decide), if_pos rfl]
/-- A pair, if what it makes is among the third numbers. -/
def hitP (f : Int → Int → Option Int) (C : List Int) (a b : Int) : Option (Int × Int × Int) := (f a b).bind fun r => if r ∈ C then some (a, b, r) else none
def hitsR (f : Int → Int → Option Int) (C : List Int) (a : Int) (B : List Int) : List (Int × Int × Int) := B.filterMap (hitP f C a)
def hitsE (f : Int → Int → Option Int) (C A B : List Int) : List (Int × Int × Int) := A.flatMap fun a => hitsR f C a B
def h1 (l : List (Int × Int × Int)) : List Int := l.map fun t => t.1
def h2 (l : List (Int × Int × Int)) : List Int := l.map fun t => t.2.1
def h3 (l : List (Int × Int × Int)) : List Int := l.map fun t => t.2.2

theorem hitsR_step (f : Int → Int → Option Int) (C : List Int) (a : Int) (B : List Int) (k : Nat) (h : k < B.length) : hitsR f C a (B.take (k + 1)) = hitsR f C a (B.take k) ++ (hitP f C a (B.getD k 0)).toList := by
  unfold hitsR
  rw [List.take_succ_eq_append_getElem h, List.filterMap_append, List.getD_eq_getElem?_getD, List.getElem?_eq_getElem h]
  congr 1
theorem hitsE_step (f : Int → Int → Option Int) (C A B : List Int) (k : Nat) (h : k < A.length) : hitsE f C (A.take (k + 1)) B = hitsE f C (A.take k) B ++ hitsR f C (A.getD k 0) B := by
  unfold hitsE
  rw [List.take_succ_eq_append_getElem h, List.flatMap_append, List.getD_eq_getElem?_getD, List.getElem?_eq_getElem h]
  simp
theorem hitsR_len (f : Int → Int → Option Int) (C : List Int) (a : Int) (B : List Int) : (hitsR f C a B).length ≤ B.length := List.length_filterMap_le _ _
theorem hitsE_len (f : Int → Int → Option Int) (C A B : List Int) : (hitsE f C A B).length ≤ A.length * B.length := by
  induction A with
  | nil => simp [hitsE]
  | cons a A ih =>
    have := hitsR_len f C a B
    have e : hitsE f C (a :: A) B = hitsR f C a B ++ hitsE f C A B := by simp [hitsE]
    rw [e, List.length_append, List.length_cons, Nat.add_mul]
    omega
theorem mem_hitP {f : Int → Int → Option Int} {C : List Int} {a b : Int} {t : Int × Int × Int} : t ∈ (hitP f C a b).toList ↔ t.1 = a ∧ t.2.1 = b ∧ f a b = some t.2.2 ∧ t.2.2 ∈ C := by
  obtain ⟨x, y, z⟩ := t
  unfold hitP
  cases hf : f a b with
  | none => simp
  | some r =>
    by_cases hr : r ∈ C
    · simp only [Option.bind_some, if_pos hr, Option.toList_some, List.mem_singleton, Prod.mk.injEq, Option.some.injEq]
      constructor
      · rintro ⟨rfl, rfl, rfl⟩; exact ⟨rfl, rfl, rfl, hr⟩
      · rintro ⟨rfl, rfl, rfl, -⟩; exact ⟨rfl, rfl, rfl⟩
    · simp only [Option.bind_some, if_neg hr, Option.toList_none, List.not_mem_nil, false_iff, Option.some.injEq]
      rintro ⟨rfl, rfl, rfl, h⟩; exact hr h
theorem mem_hitsE {f : Int → Int → Option Int} {C A B : List Int} {t : Int × Int × Int} : t ∈ hitsE f C A B ↔ t.1 ∈ A ∧ t.2.1 ∈ B ∧ f t.1 t.2.1 = some t.2.2 ∧ t.2.2 ∈ C := by
  unfold hitsE hitsR
  simp only [List.mem_flatMap, List.mem_filterMap]
  constructor
  · rintro ⟨a, ha, b, hb, h⟩
    obtain ⟨rfl, rfl, h3, h4⟩ := mem_hitP.1 (show t ∈ (hitP f C a b).toList by rw [h]; simp)
    exact ⟨ha, hb, h3, h4⟩
  · rintro ⟨ha, hb, h3, h4⟩
    refine ⟨t.1, ha, t.2.1, hb, ?_⟩
    have := mem_hitP.2 (⟨rfl, rfl, h3, h4⟩ : t.1 = t.1 ∧ t.2.1 = t.2.1 ∧ f t.1 t.2.1 = some t.2.2 ∧ t.2.2 ∈ C)
    rw [Option.mem_toList] at this
    exact this
theorem h1_app (l m : List (Int × Int × Int)) : h1 (l ++ m) = h1 l ++ h1 m := by simp [h1]
theorem h2_app (l m : List (Int × Int × Int)) : h2 (l ++ m) = h2 l ++ h2 m := by simp [h2]
theorem h3_app (l m : List (Int × Int × Int)) : h3 (l ++ m) = h3 l ++ h3 m := by simp [h3]

def optI (o : Option Int) : Value := .tuple #[.int .i64 (o.getD 0), .bool o.isSome]
theorem prod_lim {a b : Int} (ha : -2000000 ≤ a ∧ a ≤ 2000000) (hb : -2000000 ≤ b ∧ b ≤ 2000000) : -4000000000000 ≤ a * b ∧ a * b ≤ 4000000000000 := by
  have h : (a * b).natAbs ≤ 2000000 * 2000000 := by
    rw [Int.natAbs_mul]
    exact Nat.mul_le_mul (by omega) (by omega)
  omega
theorem hits_one (f : Int → Int → Option Int) (a b c : Int) : hitsE f [c] [a] [b] = if f a b = some c then [(a, b, c)] else [] := by
  unfold hitsE hitsR hitP
  cases hf : f a b with
  | none => simp [hf]
  | some r =>
    by_cases hr : r = c
    · subst hr; simp [hf]
    · simp [hf, hr]
/-- The least and the greatest of four. -/
def min4 (a b c d : Int) : Int := min (min (min a b) c) d
def max4 (a b c d : Int) : Int := max (max (max a b) c) d
def lowP (A B : List Int) : Int := min4 (A.head?.getD 0 * B.head?.getD 0) (A.head?.getD 0 * B.getLast?.getD 0) (A.getLast?.getD 0 * B.head?.getD 0) (A.getLast?.getD 0 * B.getLast?.getD 0)
def highP (A B : List Int) : Int := max4 (A.head?.getD 0 * B.head?.getD 0) (A.head?.getD 0 * B.getLast?.getD 0) (A.getLast?.getD 0 * B.head?.getD 0) (A.getLast?.getD 0 * B.getLast?.getD 0)

/-- What is left of three domains, none empty. -/
def mulL (kind : Int) (A B C : List Int) : List (List Int) :=
  if A.length * B.length ≤ 4096 then [ofL (h1 (hitsE (kindV kind) C A B)), ofL (h2 (hitsE (kindV kind) C A B)), ofL (h3 (hitsE (kindV kind) C A B))]
  else if kind = 5 then [A, B, (C.filter fun u => decide (lowP A B ≤ u)).filter fun u => decide (u ≤ highP A B)]
  else [A, B.filter fun u => decide (u ≠ 0), C]
/-- What is left; nothing, if a domain is empty, or the constraint isn't one of these. -/
def mulE (c : ConL) (D : List (List Int)) : Option (List (List Int)) :=
  if fitsE c D 5 7 = true then
    (if (mulL c.kind (D.getD 0 []) (D.getD 1 []) (D.getD 2 [])).any (fun l => l.length == 0) = true then none else some (mulL c.kind (D.getD 0 []) (D.getD 1 []) (D.getD 2 [])))
  else none
section
variable {f : Int → Int → Option Int} {A B C : List Int}
theorem mem_h1 {v : Int} : v ∈ h1 (hitsE f C A B) ↔ v ∈ A ∧ ∃ b r, b ∈ B ∧ r ∈ C ∧ f v b = some r := by
  unfold h1
  rw [List.mem_map]
  constructor
  · rintro ⟨⟨a, b, r⟩, ht, rfl⟩
    obtain ⟨q1, q2, q3, q4⟩ := mem_hitsE.1 ht
    exact ⟨q1, b, r, q2, q4, q3⟩
  · rintro ⟨q1, b, r, q2, q4, q3⟩
    exact ⟨(v, b, r), mem_hitsE.2 ⟨q1, q2, q3, q4⟩, rfl⟩
theorem mem_h2 {v : Int} : v ∈ h2 (hitsE f C A B) ↔ v ∈ B ∧ ∃ a r, a ∈ A ∧ r ∈ C ∧ f a v = some r := by
  unfold h2
  rw [List.mem_map]
  constructor
  · rintro ⟨⟨a, b, r⟩, ht, rfl⟩
    obtain ⟨q1, q2, q3, q4⟩ := mem_hitsE.1 ht
    exact ⟨q2, a, r, q1, q4, q3⟩
  · rintro ⟨q2, a, r, q1, q4, q3⟩
    exact ⟨(a, v, r), mem_hitsE.2 ⟨q1, q2, q3, q4⟩, rfl⟩
theorem mem_h3 {v : Int} : v ∈ h3 (hitsE f C A B) ↔ v ∈ C ∧ ∃ a b, a ∈ A ∧ b ∈ B ∧ f a b = some v := by
  unfold h3
  rw [List.mem_map]
  constructor
  · rintro ⟨⟨a, b, r⟩, ht, rfl⟩
    obtain ⟨q1, q2, q3, q4⟩ := mem_hitsE.1 ht
    exact ⟨q4, a, b, q1, q2, q3⟩
  · rintro ⟨q4, a, b, q1, q2, q3⟩
    exact ⟨(a, b, v), mem_hitsE.2 ⟨q1, q2, q3, q4⟩, rfl⟩
theorem h_ne {l : List (Int × Int × Int)} (h : l ≠ []) : h1 l ≠ [] ∧ h2 l ≠ [] ∧ h3 l ≠ [] := by
  refine ⟨?_, ?_, ?_⟩ <;> (intro e; apply h; simpa [h1, h2, h3] using e)
end
end Go.Proofs.YtkhmocbfkpbpfaaGreatDoor

/- What is left of the domains of an absolute value, a minimum, a maximum: over lists. No walk. -/
namespace Go.Proofs.YtkhmocbfkpbpfaaGreatDoor
open Go.RowKit

/-- A number without its sign. -/
def absV (v : Int) : Int := max v (-v)
def absA (A B : List Int) : List Int := A.filter fun v => decide (absV v ∈ B)
def absB (A B : List Int) : List Int := (absA A B).map absV
/-- The one of two numbers that a kind tells. -/
def selV (kind x y : Int) : Int := if kind = 9 then min x y else max x y
def lowX (kind : Int) (A B : List Int) : Int := selV kind (A.head?.getD 0) (B.head?.getD 0)
def highX (kind : Int) (A B : List Int) : Int := selV kind (A.getLast?.getD 0) (B.getLast?.getD 0)
def thirdX (kind : Int) (A B C : List Int) : List Int := (C.filter fun u => decide (lowX kind A B ≤ u)).filter fun u => decide (u ≤ highX kind A B)
/-- What is left of three domains, none empty. -/
def extL (kind : Int) (A B C : List Int) : List (List Int) :=
  if A.length * B.length ≤ 4096 then [ofL (h1 (hitsE (kindV kind) C A B)), ofL (h2 (hitsE (kindV kind) C A B)), ofL (h3 (hitsE (kindV kind) C A B))]
  else if kind = 9 then [A.filter fun u => decide ((thirdX kind A B C).head?.getD 0 ≤ u), B.filter fun u => decide ((thirdX kind A B C).head?.getD 0 ≤ u), thirdX kind A B C]
  else [A.filter fun u => decide (u ≤ (thirdX kind A B C).getLast?.getD 0), B.filter fun u => decide (u ≤ (thirdX kind A B C).getLast?.getD 0), thirdX kind A B C]
def extR (kind : Int) (D : List (List Int)) : List (List Int) :=
  if kind = 8 then [ofL (absA (D.getD 0 []) (D.getD 1 [])), ofL (absB (D.getD 0 []) (D.getD 1 []))] else extL kind (D.getD 0 []) (D.getD 1 []) (D.getD 2 [])
/-- What is left; nothing, if a domain is empty, or the constraint isn't one of these. -/
def extE (c : ConL) (D : List (List Int)) : Option (List (List Int)) :=
  if fitsE c D 8 10 = true then (if (extR c.kind D).any (fun l => l.length == 0) = true then none else some (extR c.kind D)) else none

theorem kindV_sel {kind : Int} (hk : kind = 9 ∨ kind = 10) (x y : Int) : kindV kind x y = some (selV kind x y) := by
  rcases hk with rfl | rfl
  · rw [kindV_9]; rfl
  · rw [kindV_10]; rfl
theorem two_abs {c : ConL} {n : Int} (h : rightE c n = 0) (hk : c.kind = 8) : c.A.length = 2 ∧ c.B.length = 0 := by
  obtain ⟨k1, k2, hs, ha, hb, hn⟩ := right_parts h
  rw [size_8 c hk] at hs
  exact ⟨hs.1, hs.2.1⟩
theorem three_ext {c : ConL} {n : Int} (h : rightE c n = 0) (hk : c.kind = 9 ∨ c.kind = 10) : c.A.length = 3 ∧ c.B.length = 0 := by
  obtain ⟨k1, k2, hs, ha, hb, hn⟩ := right_parts h
  rcases hk with hk | hk
  · rw [size_9 c hk] at hs
    exact ⟨hs.1, hs.2.1⟩
  · rw [size_10 c hk] at hs
    exact ⟨hs.1, hs.2.1⟩
/-- Where the constraint is one of these and fits, there are two domains, or three. -/
theorem fits_ext {c : ConL} {D : List (List Int)} (h : fitsE c D 8 10 = true) : (c.kind = 8 ∧ ∃ A B, D = [A, B] ∧ A ≠ [] ∧ B ≠ []) ∨ ((c.kind = 9 ∨ c.kind = 10) ∧ ∃ A B C, D = [A, B, C] ∧ A ≠ [] ∧ B ≠ [] ∧ C ≠ []) := by
  unfold fitsE at h
  simp only [Bool.and_eq_true, Bool.not_eq_true', decide_eq_false_iff_not, decide_eq_true_eq, beq_iff_eq] at h
  obtain ⟨⟨⟨⟨h1, h2⟩, h3⟩, h4⟩, h5⟩ := h
  by_cases h8 : c.kind = 8
  · left
    refine ⟨h8, ?_⟩
    obtain ⟨l1, l2⟩ := two_abs h4 h8
    match D, h3, h5 with
    | [A, B], _, h5 =>
      simp only [List.any_cons, List.any_nil, Bool.or_false, Bool.or_eq_false_iff, beq_eq_false_iff_ne, ne_eq, List.length_eq_zero_iff] at h5
      exact ⟨A, B, rfl, h5.1, h5.2⟩
    | [], h3, _ => simp at h3; omega
    | [_], h3, _ => simp at h3; omega
    | _ :: _ :: _ :: _, h3, _ => simp at h3; omega
  · right
    have hk : c.kind = 9 ∨ c.kind = 10 := by omega
    refine ⟨hk, ?_⟩
    obtain ⟨l1, l2⟩ := three_ext h4 hk
    match D, h3, h5 with
    | [A, B, C], _, h5 =>
      simp only [List.any_cons, List.any_nil, Bool.or_false, Bool.or_eq_false_iff, beq_eq_false_iff_ne, ne_eq, List.length_eq_zero_iff] at h5
      exact ⟨A, B, C, rfl, h5.1, h5.2.1, h5.2.2⟩
    | [], h3, _ => simp at h3; omega
    | [_], h3, _ => simp at h3; omega
    | [_, _], h3, _ => simp at h3; omega
    | _ :: _ :: _ :: _ :: _, h3, _ => simp at h3; omega
theorem fits_two {c : ConL} {A B : List Int} (hk : c.kind = 8) (hr : rightE c 256 = 0) (ha : A ≠ []) (hb : B ≠ []) : fitsE c [A, B] 8 10 = true := by
  obtain ⟨l1, l2⟩ := two_abs hr hk
  unfold fitsE
  rw [decide_eq_false (show ¬ c.kind < 8 by omega), decide_eq_false (show ¬ 10 < c.kind by omega), l1, l2, hr]
  have e1 : (A.length == 0) = false := by simp [ha]
  have e2 : (B.length == 0) = false := by simp [hb]
  simp [e1, e2]
theorem fits_thr {c : ConL} {A B C : List Int} (hk : c.kind = 9 ∨ c.kind = 10) (hr : rightE c 256 = 0) (ha : A ≠ []) (hb : B ≠ []) (hc : C ≠ []) : fitsE c [A, B, C] 8 10 = true := by
  obtain ⟨l1, l2⟩ := three_ext hr hk
  unfold fitsE
  rw [decide_eq_false (show ¬ c.kind < 8 by omega), decide_eq_false (show ¬ 10 < c.kind by omega), l1, l2, hr]
  have e1 : (A.length == 0) = false := by simp [ha]
  have e2 : (B.length == 0) = false := by simp [hb]
  have e3 : (C.length == 0) = false := by simp [hc]
  simp [e1, e2, e3]
theorem extE_none {c : ConL} {D : List (List Int)} (h : fitsE c D 8 10 = false) : extE c D = none := by unfold extE; rw [if_neg (by rw [h]; decide)]
theorem extE_is {c : ConL} {D : List (List Int)} (h : fitsE c D 8 10 = true) : extE c D = if (extR c.kind D).any (fun l => l.length == 0) = true then none else some (extR c.kind D) := by unfold extE; rw [if_pos h]
theorem extR_two {kind : Int} {A B : List Int} (hk : kind = 8) : extR kind [A, B] = [ofL (absA A B), ofL (absB A B)] := by unfold extR; rw [if_pos hk]; rfl
theorem extR_thr {kind : Int} {A B C : List Int} (hk : kind = 9 ∨ kind = 10) : extR kind [A, B, C] = extL kind A B C := by unfold extR; rw [if_neg (by omega)]; rfl
theorem extL_len (kind : Int) (A B C : List Int) : (extL kind A B C).length = 3 := by
  unfold extL
  split
  · rfl
  · split <;> rfl
/-- What is left has as many domains. -/
theorem extE_tells (c : ConL) (D : List (List Int)) : (fitsE c D 8 10 = true → (extE c D).isSome = true → ((extE c D).getD []).length = D.length) ∧ (fitsE c D 8 10 = false → extE c D = none) := by
  refine ⟨fun hf hs => ?_, extE_none⟩
  have key : (extR c.kind D).length = D.length := by
    rcases fits_ext hf with ⟨hk, A, B, rfl, -, -⟩ | ⟨hk, A, B, C, rfl, -, -, -⟩
    · rw [extR_two hk]; rfl
    · rw [extR_thr hk, extL_len]; rfl
  rw [extE_is hf] at hs ⊢
  split at hs
  · cases hs
  · next h => rw [if_neg h]; exact key
end Go.Proofs.YtkhmocbfkpbpfaaGreatDoor

/- A constraint that the document's Make is making: its box, its rows. No walk. -/
namespace Go.Proofs.YtkhmocbfkpbpfaaGreatDoor
open Go.RowKit Go.Sort

/-- All blocks but one stay. -/
structure Kp (G : Nat) (a b : World) : Prop where
  os : b.os = a.os
  tape : b.tape = a.tape
  output : b.output = a.output
  size : a.heap.size ≤ b.heap.size
  block : ∀ k, k < a.heap.size → k ≠ G → b.heap[k]? = a.heap[k]?
theorem Kp.refl (G : Nat) (a : World) : Kp G a a := ⟨rfl, rfl, rfl, Nat.le_refl _, fun _ _ _ => rfl⟩
theorem Kp.trans {G : Nat} {a b c : World} (h : Kp G a b) (k : Kp G b c) : Kp G a c :=
  ⟨k.os.trans h.os, k.tape.trans h.tape, k.output.trans h.output, Nat.le_trans h.size k.size, fun i hi hS => (k.block i (Nat.lt_of_lt_of_le hi h.size) hS).trans (h.block i hi hS)⟩
theorem Kp.of_below {G : Nat} {a b : World} (h : Below a.heap.size a b) : Kp G a b := ⟨h.os, h.tape, h.output, h.size, fun k hk _ => h.block k hk⟩
theorem Kp.drew {G : Nat} {a b : World} (h : Kp G a b) : Kp G a b.drew := ⟨h.os, h.tape, h.output, h.size, h.block⟩
theorem Kp.alloc {G : Nat} {a b : World} (h : Kp G a b) (o : Obj) : Kp G a (b.alloc o) := h.trans (Kp.of_below ((Below.refl _ _).alloc (Nat.le_refl _) o))
theorem Kp.put {G : Nat} {a b : World} (h : Kp G a b) (j : Nat) (u : Value) : Kp G a (b.setCell ⟨G, j, none⟩ u) :=
  h.trans ⟨rfl, rfl, rfl, by simp [World.setCell], fun k _ hk => Below.heap_setCell _ _ _ _ hk⟩
theorem Kp.grown {G : Nat} {a b c : World} {row : Option Nat} (h : Kp G a b) (hg : b.grownBy c row) (hr : ∀ k, row = some k → a.heap.size ≤ k) : Kp G a c :=
  ⟨hg.os.trans h.os, hg.tape.trans h.tape, hg.output.trans h.output, Nat.le_trans h.size hg.size, fun k hk hk' => (hg.block k (Nat.lt_of_lt_of_le hk h.size) (fun e => by have := hr k e.symm; omega)).trans (h.block k hk hk')⟩
theorem Kp.below {G b : Nat} {a c : World} (h : Kp G a c) (hb : b ≤ a.heap.size) (hG : b ≤ G) : Below b a c := ⟨h.os, h.tape, h.output, h.size, fun k hk => h.block k (by omega) (by omega)⟩
theorem box_put {W : World} {G j : Nat} {u : Array Value} {t : TypeId} {x : Value} (h : W.heap[G]? = some (.cells u t (0, 0))) : (W.setCell ⟨G, j, none⟩ x).heap[G]? = some (.cells (u.setIfInBounds j x) t (0, 0)) := by
  simp [World.setCell, Array.getElem?_modify, h]
theorem box_cell {W : World} {G j : Nat} {u : Array Value} {t : TypeId} {x : Value} (h : W.heap[G]? = some (.cells u t (0, 0))) (hx : u[j]? = some x) : W.cell? ⟨G, j, none⟩ = some x := by
  unfold World.cell?
  rw [h]
  exact hx
theorem box_free {W : World} {G : Nat} {u : Array Value} {t : TypeId} (h : W.heap[G]? = some (.cells u t (0, 0))) (j : Nat) : W.frozen? ⟨G, j, none⟩ = false := by
  unfold World.frozen?; rw [h]; simp
theorem own_type {w : World} {base : Nat} {e : TypeId} {size n : Nat} {v : Value} {xs : List Value} (h : w.ownsRow base e size v n xs) {k : Nat} (hk : v.ownBlock = some k) : ∃ cur, w.heap[k]? = some (.cells cur e (0, 0)) := by
  rcases h.2 with ⟨rfl, -⟩ | ⟨g, cap, cur, rfl, hb, hg, hn, hm, hs, ht⟩
  · cases hk
  · obtain rfl : g = k := by simpa [Value.ownBlock] using hk
    exact ⟨cur, hg⟩
theorem own_lt' {w : World} {base : Nat} {e : TypeId} {size : Nat} {v : Value} {n : Nat} {xs : List Value} (h : w.ownsRow base e size v n xs) {g : Nat} (hg : v.ownBlock = some g) : base ≤ g ∧ g < w.heap.size := by
  refine ⟨own_ge h g hg, ?_⟩
  obtain ⟨cur, hc⟩ := own_type h hg
  exact (Array.getElem?_eq_some_iff.1 hc).1
theorem own_keep' {w w' : World} {base : Nat} {e : TypeId} {size : Nat} {v : Value} {n : Nat} {xs : List Value} (h : w.ownsRow base e size v n xs) (hk : ∀ g, v.ownBlock = some g → w'.heap[g]? = w.heap[g]?) : w'.ownsRow base e size v n xs := by
  obtain ⟨h1, h2⟩ := h
  refine ⟨h1, ?_⟩
  rcases h2 with h2 | ⟨g, cap, cur, e, hg, hh, r⟩
  · exact .inl h2
  · exact .inr ⟨g, cap, cur, e, hg, (hk g (by rw [e]; rfl)).trans hh, r⟩
theorem Row3.kp {G b : Nat} {W W' : World} {y : Sl} {L : List Int} (h : Row3 W b y L) (k : Kp G W W') (hG : G < b) : Row3 W' b y L :=
  own_keep' h fun g hg => by have := own_lt' h hg; exact k.block g this.2 (by omega)
theorem Row3.base {b b' : Nat} {W : World} {y : Sl} {L : List Int} (h : Row3 W b y L) (hb : b' ≤ b) : Row3 W b' y L := own_base h hb

/-- Rows of one's own. -/
def RowsP (W : World) (b : Nat) (y : Sl) (R : List (List Int)) : Prop :=
  ∃ xs : List Sl, xs.length = R.length ∧ W.ownsRow b 30 1 (.slice y.A y.n y.c) R.length (xs.map fun x => Value.slice x.A x.n x.c) ∧ ∀ (k : Nat) (x : Sl) (r : List Int), xs[k]? = some x → R[k]? = some r → Row3 W b x r
theorem RowsP.nil (W : World) (b : Nat) : RowsP W b ⟨none, 0, 0⟩ [] := ⟨[], rfl, World.ownsRow_nil _ _ _ _, fun k x r h => by cases h⟩
theorem RowsP.kp {G b : Nat} {W W' : World} {y : Sl} {R : List (List Int)} (h : RowsP W b y R) (k : Kp G W W') (hG : G < b) : RowsP W' b y R := by
  obtain ⟨xs, hl, hO, hR⟩ := h
  exact ⟨xs, hl, own_keep' hO fun g hg => by have := own_lt' hO hg; exact k.block g this.2 (by omega), fun i x r h1 h2 => (hR i x r h1 h2).kp k hG⟩

/-- The rows of a constraint that is being made. -/
structure MkR (q : Nat) (W : World) (v : ConV) (l : ConL) : Prop where
  a : Row3 W q v.a l.A
  b : Row3 W q v.b l.B
  c : Row3 W q v.c l.C
  d : Row3 W q v.d l.D
  e : Row3 W q v.e l.E
  r : RowsP W q v.r l.rows
theorem MkR.kp {G b : Nat} {W W' : World} {v : ConV} {c : ConL} (h : MkR b W v c) (k : Kp G W W') (hG : G < b) : MkR b W' v c :=
  ⟨h.a.kp k hG, h.b.kp k hG, h.c.kp k hG, h.d.kp k hG, h.e.kp k hG, h.r.kp k hG⟩
def noV : ConV := ⟨⟨none, 0, 0⟩, ⟨none, 0, 0⟩, ⟨none, 0, 0⟩, ⟨none, 0, 0⟩, ⟨none, 0, 0⟩, ⟨none, 0, 0⟩⟩
abbrev bareC (kd : Int) : ConL := ⟨kd, [], [], [], [], [], 0, []⟩
theorem MkR.none (q : Nat) (W : World) (kd : Int) : MkR q W noV (bareC kd) := ⟨Row3.nil _ _, Row3.nil _ _, Row3.nil _ _, Row3.nil _ _, Row3.nil _ _, RowsP.nil _ _⟩

/-- The boxes: what comes in, what is handed back, what is being made. -/
structure MkB (w : World) (z o u : Array Value) (W : World) : Prop where
  low : Below w.heap.size w W
  zb : W.heap[w.heap.size]? = some (.cells z 26 (0, 0))
  ob : W.heap[w.heap.size + 1]? = some (.cells o 32 (0, 0))
  cb : W.heap[w.heap.size + 1 + 1]? = some (.cells u 32 (0, 0))
theorem MkB.size {w : World} {z o u : Array Value} {W : World} (h : MkB w z o u W) : w.heap.size + 1 + 1 + 1 ≤ W.heap.size := (Array.getElem?_eq_some_iff.1 h.cb).1
theorem MkB.kp {w : World} {z o u u' : Array Value} {W W' : World} (h : MkB w z o u W) (k : Kp (w.heap.size + 1 + 1) W W') (hb : W'.heap[w.heap.size + 1 + 1]? = some (.cells u' 32 (0, 0))) : MkB w z o u' W' := by
  have hs := h.size
  exact ⟨h.low.trans (k.below (by omega) (by omega)), (k.block _ (by omega) (by omega)).trans h.zb, (k.block _ (by omega) (by omega)).trans h.ob, hb⟩
theorem MkB.below {w : World} {z o u : Array Value} {W W' : World} (h : MkB w z o u W) (k : Below W.heap.size W W') : MkB w z o u W' :=
  h.kp (Kp.of_below k) ((k.block _ (by have := h.size; omega)).trans h.cb)
/-- What is being made. -/
structure Mk (w : World) (z o : Array Value) (W : World) (v : ConV) (c : ConL) : Prop where
  box : MkB w z o (v.cells c.kind c.K) W
  rows : MkR (w.heap.size + 1 + 1 + 1) W v c
theorem Mk.below {w : World} {z o : Array Value} {W W' : World} {v : ConV} {c : ConL} (h : Mk w z o W v c) (k : Below W.heap.size W W') : Mk w z o W' v c :=
  ⟨h.box.below k, h.rows.kp (Kp.of_below (G := w.heap.size) k) (by omega)⟩
theorem Mk.put {w : World} {z o : Array Value} {W : World} {v v' : ConV} {c c' : ConL} (h : Mk w z o W v c) (j : Nat) (x : Value) (he : (v.cells c.kind c.K).setIfInBounds j x = v'.cells c'.kind c'.K) (hr : MkR (w.heap.size + 1 + 1 + 1) W v' c') :
    Mk w z o (W.setCell ⟨w.heap.size + 1 + 1, j, none⟩ x) v' c' :=
  ⟨h.box.kp ((Kp.refl _ _).put j x) (by rw [← he]; exact box_put h.box.cb), hr.kp ((Kp.refl (w.heap.size + 1 + 1) W).put j x) (by omega)⟩
section
variable {w : World} {z o : Array Value} {W : World} {v : ConV} {c : ConL}
theorem Mk.setA (h : Mk w z o W v c) {x : Sl} {l : List Int} (hx : Row3 W (w.heap.size + 1 + 1 + 1) x l) : Mk w z o (W.setCell ⟨w.heap.size + 1 + 1, 1, none⟩ (.slice x.A x.n x.c)) { v with a := x } { c with A := l } :=
  h.put 1 _ rfl ⟨hx, h.rows.b, h.rows.c, h.rows.d, h.rows.e, h.rows.r⟩
theorem Mk.setB (h : Mk w z o W v c) {x : Sl} {l : List Int} (hx : Row3 W (w.heap.size + 1 + 1 + 1) x l) : Mk w z o (W.setCell ⟨w.heap.size + 1 + 1, 2, none⟩ (.slice x.A x.n x.c)) { v with b := x } { c with B := l } :=
  h.put 2 _ rfl ⟨h.rows.a, hx, h.rows.c, h.rows.d, h.rows.e, h.rows.r⟩
theorem Mk.setC (h : Mk w z o W v c) {x : Sl} {l : List Int} (hx : Row3 W (w.heap.size + 1 + 1 + 1) x l) : Mk w z o (W.setCell ⟨w.heap.size + 1 + 1, 3, none⟩ (.slice x.A x.n x.c)) { v with c := x } { c with C := l } :=
  h.put 3 _ rfl ⟨h.rows.a, h.rows.b, hx, h.rows.d, h.rows.e, h.rows.r⟩
theorem Mk.setD (h : Mk w z o W v c) {x : Sl} {l : List Int} (hx : Row3 W (w.heap.size + 1 + 1 + 1) x l) : Mk w z o (W.setCell ⟨w.heap.size + 1 + 1, 4, none⟩ (.slice x.A x.n x.c)) { v with d := x } { c with D := l } :=
  h.put 4 _ rfl ⟨h.rows.a, h.rows.b, h.rows.c, hx, h.rows.e, h.rows.r⟩
theorem Mk.setE (h : Mk w z o W v c) {x : Sl} {l : List Int} (hx : Row3 W (w.heap.size + 1 + 1 + 1) x l) : Mk w z o (W.setCell ⟨w.heap.size + 1 + 1, 5, none⟩ (.slice x.A x.n x.c)) { v with e := x } { c with E := l } :=
  h.put 5 _ rfl ⟨h.rows.a, h.rows.b, h.rows.c, h.rows.d, hx, h.rows.r⟩
theorem Mk.setK (h : Mk w z o W v c) (k : Int) : Mk w z o (W.setCell ⟨w.heap.size + 1 + 1, 6, none⟩ (.int .i64 k)) v { c with K := k } :=
  h.put 6 _ rfl ⟨h.rows.a, h.rows.b, h.rows.c, h.rows.d, h.rows.e, h.rows.r⟩
theorem Mk.setR (h : Mk w z o W v c) {x : Sl} {l : List (List Int)} (hx : RowsP W (w.heap.size + 1 + 1 + 1) x l) : Mk w z o (W.setCell ⟨w.heap.size + 1 + 1, 7, none⟩ (.slice x.A x.n x.c)) { v with r := x } { c with rows := l } :=
  h.put 7 _ rfl ⟨h.rows.a, h.rows.b, h.rows.c, h.rows.d, h.rows.e, hx⟩
theorem Mk.cells (h : Mk w z o W v c) (j : Nat) {x : Value} (hx : (v.cells c.kind c.K)[j]? = some x) : W.cell? ⟨w.heap.size + 1 + 1, j, none⟩ = some x := box_cell h.box.cb hx
theorem Mk.free (h : Mk w z o W v c) (j : Nat) : W.frozen? ⟨w.heap.size + 1 + 1, j, none⟩ = false := box_free h.box.cb j
theorem Mk.zcell (h : Mk w z o W v c) (j : Nat) {x : Value} (hx : z[j]? = some x) : W.cell? ⟨w.heap.size, j, none⟩ = some x := box_cell h.box.zb hx
theorem Mk.ocell (h : Mk w z o W v c) (j : Nat) {x : Value} (hx : o[j]? = some x) : W.cell? ⟨w.heap.size + 1, j, none⟩ = some x := box_cell h.box.ob hx
theorem Mk.ofree (h : Mk w z o W v c) (j : Nat) : W.frozen? ⟨w.heap.size + 1, j, none⟩ = false := box_free h.box.ob j
theorem Mk.size (h : Mk w z o W v c) : w.heap.size + 1 + 1 + 1 ≤ W.heap.size := h.box.size
end
/-- What was made lies in memory. -/
theorem MkR.con {b : Nat} {W : World} {v : ConV} {c : ConL} (h : MkR b W v c) (ha : c.A.length ≤ 1000000) (hb : c.B.length ≤ 1000000) (hc : c.C.length ≤ 1000000) (hd : c.D.length ≤ 1000000) (he : c.E.length ≤ 1000000) (hr : c.rows.length ≤ 1000000) (hrr : ∀ r ∈ c.rows, r.length ≤ 1000000) : ConIn W v c := by
  have I3 : ∀ {y : Sl} {zs : List Int}, Row3 W b y zs → zs.length ≤ 1000000 → IsInts W y zs := fun {y zs} h hs => by
    obtain ⟨A, n, k⟩ := y
    obtain ⟨A', c', e, hL, hc⟩ := own_lies h
    simp only [Value.slice.injEq] at e
    obtain ⟨rfl, rfl, rfl⟩ := e
    exact ⟨rfl, hL, by simp only; omega, hc⟩
  refine ⟨I3 h.a ha, I3 h.b hb, I3 h.c hc, I3 h.d hd, I3 h.e he, ?_⟩
  obtain ⟨xs, hl, hO, hR⟩ := h.r
  obtain ⟨⟨A, n, k⟩, hy⟩ : ∃ y, v.r = y := ⟨_, rfl⟩
  rw [hy] at hO ⊢
  simp only at hO
  obtain ⟨A', c', e⟩ := slice_row hO
  simp only [Value.slice.injEq] at e
  obtain ⟨rfl, rfl, rfl⟩ := e
  refine ⟨rfl, by simp only; omega, fun h0 => ?_⟩
  simp only at h0 ⊢
  rcases hO.2 with ⟨e, h2⟩ | ⟨g, cap, cur, e, hb, hg, hn, hm, hs, ht⟩
  · omega
  · simp only [Value.slice.injEq] at e
    obtain ⟨rfl, -, rfl⟩ := e
    refine ⟨_, rfl, (Array.getElem?_eq_some_iff.1 hg).1, fun i hi => ?_⟩
    have hi : i < c.rows.length := hi
    have hix : i < xs.length := by omega
    refine ⟨xs[i], ?_, ?_⟩
    · have := hO.cellAt i (by omega)
      rw [Addr.add_mid, Nat.zero_add, this, List.getElem?_map, List.getElem?_eq_getElem hix]
      rfl
    · have h1 := hR i xs[i] c.rows[i] (List.getElem?_eq_getElem hix) (List.getElem?_eq_getElem hi)
      rw [List.getD_eq_getElem?_getD, List.getElem?_eq_getElem hi]
      exact I3 h1 (hrr _ (List.getElem_mem hi))
end Go.Proofs.YtkhmocbfkpbpfaaGreatDoor

/- Contracts: the document's pairs, Holds, Any. -/
namespace Go.Proofs.YtkhmocbfkpbpfaaGreatDoor
open Go.RowKit Go.Sort

theorem lexB_step {X Y : List Int} {k : Nat} (hx : k < X.length) (hy : k < Y.length) : lexB (X.drop k) (Y.drop k) = if X.getD k 0 < Y.getD k 0 then true else if Y.getD k 0 < X.getD k 0 then false else lexB (X.drop (k + 1)) (Y.drop (k + 1)) := by
  rw [List.drop_eq_getElem_cons hx, List.drop_eq_getElem_cons hy, lexB]
  rw [List.getD_eq_getElem?_getD, List.getD_eq_getElem?_getD, List.getElem?_eq_getElem hx, List.getElem?_eq_getElem hy]
  rfl
theorem lexB_end (X Y : List Int) : lexB (X.drop X.length) Y = true := by rw [List.drop_length, lexB]
/-- What is wrong of a pair of an inverse's places. -/
def badP (X Y : List Int) (n : Nat) (i k : Nat) : Bool :=
  decide (X.getD i 0 < 1) || decide ((n : Int) < X.getD i 0) || decide (Y.getD k 0 < 1) || decide ((n : Int) < Y.getD k 0) || ((X.getD i 0 == (k : Int) + 1) != (Y.getD k 0 == (i : Int) + 1))
theorem bad_core (x z k i n : Int) : (decide (x < 1) || decide (n < x) || decide (z < 1) || decide (n < z) || ((x == k + 1) != (z == i + 1))) = false ↔ (1 ≤ x ∧ x ≤ n) ∧ (1 ≤ z ∧ z ≤ n) ∧ (x = k + 1 ↔ z = i + 1) := by
  rw [Bool.or_eq_false_iff, Bool.or_eq_false_iff, Bool.or_eq_false_iff, Bool.or_eq_false_iff]
  simp only [decide_eq_false_iff_not, Int.not_lt]
  have h5 : ((x == k + 1) != (z == i + 1)) = false ↔ (x = k + 1 ↔ z = i + 1) := by
    show (decide (x = k + 1) != decide (z = i + 1)) = false ↔ _
    by_cases e1 : x = k + 1 <;> by_cases e2 : z = i + 1 <;> simp [e1, e2]
  rw [h5]
  constructor
  · rintro ⟨⟨⟨⟨h1, h2⟩, h3⟩, h4⟩, h5⟩
    exact ⟨⟨h1, h2⟩, ⟨h3, h4⟩, h5⟩
  · rintro ⟨⟨h1, h2⟩, ⟨h3, h4⟩, h5⟩
    exact ⟨⟨⟨⟨h1, h2⟩, h3⟩, h4⟩, h5⟩
theorem badP_no {X Y : List Int} {n i k : Nat} : badP X Y n i k = false ↔ (1 ≤ X.getD i 0 ∧ X.getD i 0 ≤ n) ∧ (1 ≤ Y.getD k 0 ∧ Y.getD k 0 ≤ n) ∧ (X.getD i 0 = (k : Int) + 1 ↔ Y.getD k 0 = (i : Int) + 1) := bad_core _ _ _ _ _
theorem noneN_iff (p : Nat → Bool) (n : Nat) : noneN p n = true ↔ ∀ i, i < n → p i = false := by
  constructor
  · intro h i hi
    cases hp : p i
    · rfl
    · rw [none_no hi hp] at h; cases h
  · exact fun h => none_yes h
theorem inv_eq (X Y : List Int) (n : Nat) (hx : X.length = n) (hy : Y.length = n) : noneN (invP X Y) n = noneN (fun i => !noneN (badP X Y n i) n) n := by
  rw [Bool.eq_iff_iff, noneN_iff, noneN_iff]
  have hB : ∀ U V : List Int, V.length = n → ∀ i, backB U V i = true ↔ (1 ≤ U.getD i 0 ∧ U.getD i 0 ≤ n) ∧ V.getD (U.getD i 0 - 1).toNat 0 = (i : Int) + 1 := by
    intro U V hV i
    unfold backB
    rw [Bool.and_eq_true, placeB_iff, beq_iff_eq, hV]
    rfl
  constructor
  · intro h i hi
    have hg : ∀ j, j < n → backB X Y j = true ∧ backB Y X j = true := fun j hj => by
      have := h j hj
      unfold invP at this
      rw [Bool.or_eq_false_iff] at this
      simpa using this
    rw [Bool.not_eq_false', noneN_iff]
    intro k hk
    have h1 := (hB X Y hy i).1 (hg i hi).1
    have h2 := (hB Y X hx k).1 (hg k hk).2
    refine badP_no.2 ⟨h1.1, h2.1, fun e => ?_, fun e => ?_⟩
    · have := h1.2
      rw [e] at this
      rw [show ((k : Int) + 1 - 1).toNat = k by omega] at this
      exact this
    · have := h2.2
      rw [e] at this
      rw [show ((i : Int) + 1 - 1).toNat = i by omega] at this
      exact this
  · intro h i hi
    have hg : ∀ i k, i < n → k < n → badP X Y n i k = false := fun i k hi hk => by
      have := h i hi
      rw [Bool.not_eq_false', noneN_iff] at this
      exact this k hk
    unfold invP
    rw [Bool.or_eq_false_iff, Bool.not_eq_false', Bool.not_eq_false', hB X Y hy, hB Y X hx]
    have h0 := badP_no.1 (hg i i hi hi)
    refine ⟨⟨h0.1, ?_⟩, h0.2.1, ?_⟩
    · have := badP_no.1 (hg i (X.getD i 0 - 1).toNat hi (by omega))
      exact this.2.2.1 (by omega)
    · have := badP_no.1 (hg (Y.getD i 0 - 1).toNat i (by omega) hi)
      exact this.2.2.2 (by omega)

set_option maxHeartbeats 4000000 in
set_option maxRecDepth 100000 in
theorem rpair22 (v : ConV) (c : ConL) (y : Sl) (a : List Int) (w : World) (h : ConIn w v c) (hy : IsInts w y a) (r : ConR a.length c) (hk : c.kind = 22) :
    Calls Tryz.prog 83 #[v.val c.kind c.K, .slice y.A y.n y.c] w fun e w' => e = .returned (.bool (lexB (valsE c.A a) (valsE c.B a))) ∧ Below w.heap.size w w' := by
  obtain ⟨wb, hwb⟩ : ∃ wb, cBox w v c.kind c.K = wb := ⟨_, rfl⟩
  have HR : Hid (RBox w.heap.size wb v c y a ∧ Below w.heap.size w wb) := Lib.hid (hwb ▸ ⟨RBox.start h hy, cBox_below _ _ _ _⟩)
  have HWB := Lib.hid hwb
  have HPA := Lib.hid r.pa
  have HPB := Lib.hid r.pb
  have HAN := Lib.hid (show (valsE c.A a).length = v.a.n by rw [h.a.len, vals_size])
  have HBN := Lib.hid (show (valsE c.B a).length = v.a.n by rw [h.a.len, vals_size]; exact r.pair (by omega))
  have HBM := Lib.hid (show v.b.n = v.a.n by rw [h.a.len, h.b.len]; exact r.pair (by omega))
  have hn64 : v.a.n ≤ 64 := by rw [h.a.len]; exact r.a64
  have t22 : (c.kind == 22) = true := by simp [hk]
  have d0 := HR.out.1.c0
  have d1 := HR.out.1.c1
  have HE : Hid (lexB (valsE c.A a) (valsE c.B a) = lexB ((valsE c.A a).drop 0) ((valsE c.B a).drop 0)) := Lib.hid rfl
  generalize lexB (valsE c.A a) (valsE c.B a) = RES at HE ⊢
  clear hwb h hy r hk
  go_enter Tryz.func83, Tryz.ntmps83
  go_upto_region 1 with fail
  change Code.wp _ _ _ _ (cBox w v c.kind c.K)
  rw [HWB.out]
  clear HWB
  go_wp2_with fail
  clear d0 d1
  go_loopw [6] (fun i wr => ∃ (k : Nat), i = .int .i64 (k : Nat) ∧ k ≤ v.a.n ∧ Hid (RES = lexB ((valsE c.A a).drop k) ((valsE c.B a).drop k)) ∧ Hid (RBox w.heap.size wr v c y a ∧ Below w.heap.size w wr)) (fun i _ => v.a.n - (intOf i).toNat)
  case atStart => exact ⟨0, rfl, by omega, HE, HR⟩
  case round =>
    clear HR
    obtain ⟨k, rfl, hk, HV, HR⟩ := hrel
    by_cases hlt : k < v.a.n
    · have h1 := HR.out.1.c1
      have h2 := HR.out.1.c2
      obtain ⟨adL, ad, p, eL, ea, q1, q2, q3, q4⟩ := HR.out.1.at_ HPA.out k hlt
      obtain ⟨adM, ad', p', eM, ea', r1, r2, r3, r4⟩ := HR.out.1.bt_ HPB.out k (by rw [HBM.out]; exact hlt)
      obtain rfl : ad = ad' := by rw [ea] at ea'; exact Option.some.inj ea'
      rw [eL] at h1
      rw [eM] at h2
      rw [ea]
      have HS := Lib.hid (HV.out.trans (lexB_step (X := valsE c.A a) (Y := valsE c.B a) (k := k) (by rw [HAN.out]; exact hlt) (by rw [HBN.out]; exact hlt)))
      generalize (valsE c.A a).getD k 0 = x at q4 HS
      generalize (valsE c.B a).getD k 0 = z at r4 HS
      clear eL eM ea ea' HV
      by_cases g : x = z
      · have e1 : (x != z) = false := by simp [g]
        have HV2 : Hid (RES = lexB ((valsE c.A a).drop (k + 1)) ((valsE c.B a).drop (k + 1))) := Lib.hid (by rw [HS.out, if_neg (by omega), if_neg (by omega)])
        clear g HS
        go_wp2_with fail
        go_roundw
        case rel => exact ⟨k + 1, by go_num, by omega, HV2, HR⟩
        case measure => simp [intOf]; omega
      · have e1 : (x != z) = true := by simp [g]
        have HW : Hid (RES = decide (x < z)) := Lib.hid (by
          rw [HS.out]
          by_cases g2 : x < z
          · rw [if_pos g2]; simp [g2]
          · rw [if_neg g2, if_pos (by omega)]; simp [g2])
        clear g HS
        go_wp2_with fail
        go_ret
        exact ⟨ret_bool HW.out.symm, HR.out.2⟩
    · have HW : Hid (RES = true) := Lib.hid (by
        rw [HV.out, show k = (valsE c.A a).length by rw [HAN.out]; omega]
        exact lexB_end _ _)
      clear HV HE
      go_wp2_with fail
      go_ret
      exact ⟨ret_bool HW.out.symm, HR.out.2⟩

set_option maxHeartbeats 4000000 in
set_option maxRecDepth 100000 in
theorem rpair23 (v : ConV) (c : ConL) (y : Sl) (a : List Int) (w : World) (h : ConIn w v c) (hy : IsInts w y a) (r : ConR a.length c) (hk : c.kind = 23) :
    Calls Tryz.prog 83 #[v.val c.kind c.K, .slice y.A y.n y.c] w fun e w' => e = .returned (.bool (noneN (invP (valsE c.A a) (valsE c.B a)) (valsE c.A a).length)) ∧ Below w.heap.size w w' := by
  obtain ⟨wb, hwb⟩ : ∃ wb, cBox w v c.kind c.K = wb := ⟨_, rfl⟩
  have HR : Hid (RBox w.heap.size wb v c y a ∧ Below w.heap.size w wb) := Lib.hid (hwb ▸ ⟨RBox.start h hy, cBox_below _ _ _ _⟩)
  have HWB := Lib.hid hwb
  have HPA := Lib.hid r.pa
  have HPB := Lib.hid r.pb
  have HAN := Lib.hid (show (valsE c.A a).length = v.a.n by rw [h.a.len, vals_size])
  have HBN := Lib.hid (show (valsE c.B a).length = v.a.n by rw [h.a.len, vals_size]; exact r.pair (by omega))
  have HBM := Lib.hid (show v.b.n = v.a.n by rw [h.a.len, h.b.len]; exact r.pair (by omega))
  have hn64 : v.a.n ≤ 64 := by rw [h.a.len]; exact r.a64
  have t22 : (c.kind == 22) = false := by simp [hk]
  have d0 := HR.out.1.c0
  have d1 := HR.out.1.c1
  rw [HAN.out, inv_eq _ _ _ HAN.out HBN.out]
  obtain ⟨RES, hRES⟩ : ∃ R, R = noneN (fun i => !noneN (badP (valsE c.A a) (valsE c.B a) v.a.n i) v.a.n) v.a.n := ⟨_, rfl⟩
  rw [← hRES]
  have HE := Lib.hid hRES
  clear hwb h hy r hk hRES
  go_enter Tryz.func83, Tryz.ntmps83
  go_upto_region 1 with fail
  change Code.wp _ _ _ _ (cBox w v c.kind c.K)
  rw [HWB.out]
  clear HWB
  go_wp2_with fail
  clear d0 d1
  go_loopw [9] (fun i wr => ∃ (k : Nat), i = .int .i64 (k : Nat) ∧ k ≤ v.a.n ∧ Hid (noTo (fun i => !noneN (badP (valsE c.A a) (valsE c.B a) v.a.n i) v.a.n) k) ∧ Hid (RBox w.heap.size wr v c y a ∧ Below w.heap.size w wr)) (fun i _ => v.a.n - (intOf i).toNat)
  case atStart => exact ⟨0, rfl, by omega, Lib.hid (noTo_zero _), HR⟩
  case round =>
    clear HR
    obtain ⟨k, rfl, hk, H0, HR⟩ := hrel
    obtain ⟨wo, rfl⟩ : ∃ wo, wo = wr := ⟨_, rfl⟩
    by_cases hlt : k < v.a.n
    · go_wp2_with fail
      go_loopw [10] (fun i wr => ∃ (j : Nat), i = .int .i64 (j : Nat) ∧ j ≤ v.a.n ∧ Hid (noTo (badP (valsE c.A a) (valsE c.B a) v.a.n k) j) ∧ Hid (RBox w.heap.size wr v c y a ∧ Below w.heap.size w wr)) (fun i _ => v.a.n - (intOf i).toNat)
      case atStart => exact ⟨0, rfl, by omega, Lib.hid (noTo_zero _), HR⟩
      case round =>
        clear HR
        obtain ⟨j, rfl, hj, H1, HR⟩ := hrel
        by_cases hlj : j < v.a.n
        · have h1 := HR.out.1.c1
          have h2 := HR.out.1.c2
          obtain ⟨adL, ad, p, eL, ea, q1, q2, q3, q4⟩ := HR.out.1.at_ HPA.out k hlt
          obtain ⟨adM, ad', p', eM, ea', r1, r2, r3, r4⟩ := HR.out.1.bt_ HPB.out j (by rw [HBM.out]; exact hlj)
          obtain rfl : ad = ad' := by rw [ea] at ea'; exact Option.some.inj ea'
          rw [eL] at h1
          rw [eM] at h2
          rw [ea]
          have HP : Hid (badP (valsE c.A a) (valsE c.B a) v.a.n k j = (decide ((valsE c.A a).getD k 0 < 1) || decide ((v.a.n : Int) < (valsE c.A a).getD k 0) || decide ((valsE c.B a).getD j 0 < 1) || decide ((v.a.n : Int) < (valsE c.B a).getD j 0) || (((valsE c.A a).getD k 0 == (j : Int) + 1) != ((valsE c.B a).getD j 0 == (k : Int) + 1)))) := Lib.hid rfl
          have HBAD : Hid (badP (valsE c.A a) (valsE c.B a) v.a.n k j = true → RES = false) := Lib.hid (fun e => by
            rw [HE.out]
            exact none_no (k := k) hlt (by rw [none_no (k := j) hlj e]; rfl))
          have HST : Hid (badP (valsE c.A a) (valsE c.B a) v.a.n k j = false → noTo (badP (valsE c.A a) (valsE c.B a) v.a.n k) (j + 1)) := Lib.hid (fun e => noTo_step H1.out e)
          generalize badP (valsE c.A a) (valsE c.B a) v.a.n k j = B at *
          generalize (valsE c.A a).getD k 0 = x at *
          generalize (valsE c.B a).getD j 0 = z at *
          clear eL eM ea ea' H1
          cases g1 : decide (x < 1)
          case' true => have HW : Hid (RES = false) := Lib.hid (HBAD.out (by rw [HP.out, g1]; rfl))
          case' false => cases g2 : decide ((v.a.n : Int) < x)
          case' false.true => have HW : Hid (RES = false) := Lib.hid (HBAD.out (by rw [HP.out, g1, g2]; rfl))
          case' false.false => cases g3 : decide (z < 1)
          case' false.false.true => have HW : Hid (RES = false) := Lib.hid (HBAD.out (by rw [HP.out, g1, g2, g3]; rfl))
          case' false.false.false => cases g4 : decide ((v.a.n : Int) < z)
          case' false.false.false.true => have HW : Hid (RES = false) := Lib.hid (HBAD.out (by rw [HP.out, g1, g2, g3, g4]; rfl))
          case' false.false.false.false => cases g5 : (x == (j : Int) + 1) <;> cases g6 : (z == (k : Int) + 1)
          case' false.false.false.false.true.false => have HW : Hid (RES = false) := Lib.hid (HBAD.out (by rw [HP.out, g1, g2, g3, g4, g5, g6]; rfl))
          case' false.false.false.false.false.true => have HW : Hid (RES = false) := Lib.hid (HBAD.out (by rw [HP.out, g1, g2, g3, g4, g5, g6]; rfl))
          case' false.false.false.false.false.false => have H2 := Lib.hid (HST.out (by rw [HP.out, g1, g2, g3, g4, g5, g6]; rfl))
          case' false.false.false.false.true.true => have H2 := Lib.hid (HST.out (by rw [HP.out, g1, g2, g3, g4, g5, g6]; rfl))
          all_goals
            clear HP HBAD HST
            go_wp2_with fail
            first
              | (go_ret
                 exact ⟨ret_bool HW.out.symm, HR.out.2⟩)
              | (go_roundw
                 case rel => exact ⟨j + 1, by go_num, by omega, H2, HR⟩
                 case measure => simp [intOf]; omega)
        · have H2 : Hid (noTo (fun i => !noneN (badP (valsE c.A a) (valsE c.B a) v.a.n i) v.a.n) (k + 1)) := Lib.hid (noTo_step H0.out (by
            have : noneN (badP (valsE c.A a) (valsE c.B a) v.a.n k) v.a.n = true := none_yes (by have := H1.out; rwa [show j = v.a.n by omega] at this)
            rw [this]; rfl))
          clear H0 H1
          go_wp2_with fail
          go_roundw
          case rel => exact ⟨k + 1, by go_num, by omega, H2, HR⟩
          case measure => simp [intOf]; omega
    · have HW : Hid (RES = true) := Lib.hid (by rw [HE.out]; exact none_yes (by have := H0.out; rwa [show k = v.a.n by omega] at this))
      clear H0 HE
      go_wp2_with fail
      go_ret
      exact ⟨ret_bool HW.out.symm, HR.out.2⟩
end Go.Proofs.YtkhmocbfkpbpfaaGreatDoor

/- Contract of the document's Fits (layer 10): shared by layers 10 to 22. -/
import Derived.Test.YtcmdgjkoalophaaGreatDoorSh1
import Derived.Test.YtcmdgjkoalophaaGreatDoorMrefright
import Derived.Test.YtcmdgjkoalophaaGreatDoorGcon
import Derived.Test.YtcmdgjkoalophaaGreatDoorGmeet
import Derived.Deep.RegionHeld3
namespace Go.Proofs.YtcmdgjkoalophaaGreatDoor
open Go.RowKit Go.Sort

/-- May a constraint of kinds from one to another one be filtered, with these domains? -/
def fitsE (c : ConL) (D : List (List Int)) (first last : Int) : Bool :=
  !decide (c.kind < first) && !decide (last < c.kind) && decide (D.length = c.A.length + c.B.length) && (rightE c 256 == 0) && !D.any (fun l => l.length == 0)

set_option maxHeartbeats 4000000 in
set_option maxRecDepth 100000 in
theorem fits_any (v : ConV) (c : ConL) (x : Sl) (D : List (List Int)) (first last : Int) (w : World) (h : ConIn w v c) (hx : IsRows w x D) :
    Calls Tryz.prog 49 #[v.val c.kind c.K, .slice x.A x.n x.c, .int .i64 first, .int .i64 last] w fun e w' => e = .returned (.bool (fitsE c D first last)) ∧ Below w.heap.size w w' := by
  obtain ⟨wb, hwb⟩ : ∃ wb, cBox w v c.kind c.K = wb := ⟨_, rfl⟩
  have HR : Hid (RBox w.heap.size wb v c ⟨none, 0, 0⟩ [] ∧ Below w.heap.size w wb) := Lib.hid (hwb ▸ ⟨RBox.start h (IsInts.nil _), cBox_below _ _ _ _⟩)
  have HD := Lib.hid (hx.below HR.out.2)
  have hxb := hx.big
  have hab := h.a.big
  have hbb := h.b.big
  have CR : Hid (Calls Tryz.prog 51 #[v.val c.kind c.K, .int .i64 256] wb fun e w' => e = .returned (.int .i64 (rightE c 256)) ∧ Below wb.heap.size wb w') := Lib.hid (by
    rw [right_same]
    exact refright_any v c 256 wb HR.out.1.con (by omega))
  have HV : Hid (fitsE c D first last = (!decide (c.kind < first) && !decide (last < c.kind) && decide (x.n = v.a.n + v.b.n) && (rightE c 256 == 0) && !D.any (fun l => l.length == 0))) := Lib.hid (by unfold fitsE; rw [h.a.len, h.b.len, hx.len])
  have HN : Hid (noneN (fun i => (D.getD i []).length == 0) x.n = !D.any (fun l => l.length == 0)) := Lib.hid (by rw [hx.len]; exact none_rows (fun l => l.length == 0) D)
  obtain ⟨RES, hRES⟩ : ∃ B, B = fitsE c D first last := ⟨_, rfl⟩
  rw [← hRES] at HV ⊢
  have HWB := Lib.hid hwb
  obtain ⟨rr, hrr⟩ : ∃ rr, rr = rightE c 256 := ⟨_, rfl⟩
  rw [← hrr] at CR HV
  obtain ⟨OB, hOB⟩ : ∃ B, B = D.any (fun l => l.length == 0) := ⟨_, rfl⟩
  rw [← hOB] at HV HN
  have d0 := HR.out.1.c0
  have d1 := HR.out.1.c1
  have d2 := HR.out.1.c2
  have d3 := HR.out.1.c3
  have d4 := HR.out.1.c4
  have d5 := HR.out.1.c5
  have d6 := HR.out.1.c6
  have d7 := HR.out.1.c7
  have ws : IntKind.i64.wrap (((v.a.n : Nat) : Int) + ((v.b.n : Nat) : Int)) = ((v.a.n : Nat) : Int) + ((v.b.n : Nat) : Int) := IntWalk.i64_in _ (by omega)
  clear hwb h hx hRES hrr hOB
  cases g1 : decide (c.kind < first)
  case' true => have HF : Hid (RES = false) := Lib.hid (by rw [HV.out, g1]; rfl)
  case' false => cases g2 : decide (last < c.kind)
  case' false.true => have HF : Hid (RES = false) := Lib.hid (by rw [HV.out, g2]; simp)
  case' false.false => by_cases g3 : x.n = v.a.n + v.b.n
  case' neg =>
    have HF : Hid (RES = false) := Lib.hid (by rw [HV.out, decide_eq_false g3]; simp)
    have g4 : (((x.n : Nat) : Int) != ((v.a.n : Nat) : Int) + ((v.b.n : Nat) : Int)) = true := by simp; omega
    clear g3
  case' pos =>
    have HF0 : Hid (RES = ((rr == 0) && !OB)) := Lib.hid (by rw [HV.out, g1, g2, decide_eq_true g3]; simp)
    have g4 : (((x.n : Nat) : Int) != ((v.a.n : Nat) : Int) + ((v.b.n : Nat) : Int)) = false := by simp; omega
    clear g3
  case' pos =>
    clear HV
    go_enter Tryz.func49, Tryz.ntmps49
    go_upto_region 1 with fail
    change Code.wp _ _ _ _ (cBox w v c.kind c.K)
    rw [HWB.out]
    clear HWB
    go_wp2_with fail
    refine CR.out.mono ?_
    rintro e w1 ⟨rfl, b1⟩
    have HB1 := Lib.hid (HR.out.2.trans (b1.mono HR.out.2.size))
    have HD1 := Lib.hid (HD.out.below b1)
    clear b1 CR HD HR d0 d1 d2 d3 d4 d5 d6 d7
    cases g : (rr == 0)
    · have gn : (rr != 0) = true := by unfold bne; rw [g]; rfl
      have HW : Hid (RES = false) := Lib.hid (by rw [HF0.out, g]; simp)
      clear HF0 HN
      go_wp2_with fail
      go_ret
      exact ⟨ret_bool HW.out.symm, HB1.out⟩
    · have gn : (rr != 0) = false := by unfold bne; rw [g]; rfl
      have HW : Hid (RES = !OB) := Lib.hid (by rw [HF0.out, g]; simp)
      clear HF0
      go_wp2_with fail
      go_loopw [10] (fun i wr => ∃ (k : Nat), i = .int .i64 (k : Nat) ∧ k ≤ x.n ∧ Hid (noTo (fun i => (D.getD i []).length == 0) k) ∧ Hid (IsRows wr x D ∧ Below w.heap.size w wr)) (fun i _ => x.n - (intOf i).toNat)
      case atStart => exact ⟨0, rfl, by omega, Lib.hid (noTo_zero _), Lib.hid ⟨HD1.out, HB1.out⟩⟩
      case round =>
        clear HD1 HB1
        obtain ⟨k, rfl, hk, H0, HRR⟩ := hrel
        by_cases hlt : k < x.n
        · obtain ⟨ad, u, ex, qx, ux⟩ := rows_at HRR.out.1 k hlt
          rw [ex]
          have HST : Hid (((D.getD k []).length == 0) = false → noTo (fun i => (D.getD i []).length == 0) (k + 1)) := Lib.hid (fun e => noTo_step H0.out e)
          have HBAD : Hid (((D.getD k []).length == 0) = true → RES = false) := Lib.hid (fun e => by rw [HW.out, ← HN.out]; exact none_no (k := k) hlt e)
          have HL : Hid (u.n = (D.getD k []).length) := Lib.hid ux.len
          have hub := ux.big
          clear ex ux H0
          by_cases hz : u.n = 0
          · have e1 : (((u.n : Nat) : Int) == 0) = true := by simp [hz]
            have HF := Lib.hid (HBAD.out (by rw [← HL.out]; simp [hz]))
            clear hz HBAD HST
            go_wp2_with fail
            go_ret
            exact ⟨ret_bool HF.out.symm, HRR.out.2⟩
          · have e1 : (((u.n : Nat) : Int) == 0) = false := by simp [hz]
            have H2 := Lib.hid (HST.out (by rw [← HL.out]; simp [hz]))
            clear hz HBAD HST
            go_wp2_with fail
            go_roundw
            case rel => exact ⟨k + 1, by go_num, by omega, H2, HRR⟩
            case measure => simp [intOf]; omega
        · have HF : Hid (RES = true) := Lib.hid (by
            rw [HW.out, ← HN.out]
            exact none_yes (by have := H0.out; rwa [show k = x.n by omega] at this))
          clear H0 HN
          go_wp2_with fail
          go_ret
          exact ⟨ret_bool HF.out.symm, HRR.out.2⟩
  all_goals
    clear HV CR
    go_enter Tryz.func49, Tryz.ntmps49
    go_upto_region 1 with fail
    change Code.wp _ _ _ _ (cBox w v c.kind c.K)
    rw [HWB.out]
    clear HWB
    go_wp2_with fail
    go_ret
    exact ⟨ret_bool HF.out.symm, HR.out.2⟩
end Go.Proofs.YtcmdgjkoalophaaGreatDoor

/- What is left of the domains of a product, a quotient, a remainder: over lists. No walk. -/
namespace Go.Proofs.YtcmdgjkoalophaaGreatDoor
open Go.RowKit

/-- What a kind makes of two numbers. -/
def kindV (kind x y : Int) : Option Int :=
  if kind = 5 then some (x * y) else if y = 0 then none else if kind = 6 then some (x.tdiv y) else some (x.tmod y)
/-- A pair, if what it makes is among the third numbers. -/
def hitP (f : Int → Int → Option Int) (C : List Int) (a b : Int) : Option (Int × Int × Int) := (f a b).bind fun r => if r ∈ C then some (a, b, r) else none
def hitsR (f : Int → Int → Option Int) (C : List Int) (a : Int) (B : List Int) : List (Int × Int × Int) := B.filterMap (hitP f C a)
def hitsE (f : Int → Int → Option Int) (C A B : List Int) : List (Int × Int × Int) := A.flatMap fun a => hitsR f C a B
def h1 (l : List (Int × Int × Int)) : List Int := l.map fun t => t.1
def h2 (l : List (Int × Int × Int)) : List Int := l.map fun t => t.2.1
def h3 (l : List (Int × Int × Int)) : List Int := l.map fun t => t.2.2

theorem hitsR_step (f : Int → Int → Option Int) (C : List Int) (a : Int) (B : List Int) (k : Nat) (h : k < B.length) : hitsR f C a (B.take (k + 1)) = hitsR f C a (B.take k) ++ (hitP f C a (B.getD k 0)).toList := by
  unfold hitsR
  rw [List.take_succ_eq_append_getElem h, List.filterMap_append, List.getD_eq_getElem?_getD, List.getElem?_eq_getElem h]
  congr 1
theorem hitsE_step (f : Int → Int → Option Int) (C A B : List Int) (k : Nat) (h : k < A.length) : hitsE f C (A.take (k + 1)) B = hitsE f C (A.take k) B ++ hitsR f C (A.getD k 0) B := by
  unfold hitsE
  rw [List.take_succ_eq_append_getElem h, List.flatMap_append, List.getD_eq_getElem?_getD, List.getElem?_eq_getElem h]
  simp
theorem hitsR_len (f : Int → Int → Option Int) (C : List Int) (a : Int) (B : List Int) : (hitsR f C a B).length ≤ B.length := List.length_filterMap_le _ _
theorem hitsE_len (f : Int → Int → Option Int) (C A B : List Int) : (hitsE f C A B).length ≤ A.length * B.length := by
  induction A with
  | nil => simp [hitsE]
  | cons a A ih =>
    have := hitsR_len f C a B
    have e : hitsE f C (a :: A) B = hitsR f C a B ++ hitsE f C A B := by simp [hitsE]
    rw [e, List.length_append, List.length_cons, Nat.add_mul]
    omega
theorem mem_hitP {f : Int → Int → Option Int} {C : List Int} {a b : Int} {t : Int × Int × Int} : t ∈ (hitP f C a b).toList ↔ t.1 = a ∧ t.2.1 = b ∧ f a b = some t.2.2 ∧ t.2.2 ∈ C := by
  obtain ⟨x, y, z⟩ := t
  unfold hitP
  cases hf : f a b with
  | none => simp
  | some r =>
    by_cases hr : r ∈ C
    · simp only [Option.bind_some, if_pos hr, Option.toList_some, List.mem_singleton, Prod.mk.injEq, Option.some.injEq]
      constructor
      · rintro ⟨rfl, rfl, rfl⟩; exact ⟨rfl, rfl, rfl, hr⟩
      · rintro ⟨rfl, rfl, rfl, -⟩; exact ⟨rfl, rfl, rfl⟩
    · simp only [Option.bind_some, if_neg hr, Option.toList_none, List.not_mem_nil, false_iff, Option.some.injEq]
      rintro ⟨rfl, rfl, rfl, h⟩; exact hr h
theorem mem_hitsE {f : Int → Int → Option Int} {C A B : List Int} {t : Int × Int × Int} : t ∈ hitsE f C A B ↔ t.1 ∈ A ∧ t.2.1 ∈ B ∧ f t.1 t.2.1 = some t.2.2 ∧ t.2.2 ∈ C := by
  unfold hitsE hitsR
  simp only [List.mem_flatMap, List.mem_filterMap]
  constructor
  · rintro ⟨a, ha, b, hb, h⟩
    obtain ⟨rfl, rfl, h3, h4⟩ := mem_hitP.1 (show t ∈ (hitP f C a b).toList by rw [h]; simp)
    exact ⟨ha, hb, h3, h4⟩
  · rintro ⟨ha, hb, h3, h4⟩
    refine ⟨t.1, ha, t.2.1, hb, ?_⟩
    have := mem_hitP.2 (⟨rfl, rfl, h3, h4⟩ : t.1 = t.1 ∧ t.2.1 = t.2.1 ∧ f t.1 t.2.1 = some t.2.2 ∧ t.2.2 ∈ C)
    rw [Option.mem_toList] at this
    exact this
theorem h1_app (l m : List (Int × Int × Int)) : h1 (l ++ m) = h1 l ++ h1 m := by simp [h1]
theorem h2_app (l m : List (Int × Int × Int)) : h2 (l ++ m) = h2 l ++ h2 m := by simp [h2]
theorem h3_app (l m : List (Int × Int × Int)) : h3 (l ++ m) = h3 l ++ h3 m := by simp [h3]

/-- The least and the greatest of four. -/
def min4 (a b c d : Int) : Int := min (min (min a b) c) d
def max4 (a b c d : Int) : Int := max (max (max a b) c) d
def lowP (A B : List Int) : Int := min4 (A.head?.getD 0 * B.head?.getD 0) (A.head?.getD 0 * B.getLast?.getD 0) (A.getLast?.getD 0 * B.head?.getD 0) (A.getLast?.getD 0 * B.getLast?.getD 0)
def highP (A B : List Int) : Int := max4 (A.head?.getD 0 * B.head?.getD 0) (A.head?.getD 0 * B.getLast?.getD 0) (A.getLast?.getD 0 * B.head?.getD 0) (A.getLast?.getD 0 * B.getLast?.getD 0)

/-- What is left of three domains, none empty. -/
def mulL (kind : Int) (A B C : List Int) : List (List Int) :=
  if A.length * B.length ≤ 4096 then [ofL (h1 (hitsE (kindV kind) C A B)), ofL (h2 (hitsE (kindV kind) C A B)), ofL (h3 (hitsE (kindV kind) C A B))]
  else if kind = 5 then [A, B, (C.filter fun u => decide (lowP A B ≤ u)).filter fun u => decide (u ≤ highP A B)]
  else [A, B.filter fun u => decide (u ≠ 0), C]
/-- What is left; nothing, if a domain is empty, or the constraint isn't one of these. -/
def mulE (c : ConL) (D : List (List Int)) : Option (List (List Int)) :=
  if fitsE c D 5 7 = true then
    (if (mulL c.kind (D.getD 0 []) (D.getD 1 []) (D.getD 2 [])).any (fun l => l.length == 0) = true then none else some (mulL c.kind (D.getD 0 []) (D.getD 1 []) (D.getD 2 [])))
  else none
end Go.Proofs.YtcmdgjkoalophaaGreatDoor

/- Contracts: holds, Holds. -/
namespace Go.Proofs.YtcmdgjkoalophaaGreatDoor
open Go.RowKit Go.Sort

theorem atE_mem {a : List Int} {v : Int} (h0 : 0 ≤ v) (h1 : v < (a.length : Int)) : atE a v ∈ a := getD_mem a v.toNat (by omega)
theorem vals_in {L a : List Int} {lo hi : Int} (hL : ∀ v ∈ L, 0 ≤ v ∧ v < (a.length : Int)) (ha : ∀ v ∈ a, lo ≤ v ∧ v ≤ hi) : ∀ v ∈ valsE L a, lo ≤ v ∧ v ≤ hi := by
  intro v hv
  obtain ⟨u, hu, rfl⟩ := List.mem_map.1 hv
  exact ha _ (atE_mem (hL u hu).1 (hL u hu).2)
theorem vals_len' (l a : List Int) : (valsE l a).length = l.length := by
  unfold valsE
  simp

set_option maxHeartbeats 4000000 in
set_option maxRecDepth 100000 in
theorem gholds_any (v : ConV) (c : ConL) (y : Sl) (a : List Int) (w : World) (hE : EntIn w) (h : ConIn w v c) (hy : IsInts w y a) (ha : ∀ v ∈ a, -1000000 ≤ v ∧ v ≤ 1000000) :
    Calls Tryz.prog 55 #[v.val c.kind c.K, .slice y.A y.n y.c] w fun e w' => e = .returned (.bool (holdsB c a)) ∧ Below w.heap.size w w' := by
  obtain ⟨wb, hwb⟩ : ∃ wb, w.alloc (.cells (v.cells c.kind c.K) 37) = wb := ⟨_, rfl⟩
  have hbb : Below w.heap.size w wb := hwb ▸ below1 w _
  have bb : Below (w.heap.size + 1) (w.alloc (.cells (v.cells c.kind c.K) 37)) wb := hwb ▸ (by rw [show w.heap.size + 1 = (w.alloc (.cells (v.cells c.kind c.K) 37)).heap.size by simp]; exact Below.refl _ _)
  have CR : Hid (∀ W, Below wb.heap.size wb W → Calls Tryz.prog 108 #[v.val c.kind c.K, .int .i64 ((y.n : Nat) : Int)] W fun e w' => e = .returned (.int .i64 (rightE c ((y.n : Nat) : Int))) ∧ Below W.heap.size W w') := Lib.hid (fun W hW => right_any v c _ W ((hE.below hbb).below hW) ((h.below hbb).below hW))
  have hyl := hy.len
  have HX : Hid (∀ W, Below wb.heap.size wb W → Below wb.heap.size wb W ∧ W.cell? ⟨w.heap.size, 0, none⟩ = some (.int .i64 c.kind) ∧ W.cell? ⟨w.heap.size, 1, none⟩ = some (.slice v.a.A v.a.n v.a.c) ∧ W.cell? ⟨w.heap.size, 2, none⟩ = some (.slice v.b.A v.b.n v.b.c) ∧ W.cell? ⟨w.heap.size, 3, none⟩ = some (.slice v.c.A v.c.n v.c.c) ∧ W.cell? ⟨w.heap.size, 4, none⟩ = some (.slice v.d.A v.d.n v.d.c) ∧ W.cell? ⟨w.heap.size, 5, none⟩ = some (.slice v.e.A v.e.n v.e.c) ∧ W.cell? ⟨w.heap.size, 6, none⟩ = some (.int .i64 c.K) ∧ W.cell? ⟨w.heap.size, 7, none⟩ = some (.slice v.r.A v.r.n v.r.c)) := Lib.hid (fun W hW => by
    have h8 := box8 (t := 37) (bb.trans (hW.mono (by have := bb.size; simpa using this)))
    exact ⟨hW, h8⟩)
  by_cases hr : rightE c ((a.length : Nat) : Int) = 0
  · have r := con_r hr
    have hrv : rightE c ((y.n : Nat) : Int) = 0 := by rw [hyl]; exact hr
    have CA : Hid (∀ W, Below wb.heap.size wb W → Calls Tryz.prog 110 #[.slice v.a.A v.a.n v.a.c, .slice y.A y.n y.c] W fun e w' => (∃ z : Sl, e = .returned (.slice z.A z.n z.c) ∧ IsInts w' z (valsE c.A a)) ∧ Below W.heap.size W w') := Lib.hid (fun W hW => values_any v.a y c.A a W ((h.a.below hbb).below hW) ((hy.below hbb).below hW) r.a64 r.pa)
    have CB : Hid (∀ W, Below wb.heap.size wb W → Calls Tryz.prog 110 #[.slice v.b.A v.b.n v.b.c, .slice y.A y.n y.c] W fun e w' => (∃ z : Sl, e = .returned (.slice z.A z.n z.c) ∧ IsInts w' z (valsE c.B a)) ∧ Below W.heap.size W w') := Lib.hid (fun W hW => values_any v.b y c.B a W ((h.b.below hbb).below hW) ((hy.below hbb).below hW) r.b64 r.pb)
    have CM : Hid (∀ W (zA zB : Sl), Below wb.heap.size wb W → IsInts W zA (valsE c.A a) → IsInts W zB (valsE c.B a) → Calls Tryz.prog 109 #[v.val c.kind c.K, .slice zA.A zA.n zA.c, .slice zB.A zB.n zB.c] W fun e w' => e = .returned (.bool (meetsB c (valsE c.A a) (valsE c.B a))) ∧ Below W.heap.size W w') := Lib.hid (fun W zA zB hW h1 h2 => meets_any v c zA zB _ _ a.length W ((h.below hbb).below hW) h1 h2 r (vals_len' _ _) (vals_len' _ _) (vals_in r.pa ha) (vals_in r.pb ha))
    have HRES : Hid (meetsB c (valsE c.A a) (valsE c.B a) = holdsB c a) := Lib.hid (by unfold holdsB; rw [hr]; simp)
    generalize holdsB c a = RES at HRES ⊢
    generalize meetsB c (valsE c.A a) (valsE c.B a) = M at CM HRES
    rw [hrv] at CR
    generalize valsE c.A a = XA at CA CM
    generalize valsE c.B a = XB at CB CM
    have HBB := Lib.hid hbb
    have HWB := Lib.hid hwb
    generalize c.kind = kd at *
    generalize c.K = kk at *
    clear hr hrv r hyl hy h hE ha hwb bb hbb
    have hS := HX.out wb.drew ((Below.refl _ _).drew)
    go_enter Tryz.func55, Tryz.ntmps55
    go_upto_region 1 with fail
    change Code.wp _ _ _ _ (w.alloc (.cells (v.cells kd kk) 37))
    rw [HWB.out]
    clear HWB
    go_region_held3 (fun W => Below wb.heap.size wb W ∧ W.cell? ⟨w.heap.size, 0, none⟩ = some (.int .i64 kd) ∧ W.cell? ⟨w.heap.size, 1, none⟩ = some (.slice v.a.A v.a.n v.a.c) ∧ W.cell? ⟨w.heap.size, 2, none⟩ = some (.slice v.b.A v.b.n v.b.c) ∧ W.cell? ⟨w.heap.size, 3, none⟩ = some (.slice v.c.A v.c.n v.c.c) ∧ W.cell? ⟨w.heap.size, 4, none⟩ = some (.slice v.d.A v.d.n v.d.c) ∧ W.cell? ⟨w.heap.size, 5, none⟩ = some (.slice v.e.A v.e.n v.e.c) ∧ W.cell? ⟨w.heap.size, 6, none⟩ = some (.int .i64 kk) ∧ W.cell? ⟨w.heap.size, 7, none⟩ = some (.slice v.r.A v.r.n v.r.c)) (first | exact hS | assumption)
      (first
        | (go_at_call 108; refine (CR.out _ hS.1).mono ?_; rintro e w1 ⟨rfl, b1⟩; have hS := HX.out _ (hS.1.trans (b1.mono hS.1.size)))
        | (go_at_call_of 110 (Value.slice v.a.A v.a.n v.a.c); refine (CA.out _ hS.1).mono ?_; rintro e w2 ⟨⟨zA, rfl, hzA⟩, bA⟩; have HA := Lib.hid hzA; clear hzA; (try have HB := Lib.hid (HB.out.below bA)); have hS := HX.out _ (hS.1.trans (bA.mono hS.1.size)))
        | (go_at_call_of 110 (Value.slice v.b.A v.b.n v.b.c); refine (CB.out _ hS.1).mono ?_; rintro e w3 ⟨⟨zB, rfl, hzB⟩, bB⟩; have HB := Lib.hid hzB; clear hzB; (try have HA := Lib.hid (HA.out.below bB)); have hS := HX.out _ (hS.1.trans (bB.mono hS.1.size)))
        | (go_at_call 109; refine (CM.out _ _ _ hS.1 HA.out HB.out).mono ?_; rintro e w4 ⟨rfl, bM⟩; have hS := HX.out _ (hS.1.trans (bM.mono hS.1.size))))
    all_goals
      have BF := Lib.hid (HBB.out.trans (hS.1.mono HBB.out.size))
      clear hS HX CR CA CB CM
      go_wp2_with fail
      go_ret
      exact ⟨ret_bool HRES.out, BF.out⟩
  · have hrv : (rightE c ((y.n : Nat) : Int) == 0) = false := by rw [hyl]; simpa using hr
    have HRES : Hid (holdsB c a = false) := Lib.hid (by unfold holdsB; rw [← hyl, hrv]; rfl)
    generalize holdsB c a = RES at HRES ⊢
    have CR2 := Lib.hid (in_regrown' (w := wb) CR.out)
    obtain ⟨-, c0, c1, c2, c3, c4, c5, c6, c7⟩ := HX.out wb (Below.refl _ _)
    have k0 := cell_regrown c0
    have k1 := cell_regrown c1
    have k2 := cell_regrown c2
    have k3 := cell_regrown c3
    have k4 := cell_regrown c4
    have k5 := cell_regrown c5
    have k6 := cell_regrown c6
    have k7 := cell_regrown c7
    generalize rightE c ((y.n : Nat) : Int) = E at CR2 hrv
    have HBB := Lib.hid hbb
    have HWB := Lib.hid hwb
    generalize c.kind = kd at *
    generalize c.K = kk at *
    clear hr hyl hy h hE ha hwb bb hbb CR HX c0 c1 c2 c3 c4 c5 c6 c7
    go_enter Tryz.func55, Tryz.ntmps55
    go_upto_region 1 with fail
    change Code.wp _ _ _ _ (w.alloc (.cells (v.cells kd kk) 37))
    rw [HWB.out]
    clear HWB
    refine wp_region_quiet_below (by kernel_rfl) (by kernel_rfl) ?_
    repeat (first | go_big_quiet_step (first | (go_at_call 108; with_reducible exact CR2.out _ _)) | quiet_step (first | (go_at_call 108; with_reducible exact CR2.out _ _)))
    refine wpQuiet_nil ?_
    intro _ hw'
    obtain ⟨⟨dq, osq⟩, hw''⟩ := hw'
    subst hw''
    have B6 := Lib.hid (below_regrown wb dq osq)
    generalize grow (redrawn wb dq) osq = W6 at *
    clear CR2 k0 k1 k2 k3 k4 k5 k6 k7
    go_wp2_with fail
    go_ret
    exact ⟨ret_bool HRES.out.symm, HBB.out.trans (B6.out.mono HBB.out.size)⟩

set_option maxHeartbeats 1000000 in
set_option maxRecDepth 100000 in
theorem gHolds_any (v : ConV) (c : ConL) (y : Sl) (a : List Int) (w : World) (hE : EntIn w) (h : ConIn w v c) (hy : IsInts w y a) :
    Calls Tryz.prog 24 #[v.val c.kind c.K, .slice y.A y.n y.c] w fun e w' => e = .returned (.bool (holdsE c a)) ∧ Below w.heap.size w w' := by
  obtain ⟨wb, hwb⟩ : ∃ wb, w.alloc (.cells (v.cells c.kind c.K) 37) = wb := ⟨_, rfl⟩
  have hbb : Below w.heap.size w wb := hwb ▸ below1 w _
  have CM := Lib.hid (gmay_any y a wb (hy.below hbb))
  have CH : Hid (a.any (outB (-1000000) 1000000) = false → ∀ W, Below wb.heap.size wb W → Calls Tryz.prog 55 #[v.val c.kind c.K, .slice y.A y.n y.c] W fun e w' => e = .returned (.bool (holdsB c a)) ∧ Below W.heap.size W w') := Lib.hid (fun q W hW => gholds_any v c y a W ((hE.below hbb).below hW) ((h.below hbb).below hW) ((hy.below hbb).below hW) (fun z hz => by
    have := List.any_eq_false.1 q z hz
    unfold outB at this
    simp at this
    omega))
  have HX : Hid (∀ W, Below wb.heap.size wb W → W.cell? ⟨w.heap.size, 0, none⟩ = some (.int .i64 c.kind) ∧ W.cell? ⟨w.heap.size, 1, none⟩ = some (.slice v.a.A v.a.n v.a.c) ∧ W.cell? ⟨w.heap.size, 2, none⟩ = some (.slice v.b.A v.b.n v.b.c) ∧ W.cell? ⟨w.heap.size, 3, none⟩ = some (.slice v.c.A v.c.n v.c.c) ∧ W.cell? ⟨w.heap.size, 4, none⟩ = some (.slice v.d.A v.d.n v.d.c) ∧ W.cell? ⟨w.heap.size, 5, none⟩ = some (.slice v.e.A v.e.n v.e.c) ∧ W.cell? ⟨w.heap.size, 6, none⟩ = some (.int .i64 c.K) ∧ W.cell? ⟨w.heap.size, 7, none⟩ = some (.slice v.r.A v.r.n v.r.c)) := Lib.hid (fun W hW => by
    have bb : Below (w.heap.size + 1) (w.alloc (.cells (v.cells c.kind c.K) 37)) wb := hwb ▸ (by rw [show w.heap.size + 1 = (w.alloc (.cells (v.cells c.kind c.K) 37)).heap.size by simp]; exact Below.refl _ _)
    exact box8 (t := 37) (bb.trans (hW.mono (by have := bb.size; simpa using this))))
  unfold holdsE
  generalize holdsB c a = HB at CH ⊢
  generalize a.any (outB (-1000000) 1000000) = OB at CM CH ⊢
  have HBB := Lib.hid hbb
  have HWB := Lib.hid hwb
  generalize c.kind = kd at *
  generalize c.K = kk at *
  clear hE h hy hwb hbb
  go_enter Tryz.func24, Tryz.ntmps24
  go_upto_region 1 with fail
  change Code.wp _ _ _ _ (w.alloc (.cells (v.cells kd kk) 37))
  rw [HWB.out]
  clear HWB
  cases OB
  · have CH2 := Lib.hid (CH.out rfl)
    clear CH
    go_wp2_with fail
    refine CM.out.mono ?_
    rintro e w1 ⟨rfl, b1⟩
    have B1 := Lib.hid b1
    obtain ⟨c0, c1, c2, c3, c4, c5, c6, c7⟩ := HX.out w1 b1
    clear b1 CM HX
    go_wp2_with fail
    refine (CH2.out w1 B1.out).mono ?_
    rintro e w2 ⟨rfl, b2⟩
    have B2 := Lib.hid (B1.out.trans (b2.mono B1.out.size))
    clear b2 CH2 B1 c0 c1 c2 c3 c4 c5 c6 c7
    go_wp2_with fail
    go_ret
    exact ⟨ret_bool (by simp), HBB.out.trans (B2.out.mono HBB.out.size)⟩
  · clear CH
    go_wp2_with fail
    refine CM.out.mono ?_
    rintro e w1 ⟨rfl, b1⟩
    have B1 := Lib.hid b1
    clear b1 CM HX
    go_wp2_with fail
    go_ret
    exact ⟨ret_bool (by simp), HBB.out.trans (B1.out.mono HBB.out.size)⟩
end Go.Proofs.YtcmdgjkoalophaaGreatDoor

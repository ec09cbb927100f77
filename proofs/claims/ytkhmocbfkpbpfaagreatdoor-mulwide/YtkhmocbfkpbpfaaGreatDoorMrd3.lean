/- Contract of the document's Pairs. -/
import Derived.Test.YtkhmocbfkpbpfaaGreatDoorMrd2
import Derived.Test.YtkhmocbfkpbpfaaGreatDoorRg1
namespace Go.Proofs.YtkhmocbfkpbpfaaGreatDoor
open Go.RowKit Go.Sort

theorem infoB : (Tryz.prog.info? 4).map (fun i => (i.zero, i.size, i.bytes)) = some (some (.bool false), 1, 1) := by kernel_rfl
theorem make_bits (n : Nat) (hn : n ≤ 200000) : ∀ W : World, (Instr.makeSlice 115 (.int .i64 (n : Nat)) (.int .i64 (n : Nat))).run Tryz.prog W = .ok (.slice (some ⟨W.heap.size, 0, none⟩) n n) (W.alloc (.cells (Array.replicate n (Value.bool false)) 4)) := by
  intro W
  obtain ⟨i0, hi, hz0, hz1, hz2⟩ := info_parts infoB
  have := run_make (P := Tryz.prog) W 115 4 i0 (.bool false) Tryz.underlying115 hi hz0 .i64 .i64 (n : Nat) (n : Nat) (by omega) (by omega) (by rw [hz2]; omega) (by omega)
  rw [this, hz1]
  have e : madeCells (Value.cells (.bool false)) (((n : Nat) : Int).toNat * 1) = Array.replicate n (Value.bool false) := by
    apply Array.ext'
    have e2 : madeCells (Value.cells (.bool false)) (((n : Nat) : Int).toNat * 1) = madeCells #[Value.bool false] n := by simp [Value.cells]
    rw [e2, toList_madeCells_one]
    simp
  rw [e]
  simp
theorem mark_new (W : World) (n : Nat) : MarkB (W.alloc (.cells (Array.replicate n (Value.bool false)) 4)) W.heap.size (List.replicate n false) := by
  have := heap_new W (.cells (Array.replicate n (Value.bool false)) 4)
  unfold MarkB
  rw [this]
  simp
/-- A hit, by its places. -/
def hitN (f : Int → Int → Option Int) (A B C : List Int) (i k j : Nat) : Prop := f (A.getD i 0) (B.getD k 0) = some (C.getD j 0)
/-- What Pairs leaves. -/
def pairsE (f : Int → Int → Option Int) (A B C : List Int) : Option (List (List Int)) :=
  if hitsE f C A B = [] then none else
  some [A.filter fun a => (hitsE f C A B).any fun t => t.1 == a, B.filter fun b => (hitsE f C A B).any fun t => t.2.1 == b, C.filter fun r => (hitsE f C A B).any fun t => t.2.2 == r]

/-- Three rows made into a slice. -/
theorem rows_build3 {W : World} {y1 y2 y3 : Sl} {L1 L2 L3 : List Int} (h1 : IsInts W y1 L1) (h2 : IsInts W y2 L2) (h3 : IsInts W y3 L3) :
    IsRows (W.alloc (.cells #[.slice y1.A y1.n y1.c, .slice y2.A y2.n y2.c, .slice y3.A y3.n y3.c] 30)) ⟨some ⟨W.heap.size, 0, none⟩, 3, 3⟩ [L1, L2, L3] := by
  have b := below1 W (.cells #[.slice y1.A y1.n y1.c, .slice y2.A y2.n y2.c, .slice y3.A y3.n y3.c] 30)
  have hn := heap_alloc_new W (.cells #[.slice y1.A y1.n y1.c, .slice y2.A y2.n y2.c, .slice y3.A y3.n y3.c] 30)
  refine ⟨rfl, by simp, fun _ => ⟨⟨W.heap.size, 0, none⟩, rfl, (Array.getElem?_eq_some_iff.1 hn).1, fun i hi => ?_⟩⟩
  match i, hi with
  | 0, _ => exact ⟨y1, by rw [add_zero]; exact blk_cell hn rfl, h1.below b⟩
  | 1, _ => exact ⟨y2, by simp [Addr.add], h2.below b⟩
  | 2, _ => exact ⟨y3, by simp [Addr.add], h3.below b⟩

set_option maxHeartbeats 8000000 in
set_option maxRecDepth 100000 in
theorem pairs_walk (kind : Int) (x : Sl) (A Bs C : List Int) (w : World) (hk : kind = 5 ∨ kind = 6 ∨ kind = 7 ∨ kind = 9 ∨ kind = 10) (h : IsRows w x [A, Bs, C]) (hA : A.length ≤ 200000) (hB : Bs.length ≤ 200000) (hC : C.length ≤ 200000) (iA : ∀ v ∈ A, -1000000 ≤ v ∧ v ≤ 1000000) (iB : ∀ v ∈ Bs, -1000000 ≤ v ∧ v ≤ 1000000) :
    Calls Tryz.prog 60 #[.int .i64 kind, .slice x.A x.n x.c] w fun e w' => (∃ (an : Bool) (MA MB MC : List Bool), Marks (hitN (kindV kind) A Bs C) A.length Bs.length C.length A.length 0 0 MA MB MC an ∧
      ∃ (y : Sl), e = .returned (.tuple #[.slice y.A y.n y.c, .bool an]) ∧ IsRows w' y (if an = true then [thoseE A MA A.length, thoseE Bs MB Bs.length, thoseE C MC C.length] else [])) ∧ Below w.heap.size w w' := by
  obtain ⟨xA, xn, xc⟩ := x
  have hxn : xn = 3 := h.len
  subst hxn
  obtain ⟨ad, uA, e0, c0, hA0⟩ := rows_at h 0 (show 0 < 3 by omega)
  obtain ⟨ad1, uB, e1, c1, hB0⟩ := rows_at h 1 (show 1 < 3 by omega)
  obtain ⟨ad2, uC, e2, c2, hC0⟩ := rows_at h 2 (show 2 < 3 by omega)
  simp only at e0 e1 e2
  subst e0
  obtain rfl : ad = ad1 := Option.some.inj e1
  obtain rfl : ad = ad2 := Option.some.inj e2
  obtain ⟨ab, ao, af⟩ := ad
  have c0 : w.cell? ⟨ab, ao, af⟩ = some (.slice uA.A uA.n uA.c) := by rw [add_zero] at c0; exact c0
  have c1 : w.cell? ⟨ab, ao + 1, none⟩ = some (.slice uB.A uB.n uB.c) := by simpa [Addr.add] using c1
  have c2 : w.cell? ⟨ab, ao + 2, none⟩ = some (.slice uC.A uC.n uC.c) := by simpa [Addr.add] using c2
  obtain ⟨aA, aN, aC⟩ := uA
  obtain ⟨bA, bN, bC⟩ := uB
  obtain ⟨cA, cN, cC⟩ := uC
  have hA1 : IsInts w ⟨aA, aN, aC⟩ A := hA0
  have hB1 : IsInts w ⟨bA, bN, bC⟩ Bs := hB0
  have hC1 : IsInts w ⟨cA, cN, cC⟩ C := hC0
  obtain rfl : aN = A.length := hA1.len
  obtain rfl : bN = Bs.length := hB1.len
  obtain rfl : cN = C.length := hC1.len
  have HA := Lib.hid hA1
  have HB := Lib.hid hB1
  have HC := Lib.hid hC1
  have HIA := Lib.hid iA
  have HIB := Lib.hid iB
  have HK := Lib.hid hk
  have mA := make_bits A.length hA
  have mB := make_bits Bs.length hB
  have mC := make_bits C.length hC
  obtain ⟨wa, hwa⟩ : ∃ wa, w.alloc (.cells (Array.replicate A.length (Value.bool false)) 4) = wa := ⟨_, rfl⟩
  obtain ⟨wb, hwb⟩ : ∃ wb, wa.alloc (.cells (Array.replicate Bs.length (Value.bool false)) 4) = wb := ⟨_, rfl⟩
  obtain ⟨wc, hwc⟩ : ∃ wc, wb.alloc (.cells (Array.replicate C.length (Value.bool false)) 4) = wc := ⟨_, rfl⟩
  have n1 : MarkB wa w.heap.size (List.replicate A.length false) := hwa ▸ mark_new w _
  have n2 : MarkB wb wa.heap.size (List.replicate Bs.length false) := hwb ▸ mark_new wa _
  have n3 : MarkB wc wb.heap.size (List.replicate C.length false) := hwc ▸ mark_new wb _
  have ba : Below w.heap.size w wa := hwa ▸ below1 w _
  have bb : Below wa.heap.size wa wb := hwb ▸ below1 wa _
  have bc : Below wb.heap.size wb wc := hwc ▸ below1 wb _
  have bac : Below wa.heap.size wa wc := bb.trans (bc.mono bb.size)
  have b0 : Below w.heap.size w wc := ba.trans (bac.mono ba.size)
  have l1 : w.heap.size < wa.heap.size := n1.lt
  have l2 : wa.heap.size < wb.heap.size := n2.lt
  have HM0 : Hid (MarkB wc w.heap.size (List.replicate A.length false) ∧ MarkB wc wa.heap.size (List.replicate Bs.length false) ∧ MarkB wc wb.heap.size (List.replicate C.length false)) := Lib.hid ⟨n1.below bac, n2.below bc, n3⟩
  have HL : Hid (w.heap.size < wa.heap.size ∧ wa.heap.size < wb.heap.size) := Lib.hid ⟨l1, l2⟩
  have B0 := Lib.hid b0
  have adlt : ab < w.heap.size := World.block_lt_of_cell? _ _ c0
  have qa : ∀ {W : World}, Below w.heap.size w W → W.cell? ⟨ab, ao, af⟩ = some (.slice aA A.length aC) := fun hW => (hW.cell (p := ⟨ab, ao, af⟩) adlt).trans c0
  have qb : ∀ {W : World}, Below w.heap.size w W → W.cell? ⟨ab, ao + 1, none⟩ = some (.slice bA Bs.length bC) := fun hW => (hW.cell (p := ⟨ab, ao + 1, none⟩) adlt).trans c1
  have qc : ∀ {W : World}, Below w.heap.size w W → W.cell? ⟨ab, ao + 2, none⟩ = some (.slice cA C.length cC) := fun hW => (hW.cell (p := ⟨ab, ao + 2, none⟩) adlt).trans c2
  have HQ := Lib.hid (fun W (hW : Below w.heap.size w W) => And.intro (qa hW) (And.intro (qb hW) (qc hW)))
  have p1 : wa.cell? ⟨ab, ao + 1, none⟩ = some (.slice bA Bs.length bC) := qb ba
  have p2 : wb.cell? ⟨ab, ao + 2, none⟩ = some (.slice cA C.length cC) := qc (ba.trans (bb.mono ba.size))
  clear hA0 hB0 hC0 hA1 hB1 hC1 h n1 n2 n3 ba bb bc bac b0 l1 l2 qa qb qc e1 e2 adlt hk iA iB
  go_enter Tryz.func60, Tryz.ntmps60
  go_upto_region 5 with fail
  clear hwa hwb hwc mA mB mC p1 p2 c0 c1 c2
  obtain ⟨ga, hga⟩ : ∃ g, g = w.heap.size := ⟨_, rfl⟩
  obtain ⟨gb, hgb⟩ : ∃ g, g = wa.heap.size := ⟨_, rfl⟩
  obtain ⟨gc, hgc⟩ : ∃ g, g = wb.heap.size := ⟨_, rfl⟩
  have HGA := Lib.hid hga
  rw [← hga, ← hgb, ← hgc] at HM0
  rw [← hga, ← hgb] at HL
  rw [← hgc] at HL
  rw [← hga, ← hgb, ← hgc]
  clear hga hgb hgc
  go_wp2_with fail
  go_loopw [9, 10] (fun a b wr => ∃ (i : Nat) (MA MB MC : List Bool) (an : Bool), a = .bool an ∧ b = .int .i64 (i : Nat) ∧ i ≤ A.length ∧ Hid (Marks (hitN (kindV kind) A Bs C) A.length Bs.length C.length i 0 0 MA MB MC an) ∧ Hid (MarkB wr ga MA ∧ MarkB wr gb MB ∧ MarkB wr gc MC) ∧ Hid (Below w.heap.size w wr)) (fun _ b _ => A.length - (intOf b).toNat)
  case atStart => exact ⟨0, _, _, _, false, rfl, rfl, by omega, Lib.hid (Marks.start _ _ _ _), HM0, B0⟩
  case round =>
    clear HM0 B0
    obtain ⟨i, MA, MB, MC, an, rfl, rfl, hi, HMK, HMB, HBR⟩ := hrel
    obtain ⟨q0, -, -⟩ := HQ.out wr HBR.out
    by_cases hlt : i < A.length
    · obtain ⟨wo, rfl⟩ : ∃ wo, wo = wr := ⟨_, rfl⟩
      go_wp2_with fail
      go_loopw [9, 11] (fun a b wr => ∃ (k : Nat) (MA MB MC : List Bool) (an : Bool), a = .bool an ∧ b = .int .i64 (k : Nat) ∧ k ≤ Bs.length ∧ Hid (Marks (hitN (kindV kind) A Bs C) A.length Bs.length C.length i k 0 MA MB MC an) ∧ Hid (MarkB wr ga MA ∧ MarkB wr gb MB ∧ MarkB wr gc MC) ∧ Hid (Below w.heap.size w wr)) (fun _ b _ => Bs.length - (intOf b).toNat)
      case atStart => exact ⟨0, MA, MB, MC, an, rfl, rfl, by omega, HMK, HMB, HBR⟩
      case round =>
        clear HMK HMB HBR q0
        obtain ⟨k, MA, MB, MC, an, rfl, rfl, hk, HMK, HMB, HBR⟩ := hrel
        obtain ⟨q0, q1, q2⟩ := HQ.out wr HBR.out
        by_cases hltk : k < Bs.length
        · obtain ⟨adA, eA, hbA, hcA⟩ := (HA.out.below HBR.out).lies (show 0 < A.length by omega)
          obtain ⟨adB, eB, hbB, hcB⟩ := (HB.out.below HBR.out).lies (show 0 < Bs.length by omega)
          simp only at eA eB
          have va : wr.cell? (adA.add i) = some (.int .i64 (A.getD i 0)) := hcA i hlt
          have vb : wr.cell? (adB.add k) = some (.int .i64 (Bs.getD k 0)) := hcB k hltk
          have inA := HIA.out _ (getD_mem A i hlt)
          have inB := HIB.out _ (getD_mem Bs k hltk)
          subst eA
          subst eB
          have CV := Lib.hid (gin_regrown (w := wr) (fun W _ => value_any kind (A.getD i 0) (Bs.getD k 0) W HK.out inA inB))
          have HHIT : Hid (∀ j, hitN (kindV kind) A Bs C i k j ↔ kindV kind (A.getD i 0) (Bs.getD k 0) = some (C.getD j 0)) := Lib.hid (fun j => Iff.rfl)
          obtain ⟨av, hav⟩ : ∃ v, v = A.getD i 0 := ⟨_, rfl⟩
          obtain ⟨bv, hbv⟩ : ∃ v, v = Bs.getD k 0 := ⟨_, rfl⟩
          rw [← hav] at va CV HHIT
          rw [← hbv] at vb CV HHIT
          have Q0 := cell_regrown q0
          have Q1 := cell_regrown q1
          have VA := cell_regrown va
          have VB := cell_regrown vb
          clear hcA hcB hbA hbB inA inB hav hbv
          cases hf : kindV kind av bv with
          | none =>
            rw [hf] at CV
            change Hid (∀ d os, Calls Tryz.prog 125 #[.int .i64 kind, .int .i64 av, .int .i64 bv] (grow (redrawn wr d) os) fun e w'' => e = .returned (.tuple #[.int .i64 0, .bool false]) ∧ ∃ p : Regrown, w'' = grow (redrawn wr p.d) p.os) at CV
            have HNX := Lib.hid (HMK.out.skip (fun j => by rw [HHIT.out, hf]; exact fun e => by cases e))
            clear HHIT hf
            go_upto_region 11 with fail
            clear q0 q1 q2 va vb
            refine wp_region_quiet_below (by kernel_rfl) (by kernel_rfl) ?_
            repeat (first | go_big_quiet_step (first | (go_at_call 125; with_reducible exact CV.out _ _)) | quiet_step (fail))
            refine wpQuiet_nil ?_
            intro _ hw'
            obtain ⟨⟨dq, osq⟩, hw''⟩ := hw'
            subst hw''
            have b5 := below_regrown wr dq osq
            generalize grow (redrawn wr dq) osq = w5 at *
            have B5 := Lib.hid (HBR.out.trans (b5.mono HBR.out.size))
            have HM5 : Hid (MarkB w5 ga MA ∧ MarkB w5 gb MB ∧ MarkB w5 gc MC) := Lib.hid ⟨HMB.out.1.below b5, HMB.out.2.1.below b5, HMB.out.2.2.below b5⟩
            obtain ⟨-, -, q2⟩ := HQ.out w5 B5.out
            clear CV Q0 Q1 VA VB b5 HMB HBR HMK
            obtain ⟨wq, rfl⟩ : ∃ wq, wq = w5 := ⟨_, rfl⟩
            go_wp2_with fail
            go_loopw [9, 14] (fun a b wr => a = .bool an ∧ b = .int .i64 0 ∧ wr = wq) (fun _ _ _ => 0)
            case atStart => exact ⟨rfl, rfl, rfl⟩
            case round =>
              obtain ⟨rfl, rfl, rfl⟩ := hrel
              by_cases hc0 : 0 < C.length
              · have hd0 : decide ((0 : Int) < ((C.length : Nat) : Int)) = true := by simp; omega
                go_wp2_with fail
                go_roundw
                case rel => exact ⟨k + 1, MA, MB, MC, an, rfl, by go_num, by omega, HNX, HM5, B5⟩
                case measure => simp [intOf]; omega
              · have hd0 : decide ((0 : Int) < ((C.length : Nat) : Int)) = false := decide_eq_false (by omega)
                go_wp2_with fail
                go_roundw
                case rel => exact ⟨k + 1, MA, MB, MC, an, rfl, by go_num, by omega, HNX, HM5, B5⟩
                case measure => simp [intOf]; omega
          | some r =>
            rw [hf] at CV
            change Hid (∀ d os, Calls Tryz.prog 125 #[.int .i64 kind, .int .i64 av, .int .i64 bv] (grow (redrawn wr d) os) fun e w'' => e = .returned (.tuple #[.int .i64 r, .bool true]) ∧ ∃ p : Regrown, w'' = grow (redrawn wr p.d) p.os) at CV
            have HH2 : Hid (∀ j, hitN (kindV kind) A Bs C i k j ↔ r = C.getD j 0) := Lib.hid (fun j => by rw [HHIT.out, hf, Option.some.injEq])
            clear HHIT hf
            go_upto_region 11 with fail
            clear q0 q1 q2 va vb
            refine wp_region_quiet_below (by kernel_rfl) (by kernel_rfl) ?_
            repeat (first | go_big_quiet_step (first | (go_at_call 125; with_reducible exact CV.out _ _)) | quiet_step (fail))
            refine wpQuiet_nil ?_
            intro _ hw'
            obtain ⟨⟨dq, osq⟩, hw''⟩ := hw'
            subst hw''
            have b5 := below_regrown wr dq osq
            generalize grow (redrawn wr dq) osq = w5 at *
            have B5 := Lib.hid (HBR.out.trans (b5.mono HBR.out.size))
            have HM5 : Hid (MarkB w5 ga MA ∧ MarkB w5 gb MB ∧ MarkB w5 gc MC) := Lib.hid ⟨HMB.out.1.below b5, HMB.out.2.1.below b5, HMB.out.2.2.below b5⟩
            clear CV Q0 Q1 VA VB b5 HMB HBR
            obtain ⟨wq, rfl⟩ : ∃ wq, wq = w5 := ⟨_, rfl⟩
            go_wp2_with fail
            go_loopw [9, 14] (fun a b wr => ∃ (j : Nat) (MA MB MC : List Bool) (an : Bool), a = .bool an ∧ b = .int .i64 (j : Nat) ∧ j ≤ C.length ∧ Hid (Marks (hitN (kindV kind) A Bs C) A.length Bs.length C.length i k j MA MB MC an) ∧ Hid (MarkB wr ga MA ∧ MarkB wr gb MB ∧ MarkB wr gc MC) ∧ Hid (Below w.heap.size w wr)) (fun _ b _ => C.length - (intOf b).toNat)
            case atStart => exact ⟨0, MA, MB, MC, an, rfl, rfl, by omega, HMK, HM5, B5⟩
            case round =>
              clear HM5 B5 HMK
              obtain ⟨j, MA, MB, MC, an, rfl, rfl, hj, HMK, HMB, HBR⟩ := hrel
              obtain ⟨-, -, q2⟩ := HQ.out wr HBR.out
              by_cases hltj : j < C.length
              · obtain ⟨adC, eC, hbC, hcC⟩ := (HC.out.below HBR.out).lies (show 0 < C.length by omega)
                simp only at eC
                have vc : wr.cell? (adC.add j) = some (.int .i64 (C.getD j 0)) := hcC j hltj
                subst eC
                have HHJ : Hid (hitN (kindV kind) A Bs C i k j ↔ r = C.getD j 0) := Lib.hid (HH2.out j)
                obtain ⟨cv, hcv⟩ : ∃ v, v = C.getD j 0 := ⟨_, rfl⟩
                rw [← hcv] at vc HHJ
                clear hcC hbC hcv
                by_cases he : cv = r
                · have he' : (cv == r) = true := by simp [he]
                  have HNX := Lib.hid (HMK.out.yes (HHJ.out.2 he.symm) hlt hltk hltj)
                  have hlA : i < MA.length := by rw [HMK.out.la]; exact hlt
                  have hlB : k < MB.length := by rw [HMK.out.lb]; exact hltk
                  have hlC : j < MC.length := by rw [HMK.out.lc]; exact hltj
                  have LL := HL.out
                  have LG := HGA.out
                  have m1 := HMB.out.1
                  have a1 := m1.cell hlA
                  have f1 := m1.free i
                  obtain ⟨x1, hx1⟩ : ∃ x1, wr.setCell ⟨ga, i, none⟩ (.bool true) = x1 := ⟨_, rfl⟩
                  have M1 : Hid (MarkB x1 ga (MA.set i true) ∧ MarkB x1 gb MB ∧ MarkB x1 gc MC) := Lib.hid (hx1 ▸ ⟨m1.put i, HMB.out.2.1.far (by omega) i _, HMB.out.2.2.far (by omega) i _⟩)
                  have a2 := M1.out.2.1.cell hlB
                  have f2 := M1.out.2.1.free k
                  obtain ⟨x2, hx2⟩ : ∃ x2, x1.setCell ⟨gb, k, none⟩ (.bool true) = x2 := ⟨_, rfl⟩
                  have M2 : Hid (MarkB x2 ga (MA.set i true) ∧ MarkB x2 gb (MB.set k true) ∧ MarkB x2 gc MC) := Lib.hid (hx2 ▸ ⟨M1.out.1.far (by omega) k _, M1.out.2.1.put k, M1.out.2.2.far (by omega) k _⟩)
                  have a3 := M2.out.2.2.cell hlC
                  have f3 := M2.out.2.2.free j
                  obtain ⟨x3, hx3⟩ : ∃ x3, x2.setCell ⟨gc, j, none⟩ (.bool true) = x3 := ⟨_, rfl⟩
                  have M3 : Hid (MarkB x3 ga (MA.set i true) ∧ MarkB x3 gb (MB.set k true) ∧ MarkB x3 gc (MC.set j true)) := Lib.hid (hx3 ▸ ⟨M2.out.1.far (by omega) j _, M2.out.2.1.far (by omega) j _, M2.out.2.2.put j⟩)
                  have y1 := HBR.out.setCell (p := ⟨ga, i, none⟩) (show w.heap.size ≤ ga by omega) (.bool true)
                  rw [hx1] at y1
                  have y2 := y1.setCell (p := ⟨gb, k, none⟩) (show w.heap.size ≤ gb by omega) (.bool true)
                  rw [hx2] at y2
                  have y3 := y2.setCell (p := ⟨gc, j, none⟩) (show w.heap.size ≤ gc by omega) (.bool true)
                  rw [hx3] at y3
                  have B3 := Lib.hid y3
                  clear HHJ he m1 LL LG HMB HBR HMK M1 M2 y1 y2 y3
                  go_wp2_with fail
                  go_roundw
                  case rel => exact ⟨j + 1, _, _, _, true, rfl, by go_num, by omega, HNX, M3, B3⟩
                  case measure => simp [intOf]; omega
                · have he' : (cv == r) = false := by simp [he]
                  have HNX := Lib.hid (HMK.out.no (fun q => he (HHJ.out.1 q).symm))
                  clear HHJ he
                  go_wp2_with fail
                  go_roundw
                  case rel => exact ⟨j + 1, MA, MB, MC, an, rfl, by go_num, by omega, HNX, HMB, HBR⟩
                  case measure => simp [intOf]; omega
              · have HNX := Lib.hid ((show Marks (hitN (kindV kind) A Bs C) A.length Bs.length C.length i k C.length MA MB MC an by have := HMK.out; rwa [show j = C.length by omega] at this).next)
                clear HMK
                go_wp2_with fail
                go_roundw
                case rel => exact ⟨k + 1, MA, MB, MC, an, rfl, by go_num, by omega, HNX, HMB, HBR⟩
                case measure => simp [intOf]; omega
        · have HNX := Lib.hid ((show Marks (hitN (kindV kind) A Bs C) A.length Bs.length C.length i Bs.length 0 MA MB MC an by have := HMK.out; rwa [show k = Bs.length by omega] at this).down)
          clear HMK q0 q2
          go_wp2_with fail
          go_roundw
          case rel => exact ⟨i + 1, MA, MB, MC, an, rfl, by go_num, by omega, HNX, HMB, HBR⟩
          case measure => simp [intOf]; omega
    · have e3 : i = A.length := by omega
      subst e3
      clear hlt
      cases an with
      | false =>
        go_wp2_with fail
        go_ret2
        exact ⟨⟨false, MA, MB, MC, HMK.out, ⟨none, 0, 0⟩, rfl, IsRows.nil _⟩, HBR.out⟩
      | true =>
        have C1 := Lib.hid (those_any ⟨aA, A.length, aC⟩ A ga A.length MA wr (HA.out.below HBR.out) HMB.out.1 HMK.out.la hA)
        go_wp2_with fail
        refine C1.out.mono ?_
        rintro e w1 ⟨⟨y1, rfl, r1⟩, b1⟩
        have R1 := Lib.hid (ints_own r1 (by have := thoseE_len A MA A.length; omega))
        have B1 := Lib.hid (HBR.out.trans (b1.mono HBR.out.size))
        have HM1 : Hid (MarkB w1 gb MB ∧ MarkB w1 gc MC) := Lib.hid ⟨HMB.out.2.1.below b1, HMB.out.2.2.below b1⟩
        obtain ⟨-, q1, -⟩ := HQ.out w1 B1.out
        have C2 := Lib.hid (those_any ⟨bA, Bs.length, bC⟩ Bs gb Bs.length MB w1 (HB.out.below B1.out) HM1.out.1 HMK.out.lb hB)
        clear C1 r1 b1 HMB q0
        go_wp2_with fail
        refine C2.out.mono ?_
        rintro e w2 ⟨⟨y2, rfl, r2⟩, b2⟩
        have R2 := Lib.hid (ints_own r2 (by have := thoseE_len Bs MB Bs.length; omega))
        have R1' := Lib.hid (R1.out.below b2)
        have B2 := Lib.hid (B1.out.trans (b2.mono B1.out.size))
        have HM2 : Hid (MarkB w2 gc MC) := Lib.hid (HM1.out.2.below b2)
        obtain ⟨-, -, q2⟩ := HQ.out w2 B2.out
        have C3 := Lib.hid (those_any ⟨cA, C.length, cC⟩ C gc C.length MC w2 (HC.out.below B2.out) HM2.out HMK.out.lc hC)
        clear C2 r2 b2 HM1 q1 R1 B1
        go_wp2_with fail
        refine C3.out.mono ?_
        rintro e w3 ⟨⟨y3, rfl, r3⟩, b3⟩
        have R3 := Lib.hid (ints_own r3 (by have := thoseE_len C MC C.length; omega))
        have HF := Lib.hid (rows_build3 (R1'.out.below b3) (R2.out.below b3) R3.out)
        have B3 := Lib.hid (B2.out.trans (b3.mono B2.out.size))
        have BF := Lib.hid (B3.out.trans ((below1 w3 (.cells #[.slice y1.A y1.n y1.c, .slice y2.A y2.n y2.c, .slice y3.A y3.n y3.c] 30)).mono B3.out.size))
        clear C3 r3 b3 HM2 q2 R1' R2 R3 B2 B3
        go_wp2_with fail
        go_ret2
        exact ⟨⟨true, MA, MB, MC, HMK.out, ⟨some ⟨w3.heap.size, 0, none⟩, 3, 3⟩, rfl, HF.out⟩, BF.out⟩
end Go.Proofs.YtkhmocbfkpbpfaaGreatDoor

/- Contracts: the document's places and numbers: rows of their own, of so many numbers. -/
import Derived.Test.YtkhmocbfkpbpfaaGreatDoorMshapes
import Derived.Test.YtkhmocbfkpbpfaaGreatDoorDBecame
import Derived.Laws.AppendOwn
namespace Go.Proofs.YtkhmocbfkpbpfaaGreatDoor
open Go.RowKit Go.Sort

theorem slice_row {w : World} {base : Nat} {e : TypeId} {size n : Nat} {v : Value} {xs : List Value} (h : w.ownsRow base e size v n xs) : ∃ A c, v = .slice A n c := by
  rcases h.2 with ⟨rfl, rfl⟩ | ⟨g, cap, cur, rfl, _⟩
  · exact ⟨_, _, rfl⟩
  · exact ⟨_, _, rfl⟩
/-- A slice of numbers of some kind. -/
structure IsNs (k : IntKind) (w : World) (x : Sl) (L : List Int) : Prop where
  len : x.n = L.length
  lies : Lies w x.A x.n (fun j => .int k (L.getD j 0))
  big : x.n ≤ 9223372036854775807
  cap : x.n ≤ x.c
theorem IsNs.below {k : IntKind} {w w' : World} {v : Sl} {L : List Int} (h : IsNs k w v L) (hb : Below w.heap.size w w') : IsNs k w' v L := ⟨h.len, h.lies.below hb, h.big, h.cap⟩
/-- So many numbers, by a function. -/
def mkL (f : Nat → Int) (n : Nat) : List Int := (List.range n).map f
theorem mkL_len (f : Nat → Int) (n : Nat) : (mkL f n).length = n := by simp [mkL]
theorem mkL_succ (f : Nat → Int) (n : Nat) : mkL f (n + 1) = mkL f n ++ [f n] := by simp [mkL, List.range_succ]
theorem mkL_all {f : Nat → Int} {n : Nat} {p : Int → Prop} (h : ∀ i, i < n → p (f i)) : ∀ v ∈ mkL f n, p v := by
  intro v hv
  simp only [mkL, List.mem_map, List.mem_range] at hv
  obtain ⟨i, hi, rfl⟩ := hv
  exact h i hi
theorem mkL_getD (f : Nat → Int) {n i : Nat} (h : i < n) : (mkL f n).getD i 0 = f i := by
  rw [List.getD_eq_getElem?_getD, List.getElem?_eq_getElem (by rw [mkL_len]; exact h)]
  simp [mkL]

def plcE (l : List Int) (vars : Int) (i : Nat) : Int := (if i < l.length then l.getD i 0 else (i : Int)).tmod vars
def absIf (least v : Int) : Int := if v < 0 ∧ 0 ≤ least then -v else v
def numE (l : List Int) (fr : Nat) (least wide : Int) (i : Nat) : Int := absIf least ((if fr + i < l.length then l.getD (fr + i) 0 else 1).tmod wide)
theorem getD_in' {L : List Int} {lo hi : Int} (h : ∀ v ∈ L, lo ≤ v ∧ v ≤ hi) {i : Nat} (hi' : i < L.length) : lo ≤ L.getD i 0 ∧ L.getD i 0 ≤ hi := h _ (getD_mem L i hi')
theorem tmod_in (a b : Int) (hb : 1 ≤ b) : -b < a.tmod b ∧ a.tmod b < b := by
  have h := Int.natAbs_tmod a b
  have h2 : a.natAbs % b.natAbs < b.natAbs := Nat.mod_lt _ (by omega)
  generalize a.tmod b = r at *
  rw [← h] at h2
  omega
theorem plc_in {l : List Int} {vars : Int} (hv : 1 ≤ vars) (hl : ∀ v ∈ l, 0 ≤ v ∧ v ≤ 255) (i : Nat) : 0 ≤ plcE l vars i ∧ plcE l vars i < vars := by
  unfold plcE
  refine ⟨Int.tmod_nonneg _ ?_, (tmod_in _ _ hv).2⟩
  split
  · rename_i h; exact (getD_in' hl h).1
  · omega
theorem num_in (l : List Int) (fr : Nat) (least : Int) {wide : Int} (hw : 1 ≤ wide) (i : Nat) : -wide < numE l fr least wide i ∧ numE l fr least wide i < wide ∧ (0 ≤ least → 0 ≤ numE l fr least wide i) := by
  unfold numE absIf
  have := tmod_in (if fr + i < l.length then l.getD (fr + i) 0 else 1) wide hw
  generalize (if fr + i < l.length then l.getD (fr + i) 0 else 1).tmod wide = r at *
  split <;> omega

/-- A row of one's own, of numbers. -/
def Row3 (w : World) (b : Nat) (y : Sl) (L : List Int) : Prop := w.ownsRow b 3 1 (.slice y.A y.n y.c) L.length (I L)
theorem Row3.nil (w : World) (b : Nat) : Row3 w b ⟨none, 0, 0⟩ [] := World.ownsRow_nil _ _ _ _

set_option maxHeartbeats 1000000 in
set_option maxRecDepth 100000 in
theorem mkPlaces_any (x : Sl) (l : List Int) (n : Nat) (vars : Int) (w : World) (h : IsNs .u8 w x l) (hl : ∀ v ∈ l, 0 ≤ v ∧ v ≤ 255) (hv : 1 ≤ vars ∧ vars ≤ 1000000) (hn : n ≤ 1000) :
    Calls Tryz.prog 74 #[.slice x.A x.n x.c, .int .i64 (n : Nat), .int .i64 vars] w fun e w' => (∃ y : Sl, e = .returned (.slice y.A y.n y.c) ∧ Row3 w' w.heap.size y (mkL (plcE l vars) n)) ∧ Below w.heap.size w w' := by
  obtain ⟨A, m, c⟩ := x
  obtain ⟨hlen, hL, hbig, hcap⟩ := h
  simp only at hlen hL hbig ⊢
  have HL := Lib.hid hL
  have HV := Lib.hid (fun i => plc_in hv.1 hl i)
  have HB := Lib.hid hl
  have HN := Lib.hid hlen
  have hv0 : (vars == 0) = false := by simp; omega
  have hv1 : ¬ vars = 0 := by omega
  have HVV := Lib.hid hv
  obtain ⟨i0, hi, hz0, hz1, hz2⟩ := info_parts Tryz.info3
  clear hL hl hv hlen
  go_enter Tryz.func74, Tryz.ntmps74
  go_wp2_with fail
  go_loopw [7, 8] (fun s i wr => ∃ (k : Nat) (y : Sl), s = .slice y.A y.n y.c ∧ i = .int .i64 (k : Nat) ∧ k ≤ n ∧ Hid (wr.ownsRow w.heap.size 3 1 (.slice y.A y.n y.c) k (I (mkL (plcE l vars) k))) ∧ Hid (Below w.heap.size w wr)) (fun _ i _ => n - (intOf i).toNat)
  case atStart => exact ⟨0, ⟨none, 0, 0⟩, rfl, rfl, by omega, Lib.hid (World.ownsRow_nil _ _ _ _), Lib.hid (Below.refl _ _)⟩
  case round =>
    obtain ⟨k, y, rfl, rfl, hk, HO, HB0⟩ := hrel
    by_cases hlt : k < n
    · have HT : Hid (I (mkL (plcE l vars) (k + 1)) = I (mkL (plcE l vars) k) ++ [.int .i64 (plcE l vars k)]) := Lib.hid (by rw [mkL_succ, I_append]; rfl)
      have Z5 := Lib.hid HB0.out.size
      by_cases hkm : k < m
      · obtain ⟨ad, rfl, hbk, hcl⟩ := HL.out (by omega)
        have hck : wr.cell? (ad.add k) = some (.int .u8 (l.getD k 0)) := (HB0.out.cell (by rw [add_block]; exact hbk)).trans (hcl k hkm)
        have hb1 := getD_in' HB.out (i := k) (by rw [← HN.out]; exact hkm)
        have he : Hid (plcE l vars k = (l.getD k 0).tmod vars) := Lib.hid (by unfold plcE; rw [if_pos (by rw [← HN.out]; exact hkm)])
        have hp := HV.out k
        have hvv := HVV.out
        rw [he.out] at HT hp
        generalize l.getD k 0 = z at hck hb1 HT hp
        have w1 : IntKind.i64.wrap z = z := IntWalk.i64_in _ (by omega)
        have w2 : IntKind.i64.wrap (z.tmod vars) = z.tmod vars := IntWalk.i64_in _ (by omega)
        clear hcl hbk he hb1 hp hvv
        go_wp2_with (at_builtin; refine wpList_append_own _ rfl _ _ 30 rfl w.heap.size 3 i0 (.int .i64 0) 1 8 Tryz.underlying30 hi hz0 hz1 hz2 rfl (by decide) _ _ _ rfl (HO.out.alloc _) ⟨_, 0, none⟩ 1 1 [.int .i64 (z.tmod vars)] rfl rfl ?c1 ?c2 ?c3 ?c4 ?c5 ?_)
        case c1 => intro j u hj; match j, hj with | 0, hj => simp at hj; subst hj; simp [Addr.add]
        case c2 => intro u hu; simp at hu; subst hu; rfl
        case c3 => unfold maxLen; omega
        case c4 => omega
        case c5 => have := Z5.out; simp; omega
        intro v' w7 hown' hgrow _
        have HB7 := Lib.hid ((HB0.out.alloc HB0.out.size _).grown hgrow (by have := HB0.out.size; simp; omega) (own_ge HO.out))
        rw [← HT.out] at hown'
        obtain ⟨Y, kY, rfl⟩ := slice_row hown'
        have HO7 := Lib.hid hown'
        clear hown' hgrow HO HB0 hck
        go_wp2_with fail
        go_roundw
        case rel => exact ⟨k + 1, ⟨Y, _, kY⟩, rfl, by go_num, by omega, HO7, HB7⟩
        case measure => simp [intOf]; omega
      · have he : Hid (plcE l vars k = ((k : Nat) : Int) % vars) := Lib.hid (by unfold plcE; rw [if_neg (by rw [← HN.out]; exact hkm), Int.tmod_eq_emod_of_nonneg (by omega)])
        have hp := HV.out k
        have hvv := HVV.out
        rw [he.out] at HT hp
        have w2 : IntKind.i64.wrap (((k : Nat) : Int) % vars) = ((k : Nat) : Int) % vars := IntWalk.i64_in _ (by omega)
        clear he hp hvv
        go_wp2_with (at_builtin; refine wpList_append_own _ rfl _ _ 30 rfl w.heap.size 3 i0 (.int .i64 0) 1 8 Tryz.underlying30 hi hz0 hz1 hz2 rfl (by decide) _ _ _ rfl (HO.out.alloc _) ⟨_, 0, none⟩ 1 1 [.int .i64 (((k : Nat) : Int) % vars)] rfl rfl ?c1 ?c2 ?c3 ?c4 ?c5 ?_)
        case c1 => intro j u hj; match j, hj with | 0, hj => simp at hj; subst hj; simp [Addr.add]
        case c2 => intro u hu; simp at hu; subst hu; rfl
        case c3 => unfold maxLen; omega
        case c4 => omega
        case c5 => have := Z5.out; simp; omega
        intro v' w7 hown' hgrow _
        have HB7 := Lib.hid ((HB0.out.alloc HB0.out.size _).grown hgrow (by have := HB0.out.size; simp; omega) (own_ge HO.out))
        rw [← HT.out] at hown'
        obtain ⟨Y, kY, rfl⟩ := slice_row hown'
        have HO7 := Lib.hid hown'
        clear hown' hgrow HO HB0
        go_wp2_with fail
        go_roundw
        case rel => exact ⟨k + 1, ⟨Y, _, kY⟩, rfl, by go_num, by omega, HO7, HB7⟩
        case measure => simp [intOf]; omega
    · have HO2 : Hid (Row3 wr w.heap.size y (mkL (plcE l vars) n)) := Lib.hid (by have := HO.out; rw [show k = n by omega] at this; unfold Row3; rw [mkL_len]; exact this)
      clear HO
      go_wp2_with fail
      go_ret
      exact ⟨⟨y, rfl, HO2.out⟩, HB0.out⟩
set_option maxHeartbeats 1000000 in
set_option maxRecDepth 100000 in
theorem mkNumbers_any (x : Sl) (l : List Int) (fr n : Nat) (least wide : Int) (w : World) (h : IsNs .i8 w x l) (hl : ∀ v ∈ l, -128 ≤ v ∧ v ≤ 127) (hw : 1 ≤ wide ∧ wide ≤ 100) (hn : n ≤ 1000) (hf : fr ≤ 100000) :
    Calls Tryz.prog 75 #[.slice x.A x.n x.c, .int .i64 (fr : Nat), .int .i64 (n : Nat), .int .i64 least, .int .i64 wide] w fun e w' => (∃ y : Sl, e = .returned (.slice y.A y.n y.c) ∧ Row3 w' w.heap.size y (mkL (numE l fr least wide) n)) ∧ Below w.heap.size w w' := by
  obtain ⟨A, m, c⟩ := x
  obtain ⟨hlen, hL, hbig, hcap⟩ := h
  simp only at hlen hL hbig ⊢
  have HL := Lib.hid hL
  have HB := Lib.hid hl
  have HN := Lib.hid hlen
  have hv0 : (wide == 0) = false := by simp; omega
  have hv1 : ¬ wide = 0 := by omega
  have HVV := Lib.hid hw
  obtain ⟨i0, hi, hz0, hz1, hz2⟩ := info_parts Tryz.info3
  clear hL hl hw hlen
  go_enter Tryz.func75, Tryz.ntmps75
  go_wp2_with fail
  go_loopw [11, 12] (fun s i wr => ∃ (k : Nat) (y : Sl), s = .slice y.A y.n y.c ∧ i = .int .i64 (k : Nat) ∧ k ≤ n ∧ Hid (wr.ownsRow w.heap.size 3 1 (.slice y.A y.n y.c) k (I (mkL (numE l fr least wide) k))) ∧ Hid (Below w.heap.size w wr)) (fun _ i _ => n - (intOf i).toNat)
  case atStart => exact ⟨0, ⟨none, 0, 0⟩, rfl, rfl, by omega, Lib.hid (World.ownsRow_nil _ _ _ _), Lib.hid (Below.refl _ _)⟩
  case round =>
    obtain ⟨k, y, rfl, rfl, hk, HO, HB0⟩ := hrel
    by_cases hlt : k < n
    · have HT : Hid (I (mkL (numE l fr least wide) (k + 1)) = I (mkL (numE l fr least wide) k) ++ [.int .i64 (numE l fr least wide k)]) := Lib.hid (by rw [mkL_succ, I_append]; rfl)
      have Z5 := Lib.hid HB0.out.size
      have hcomp : Hid (fr + k = fr + k) := Lib.hid rfl
      obtain ⟨q, hq⟩ : ∃ q, q = fr + k := ⟨_, rfl⟩
      have HQ := Lib.hid hq
      have ws : IntKind.i64.wrap ((fr : Int) + (k : Int)) = ((q : Nat) : Int) := by rw [hq, ← Int.natCast_add]; exact IntWalk.i64_in _ (by omega)
      have hq6 : q ≤ 1000000 := by omega
      clear hq hcomp
      go_upto_if 24 with fail
      go_cut [13] (fun a wx => a = .int .i64 (if q < l.length then l.getD q 0 else 1) ∧ wr = wx)
      case first =>
        by_cases hkm : q < m
        · obtain ⟨ad, rfl, hbk, hcl⟩ := HL.out (by omega)
          have hck : wr.cell? (ad.add q) = some (.int .i8 (l.getD q 0)) := (HB0.out.cell (by rw [add_block]; exact hbk)).trans (hcl q hkm)
          have hb1 := getD_in' HB.out (i := q) (by rw [← HN.out]; exact hkm)
          obtain ⟨z, hz⟩ : ∃ z, z = l.getD q 0 := ⟨_, rfl⟩
          have E : Hid ((if q < l.length then l.getD q 0 else 1) = z) := Lib.hid (by rw [hz]; exact if_pos (by rw [← HN.out]; exact hkm))
          rw [← hz] at hck hb1
          clear hz
          have w1 : IntKind.i64.wrap z = z := IntWalk.i64_in _ (by omega)
          clear hcl hbk hb1
          go_wp2_with fail
          go_meet
          case rel => exact ⟨by rw [E.out], by first | rfl | trivial⟩
        · have E : Hid ((if q < l.length then l.getD q 0 else 1) = 1) := Lib.hid (if_neg (by rw [← HN.out]; exact hkm))
          go_wp2_with fail
          go_meet
          case rel => exact ⟨by rw [E.out], by first | rfl | trivial⟩
      case rest =>
        obtain ⟨rfl, rfl⟩ := hcut
        have he : Hid (numE l fr least wide k = absIf least ((if q < l.length then l.getD q 0 else 1).tmod wide)) := Lib.hid (by rw [HQ.out]; rfl)
        have hp := tmod_in (if q < l.length then l.getD q 0 else 1) wide HVV.out.1
        have hvv := HVV.out
        rw [he.out] at HT
        generalize (if q < l.length then l.getD q 0 else 1) = z at *
        have w2 : IntKind.i64.wrap (z.tmod wide) = z.tmod wide := IntWalk.i64_in _ (by omega)
        have w3 : IntKind.i64.wrap (-(z.tmod wide)) = -(z.tmod wide) := IntWalk.i64_in _ (by omega)
        clear hp hvv he
        by_cases h1 : z.tmod wide < 0
        · have e1 : decide (z.tmod wide < 0) = true := by simpa using h1
          by_cases h2 : 0 ≤ least
          · have e2 : decide (0 ≤ least) = true := by simpa using h2
            have HT2 : Hid (absIf least (z.tmod wide) = -(z.tmod wide)) := Lib.hid (by unfold absIf; rw [if_pos ⟨h1, h2⟩])
            rw [HT2.out] at HT
            clear HT2 h1 h2
            go_wp2_with (at_builtin; refine wpList_append_own _ rfl _ _ 30 rfl w.heap.size 3 i0 (.int .i64 0) 1 8 Tryz.underlying30 hi hz0 hz1 hz2 rfl (by decide) _ _ _ rfl (HO.out.alloc _) ⟨_, 0, none⟩ 1 1 [.int .i64 (-(z.tmod wide))] rfl rfl ?c1 ?c2 ?c3 ?c4 ?c5 ?_)
            case c1 => intro j u hj; match j, hj with | 0, hj => simp at hj; subst hj; simp [Addr.add]
            case c2 => intro u hu; simp at hu; subst hu; rfl
            case c3 => unfold maxLen; omega
            case c4 => omega
            case c5 => have := Z5.out; simp; omega
            intro v' w7 hown' hgrow _
            have HB7 := Lib.hid ((HB0.out.alloc HB0.out.size _).grown hgrow (by have := HB0.out.size; simp; omega) (own_ge HO.out))
            rw [← HT.out] at hown'
            obtain ⟨Y, kY, rfl⟩ := slice_row hown'
            have HO7 := Lib.hid hown'
            clear hown' hgrow HO HB0
            go_wp2_with fail
            go_roundw
            case rel => exact ⟨k + 1, ⟨Y, _, kY⟩, rfl, by go_num, by omega, HO7, HB7⟩
            case measure => simp [intOf]; omega
          · have e2 : decide (0 ≤ least) = false := by simpa using h2
            have HT2 : Hid (absIf least (z.tmod wide) = z.tmod wide) := Lib.hid (by unfold absIf; rw [if_neg (fun q => h2 q.2)])
            rw [HT2.out] at HT
            clear HT2 h1 h2
            go_wp2_with (at_builtin; refine wpList_append_own _ rfl _ _ 30 rfl w.heap.size 3 i0 (.int .i64 0) 1 8 Tryz.underlying30 hi hz0 hz1 hz2 rfl (by decide) _ _ _ rfl (HO.out.alloc _) ⟨_, 0, none⟩ 1 1 [.int .i64 (z.tmod wide)] rfl rfl ?c1 ?c2 ?c3 ?c4 ?c5 ?_)
            case c1 => intro j u hj; match j, hj with | 0, hj => simp at hj; subst hj; simp [Addr.add]
            case c2 => intro u hu; simp at hu; subst hu; rfl
            case c3 => unfold maxLen; omega
            case c4 => omega
            case c5 => have := Z5.out; simp; omega
            intro v' w7 hown' hgrow _
            have HB7 := Lib.hid ((HB0.out.alloc HB0.out.size _).grown hgrow (by have := HB0.out.size; simp; omega) (own_ge HO.out))
            rw [← HT.out] at hown'
            obtain ⟨Y, kY, rfl⟩ := slice_row hown'
            have HO7 := Lib.hid hown'
            clear hown' hgrow HO HB0
            go_wp2_with fail
            go_roundw
            case rel => exact ⟨k + 1, ⟨Y, _, kY⟩, rfl, by go_num, by omega, HO7, HB7⟩
            case measure => simp [intOf]; omega
        · have e1 : decide (z.tmod wide < 0) = false := by simpa using h1
          by_cases h2 : 0 ≤ least
          · skip
            have HT2 : Hid (absIf least (z.tmod wide) = z.tmod wide) := Lib.hid (by unfold absIf; rw [if_neg (fun q => h1 q.1)])
            rw [HT2.out] at HT
            clear HT2 h1 h2
            go_wp2_with (at_builtin; refine wpList_append_own _ rfl _ _ 30 rfl w.heap.size 3 i0 (.int .i64 0) 1 8 Tryz.underlying30 hi hz0 hz1 hz2 rfl (by decide) _ _ _ rfl (HO.out.alloc _) ⟨_, 0, none⟩ 1 1 [.int .i64 (z.tmod wide)] rfl rfl ?c1 ?c2 ?c3 ?c4 ?c5 ?_)
            case c1 => intro j u hj; match j, hj with | 0, hj => simp at hj; subst hj; simp [Addr.add]
            case c2 => intro u hu; simp at hu; subst hu; rfl
            case c3 => unfold maxLen; omega
            case c4 => omega
            case c5 => have := Z5.out; simp; omega
            intro v' w7 hown' hgrow _
            have HB7 := Lib.hid ((HB0.out.alloc HB0.out.size _).grown hgrow (by have := HB0.out.size; simp; omega) (own_ge HO.out))
            rw [← HT.out] at hown'
            obtain ⟨Y, kY, rfl⟩ := slice_row hown'
            have HO7 := Lib.hid hown'
            clear hown' hgrow HO HB0
            go_wp2_with fail
            go_roundw
            case rel => exact ⟨k + 1, ⟨Y, _, kY⟩, rfl, by go_num, by omega, HO7, HB7⟩
            case measure => simp [intOf]; omega
          · skip
            have HT2 : Hid (absIf least (z.tmod wide) = z.tmod wide) := Lib.hid (by unfold absIf; rw [if_neg (fun q => h1 q.1)])
            rw [HT2.out] at HT
            clear HT2 h1 h2
            go_wp2_with (at_builtin; refine wpList_append_own _ rfl _ _ 30 rfl w.heap.size 3 i0 (.int .i64 0) 1 8 Tryz.underlying30 hi hz0 hz1 hz2 rfl (by decide) _ _ _ rfl (HO.out.alloc _) ⟨_, 0, none⟩ 1 1 [.int .i64 (z.tmod wide)] rfl rfl ?c1 ?c2 ?c3 ?c4 ?c5 ?_)
            case c1 => intro j u hj; match j, hj with | 0, hj => simp at hj; subst hj; simp [Addr.add]
            case c2 => intro u hu; simp at hu; subst hu; rfl
            case c3 => unfold maxLen; omega
            case c4 => omega
            case c5 => have := Z5.out; simp; omega
            intro v' w7 hown' hgrow _
            have HB7 := Lib.hid ((HB0.out.alloc HB0.out.size _).grown hgrow (by have := HB0.out.size; simp; omega) (own_ge HO.out))
            rw [← HT.out] at hown'
            obtain ⟨Y, kY, rfl⟩ := slice_row hown'
            have HO7 := Lib.hid hown'
            clear hown' hgrow HO HB0
            go_wp2_with fail
            go_roundw
            case rel => exact ⟨k + 1, ⟨Y, _, kY⟩, rfl, by go_num, by omega, HO7, HB7⟩
            case measure => simp [intOf]; omega
    · have HO2 : Hid (Row3 wr w.heap.size y (mkL (numE l fr least wide) n)) := Lib.hid (by have := HO.out; rw [show k = n by omega] at this; unfold Row3; rw [mkL_len]; exact this)
      clear HO
      go_wp2_with fail
      go_ret
      exact ⟨⟨y, rfl, HO2.out⟩, HB0.out⟩
end Go.Proofs.YtkhmocbfkpbpfaaGreatDoor

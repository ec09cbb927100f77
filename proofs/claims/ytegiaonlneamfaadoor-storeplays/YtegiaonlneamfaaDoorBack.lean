/- Contract of a store's Back. -/
import Derived.Test.YtegiaonlneamfaaDoorTake
namespace Go.Proofs.YtegiaonlneamfaaDoor
open Go.RowKit

/-- Since which level a variable is what it is. -/
def sinceAt (vs : List Vr) (p : Nat) : Nat := ((vs[p]?).map Vr.since).getD 0

/-- What was, newest first, put back, as long as the newest became at a level above l. -/
def undo (l : Nat) : List Vr → List Er → List Vr × List Er
  | vs, [] => (vs, [])
  | vs, a :: r => if l < sinceAt vs a.place then undo l (vs.set a.place a.was) r else (vs, a :: r)

def lenV : Option Value → Nat | some (.slice _ n _) => n | _ => 0

section
variable {base S : Nat} {w : World} {st : Sto}

theorem back_bad (h : IsStore base w S st) (l : Int) (hl : l < 0 ∨ (st.lev : Int) < l) : Calls Tryd.prog 11 #[ptr S, .int .i64 l] w fun e w' => e = .returned (.int .i64 2) ∧ w = w' := by
  obtain ⟨-, -, c2, -⟩ := h.cells
  clear h
  by_cases h0 : l < 0
  · have h1 : decide (l < 0) = true := by simpa using h0
    clear hl h0
    go_enter Tryd.func11, Tryd.ntmps11
    go_wp2
    go_ret
    exact ⟨rfl, rfl⟩
  · have h1 : decide (l < 0) = false := by simpa using h0
    have h2 : decide ((st.lev : Int) < l) = true := by simp; omega
    clear hl h0
    go_enter Tryd.func11, Tryd.ntmps11
    go_wp2
    go_ret
    exact ⟨rfl, rfl⟩

theorem IsStore.lenB (h : IsStore base w S st) : lenV (w.cell? ⟨S, 1, none⟩) = st.bs.length := by
  obtain ⟨-, c1, -, -⟩ := h.cells
  obtain ⟨X, k, hX⟩ := h.before.shape
  rw [c1, hX]
  rfl

set_option maxHeartbeats 2000000 in
set_option maxRecDepth 100000 in
theorem back_store (h : IsStore base w S st) (l : Nat) (hl : l ≤ st.lev) (hn : st.bs.length ≤ 1000000) : Calls Tryd.prog 11 #[ptr S, .int .i64 (l : Nat)] w fun e w' => e = .returned (.int .i64 0) ∧
    ∃ st', IsStore base w' S st' ∧ ((st'.vs, st'.bs.reverse) = undo l st.vs st.bs.reverse ∧ st'.lev = l ∧ st'.es = []) ∧ Fr base w w' ∧ K77 w w' := by
  obtain ⟨-, -, c2, -⟩ := h.cells
  have h2 : decide (st.lev < l) = false := by simp; omega
  have HS := Lib.hid h
  clear h hl
  go_enter Tryd.func11, Tryd.ntmps11
  go_wp2_with fail
  go_loopw [] (fun wr => Hid (∃ st1 : Sto, IsStore base wr S st1 ∧ undo l st1.vs st1.bs.reverse = undo l st.vs st.bs.reverse ∧ st1.bs.length ≤ 1000000 ∧ Fr base w wr ∧ K77 w wr)) (fun wr => lenV (wr.cell? ⟨S, 1, none⟩))
  case atStart => exact Lib.hid ⟨st, HS.out, rfl, hn, Fr.refl _ _, K77.refl _⟩
  case round =>
    clear HS hn c2 h2
    obtain ⟨wo, rfl⟩ : ∃ wo, wo = wr := ⟨_, rfl⟩
    have HR := hrel
    clear hrel
    obtain ⟨st1, hS, hu, hn, hF, hE⟩ := HR.out
    rcases List.eq_nil_or_concat st1.bs with hb | ⟨bs0, a, hb⟩
    · have HS := Lib.hid hS
      have HF := Lib.hid hF
      have HE := Lib.hid hE
      have HU : Hid (undo l st.vs st.bs.reverse = (st1.vs, [])) := Lib.hid (by rw [← hu, hb]; rfl)
      have Hb := Lib.hid hb
      clear HR hS hu hF hb hE
      go_wp2_with fail
      refine (changed_none HS.out Hb.out _).mono ?_
      rintro e w2 ⟨rfl, rfl⟩
      obtain ⟨-, -, c2, -⟩ := HS.out.cells
      have f2 := HS.out.head.free 2
      have H2 := Lib.hid (HS.out.level l)
      have H3 := Lib.hid H2.out.1.quiet
      obtain ⟨-, -, -, c3⟩ := H2.out.1.cells
      have f3 := H2.out.1.head.free 3
      go_wp2_with fail
      go_ret
      exact ⟨rfl, _, H3.out.1, ⟨by rw [HU.out]; show (st1.vs, st1.bs.reverse) = _; rw [Hb.out]; rfl, rfl, rfl⟩, (HF.out.trans H2.out.2).trans H3.out.2, (HE.out.trans (K77.set HS.out.head (by decide) _ _)).trans (K77.set H2.out.1.head (by decide) _ _)⟩
    · have hb : st1.bs = bs0 ++ [a] := by rw [hb]; simp
      have hpl : a.place < st1.vs.length := hS.places a (by rw [hb]; simp)
      obtain ⟨u, hv⟩ : ∃ u, st1.vs[a.place]? = some u := ⟨_, List.getElem?_eq_getElem hpl⟩
      have hsa : sinceAt st1.vs a.place = u.since := by unfold sinceAt; rw [hv]; rfl
      by_cases hlt : l < u.since
      · have hd : decide ((l : Int) < (u.since : Nat)) = true := by simp; omega
        have HC := Lib.hid (changed_some hS bs0 a hb hn u hv l true hd)
        have HT := Lib.hid fun (W : World) (hW : Below wo.heap.size wo W) => take_store (hS.below hW) bs0 a hb hn
        have HL : Hid (lenV (wo.cell? ⟨S, 1, none⟩) = bs0.length + 1) := Lib.hid (by rw [hS.lenB, hb]; simp)
        have HU : Hid (undo l (st1.vs.set a.place a.was) bs0.reverse = undo l st.vs st.bs.reverse) := Lib.hid (by
          rw [← hu, hb, List.reverse_append]
          show _ = undo l st1.vs (a :: bs0.reverse)
          rw [undo, if_pos (by rw [hsa]; exact hlt)])
        have Hn : Hid (bs0.length ≤ 1000000) := Lib.hid (by rw [hb] at hn; simp at hn; omega)
        have HF := Lib.hid hF
        have HE := Lib.hid hE
        have HB : Hid (base ≤ wo.heap.size) := Lib.hid (Nat.le_of_lt hS.lt)
        clear HR hS hu hF hE hb hn hv hsa hlt hd hpl
        go_wp2_with fail
        refine HC.out.mono ?_
        rintro e w2 ⟨rfl, hb2⟩
        go_wp2_with fail
        refine (HT.out w2 hb2).mono ?_
        rintro e w3 ⟨rfl, st', hS', ⟨e1, e2, e3, e4⟩, hF', hE'⟩
        have HN : Hid (∃ st1 : Sto, IsStore base w3 S st1 ∧ undo l st1.vs st1.bs.reverse = undo l st.vs st.bs.reverse ∧ st1.bs.length ≤ 1000000 ∧ Fr base w w3 ∧ K77 w w3) :=
          Lib.hid ⟨st', hS', by rw [e1, e2]; exact HU.out, by rw [e2]; exact Hn.out, (HF.out.trans (Fr.of_below hb2 HB.out)).trans hF', (HE.out.trans (K77.of_below hb2)).trans hE'⟩
        have HL' : Hid (lenV (w3.cell? ⟨S, 1, none⟩) = bs0.length) := Lib.hid (by rw [hS'.lenB, e2])
        clear hS' e1 e2 e3 e4 hF' hE' hb2 HC HT HU Hn HF HB HE
        go_wp2_with fail
        go_roundw
        case rel => exact HN
        case measure => rw [HL'.out, HL.out]; omega
      · have hd : decide ((l : Int) < (u.since : Nat)) = false := by simp; omega
        have HC := Lib.hid (changed_some hS bs0 a hb hn u hv l false hd)
        have HU : Hid (undo l st.vs st.bs.reverse = (st1.vs, st1.bs.reverse)) := Lib.hid (by
          rw [← hu, hb, List.reverse_append]
          show undo l st1.vs (a :: bs0.reverse) = _
          rw [undo, if_neg (by rw [hsa]; exact hlt)]
          rfl)
        have HF := Lib.hid hF
        have HE := Lib.hid hE
        have HS := Lib.hid hS
        clear HR hS hu hF hE hb hn hv hsa hlt hd hpl
        go_wp2_with fail
        refine HC.out.mono ?_
        rintro e w2 ⟨rfl, hb2⟩
        have HS2 := Lib.hid (HS.out.below hb2)
        have HE2 := Lib.hid (HE.out.trans (K77.of_below hb2))
        have HF2 := Lib.hid (HF.out.trans (Fr.of_below hb2 (Nat.le_of_lt HS.out.lt)))
        clear hb2 HS HF HC HE
        obtain ⟨-, -, c2, -⟩ := HS2.out.cells
        have f2 := HS2.out.head.free 2
        have H2 := Lib.hid (HS2.out.level l)
        have H3 := Lib.hid H2.out.1.quiet
        obtain ⟨-, -, -, c3⟩ := H2.out.1.cells
        have f3 := H2.out.1.head.free 3
        go_wp2_with fail
        go_ret
        exact ⟨rfl, _, H3.out.1, ⟨by rw [HU.out], rfl, rfl⟩, (HF2.out.trans H2.out.2).trans H3.out.2, (HE2.out.trans (K77.set HS2.out.head (by decide) _ _)).trans (K77.set H2.out.1.head (by decide) _ _)⟩
end
end Go.Proofs.YtegiaonlneamfaaDoor

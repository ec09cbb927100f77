/- Contracts of a store's changedAbove and takeBack. -/
import Derived.Test.YtegiaonlneamfaaDoorPop
import Derived.StillTailTactics
namespace Go.Proofs.YtegiaonlneamfaaDoor
open Go.RowKit

section
variable {base S : Nat} {w : World} {st : Sto}

theorem changed_none (h : IsStore base w S st) (hbs : st.bs = []) (l : Int) : Calls Tryd.prog 31 #[ptr S, .int .i64 l] w fun e w' => e = .returned (.bool false) ∧ w = w' := by
  obtain ⟨-, c1, -, -⟩ := h.cells
  obtain ⟨X, k, hX⟩ := h.before.shape
  rw [hX, hbs] at c1
  simp only [List.length_nil] at c1
  clear h hX hbs
  go_enter Tryd.func31, Tryd.ntmps31
  go_wp2
  go_ret
  exact ⟨rfl, rfl⟩

set_option maxHeartbeats 1000000 in
theorem changed_some (h : IsStore base w S st) (bs0 : List Er) (a : Er) (hbs : st.bs = bs0 ++ [a]) (hn : st.bs.length ≤ 1000000) (u : Vr) (hu : st.vs[a.place]? = some u) (l : Int) (b : Bool) (hb : decide (l < (u.since : Nat)) = b) :
    Calls Tryd.prog 31 #[ptr S, .int .i64 l] w fun e w' => e = .returned (.bool b) ∧ Below w.heap.size w w' := by
  obtain ⟨c0, c1, -, -⟩ := h.cells
  obtain ⟨g, cap, cur, e1, hB, hc, -, ht, -⟩ := h.pop bs0 a hbs
  have hl : st.bs.length = bs0.length + 1 := by rw [hbs]; simp
  have hlast : st.bs[bs0.length]? = some a := by rw [hbs]; simp
  have K := below1 w (.cells #[.int .i64 0, .int .i64 0, .slice none 0 0, .int .i64 0, .int .i64 0] 90)
  obtain ⟨d0, d1, d2, d3, d4⟩ := er_cell hB ht hlast hc
  obtain ⟨y0, y1, y2, y3, y4⟩ := er_cell (hB.below K) ht hlast hc
  obtain ⟨-, y5, -, -⟩ := (h.below K).cells
  rw [e1] at c1 y5
  have hpl : a.place < st.vs.length := (List.getElem?_eq_some_iff.1 hu).1
  have hpl' : (a.place : Int) < (st.vs.length : Nat) := by omega
  obtain ⟨m, hm⟩ : ∃ m, m = bs0.length := ⟨_, rfl⟩
  obtain ⟨n, hnn⟩ : ∃ n, n = st.bs.length := ⟨_, rfl⟩
  rw [← hm] at d0 d1 d2 d3 d4 y0 y1 y2 y3 y4 hl
  rw [← hnn] at c1 y5 hl hn
  have w1 : IntKind.i64.wrap ((n : Int) - 1) = (m : Int) := by rw [IntWalk.i64_in _ (by omega)]; omega
  have hne : ((n : Int) == 0) = false := by simp; omega
  have HS := Lib.hid h
  have Hu := Lib.hid hu
  have Hb := Lib.hid hb
  have hmi : (m : Int) < (n : Int) := by omega
  clear K hlast h e1 hB ht hbs hc hm hu hb hpl hl hn hnn
  go_enter Tryd.func31, Tryd.ntmps31
  go_wp2_with fail
  go_region
  have K3 : Below w.heap.size w (w.alloc (.cells #[.int .i64 (a.place : Nat), .int .i64 a.was.s, .slice a.was.A a.was.n a.was.c, .int .i64 (a.was.L.length : Nat), .int .i64 (a.was.since : Nat)] 90)).drew := (below1 _ _).drew
  have HS3 := Lib.hid (HS.out.below K3)
  have B3 : Blk (w.alloc (.cells #[.int .i64 (a.place : Nat), .int .i64 a.was.s, .slice a.was.A a.was.n a.was.c, .int .i64 (a.was.L.length : Nat), .int .i64 (a.was.since : Nat)] 90)).drew w.heap.size _ 90 := Blk.new w _ 90
  have HK3 := Lib.hid K3
  clear c0 c1 d0 d1 d2 d3 d4 y0 y1 y2 y3 y4 y5 K3 HS w1 hne hmi
  go_wp2_with fail
  generalize (w.alloc (.cells #[.int .i64 (a.place : Nat), .int .i64 a.was.s, .slice a.was.A a.was.n a.was.c, .int .i64 (a.was.L.length : Nat), .int .i64 (a.was.since : Nat)] 90)).drew = W3 at *
  obtain ⟨c0, -, -, -⟩ := HS3.out.cells
  obtain ⟨v0, v1, v2, v3⟩ := vr_cell HS3.out.vars Hu.out
  have n0 : W3.cell? ⟨w.heap.size, 0, none⟩ = some (.int .i64 (a.place : Nat)) := B3.cell 0
  clear B3
  go_quiet (fail)
  go_wp2_with fail
  go_ret
  exact ⟨by rw [← Hb.out]; rfl, below_drewN HK3.out _⟩

set_option maxHeartbeats 2000000 in
set_option maxRecDepth 100000 in
theorem take_store (h : IsStore base w S st) (bs0 : List Er) (a : Er) (hbs : st.bs = bs0 ++ [a]) (hn : st.bs.length ≤ 1000000) :
    Calls Tryd.prog 32 #[ptr S] w fun e w' => e = .returned (.tuple #[]) ∧ ∃ st', IsStore base w' S st' ∧ (st'.vs = st.vs.set a.place a.was ∧ st'.bs = bs0 ∧ st'.lev = st.lev ∧ st'.es = st.es) ∧ Fr base w w' ∧ K77 w w' := by
  obtain ⟨c0, c1, -, -⟩ := h.cells
  obtain ⟨g, cap, cur, e1, hB, hc, -, ht, -⟩ := h.pop bs0 a hbs
  have hl : st.bs.length = bs0.length + 1 := by rw [hbs]; simp
  have hlast : st.bs[bs0.length]? = some a := by rw [hbs]; simp
  obtain ⟨d0, d1, d2, d3, d4⟩ := er_cell hB ht hlast hc
  rw [e1] at c1
  have hpl : a.place < st.vs.length := h.places a (List.mem_of_getElem? hlast)
  have hpl' : (a.place : Int) < (st.vs.length : Nat) := by omega
  have hdw := h.was a (List.mem_of_getElem? hlast)
  obtain ⟨m, hm⟩ : ∃ m, m = bs0.length := ⟨_, rfl⟩
  obtain ⟨n, hnn⟩ : ∃ n, n = st.bs.length := ⟨_, rfl⟩
  rw [← hm] at d0 d1 d2 d3 d4 hl
  rw [← hnn] at c1 hl hn
  have w1 : IntKind.i64.wrap ((n : Int) - 1) = (m : Int) := by rw [IntWalk.i64_in _ (by omega)]; omega
  have hmi : (m : Int) < (n : Int) := by omega
  have HS := Lib.hid h
  have Hbs := Lib.hid hbs
  have Hm := Lib.hid hm
  have Hn := Lib.hid hnn
  have Hd := Lib.hid hdw
  clear h hB ht hbs hc hm hlast hdw e1 hnn hn hl
  go_enter Tryd.func32, Tryd.ntmps32
  go_wp2_with fail
  have K2 := below1 w (.cells #[.int .i64 (a.place : Nat), .int .i64 a.was.s, .slice a.was.A a.was.n a.was.c, .int .i64 (a.was.L.length : Nat), .int .i64 (a.was.since : Nat)] 90)
  have HS2 := Lib.hid (HS.out.below K2)
  have HF2 := Lib.hid (Fr.of_below K2 (Nat.le_of_lt HS.out.lt))
  have HD2 := Lib.hid (Hd.out.below K2)
  have HE2 := Lib.hid (K77.of_below K2)
  have B2 := Blk.new w #[.int .i64 (a.place : Nat), .int .i64 a.was.s, .slice a.was.A a.was.n a.was.c, .int .i64 (a.was.L.length : Nat), .int .i64 (a.was.since : Nat)] 90
  clear c0 c1 d0 d1 d2 d3 d4 K2 HS Hd
  generalize w.alloc (.cells #[.int .i64 (a.place : Nat), .int .i64 a.was.s, .slice a.was.A a.was.n a.was.c, .int .i64 (a.was.L.length : Nat), .int .i64 (a.was.since : Nat)] 90) = W2 at *
  obtain ⟨c0, -, -, -⟩ := HS2.out.cells
  have n0 : W2.cell? ⟨w.heap.size, 0, none⟩ = some (.int .i64 (a.place : Nat)) := B2.cell 0
  have n1 : W2.cell? ⟨w.heap.size, 1, none⟩ = some (.int .i64 a.was.s) := B2.cell 1
  have n2 : W2.cell? ⟨w.heap.size, 2, none⟩ = some (.slice a.was.A a.was.n a.was.c) := B2.cell 2
  have n3 : W2.cell? ⟨w.heap.size, 3, none⟩ = some (.int .i64 (a.was.L.length : Nat)) := B2.cell 3
  have n4 : W2.cell? ⟨w.heap.size, 4, none⟩ = some (.int .i64 (a.was.since : Nat)) := B2.cell 4
  clear B2
  go_still_tail 9, (by kernel_rfl)
  change wpList _ _ _ _ _ W2.drew
  have HS3 := Lib.hid (HS2.out.below ((Below.refl _ W2).drew))
  have HF3 : Hid (Fr base w W2.drew) := Lib.hid (HF2.out.drewN 1)
  have HD3 := Lib.hid (HD2.out.below ((Below.refl _ W2).drew))
  have HE3 := Lib.hid (HE2.out.trans (K77.of_below ((Below.refl _ W2).drew)))
  clear c0 n0 n1 n2 n3 n4 HS2 HF2 HD2 HE2
  generalize W2.drew = W3 at *
  obtain ⟨v0, v1, v2, v3⟩ := vr_cell HS3.out.vars (List.getElem?_eq_getElem hpl)
  have f0 := HS3.out.vars.free (a.place * 4)
  have f1 := HS3.out.vars.free (a.place * 4 + 1)
  have f2 := HS3.out.vars.free (a.place * 4 + 2)
  have f3 := HS3.out.vars.free (a.place * 4 + 3)
  have HE4 := Lib.hid (HE3.out.trans (HS3.out.k77_var a.place a.was))
  have HS4 := Lib.hid (HS3.out.put_var a.place a.was hpl HD3.out)
  have HF4 := Lib.hid (HF3.out.trans HS4.out.2)
  have HS4 := Lib.hid HS4.out.1
  clear HS3 HF3 HD3 HE3
  go_upto_region 3 with fail
  change Code.wp _ _ _ _ (store4 W3 st.V a.place a.was)
  clear v0 v1 v2 v3 f0 f1 f2 f3
  generalize store4 W3 st.V a.place a.was = W4 at *
  obtain ⟨g4, cap4, cur4, e4, hB4, hc4, -, ht4, hS5, hF5, hB5, hE5⟩ := HS4.out.pop bs0 a Hbs.out
  have e4' : st.bv = .slice (some ⟨g4, 0, none⟩) n cap4 := by rw [Hn.out]; exact e4
  obtain ⟨-, c1, -, -⟩ := HS4.out.cells
  simp only [e4'] at c1 hB5
  rw [← Hm.out] at hS5 hF5 hB5 hE5
  have hlast4 : st.bs[m]? = some a := by rw [Hbs.out, Hm.out]; simp
  obtain ⟨d0, d1, d2, d3, d4⟩ := er_cell hB4 ht4 hlast4 hc4
  have f0 := hB4.free (m * 5)
  have f1 := hB4.free (m * 5 + 1)
  have f2 := hB4.free (m * 5 + 2)
  have f3 := hB4.free (m * 5 + 3)
  have f4 := hB4.free (m * 5 + 4)
  have HS5 := Lib.hid hS5
  have HF5 := Lib.hid hF5
  have HB5 := Lib.hid hB5
  have HE5 := Lib.hid hE5
  have hnc : n ≤ cap4 := by rw [Hn.out]; exact hc4
  clear hS5 hF5 hB5 hE5 e4 e4' hB4 ht4 hc4 hlast4 HS4
  go_upto_region 4 with fail
  change Code.wp _ _ _ _ (store5 W4 g4 m)
  clear d0 d1 d2 d3 d4 f0 f1 f2 f3 f4 c1
  generalize store5 W4 g4 m = W5 at *
  have c1 : W5.cell? ⟨S, 1, none⟩ = some (.slice (some ⟨g4, 0, none⟩) n cap4) := HB5.out.cell 1
  have f1 := HB5.out.free 1
  clear HB5
  have hmc : (m : Int) ≤ (cap4 : Nat) := by omega
  go_wp2_with fail
  go_end0
  exact ⟨rfl, _, HS5.out, ⟨rfl, rfl, rfl, rfl⟩, HF4.out.trans HF5.out, HE4.out.trans HE5.out⟩
end
end Go.Proofs.YtegiaonlneamfaaDoor

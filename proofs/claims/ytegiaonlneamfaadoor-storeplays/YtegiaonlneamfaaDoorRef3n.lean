/- Contract of the reference's Narrow (layer 3), where nothing changes. -/
import Derived.Test.YtegiaonlneamfaaDoorRef3b
import Derived.Test.YtegiaonlneamfaaDoorLessw
namespace Go.Proofs.YtegiaonlneamfaaDoor
open Go.RowKit

/-- What a level has at a place is kept where another list has it too. -/
theorem refkeep_in (x dv : Value) (L M : List Int) (w : World) (hx : IntsT w x L) (hd : IntsT w dv M) (hL : L.length ≤ 1000) (hM : M.length ≤ 1000) :
    Calls Tryd.prog 43 #[x, .int .i64 4, .int .i64 0, dv] w (GivesOf w (L.filter fun u => decide (u ∈ M)) (chg L (L.filter fun u => decide (u ∈ M)))) := by
  obtain ⟨A, c, rfl, hl, -⟩ := hx.lies
  obtain ⟨B, d, rfl, hm, -⟩ := hd.lies
  have := refkeep4_any A B L M L.length M.length c d 0 w rfl rfl (by omega) (by omega) hl hm
  rwa [keep4_is] at this

set_option maxHeartbeats 1000000 in
theorem refnarrow_out (lv ev dv : Value) (H : List (List (List Int))) (LL : List (List Int)) (i : Int) (w : World) (h : LevT w lv H) (hH : H[H.length - 1]? = some LL) (hev : ∃ A n c, ev = .slice A n c) (hbig : H.length ≤ 100) (hi : i < 0 ∨ (LL.length : Int) ≤ i) (hdv : ∃ A n c, dv = .slice A n c) :
    Calls Tryd.prog 18 #[.agg #[lv, ev], .int .i64 i, dv] w fun e w' => e = .returned (.tuple #[.agg #[lv, ev], .int .i64 0]) ∧ Below w.heap.size w w' := by
  have HNow := Lib.hid fun (W : World) (hW : Below w.heap.size w W) => now_any lv ev H LL W (h.below hW) hH hev (by omega)
  obtain ⟨A1, c1, rfl, -⟩ := h.shape
  obtain ⟨A2, n2, c2, rfl⟩ := hev
  obtain ⟨A3, n3, c3, rfl⟩ := hdv
  obtain ⟨n, hn⟩ : ∃ n, n = H.length := ⟨_, rfl⟩
  rw [← hn] at HNow ⊢
  have HK := Lib.hid (below2 w (.cells #[.slice A1 n c1, .slice A2 n2 c2] 32) (.cells #[.slice none 0 0, .slice none 0 0] 32))
  have b1 := Blk.new w #[.slice A1 n c1, .slice A2 n2 c2] 32
  have b2 := Blk.new (w.alloc (.cells #[.slice A1 n c1, .slice A2 n2 c2] 32)) #[.slice none 0 0, .slice none 0 0] 32
  rw [show (w.alloc (.cells #[.slice A1 n c1, .slice A2 n2 c2] 32)).heap.size = w.heap.size + 1 by simp] at b2
  have HB1 := Lib.hid (b1.below (below1 _ (.cells #[.slice none 0 0, .slice none 0 0] 32)))
  have HB2 := Lib.hid b2
  clear h hH hn hbig b1 b2
  go_enter Tryd.func18, Tryd.ntmps18
  go_wp2_with fail
  refine (HNow.out _ HK.out).mono ?_
  rintro e w1 ⟨x, rfl, hx, hb1⟩
  obtain ⟨X, cx, rfl, -⟩ := hx.shape
  have HB3 := Lib.hid (HB1.out.below hb1)
  have HB4 := Lib.hid (HB2.out.below hb1)
  have HK4 := Lib.hid (HK.out.trans (hb1.mono HK.out.size))
  clear hx hb1 HB1 HB2 HK
  have s0 : w1.cell? ⟨w.heap.size, 0, none⟩ = some (.slice A1 n c1) := HB3.out.cell 0
  have s1 : w1.cell? ⟨w.heap.size, 1, none⟩ = some (.slice A2 n2 c2) := HB3.out.cell 1
  have r0 : w1.cell? ⟨w.heap.size + 1, 0, none⟩ = some (.slice none 0 0) := HB4.out.cell 0
  have r1 : w1.cell? ⟨w.heap.size + 1, 1, none⟩ = some (.slice none 0 0) := HB4.out.cell 1
  have g0 := HB4.out.free 0
  have g1 := HB4.out.free 1
  obtain ⟨hq, -, hlow⟩ := two_set HB4.out (.slice A1 n c1) (.slice A2 n2 c2)
  have q0 : ((w1.setCell ⟨w.heap.size + 1, 0, none⟩ (.slice A1 n c1)).setCell ⟨w.heap.size + 1, 1, none⟩ (.slice A2 n2 c2)).cell? ⟨w.heap.size + 1, 0, none⟩ = some (.slice A1 n c1) := hq.cell 0
  have q1 : ((w1.setCell ⟨w.heap.size + 1, 0, none⟩ (.slice A1 n c1)).setCell ⟨w.heap.size + 1, 1, none⟩ (.slice A2 n2 c2)).cell? ⟨w.heap.size + 1, 1, none⟩ = some (.slice A2 n2 c2) := hq.cell 1
  have HL := Lib.hid (hlow HK4.out (by omega))
  have HQ := Lib.hid (And.intro q0 q1)
  clear q0 q1 hq hlow HB3 HB4 HK4
  by_cases h0 : i < 0
  · have h1 : decide (i < 0) = true := by simpa using h0
    clear h0 hi
    go_wp2_with fail
    exact bodyPost_ret (v := .tuple #[.agg #[.slice A1 n c1, .slice A2 n2 c2], .int .i64 0]) (by simp [results, Tryd.results18, go_sem, HQ.out.1, HQ.out.2]) rfl ⟨rfl, HL.out⟩
  · have h1 : decide (i < 0) = false := by simpa using h0
    have h2 : decide ((LL.length : Int) ≤ i) = true := by simp; omega
    clear h0 hi
    go_wp2_with fail
    exact bodyPost_ret (v := .tuple #[.agg #[.slice A1 n c1, .slice A2 n2 c2], .int .i64 0]) (by simp [results, Tryd.results18, go_sem, HQ.out.1, HQ.out.2]) rfl ⟨rfl, HL.out⟩

set_option maxHeartbeats 1000000 in
theorem refnarrow_same (lv ev dv : Value) (H : List (List (List Int))) (LL : List (List Int)) (i : Nat) (L M : List Int) (w : World) (h : LevT w lv H) (hH : H[H.length - 1]? = some LL) (hev : ∃ A n c, ev = .slice A n c) (hbig : H.length ≤ 100) (hi : LL[i]? = some L) (hdv : IntsT w dv M) (hL : L.length ≤ 1000) (hM : M.length ≤ 1000)
    (hch : chg L (L.filter fun u => decide (u ∈ M)) = 0) :
    Calls Tryd.prog 18 #[.agg #[lv, ev], .int .i64 (i : Nat), dv] w fun e w' => e = .returned (.tuple #[.agg #[lv, ev], .int .i64 0]) ∧ Below w.heap.size w w' := by
  have HNow := Lib.hid fun (W : World) (hW : Below w.heap.size w W) => now_any lv ev H LL W (h.below hW) hH hev (by omega)
  have HKe := Lib.hid fun (x : Value) (W : World) (hW : Below w.heap.size w W) (hx : IntsT W x L) => refkeep_in x dv L M W hx (hdv.below hW) hL hM
  rw [hch] at HKe
  obtain ⟨A1, c1, rfl, -⟩ := h.shape
  obtain ⟨A2, n2, c2, rfl⟩ := hev
  obtain ⟨A3, c3, rfl, -, -⟩ := hdv.lies
  obtain ⟨n, hn⟩ : ∃ n, n = H.length := ⟨_, rfl⟩
  rw [← hn] at HNow ⊢
  have hil : i < LL.length := (List.getElem?_eq_some_iff.1 hi).1
  have Hi := Lib.hid hi
  have HK := Lib.hid (below2 w (.cells #[.slice A1 n c1, .slice A2 n2 c2] 32) (.cells #[.slice none 0 0, .slice none 0 0] 32))
  have b1 := Blk.new w #[.slice A1 n c1, .slice A2 n2 c2] 32
  have b2 := Blk.new (w.alloc (.cells #[.slice A1 n c1, .slice A2 n2 c2] 32)) #[.slice none 0 0, .slice none 0 0] 32
  rw [show (w.alloc (.cells #[.slice A1 n c1, .slice A2 n2 c2] 32)).heap.size = w.heap.size + 1 by simp] at b2
  have HB1 := Lib.hid (b1.below (below1 _ (.cells #[.slice none 0 0, .slice none 0 0] 32)))
  have HB2 := Lib.hid b2
  clear h hH hn hbig b1 b2 hdv hi hch hL hM
  generalize (L.filter fun u => decide (u ∈ M)) = P at *
  go_enter Tryd.func18, Tryd.ntmps18
  go_wp2_with fail
  refine (HNow.out _ HK.out).mono ?_
  rintro e w1 ⟨x, rfl, hx, hb1⟩
  obtain ⟨g, cx, X, dx, rfl, y0, hI, -⟩ := hx.get Hi.out
  have HB3 := Lib.hid (HB1.out.below hb1)
  have HB4 := Lib.hid (HB2.out.below hb1)
  have HK4 := Lib.hid (HK.out.trans (hb1.mono HK.out.size))
  have HI := Lib.hid hI
  have hii : (i : Int) < (LL.length : Nat) := by omega
  have h2 : decide ((LL.length : Int) ≤ (i : Int)) = false := by simp; omega
  have h2' : decide (LL.length ≤ i) = false := by simp; omega
  clear hx hb1 HB1 HB2 HK hI
  go_wp2_with fail
  refine (HKe.out _ w1 HK4.out HI.out).mono ?_
  rintro e w2 ⟨v2, rfl, ho2, hb2⟩
  have HB5 := Lib.hid (HB3.out.below hb2)
  have HB6 := Lib.hid (HB4.out.below hb2)
  have HK6 := Lib.hid (HK4.out.trans (hb2.mono HK4.out.size))
  clear ho2 hb2 y0 HB3 HB4 HK4
  have s0 : w2.cell? ⟨w.heap.size, 0, none⟩ = some (.slice A1 n c1) := HB5.out.cell 0
  have s1 : w2.cell? ⟨w.heap.size, 1, none⟩ = some (.slice A2 n2 c2) := HB5.out.cell 1
  have r0 : w2.cell? ⟨w.heap.size + 1, 0, none⟩ = some (.slice none 0 0) := HB6.out.cell 0
  have r1 : w2.cell? ⟨w.heap.size + 1, 1, none⟩ = some (.slice none 0 0) := HB6.out.cell 1
  have g0 := HB6.out.free 0
  have g1 := HB6.out.free 1
  obtain ⟨hq, -, hlow⟩ := two_set HB6.out (.slice A1 n c1) (.slice A2 n2 c2)
  have q0 : ((w2.setCell ⟨w.heap.size + 1, 0, none⟩ (.slice A1 n c1)).setCell ⟨w.heap.size + 1, 1, none⟩ (.slice A2 n2 c2)).cell? ⟨w.heap.size + 1, 0, none⟩ = some (.slice A1 n c1) := hq.cell 0
  have q1 : ((w2.setCell ⟨w.heap.size + 1, 0, none⟩ (.slice A1 n c1)).setCell ⟨w.heap.size + 1, 1, none⟩ (.slice A2 n2 c2)).cell? ⟨w.heap.size + 1, 1, none⟩ = some (.slice A2 n2 c2) := hq.cell 1
  have HL := Lib.hid (hlow HK6.out (by omega))
  have HQ := Lib.hid (And.intro q0 q1)
  clear q0 q1 hq hlow HB5 HB6 HK6
  go_wp2_with fail
  exact bodyPost_ret (v := .tuple #[.agg #[.slice A1 n c1, .slice A2 n2 c2], .int .i64 0]) (by simp [results, Tryd.results18, go_sem, HQ.out.1, HQ.out.2]) rfl ⟨rfl, HL.out⟩
end Go.Proofs.YtegiaonlneamfaaDoor

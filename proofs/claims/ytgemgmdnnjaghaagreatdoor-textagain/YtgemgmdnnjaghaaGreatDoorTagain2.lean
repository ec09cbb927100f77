/- The walk of TextAgain, given a constraint's line. -/
import Derived.Test.YtgemgmdnnjaghaaGreatDoorTwake
import Derived.Test.YtgemgmdnnjaghaaGreatDoorPblankw
import Derived.Test.YtgemgmdnnjaghaaGreatDoorPflt
import Derived.Lib.MinMax
namespace Go.Proofs.YtgemgmdnnjaghaaGreatDoor
open Go.RowKit Go.Sort Go.Maps

set_option maxHeartbeats 4000000 in
set_option maxRecDepth 100000 in
theorem again_walk (HC : LineOK) (s : ByteArray) (w : World) (hs : s.size ≤ 9223372036854775807) (hE : EntIn w) (hT : TabZ w) (hP : PowIn w) : Calls Tryz.prog 6 #[.string s] w fun e w' => e = .returned (.bool true) ∧ Below w.heap.size w w' := by
  have C1 := Lib.hid (fun t h => parse_any t w h hE hT)
  have C2 := Lib.hid (fun W (h : Below w.heap.size w W) => text_wakes HC W (hE.below h) (hP.below h))
  have C3 := Lib.hid equal_any
  have HCL := Lib.hid HC
  have HE := Lib.hid hE
  have HT := Lib.hid hT
  have HP := Lib.hid hP
  clear hE hT hP HC
  have hsz : (s.extract 0 (min (s.size : Int) 1000).toNat).size ≤ 1000 := by
    rw [ByteArray.size_extract]
    omega
  go_enter Tryz.func6, Tryz.ntmps6
  go_wp2_with fail
  generalize s.extract 0 (min (s.size : Int) 1000).toNat = t at hsz
  generalize min (s.size : Int) 1000 = mm
  refine (C1.out t (by omega)).mono ?_
  have HG := Lib.hid (@parseA_good (bl t))
  have hwt := parse_wt (bl t)
  rw [bl_len] at hwt
  generalize parseA (bl t) = R at HG hwt
  obtain ⟨m, p, er⟩ := R
  rintro e w1 ⟨v, rfl, hm, b1⟩
  simp only at hm hwt ⊢
  have X1 := Lib.hid (Boxed.new hm)
  have BA := Lib.hid (b1.trans ((below1 w1 (modO v m)).mono b1.size))
  clear hm b1 C1
  obtain ⟨⟨nA, nn, nc⟩, ⟨dA, dn, dc⟩, ⟨cA, cn, cc⟩⟩ := v
  cases hz : (er != 0) with
  | true =>
    go_wp2_with fail
    refine (C2.out _ BA.out).mono ?_
    rintro e w2 ⟨rfl, b2⟩
    have B2 := Lib.hid (BA.out.trans (b2.mono BA.out.size))
    clear b2
    go_wp2_with fail
    go_ret
    exact ⟨rfl, B2.out⟩
  | false =>
    have he : er = 0 := by simpa using hz
    subst he
    obtain ⟨hck, rfl⟩ := HG.out rfl
    simp only at hck
    have hpl := print_len (mod_ok hck)
    have CP : Hid (∀ (u : ModV) (W : World), Below w.heap.size w W → ModIn W u m → Calls Tryz.prog 8 #[u.val m.goal m.obj] W fun e w' => e = .returned (.tuple #[.string (txt (printT m)), .int .i64 0]) ∧ Below W.heap.size W w') := Lib.hid (fun u W hW hI => print_of u m W (HE.out.below hW) (HP.out.below hW) hI hck (by omega) (fun c u' a W' h' => HCL.out _ _ _ _ _ _ h'))
    have CR := Lib.hid (fun W (hW : Below w.heap.size w W) => parse_known (round_trip hck (by omega)) (txt (printT m)) (bl_txt _) (by rw [txt_size]; omega) W (HE.out.below hW) (HT.out.below hW))
    have a0 : (w1.alloc (modO ⟨⟨nA, nn, nc⟩, ⟨dA, dn, dc⟩, ⟨cA, cn, cc⟩⟩ m)).cell? ⟨w1.heap.size, 0, none⟩ = some (.slice nA nn nc) := X1.out.c0
    clear hck hpl hwt HG HCL
    generalize txt (printT m) = S at CP CR
    go_wp2_with fail
    refine (CP.out ⟨⟨nA, nn, nc⟩, ⟨dA, dn, dc⟩, ⟨cA, cn, cc⟩⟩ _ BA.out X1.out.mod).mono ?_
    rintro e w2 ⟨rfl, b2⟩
    have X2 := Lib.hid (X1.out.below b2)
    have B2 := Lib.hid (BA.out.trans (b2.mono BA.out.size))
    clear b2 X1 BA a0
    go_wp2_with fail
    refine (CR.out _ B2.out).mono ?_
    rintro e w3 ⟨v2, rfl, m3, b3⟩
    have X3 := Lib.hid (And.intro ((X2.out.below b3).below (below1 _ (modO v2 m))) (Boxed.new m3))
    have B3 := Lib.hid (B2.out.trans ((b3.trans ((below1 w3 (modO v2 m)).mono b3.size)).mono B2.out.size))
    clear X2 B2 m3 b3 CR
    obtain ⟨⟨nA2, nn2, nc2⟩, ⟨dA2, dn2, dc2⟩, ⟨cA2, cn2, cc2⟩⟩ := v2
    go_wp2_with fail
    refine (CP.out ⟨⟨nA2, nn2, nc2⟩, ⟨dA2, dn2, dc2⟩, ⟨cA2, cn2, cc2⟩⟩ _ B3.out X3.out.2.mod).mono ?_
    rintro e w4 ⟨rfl, b4⟩
    have X4 := Lib.hid (And.intro (X3.out.1.below b4) (X3.out.2.below b4))
    have B4 := Lib.hid (B3.out.trans (b4.mono B3.out.size))
    clear X3 B3 b4 CP
    go_wp2_with fail
    refine (C2.out _ B4.out).mono ?_
    rintro e w5 ⟨rfl, b5⟩
    have X5 := Lib.hid (And.intro (X4.out.1.below b5) (X4.out.2.below b5))
    have B5 := Lib.hid (B4.out.trans (b5.mono B4.out.size))
    clear X4 B4 b5
    have p0 : w5.cell? ⟨w1.heap.size, 0, none⟩ = some (.slice nA nn nc) := X5.out.1.c0
    have p1 : w5.cell? ⟨w1.heap.size, 1, none⟩ = some (.slice dA dn dc) := X5.out.1.c1
    have p2 : w5.cell? ⟨w1.heap.size, 2, none⟩ = some (.slice cA cn cc) := X5.out.1.c2
    have p3 : w5.cell? ⟨w1.heap.size, 3, none⟩ = some (.int .i64 m.goal) := X5.out.1.c3
    have p4 : w5.cell? ⟨w1.heap.size, 4, none⟩ = some (.int .i64 m.obj) := X5.out.1.c4
    have q0 : w5.cell? ⟨w3.heap.size, 0, none⟩ = some (.slice nA2 nn2 nc2) := X5.out.2.c0
    have q1 : w5.cell? ⟨w3.heap.size, 1, none⟩ = some (.slice dA2 dn2 dc2) := X5.out.2.c1
    have q2 : w5.cell? ⟨w3.heap.size, 2, none⟩ = some (.slice cA2 cn2 cc2) := X5.out.2.c2
    have q3 : w5.cell? ⟨w3.heap.size, 3, none⟩ = some (.int .i64 m.goal) := X5.out.2.c3
    have q4 : w5.cell? ⟨w3.heap.size, 4, none⟩ = some (.int .i64 m.obj) := X5.out.2.c4
    go_wp2_with fail
    refine (C3.out ⟨⟨nA, nn, nc⟩, ⟨dA, dn, dc⟩, ⟨cA, cn, cc⟩⟩ ⟨⟨nA2, nn2, nc2⟩, ⟨dA2, dn2, dc2⟩, ⟨cA2, cn2, cc2⟩⟩ m m _ X5.out.1.mod X5.out.2.mod).mono ?_
    rw [eq_self]
    rintro e w6 ⟨rfl, b6⟩
    have B6 := Lib.hid (B5.out.trans (b6.mono B5.out.size))
    clear b6 X5 B5 p0 p1 p2 p3 p4 q0 q1 q2 q3 q4
    go_wp2_with fail
    go_ret
    exact ⟨by simp, B6.out⟩
end Go.Proofs.YtgemgmdnnjaghaaGreatDoor

/- TextAgain's walk, whole. -/
namespace Go.Proofs.YtgemgmdnnjaghaaGreatDoor
open Go.RowKit
theorem line_ok : LineOK := fun v c a y names w h => tcon_any v c a y names w h
end Go.Proofs.YtgemgmdnnjaghaaGreatDoor

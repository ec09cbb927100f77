/- Contracts: naming, domain, goal, part. -/
import Derived.Test.YtgemgmdnnjaghaaGreatDoorTfn2
import Derived.Test.YtgemgmdnnjaghaaGreatDoorTsize
import Derived.OneCell
namespace Go.Proofs.YtgemgmdnnjaghaaGreatDoor
open Go.RowKit Go.Sort

abbrev modT (v : ModV) (g o : Int) : Obj := .cells #[.slice v.n.A v.n.n v.n.c, .slice v.d.A v.d.n v.d.c, .slice v.c.A v.c.n v.c.c, .int .i64 g, .int .i64 o] 30
abbrev namesO (x : Sl) : Obj := .cells #[.slice x.A x.n x.c] 26
theorem naming_any (x : Sl) (w : World) : Calls Tryz.prog 20 #[.slice x.A x.n x.c] w fun e w' => e = .returned (.func (.func 50) #[] #[.pointer (some ⟨w.heap.size, 0, none⟩)]) ∧ w' = w.alloc (namesO x) := by
  have hmf : ∀ (fn : Fn) (first cap : Array Value) (w : World), (Instr.makeFunc fn first cap).run Tryz.prog w = .ok (.func fn first cap) w := fun _ _ _ _ => rfl
  go_enter Tryz.func20, Tryz.ntmps20
  go_wp2_with fail
  go_ret
  exact ⟨rfl, rfl⟩

set_option maxHeartbeats 4000000 in
set_option maxRecDepth 100000 in
theorem tdomain_any (x : Sl) (d : List Int) (w : World) (hP : PowIn w) (h : IsInts w x d) (hm : mayListB d = true) (hs : d.length ≤ 1000000) (hlen : (domT d).length ≤ 1000000) :
    Calls Tryz.prog 21 #[.slice x.A x.n x.c] w fun e w' => e = .returned (.string (txt (domT d))) ∧ Below w.heap.size w w' := by
  obtain ⟨h0, -, -, -, hmb, -⟩ := may_bounds hm
  have hn := may_num hm
  have hb0 := hn _ (at_mem (l := d) (i := 0) h0)
  have hb1 := hn _ (at_mem (l := d) (i := d.length - 1) (by omega))
  have HI := Lib.hid h
  obtain ⟨A, n, c⟩ := x
  obtain ⟨hl, hL, hbig, hcap⟩ := h
  simp only at hl hL hbig hcap ⊢
  obtain ⟨ad, rfl, hbk, hcl⟩ := hL (by omega)
  obtain ⟨m, hmn⟩ : ∃ m, n = m + 1 := ⟨n - 1, by omega⟩
  have c0 : w.cell? ad = some (.int .i64 (d.getD 0 0)) := by
    have := hcl 0 (by omega)
    simpa [Addr.add, i64f] using this
  have cm : w.cell? (ad.add m) = some (.int .i64 (d.getD (d.length - 1) 0)) := by
    have := hcl m (by omega)
    rw [show d.length - 1 = m by omega]
    exact this
  have hw : IntKind.i64.wrap ((n : Int) - 1) = (m : Int) := by rw [IntWalk.i64_in _ (by omega)]; omega
  have hmn' : (m : Int) < (n : Int) := by omega
  have HA : Hid (allB d = (d.getD (d.length - 1) 0 - d.getD 0 0 == (m : Int))) := Lib.hid (by unfold allB; rw [show (d.length : Int) - 1 = (m : Int) by omega])
  have HTT : Hid (allB d = true → domT d = Lib.itoa (d.getD 0 0) ++ [46, 46] ++ Lib.itoa (d.getD (d.length - 1) 0)) := Lib.hid (fun e => by unfold domT; rw [if_pos e])
  have HTF : Hid (allB d = false → domT d = brT 123 125 (d.map Lib.itoa)) := Lib.hid (fun e => by unfold domT; rw [if_neg (by rw [e]; decide)])
  have HLEN := Lib.hid hlen
  have HPW := Lib.hid hP
  have HN := Lib.hid hn
  have HS := Lib.hid hs
  have h0n : 0 < n := by omega
  have cmd : w.drew.cell? (ad.add m) = some (.int .i64 (d.getD (d.length - 1) 0)) := cm
  have c0d : w.drew.cell? ad = some (.int .i64 (d.getD 0 0)) := c0
  clear hn hmb hlen hP hcl hL hbk hs h0 hmn hl hm
  generalize hlo : d.getD 0 0 = lo at *
  generalize hhi : d.getD (d.length - 1) 0 = hi at *
  clear hlo hhi
  have hsub : IntKind.i64.wrap (hi - lo) = hi - lo := IntWalk.i64_in _ (by omega)
  cases ha : (hi - lo == (m : Int)) with
  | true =>
    have HT := Lib.hid (HTT.out (HA.out.trans ha))
    go_enter Tryz.func21, Tryz.ntmps21
    go_wp2_with fail
    go_region
    go_wp2_with fail
    have bd : Below w.heap.size w w.drew := (Below.refl _ _).drew
    refine (itoa_any lo _ (HPW.out.below bd) hb0.1 hb0.2).mono ?_
    rintro e w1 ⟨rfl, b1⟩
    have B1 := Lib.hid (bd.trans (b1.mono bd.size))
    have hq1 : (txt (Lib.itoa lo)).size ≤ 11 := by rw [txt_size]; exact itoa_len hb0.1 hb0.2
    have hq2 : (txt (Lib.itoa hi)).size ≤ 11 := by rw [txt_size]; exact itoa_len hb1.1 hb1.2
    clear b1 bd
    go_wp2_with fail
    refine (itoa_any hi _ (HPW.out.below B1.out) hb1.1 hb1.2).mono ?_
    rintro e w2 ⟨rfl, b2⟩
    have B2 := Lib.hid (B1.out.trans (b2.mono B1.out.size))
    have HX : Hid (txt (Lib.itoa lo) ++ ⟨#[46, 46]⟩ ++ txt (Lib.itoa hi) = txt (domT d)) := Lib.hid (bl_inj (by
      rw [bl_append', bl_append', bl_txt, bl_txt, bl_txt, HT.out]
      rfl))
    clear b2 B1
    generalize txt (Lib.itoa lo) = q1 at hq1 HX
    generalize txt (Lib.itoa hi) = q2 at hq2 HX
    go_wp2_with fail
    go_ret
    exact ⟨by rw [← HX.out]; rfl, B2.out⟩
  | false =>
    have HT := Lib.hid (HTF.out (HA.out.trans ha))
    go_enter Tryz.func21, Tryz.ntmps21
    go_wp2_with fail
    go_region
    go_wp2_with fail
    have bd : Below w.heap.size w w.drew := (Below.refl _ _).drew
    refine (list_ints 51 #[] eItoa Lib.itoa 123 125 ⟨some ad, n, c⟩ d w.drew (HI.out.below bd) HS.out (by have := HLEN.out; rw [HT.out] at this; omega) (fun z hz W hW => by
      have := itoa_any z W ((HPW.out.below bd).below hW) (HN.out z hz).1 (HN.out z hz).2
      simpa using this)).mono ?_
    rintro e w1 ⟨rfl, b1⟩
    have B1 := Lib.hid (bd.trans (b1.mono bd.size))
    clear b1 bd
    go_wp2_with fail
    go_ret
    exact ⟨by rw [HT.out]; rfl, B1.out⟩

set_option maxHeartbeats 4000000 in
set_option maxRecDepth 100000 in
theorem tgoal_any (v : ModV) (m : ModL) (a : Nat) (w : World) (hy : IsStrs w v.n m.names) (hc : w.cell? ⟨a, 0, none⟩ = some (.slice v.n.A v.n.n v.n.c)) (hm : ModOK m) :
    Calls Tryz.prog 23 #[v.val m.goal m.obj, .func (.func 50) #[] #[.pointer (some ⟨a, 0, none⟩)]] w fun e w' => e = .returned (.string (txt (goalT m))) ∧ Below w.heap.size w w' := by
  have eN := eNaming1
  have ha := World.block_lt_of_cell? w _ hc
  have HB := Lib.hid (below1 w (modT v m.goal m.obj))
  have CN : Hid (m.goal = 1 ∨ m.goal = 2 → Calls Tryz.prog 50 (#[.int .i64 m.obj] ++ #[.pointer (some ⟨a, 0, none⟩)]) (w.alloc (modT v m.goal m.obj)) (fun e w' => e = .returned (.string (txt (nmV m.names m.obj))) ∧ Below (w.alloc (modT v m.goal m.obj)).heap.size (w.alloc (modT v m.goal m.obj)) w') ∧ (txt (nmV m.names m.obj)).size ≤ 32) := Lib.hid (fun h => by
    have hp := goal_place hm.goal h
    exact ⟨naming1_any m.obj v.n m.names a _ (hy.below HB.out) ((HB.out.cell ha).trans hc) hp.1 hp.2, by rw [txt_size]; exact nm_len hm.may hp.1 hp.2⟩)
  have HG : Hid (goalT m = if m.goal = 1 then [115, 111, 108, 118, 101, 32, 109, 105, 110, 105, 109, 105, 122, 101, 32] ++ nmV m.names m.obj ++ [59]
    else if m.goal = 2 then [115, 111, 108, 118, 101, 32, 109, 97, 120, 105, 109, 105, 122, 101, 32] ++ nmV m.names m.obj ++ [59]
    else [115, 111, 108, 118, 101, 32, 115, 97, 116, 105, 115, 102, 121, 59]) := Lib.hid rfl
  generalize goalT m = gt at HG
  generalize nmV m.names m.obj = nb at HG CN
  clear hm hy hc ha
  generalize m.goal = g at *
  generalize m.obj = o at *
  obtain ⟨⟨nA, nn, nc⟩, ⟨dA, dn, dc⟩, ⟨cA, cn, cc⟩⟩ := v
  by_cases g1 : g = 1
  · subst g1
    obtain ⟨C, hsz⟩ := CN.out (.inl rfl)
    have HX : Hid ((⟨#[115, 111, 108, 118, 101, 32, 109, 105, 110, 105, 109, 105, 122, 101, 32]⟩ : ByteArray) ++ txt nb ++ ⟨#[59]⟩ = txt gt) := Lib.hid (bl_inj (by
      rw [bl_append', bl_append', bl_txt, bl_txt, HG.out]
      rfl))
    have HC := Lib.hid C
    clear C CN HG
    go_enter Tryz.func23, Tryz.ntmps23
    go_wp2_with fail
    refine HC.out.mono ?_
    rintro e w1 ⟨rfl, b1⟩
    have B1 := Lib.hid (HB.out.trans (b1.mono HB.out.size))
    clear b1 HC
    generalize txt nb = q at hsz HX
    go_wp2_with fail
    go_ret
    exact ⟨by rw [← HX.out]; rfl, B1.out⟩
  · by_cases g2 : g = 2
    · subst g2
      obtain ⟨C, hsz⟩ := CN.out (.inr rfl)
      have HX : Hid ((⟨#[115, 111, 108, 118, 101, 32, 109, 97, 120, 105, 109, 105, 122, 101, 32]⟩ : ByteArray) ++ txt nb ++ ⟨#[59]⟩ = txt gt) := Lib.hid (bl_inj (by
        rw [bl_append', bl_append', bl_txt, bl_txt, HG.out]
        rfl))
      have HC := Lib.hid C
      clear C CN HG
      go_enter Tryz.func23, Tryz.ntmps23
      go_wp2_with fail
      refine HC.out.mono ?_
      rintro e w1 ⟨rfl, b1⟩
      have B1 := Lib.hid (HB.out.trans (b1.mono HB.out.size))
      clear b1 HC
      generalize txt nb = q at hsz HX
      go_wp2_with fail
      go_ret
      exact ⟨by rw [← HX.out]; rfl, B1.out⟩
    · have HX : Hid ((⟨#[115, 111, 108, 118, 101, 32, 115, 97, 116, 105, 115, 102, 121, 59]⟩ : ByteArray) = txt gt) := Lib.hid (bl_inj (by
        rw [bl_txt, HG.out, if_neg g1, if_neg g2]
        rfl))
      have e1 : (g == 1) = false := by simpa using g1
      have e2 : (g == 2) = false := by simpa using g2
      clear CN HG
      go_enter Tryz.func23, Tryz.ntmps23
      go_wp2_with fail
      go_ret
      exact ⟨by rw [← HX.out]; rfl, HB.out⟩
end Go.Proofs.YtgemgmdnnjaghaaGreatDoor

/- Contracts: part, and what it hands back. -/
namespace Go.Proofs.YtgemgmdnnjaghaaGreatDoor
open Go.RowKit Go.Sort

abbrev conO (v : ConV) (c : ConL) : Obj := .cells (v.cells c.kind c.K) 37
abbrev nameF (a : Nat) : Value := .func (.func 50) #[] #[.pointer (some ⟨a, 0, none⟩)]
abbrev nameO (a : Nat) : Obj := .cells #[nameF a] 61
theorem tpart_any (v : ConV) (c : ConL) (a : Nat) (w : World) : Calls Tryz.prog 56 #[v.val c.kind c.K, nameF a] w fun e w' => e = .returned (.func (.func 81) #[] #[.pointer (some ⟨w.heap.size + 2, 0, none⟩), .pointer (some ⟨w.heap.size + 1, 0, none⟩), .pointer (some ⟨w.heap.size, 0, none⟩)]) ∧ w' = ((w.alloc (conO v c)).alloc (nameO a)).alloc (.cells #[.int .i64 0] 3) := by
  have hmf : ∀ (fn : Fn) (first cap : Array Value) (w : World), (Instr.makeFunc fn first cap).run Tryz.prog w = .ok (.func fn first cap) w := fun _ _ _ _ => rfl
  go_enter Tryz.func56, Tryz.ntmps56
  go_wp2_with fail
  go_ret
  exact ⟨rfl, rfl⟩

/-- The count of told variables lies behind a world, and all of that stays. -/
def PJ (w0 : World) (nx : Nat) (W : World) : Prop := Below w0.heap.size w0 W ∧ W.heap[w0.heap.size]? = some (.cells #[.int .i64 (nx : Nat)] 3 (0, 0))
theorem PJ.below {w0 W W' : World} {nx B : Nat} (h : PJ w0 nx W) (hb : Below B W W') (h1 : w0.heap.size < B) : PJ w0 nx W' :=
  ⟨⟨hb.os.trans h.1.os, hb.tape.trans h.1.tape, hb.output.trans h.1.output, Nat.le_trans h.1.size hb.size, fun k hk => (hb.block k (by omega)).trans (h.1.block k hk)⟩, (hb.block _ h1).trans h.2⟩
/-- What a constraint's parts are read of. -/
structure PIn (w0 : World) (p a : Nat) (v : ConV) (y : Sl) (c : ConL) (names : List Bs) : Prop where
  cell : ∀ j u, (v.cells c.kind c.K)[j]? = some u → w0.cell? ⟨p, j, none⟩ = some u
  lt : p + 1 < w0.heap.size
  con : ConIn w0 v c
  fn : w0.cell? ⟨p + 1, 0, none⟩ = some (nameF a)
  na : w0.cell? ⟨a, 0, none⟩ = some (.slice y.A y.n y.c)
  nas : IsStrs w0 y names
  pow : PowIn w0
  may : ∀ b ∈ names, mayNameB b = true
  ok : ConOK names.length c
  wt : wtC c ≤ 1000000
theorem PIn.below {w0 W : World} {p a : Nat} {v : ConV} {y : Sl} {c : ConL} {names : List Bs} (h : PIn w0 p a v y c names) (hb : Below w0.heap.size w0 W) : PIn W p a v y c names :=
  ⟨fun j u hu => (hb.cell (by have := h.lt; show p < _; omega)).trans (h.cell j u hu), Nat.lt_of_lt_of_le h.lt hb.size, h.con.below hb, (hb.cell h.lt).trans h.fn, (hb.cell (World.block_lt_of_cell? w0 _ h.na)).trans h.na, h.nas.below hb, h.pow.below hb, h.may, h.ok, h.wt⟩
theorem wt_parts (c : ConL) : c.A.length ≤ wtC c ∧ c.B.length ≤ wtC c ∧ c.C.length ≤ wtC c ∧ c.D.length ≤ wtC c ∧ c.E.length ≤ wtC c ∧ tot (fun r : List Int => r.length + 1) c.rows ≤ wtC c := by
  unfold wtC
  omega
set_option maxHeartbeats 4000000 in
set_option maxRecDepth 100000 in
theorem part1_86 {w0 : World} {p a : Nat} {v : ConV} {y : Sl} {c : ConL} {names : List Bs} (h : PIn w0 p a v y c names) (hp : p + 2 = w0.heap.size) (nx : Nat) (_ : nx ≤ 1000) (W : World) (hJ : PJ w0 nx W) (_ : PartAt c 86 nx) : Calls Tryz.prog 81 #[.int .u8 86, .pointer (some ⟨p + 2, 0, none⟩), .pointer (some ⟨p + 1, 0, none⟩), .pointer (some ⟨p, 0, none⟩)] W fun e w' => e = .returned (.string (txt (partT names c 86 nx))) ∧ PJ w0 (nxt 86 nx) w' ∧ Keeps W w' := by
  have hW := h.below hJ.1
  have hlt : w0.heap.size < W.heap.size := lt_of_obj hJ.2
  obtain ⟨wA, wB, wC, wD, wE, wR⟩ := wt_parts c
  have hwt := h.wt
  have x0 := hW.cell 1 (.slice v.a.A v.a.n v.a.c) rfl
  have x1 := hW.fn
  have C := Lib.hid (row_names a y v.a names c.A W hW.nas hW.na hW.con.a (by omega) hW.ok.pa (by have := pl_len hW.may hW.ok.pa; omega))
  have HJ := Lib.hid hJ
  have HLT := Lib.hid hlt
  show Calls _ _ _ _ fun e w' => e = .returned (.string (txt (plT names c.A))) ∧ PJ w0 nx w' ∧ Keeps W w'
  have eN := eNaming1
  clear hW h hJ hlt wA wB wC wD wE wR hwt
  go_enter Tryz.func81, Tryz.ntmps81
  go_wp2_with fail
  refine C.out.mono ?_
  rintro e w1 ⟨rfl, b1⟩
  have B1 := Lib.hid b1
  clear b1 C
  go_wp2_with fail
  go_ret
  exact ⟨rfl, HJ.out.below B1.out HLT.out, Keeps.of B1.out⟩
set_option maxHeartbeats 4000000 in
set_option maxRecDepth 100000 in
theorem part1_87 {w0 : World} {p a : Nat} {v : ConV} {y : Sl} {c : ConL} {names : List Bs} (h : PIn w0 p a v y c names) (hp : p + 2 = w0.heap.size) (nx : Nat) (_ : nx ≤ 1000) (W : World) (hJ : PJ w0 nx W) (_ : PartAt c 87 nx) : Calls Tryz.prog 81 #[.int .u8 87, .pointer (some ⟨p + 2, 0, none⟩), .pointer (some ⟨p + 1, 0, none⟩), .pointer (some ⟨p, 0, none⟩)] W fun e w' => e = .returned (.string (txt (partT names c 87 nx))) ∧ PJ w0 (nxt 87 nx) w' ∧ Keeps W w' := by
  have hW := h.below hJ.1
  have hlt : w0.heap.size < W.heap.size := lt_of_obj hJ.2
  obtain ⟨wA, wB, wC, wD, wE, wR⟩ := wt_parts c
  have hwt := h.wt
  have x0 := hW.cell 2 (.slice v.b.A v.b.n v.b.c) rfl
  have x1 := hW.fn
  have C := Lib.hid (row_names a y v.b names c.B W hW.nas hW.na hW.con.b (by omega) hW.ok.pb (by have := pl_len hW.may hW.ok.pb; omega))
  have HJ := Lib.hid hJ
  have HLT := Lib.hid hlt
  show Calls _ _ _ _ fun e w' => e = .returned (.string (txt (plT names c.B))) ∧ PJ w0 nx w' ∧ Keeps W w'
  have eN := eNaming1
  clear hW h hJ hlt wA wB wC wD wE wR hwt
  go_enter Tryz.func81, Tryz.ntmps81
  go_wp2_with fail
  refine C.out.mono ?_
  rintro e w1 ⟨rfl, b1⟩
  have B1 := Lib.hid b1
  clear b1 C
  go_wp2_with fail
  go_ret
  exact ⟨rfl, HJ.out.below B1.out HLT.out, Keeps.of B1.out⟩
set_option maxHeartbeats 4000000 in
set_option maxRecDepth 100000 in
theorem part1_99 {w0 : World} {p a : Nat} {v : ConV} {y : Sl} {c : ConL} {names : List Bs} (h : PIn w0 p a v y c names) (hp : p + 2 = w0.heap.size) (nx : Nat) (_ : nx ≤ 1000) (W : World) (hJ : PJ w0 nx W) (_ : PartAt c 99 nx) : Calls Tryz.prog 81 #[.int .u8 99, .pointer (some ⟨p + 2, 0, none⟩), .pointer (some ⟨p + 1, 0, none⟩), .pointer (some ⟨p, 0, none⟩)] W fun e w' => e = .returned (.string (txt (partT names c 99 nx))) ∧ PJ w0 (nxt 99 nx) w' ∧ Keeps W w' := by
  have hW := h.below hJ.1
  have hlt : w0.heap.size < W.heap.size := lt_of_obj hJ.2
  obtain ⟨wA, wB, wC, wD, wE, wR⟩ := wt_parts c
  have hwt := h.wt
  have x0 := hW.cell 3 (.slice v.c.A v.c.n v.c.c) rfl
  have C := Lib.hid (row_nums v.c c.C W hW.pow hW.con.c (by omega) hW.ok.pc (by have := row_len hW.ok.pc; omega))
  have HJ := Lib.hid hJ
  have HLT := Lib.hid hlt
  show Calls _ _ _ _ fun e w' => e = .returned (.string (txt (rowT c.C))) ∧ PJ w0 nx w' ∧ Keeps W w'
  have eN := eNaming1
  clear hW h hJ hlt wA wB wC wD wE wR hwt
  go_enter Tryz.func81, Tryz.ntmps81
  go_wp2_with fail
  refine C.out.mono ?_
  rintro e w1 ⟨rfl, b1⟩
  have B1 := Lib.hid b1
  clear b1 C
  go_wp2_with fail
  go_ret
  exact ⟨rfl, HJ.out.below B1.out HLT.out, Keeps.of B1.out⟩
set_option maxHeartbeats 4000000 in
set_option maxRecDepth 100000 in
theorem part1_100 {w0 : World} {p a : Nat} {v : ConV} {y : Sl} {c : ConL} {names : List Bs} (h : PIn w0 p a v y c names) (hp : p + 2 = w0.heap.size) (nx : Nat) (_ : nx ≤ 1000) (W : World) (hJ : PJ w0 nx W) (_ : PartAt c 100 nx) : Calls Tryz.prog 81 #[.int .u8 100, .pointer (some ⟨p + 2, 0, none⟩), .pointer (some ⟨p + 1, 0, none⟩), .pointer (some ⟨p, 0, none⟩)] W fun e w' => e = .returned (.string (txt (partT names c 100 nx))) ∧ PJ w0 (nxt 100 nx) w' ∧ Keeps W w' := by
  have hW := h.below hJ.1
  have hlt : w0.heap.size < W.heap.size := lt_of_obj hJ.2
  obtain ⟨wA, wB, wC, wD, wE, wR⟩ := wt_parts c
  have hwt := h.wt
  have x0 := hW.cell 4 (.slice v.d.A v.d.n v.d.c) rfl
  have C := Lib.hid (row_nums v.d c.D W hW.pow hW.con.d (by omega) hW.ok.pd (by have := row_len hW.ok.pd; omega))
  have HJ := Lib.hid hJ
  have HLT := Lib.hid hlt
  show Calls _ _ _ _ fun e w' => e = .returned (.string (txt (rowT c.D))) ∧ PJ w0 nx w' ∧ Keeps W w'
  have eN := eNaming1
  clear hW h hJ hlt wA wB wC wD wE wR hwt
  go_enter Tryz.func81, Tryz.ntmps81
  go_wp2_with fail
  refine C.out.mono ?_
  rintro e w1 ⟨rfl, b1⟩
  have B1 := Lib.hid b1
  clear b1 C
  go_wp2_with fail
  go_ret
  exact ⟨rfl, HJ.out.below B1.out HLT.out, Keeps.of B1.out⟩
set_option maxHeartbeats 4000000 in
set_option maxRecDepth 100000 in
theorem part1_101 {w0 : World} {p a : Nat} {v : ConV} {y : Sl} {c : ConL} {names : List Bs} (h : PIn w0 p a v y c names) (hp : p + 2 = w0.heap.size) (nx : Nat) (_ : nx ≤ 1000) (W : World) (hJ : PJ w0 nx W) (_ : PartAt c 101 nx) : Calls Tryz.prog 81 #[.int .u8 101, .pointer (some ⟨p + 2, 0, none⟩), .pointer (some ⟨p + 1, 0, none⟩), .pointer (some ⟨p, 0, none⟩)] W fun e w' => e = .returned (.string (txt (partT names c 101 nx))) ∧ PJ w0 (nxt 101 nx) w' ∧ Keeps W w' := by
  have hW := h.below hJ.1
  have hlt : w0.heap.size < W.heap.size := lt_of_obj hJ.2
  obtain ⟨wA, wB, wC, wD, wE, wR⟩ := wt_parts c
  have hwt := h.wt
  have x0 := hW.cell 5 (.slice v.e.A v.e.n v.e.c) rfl
  have C := Lib.hid (row_nums v.e c.E W hW.pow hW.con.e (by omega) hW.ok.pe (by have := row_len hW.ok.pe; omega))
  have HJ := Lib.hid hJ
  have HLT := Lib.hid hlt
  show Calls _ _ _ _ fun e w' => e = .returned (.string (txt (rowT c.E))) ∧ PJ w0 nx w' ∧ Keeps W w'
  have eN := eNaming1
  clear hW h hJ hlt wA wB wC wD wE wR hwt
  go_enter Tryz.func81, Tryz.ntmps81
  go_wp2_with fail
  refine C.out.mono ?_
  rintro e w1 ⟨rfl, b1⟩
  have B1 := Lib.hid b1
  clear b1 C
  go_wp2_with fail
  go_ret
  exact ⟨rfl, HJ.out.below B1.out HLT.out, Keeps.of B1.out⟩
theorem tot_len {R : List (List Int)} : R.length ≤ tot (fun r : List Int => r.length + 1) R := by
  induction R with
  | nil => simp [tot]
  | cons a R ih => simp only [tot, List.length_cons]; omega
set_option maxHeartbeats 4000000 in
set_option maxRecDepth 100000 in
theorem part1_114 {w0 : World} {p a : Nat} {v : ConV} {y : Sl} {c : ConL} {names : List Bs} (h : PIn w0 p a v y c names) (hp : p + 2 = w0.heap.size) (nx : Nat) (_ : nx ≤ 1000) (W : World) (hJ : PJ w0 nx W) (_ : PartAt c 114 nx) : Calls Tryz.prog 81 #[.int .u8 114, .pointer (some ⟨p + 2, 0, none⟩), .pointer (some ⟨p + 1, 0, none⟩), .pointer (some ⟨p, 0, none⟩)] W fun e w' => e = .returned (.string (txt (partT names c 114 nx))) ∧ PJ w0 (nxt 114 nx) w' ∧ Keeps W w' := by
  have hW := h.below hJ.1
  have hlt : w0.heap.size < W.heap.size := lt_of_obj hJ.2
  obtain ⟨wA, wB, wC, wD, wE, wR⟩ := wt_parts c
  have hwt := h.wt
  have x0 := hW.cell 7 (.slice v.r.A v.r.n v.r.c) rfl
  have C := Lib.hid (trows_any v.r c.rows W hW.pow hW.con.r (by have := @tot_len c.rows; omega) (fun l hl => by have := tot_le (fun r : List Int => r.length + 1) hl; omega) hW.ok.pr (by have := rws_len hW.ok.pr; omega) (fun l hl => by have := tot_le (fun r : List Int => r.length + 1) hl; have := row_len (hW.ok.pr l hl); omega))
  have HJ := Lib.hid hJ
  have HLT := Lib.hid hlt
  show Calls _ _ _ _ fun e w' => e = .returned (.string (txt (rwsT c.rows))) ∧ PJ w0 nx w' ∧ Keeps W w'
  have eN := eNaming1
  clear hW h hJ hlt wA wB wC wD wE wR hwt
  go_enter Tryz.func81, Tryz.ntmps81
  go_wp2_with fail
  refine C.out.mono ?_
  rintro e w1 ⟨rfl, b1⟩
  have B1 := Lib.hid b1
  clear b1 C
  go_wp2_with fail
  go_ret
  exact ⟨rfl, HJ.out.below B1.out HLT.out, Keeps.of B1.out⟩
set_option maxHeartbeats 4000000 in
set_option maxRecDepth 100000 in
theorem part1_107 {w0 : World} {p a : Nat} {v : ConV} {y : Sl} {c : ConL} {names : List Bs} (h : PIn w0 p a v y c names) (hp : p + 2 = w0.heap.size) (nx : Nat) (_ : nx ≤ 1000) (W : World) (hJ : PJ w0 nx W) (_ : PartAt c 107 nx) : Calls Tryz.prog 81 #[.int .u8 107, .pointer (some ⟨p + 2, 0, none⟩), .pointer (some ⟨p + 1, 0, none⟩), .pointer (some ⟨p, 0, none⟩)] W fun e w' => e = .returned (.string (txt (partT names c 107 nx))) ∧ PJ w0 (nxt 107 nx) w' ∧ Keeps W w' := by
  have hW := h.below hJ.1
  have hlt : w0.heap.size < W.heap.size := lt_of_obj hJ.2
  obtain ⟨wA, wB, wC, wD, wE, wR⟩ := wt_parts c
  have hwt := h.wt
  have x0 := hW.cell 6 (.int .i64 c.K) rfl
  have C := Lib.hid (itoa_any c.K W hW.pow hW.ok.pk.1 hW.ok.pk.2)
  have HJ := Lib.hid hJ
  have HLT := Lib.hid hlt
  show Calls _ _ _ _ fun e w' => e = .returned (.string (txt (Lib.itoa c.K))) ∧ PJ w0 nx w' ∧ Keeps W w'
  have eN := eNaming1
  clear hW h hJ hlt wA wB wC wD wE wR hwt
  go_enter Tryz.func81, Tryz.ntmps81
  go_wp2_with fail
  refine C.out.mono ?_
  rintro e w1 ⟨rfl, b1⟩
  have B1 := Lib.hid b1
  clear b1 C
  go_wp2_with fail
  go_ret
  exact ⟨rfl, HJ.out.below B1.out HLT.out, Keeps.of B1.out⟩
set_option maxHeartbeats 4000000 in
set_option maxRecDepth 100000 in
theorem part1_119 {w0 : World} {p a : Nat} {v : ConV} {y : Sl} {c : ConL} {names : List Bs} (h : PIn w0 p a v y c names) (hp : p + 2 = w0.heap.size) (nx : Nat) (_ : nx ≤ 1000) (W : World) (hJ : PJ w0 nx W) (hat : PartAt c 119 nx) : Calls Tryz.prog 81 #[.int .u8 119, .pointer (some ⟨p + 2, 0, none⟩), .pointer (some ⟨p + 1, 0, none⟩), .pointer (some ⟨p, 0, none⟩)] W fun e w' => e = .returned (.string (txt (partT names c 119 nx))) ∧ PJ w0 (nxt 119 nx) w' ∧ Keeps W w' := by
  have hW := h.below hJ.1
  have hlt : w0.heap.size < W.heap.size := lt_of_obj hJ.2
  obtain ⟨wA, wB, wC, wD, wE, wR⟩ := wt_parts c
  have hwt := h.wt
  have x0 := hW.cell 2 (.slice v.b.A v.b.n v.b.c) rfl
  have x1 := hW.fn
  have hb0 := hat.2 rfl
  have hv := hW.ok.pb _ (at_mem hb0)
  obtain ⟨ad, e1, l1, c1⟩ := hW.con.b.lies (by rw [hW.con.b.len]; exact hb0)
  have x2 : W.cell? ad = some (.int .i64 (c.B.getD 0 0)) := by
    have := c1 0 (by rw [hW.con.b.len]; exact hb0)
    simpa [Addr.add, i64f] using this
  have hn0 : 0 < v.b.n := by rw [hW.con.b.len]; exact hb0
  have bd : Below W.heap.size W W.drew := (Below.refl _ _).drew
  have C := Lib.hid (naming1_same (c.B.getD 0 0) y names a W.drew (hW.nas.below bd) hW.na hv.1 hv.2)
  have HJ := Lib.hid hJ
  have HLT := Lib.hid hlt
  show Calls _ _ _ _ fun e w' => e = .returned (.string (txt (nmV names (c.B.getD 0 0)))) ∧ PJ w0 nx w' ∧ Keeps W w'
  have eN := eNaming1
  rw [e1] at x0
  clear hW h hJ hlt hat wA wB wC wD wE wR hwt hv c1 l1 hb0
  generalize c.B.getD 0 0 = z at *
  generalize v.b.n = n at *
  generalize v.b.c = cc at *
  generalize hnm : txt (nmV names z) = q at *
  go_enter Tryz.func81, Tryz.ntmps81
  go_upto_region 7 with fail
  go_region_with (refine C.out.mono ?_; rintro e w' ⟨rfl, rfl⟩)
  all_goals
    go_wp2_with fail
    go_ret
    exact ⟨rfl, HJ.out.below bd HLT.out, Keeps.of bd⟩
set_option maxHeartbeats 4000000 in
set_option maxRecDepth 100000 in
theorem part1_118 {w0 : World} {p a : Nat} {v : ConV} {y : Sl} {c : ConL} {names : List Bs} (h : PIn w0 p a v y c names) (hp : p + 2 = w0.heap.size) (nx : Nat) (hnx : nx ≤ 1000) (W : World) (hJ : PJ w0 nx W) (hat : PartAt c 118 nx) : Calls Tryz.prog 81 #[.int .u8 118, .pointer (some ⟨p + 2, 0, none⟩), .pointer (some ⟨p + 1, 0, none⟩), .pointer (some ⟨p, 0, none⟩)] W fun e w' => e = .returned (.string (txt (partT names c 118 nx))) ∧ PJ w0 (nxt 118 nx) w' ∧ Keeps W w' := by
  have hW := h.below hJ.1
  have hlt : w0.heap.size < W.heap.size := lt_of_obj hJ.2
  obtain ⟨wA, wB, wC, wD, wE, wR⟩ := wt_parts c
  have hwt := h.wt
  have hnA := hat.1 rfl
  have hg := hJ.2
  rw [← hp] at hg
  have k0 : W.cell? ⟨p + 2, 0, none⟩ = some (.int .i64 (nx : Nat)) := by
    unfold World.cell?
    simp [hg]
  have k1 : W.frozen? ⟨p + 2, 0, none⟩ = false := by
    unfold World.frozen?
    simp [hg]
  obtain ⟨W1, hW1⟩ : ∃ W1, W1 = W.setCell ⟨p + 2, 0, none⟩ (.int .i64 ((nx + 1 : Nat) : Int)) := ⟨_, rfl⟩
  have hbs : Below w0.heap.size w0 W1 := hW1 ▸ hJ.1.setCell (p := ⟨p + 2, 0, none⟩) (by show _ ≤ p + 2; omega) _
  have hg1 : W1.heap[p + 2]? = some (.cells #[.int .i64 ((nx + 1 : Nat) : Int)] 3 (0, 0)) := hW1 ▸ one_setCell hg
  have hk1 : Keeps W W1 := ⟨by rw [hW1]; simp, fun g cur t fr hgg ht => by
    rw [hW1]
    refine Below.heap_setCell _ _ _ _ ?_
    intro e
    simp only at e
    subst e
    rw [hg] at hgg
    injection hgg with hgg
    injection hgg with _ e2 _
    exact ht e2.symm⟩
  have hI := h.below hbs
  have x0 := hI.cell 1 (.slice v.a.A v.a.n v.a.c) rfl
  have x1 := hI.fn
  have hv := hI.ok.pa _ (at_mem hnA)
  have hln : nx < v.a.n := by rw [hI.con.a.len]; exact hnA
  obtain ⟨ad, e1, l1, c1⟩ := hI.con.a.lies (by omega)
  have x2 : W1.cell? (ad.add nx) = some (.int .i64 (c.A.getD nx 0)) := c1 nx hln
  have x3 : W1.cell? ⟨p + 2, 0, none⟩ = some (.int .i64 ((nx + 1 : Nat) : Int)) := by
    unfold World.cell?
    simp [hg1]
  have bd : Below W1.heap.size W1 W1.drew := (Below.refl _ _).drew
  have C := Lib.hid (naming1_same (c.A.getD nx 0) y names a W1.drew (hI.nas.below bd) hI.na hv.1 hv.2)
  have HJ : Hid (PJ w0 (nx + 1) W1.drew) := Lib.hid ⟨hbs.drew, by rw [← hp]; exact hg1⟩
  have HK : Hid (Keeps W W1.drew) := Lib.hid (hk1.trans (Keeps.of bd))
  have hw1 : IntKind.i64.wrap ((nx : Int) + 1) = ((nx + 1 : Nat) : Int) := by rw [IntWalk.i64_in _ (by omega)]; omega
  have hw2 : IntKind.i64.wrap (((nx + 1 : Nat) : Int) - 1) = (nx : Int) := by rw [IntWalk.i64_in _ (by omega)]; omega
  show Calls _ _ _ _ fun e w' => e = .returned (.string (txt (nmV names (c.A.getD nx 0)))) ∧ PJ w0 (nx + 1) w' ∧ Keeps W w'
  have eN := eNaming1
  rw [e1] at x0
  clear hI h hJ hlt hat wA wB wC wD wE wR hwt hv c1 l1 hnA hbs hg1 hk1 hg hnx bd hp hW
  obtain ⟨n1, hn1⟩ : ∃ n1 : Nat, n1 = nx + 1 := ⟨_, rfl⟩
  rw [← hn1] at hw1 hw2 x3 hW1
  generalize c.A.getD nx 0 = z at *
  generalize v.a.n = n at *
  generalize v.a.c = cc at *
  have HN1 := Lib.hid hn1
  have HW1 := Lib.hid hW1
  clear hn1 hW1
  go_enter Tryz.func81, Tryz.ntmps81
  go_upto_region 5 with fail
  change Code.wp _ _ _ _ (W.setCell ⟨p + 2, 0, none⟩ (.int .i64 (n1 : Int)))
  rw [← HW1.out]
  go_region_with (refine C.out.mono ?_; rintro e w' ⟨rfl, rfl⟩)
  all_goals
    go_wp2_with fail
    go_ret
    exact ⟨rfl, HJ.out, HK.out⟩
/-- Any part. -/
theorem part1_any {w0 : World} {p a : Nat} {v : ConV} {y : Sl} {c : ConL} {names : List Bs} (h : PIn w0 p a v y c names) (hp : p + 2 = w0.heap.size) (nx : Nat) (hnx : nx ≤ 1000) (b : UInt8) (hb : b ∈ lettersP) (W : World) (hJ : PJ w0 nx W) (hat : PartAt c b nx) : Calls Tryz.prog 81 (#[.int .u8 (b.toNat : Int)] ++ #[.pointer (some ⟨p + 2, 0, none⟩), .pointer (some ⟨p + 1, 0, none⟩), .pointer (some ⟨p, 0, none⟩)]) W fun e w' => e = .returned (.string (txt (partT names c b nx))) ∧ PJ w0 (nxt b nx) w' ∧ Keeps W w' := by
  unfold lettersP at hb
  simp only [List.mem_cons, List.not_mem_nil, or_false] at hb
  rcases hb with rfl | rfl | rfl | rfl | rfl | rfl | rfl | rfl | rfl
  · exact part1_118 h hp nx hnx W hJ hat
  · exact part1_119 h hp nx hnx W hJ hat
  · exact part1_86 h hp nx hnx W hJ hat
  · exact part1_87 h hp nx hnx W hJ hat
  · exact part1_99 h hp nx hnx W hJ hat
  · exact part1_100 h hp nx hnx W hJ hat
  · exact part1_101 h hp nx hnx W hJ hat
  · exact part1_114 h hp nx hnx W hJ hat
  · exact part1_107 h hp nx hnx W hJ hat
end Go.Proofs.YtgemgmdnnjaghaaGreatDoor

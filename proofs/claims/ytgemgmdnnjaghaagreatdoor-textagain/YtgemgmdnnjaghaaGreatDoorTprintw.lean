/- A constraint's parts, told in a list. -/
import Derived.Test.YtgemgmdnnjaghaaGreatDoorTpart
import Derived.Test.YtgemgmdnnjaghaaGreatDoorMkind
import Derived.Test.YtgemgmdnnjaghaaGreatDoorMequal3
import Derived.Test.YtgemgmdnnjaghaaGreatDoorTsize
import Derived.Lib.ConvBytes
import Derived.BigRegion
namespace Go.Proofs.YtgemgmdnnjaghaaGreatDoor
open Go.RowKit Go.Sort

def nxk (sh : List UInt8) (k nx : Nat) : Nat := (sh.take k).foldl (fun n b => nxt b n) nx
theorem nxk_zero (sh : List UInt8) (nx : Nat) : nxk sh 0 nx = nx := rfl
theorem nxk_step {sh : List UInt8} {k nx : Nat} (h : k < sh.length) : nxk sh (k + 1) nx = nxt (sh.getD k 0) (nxk sh k nx) := by
  unfold nxk
  rw [List.take_add_one, List.getElem?_eq_getElem h, List.foldl_append, List.getD_eq_getElem?_getD, List.getElem?_eq_getElem h]
  rfl
theorem nxk_le {sh : List UInt8} {nx : Nat} : ∀ k, k ≤ sh.length → nxk sh k nx ≤ nx + k := by
  intro k
  induction k with
  | zero => intro _; exact Nat.le_refl _
  | succ k ih =>
    intro h
    rw [nxk_step (by omega)]
    have := ih (by omega)
    unfold nxt
    split <;> omega
theorem parts_at {names : List Bs} {c : ConL} : ∀ (sh : List UInt8) (nx k : Nat), k < sh.length → (partsT names c nx sh).getD k [] = partT names c (sh.getD k 0) (nxk sh k nx)
  | [], _, _, h => by simp at h
  | b :: sh, nx, 0, _ => rfl
  | b :: sh, nx, k + 1, h => by
    have := parts_at (names := names) (c := c) sh (nxt b nx) k (by simpa using h)
    simp only [partsT, List.getD_cons_succ]
    exact this
theorem part_at {c : ConL} : ∀ (sh : List UInt8) (nx k : Nat), k < sh.length → PartsAt c nx sh → PartAt c (sh.getD k 0) (nxk sh k nx)
  | [], _, _, h, _ => by simp at h
  | b :: sh, nx, 0, _, hp => hp.1
  | b :: sh, nx, k + 1, h, hp => by
    have := part_at sh (nxt b nx) k (by simpa using h) hp.2
    simp only [List.getD_cons_succ]
    exact this
theorem alloc_new (W : World) (o : Obj) : (W.alloc o).heap[W.heap.size]? = some o := by
  show (W.heap.push o)[W.heap.size]? = some o
  simp
theorem below_bytes (w : World) (s : ByteArray) : Below w.heap.size w (Lib.bytesWorld w 5 s) := by
  refine ⟨?_, ?_, ?_, ?_, fun k hk => Lib.bytesWorld_at_old w 5 s k hk⟩
  · unfold Lib.bytesWorld World.freeze
    split <;> rfl
  · unfold Lib.bytesWorld World.freeze
    split <;> rfl
  · unfold Lib.bytesWorld World.freeze
    split <;> rfl
  · rw [Lib.bytesWorld_size]
    omega
theorem bts_new (w : World) (sh : Bs) : IsBts (Lib.bytesWorld w 5 ⟨sh.toArray⟩) w.heap.size sh :=
  ⟨_, _, Lib.bytesWorld_at_new w 5 _, fun j hj => by
    rw [Lib.bytesWorld_cell w 5 _ j (by simpa [ByteArray.size] using hj)]⟩

/-- What is told of a constraint, in a world. -/
structure CIn (w : World) (a : Nat) (v : ConV) (y : Sl) (c : ConL) (names : List Bs) : Prop where
  con : ConIn w v c
  na : w.cell? ⟨a, 0, none⟩ = some (.slice y.A y.n y.c)
  nas : IsStrs w y names
  pow : PowIn w
  ent : EntIn w
  may : ∀ b ∈ names, mayNameB b = true
  ok : ConOK names.length c
  wt : wtC c ≤ 1000000
theorem CIn.below {w w' : World} {a : Nat} {v : ConV} {y : Sl} {c : ConL} {names : List Bs} (h : CIn w a v y c names) (hb : Below w.heap.size w w') : CIn w' a v y c names :=
  ⟨h.con.below hb, (hb.cell (World.block_lt_of_cell? w _ h.na)).trans h.na, h.nas.below hb, h.pow.below hb, h.ent.below hb, h.may, h.ok, h.wt⟩
/-- The world in which the parts' count is laid. -/
abbrev wPart (X : World) (v : ConV) (c : ConL) (a : Nat) : World := (X.alloc (conO v c)).alloc (nameO a)
theorem pin_new {X : World} {a : Nat} {v : ConV} {y : Sl} {c : ConL} {names : List Bs} (h : CIn X a v y c names) : PIn (wPart X v c a) X.heap.size a v y c names := by
  have b1 := below1 X (conO v c)
  have b2 := below1 (X.alloc (conO v c)) (nameO a)
  have hb : Below X.heap.size X (wPart X v c a) := b1.trans (b2.mono b1.size)
  have h' := h.below hb
  refine ⟨fun j u hu => ?_, by simp, h'.con, by simp, h'.na, h'.nas, h'.pow, h'.may, h'.ok, h'.wt⟩
  rw [b2.cell (by simp)]
  simpa using hu
set_option maxHeartbeats 1000000 in
theorem con_list {X W : World} {a gb cb : Nat} {v : ConV} {y : Sl} {c : ConL} {names : List Bs} (h : CIn X a v y c names) (hW : Below ((wPart X v c a).alloc (.cells #[.int .i64 0] 3)).heap.size ((wPart X v c a).alloc (.cells #[.int .i64 0] 3)) W) (hg : IsBts W gb (entOf c).shape) :
    Calls Tryz.prog 54 #[.string ⟨#[40]⟩, .slice (some ⟨gb, 0, none⟩) (entOf c).shape.length cb, .string ⟨#[41]⟩, .func (.func 81) #[] #[.pointer (some ⟨X.heap.size + 2, 0, none⟩), .pointer (some ⟨X.heap.size + 1, 0, none⟩), .pointer (some ⟨X.heap.size, 0, none⟩)]] W fun e w' => e = .returned (.string (txt (brT 40 41 (partsT names c 0 (entOf c).shape)))) ∧ Below X.heap.size X w' := by
  have hP := pin_new h
  have hp2 : X.heap.size + 2 = (wPart X v c a).heap.size := by simp
  obtain ⟨f1, -, f3⟩ := con_fin h.ok
  obtain ⟨k, hk, _, he, hin⟩ := ent_in h.ok
  have hs := List.all_eq_true.1 ents_short _ hin
  rw [← he] at hs
  simp only [Bool.and_eq_true, decide_eq_true_eq] at hs
  have hX : Below X.heap.size X (wPart X v c a) := (below1 X (conO v c)).trans ((below1 (X.alloc (conO v c)) (nameO a)).mono (by simp))
  have hJ0 : PJ (wPart X v c a) 0 W := by
    have : PJ (wPart X v c a) 0 ((wPart X v c a).alloc (.cells #[.int .i64 0] 3)) := ⟨below1 _ _, alloc_new _ _⟩
    exact this.below hW (by simp)
  have hlt : (wPart X v c a).heap.size < W.heap.size := lt_of_obj hJ0.2
  refine (list_bytes 81 _ ePart1 (partsT names c 0 (entOf c).shape) 40 41 gb cb (entOf c).shape W hg (by omega) (partsT_length _ _ _ _) ?_ (fun k W => PJ (wPart X v c a) (nxk (entOf c).shape k 0) W) hJ0 (fun k W1 W2 h1 h2 => h1.below h2 hlt) (fun k hk W1 h1 => ?_)).mono ?_
  · have h1 := con_len h.may h.ok
    have hw := h.wt
    unfold conT at h1
    simp only [List.length_append] at h1
    omega
  · have hle := nxk_le (sh := (entOf c).shape) (nx := 0) k (by omega)
    have := part1_any hP hp2 (nxk (entOf c).shape k 0) (by omega) ((entOf c).shape.getD k 0) (f3 _ (by
      rw [List.getD_eq_getElem?_getD, List.getElem?_eq_getElem hk]
      exact List.getElem_mem hk)) W1 h1 (part_at _ 0 k hk f1)
    rw [parts_at _ 0 k hk, nxk_step hk]
    exact this
  · rintro e w' ⟨h1, h2, -⟩
    exact ⟨h1, hX.trans (h2.1.mono hX.size)⟩

abbrev clos (p : Nat) : Value := .func (.func 81) #[] #[.pointer (some ⟨p + 2, 0, none⟩), .pointer (some ⟨p + 1, 0, none⟩), .pointer (some ⟨p, 0, none⟩)]
theorem con_listA {w1 w2 : World} {a cb : Nat} {v : ConV} {y : Sl} {c : ConL} {names : List Bs} {sS : ByteArray} (hs : sS = ⟨(entOf c).shape.toArray⟩) (hb : Below w1.heap.size w1 (Lib.bytesWorld w2 5 sS)) (h : CIn (Lib.bytesWorld w2 5 sS) a v y c names) :
    Calls Tryz.prog 54 #[.string ⟨#[40]⟩, .slice (some ⟨w2.heap.size, 0, none⟩) sS.size cb, .string ⟨#[41]⟩, clos (Lib.bytesWorld w2 5 sS).heap.size] ((wPart (Lib.bytesWorld w2 5 sS) v c a).alloc (.cells #[.int .i64 0] 3)) fun e w' => e = .returned (.string (txt (brT 40 41 (partsT names c 0 (entOf c).shape)))) ∧ Below w1.heap.size w1 w' := by
  have hz : sS.size = (entOf c).shape.length := by rw [hs]; simp [ByteArray.size]
  rw [hz]
  refine (con_list h (Below.refl _ _) ?_).mono fun _ _ ⟨h1, h2⟩ => ⟨h1, hb.trans (h2.mono hb.size)⟩
  have hn : IsBts (Lib.bytesWorld w2 5 sS) w2.heap.size (entOf c).shape := by rw [hs]; exact bts_new w2 _
  have b1 := below1 (Lib.bytesWorld w2 5 sS) (conO v c)
  have b2 := b1.trans ((below1 ((Lib.bytesWorld w2 5 sS).alloc (conO v c)) (nameO a)).mono b1.size)
  have b3 := b2.trans ((below1 (wPart (Lib.bytesWorld w2 5 sS) v c a) (.cells #[.int .i64 0] 3)).mono b2.size)
  exact hn.keeps (Keeps.of b3)
theorem con_listB {w1 w2 : World} {a cb : Nat} {v : ConV} {y : Sl} {c : ConL} {names : List Bs} {sS : ByteArray} (hs : sS = ⟨(entOf c).shape.toArray⟩) (hb : Below w1.heap.size w1 w2) (h : CIn w2 a v y c names) :
    Calls Tryz.prog 54 #[.string ⟨#[40]⟩, .slice (some ⟨((wPart w2 v c a).alloc (.cells #[.int .i64 0] 3)).heap.size, 0, none⟩) sS.size cb, .string ⟨#[41]⟩, clos w2.heap.size] (Lib.bytesWorld ((wPart w2 v c a).alloc (.cells #[.int .i64 0] 3)) 5 sS) fun e w' => e = .returned (.string (txt (brT 40 41 (partsT names c 0 (entOf c).shape)))) ∧ Below w1.heap.size w1 w' := by
  have hz : sS.size = (entOf c).shape.length := by rw [hs]; simp [ByteArray.size]
  rw [hz]
  refine (con_list h (below_bytes _ _) ?_).mono fun _ _ ⟨h1, h2⟩ => ⟨h1, hb.trans (h2.mono hb.size)⟩
  rw [hs]
  exact bts_new _ _
theorem con_listC {w1 w2 : World} {a cb : Nat} {v : ConV} {y : Sl} {c : ConL} {names : List Bs} {sS : ByteArray} (hs : sS = ⟨(entOf c).shape.toArray⟩) (hb : Below w1.heap.size w1 w2) (h : CIn w2 a v y c names) :
    Calls Tryz.prog 54 #[.string ⟨#[40]⟩, .slice (some ⟨w2.heap.size + 1 + 1 + 1, 0, none⟩) sS.size cb, .string ⟨#[41]⟩, clos w2.heap.size] (Lib.bytesWorld ((wPart w2 v c a).alloc (.cells #[.int .i64 0] 3)) 5 sS) fun e w' => e = .returned (.string (txt (brT 40 41 (partsT names c 0 (entOf c).shape)))) ∧ Below w1.heap.size w1 w' := by
  have := con_listB (cb := cb) hs hb h
  have e : ((wPart w2 v c a).alloc (.cells #[.int .i64 0] 3)).heap.size = w2.heap.size + 1 + 1 + 1 := by simp
  rw [e] at this
  exact this
end Go.Proofs.YtgemgmdnnjaghaaGreatDoor

/- Contract: Print of a model that may be, given a constraint's line. -/
namespace Go.Proofs.YtgemgmdnnjaghaaGreatDoor
open Go.RowKit Go.Sort

def SV (ls : List Bs) : List Value := ls.map fun b => Value.string (txt b)
theorem SV_snoc (ls : List Bs) (b : Bs) : SV ls ++ [.string (txt b)] = SV (ls ++ [b]) := by simp [SV]
theorem join_lines : ∀ ls : List Bs, Lib.join (ls ++ [[]]) [10] = (ls.map (· ++ [10])).flatten
  | [] => rfl
  | [a] => by simp [Lib.join_cons, Lib.joinTail]
  | a :: b :: ls => by
    have ih := join_lines (b :: ls)
    rw [List.cons_append, Lib.join_cons] at ih ⊢
    simp only [List.map_cons, List.flatten_cons, Lib.joinTail, List.cons_append] at ih ⊢
    rw [← ih]
    simp
theorem zip_at {names : List Bs} {doms : List (List Int)} (hl : names.length = doms.length) {k : Nat} (hk : k < doms.length) : ((names.zip doms).map varT).take (k + 1) = ((names.zip doms).map varT).take k ++ [varT (names.getD k [], doms.getD k [])] := by
  have hz : k < (names.zip doms).length := by rw [List.length_zip]; omega
  rw [List.take_add_one, List.getElem?_map, List.getElem?_eq_getElem hz, List.getElem_zip, List.getD_eq_getElem?_getD, List.getElem?_eq_getElem (by omega : k < names.length), List.getD_eq_getElem?_getD, List.getElem?_eq_getElem hk]
  rfl

set_option maxHeartbeats 4000000 in
set_option maxRecDepth 100000 in
theorem print_of (v : ModV) (m : ModL) (w : World) (hE : EntIn w) (hP : PowIn w) (hI : ModIn w v m) (hck : checkE m = (-1, 0)) (hwt : wtM m ≤ 50000)
    (hcon : ∀ (c : ConL) (u : ConV) (a : Nat) (W : World), CIn W a u v.n c m.names → Calls Tryz.prog 22 #[u.val c.kind c.K, nameF a] W fun e w' => e = .returned (.string (txt (conT m.names c))) ∧ Below W.heap.size W w') :
    Calls Tryz.prog 8 #[v.val m.goal m.obj] w fun e w' => e = .returned (.tuple #[.string (txt (printT m)), .int .i64 0]) ∧ Below w.heap.size w w' := by
  have hm := mod_ok hck
  obtain ⟨i0, hi, hz0, hz1, hz2⟩ := info_parts infoStr9
  have HCON := Lib.hid hcon
  clear hcon
  have bA := below1 w (modT v m.goal m.obj)
  have CC := Lib.hid (check_any v m (w.alloc (modT v m.goal m.obj)) (hE.below bA) (hI.below bA))
  rw [hck] at CC
  have HBA := Lib.hid bA
  have HI := Lib.hid hI
  have HE := Lib.hid hE
  have HP := Lib.hid hP
  have HM := Lib.hid hm
  clear bA hI hE hP hm
  go_enter Tryz.func8, Tryz.ntmps8
  go_wp2_with fail
  refine CC.out.mono ?_
  rintro e w1 ⟨rfl, b1⟩
  have hlt : w.heap.size < w1.heap.size := by have := b1.size; simp at this; omega
  have B1 := Lib.hid (HBA.out.trans (b1.mono HBA.out.size))
  have HX : Hid (∀ W, Below w1.heap.size w1 W → W.cell? ⟨w.heap.size, 0, none⟩ = some (.slice v.n.A v.n.n v.n.c) ∧ W.cell? ⟨w.heap.size, 1, none⟩ = some (.slice v.d.A v.d.n v.d.c) ∧ W.cell? ⟨w.heap.size, 2, none⟩ = some (.slice v.c.A v.c.n v.c.c) ∧ W.cell? ⟨w.heap.size, 3, none⟩ = some (.int .i64 m.goal) ∧ W.cell? ⟨w.heap.size, 4, none⟩ = some (.int .i64 m.obj)) := Lib.hid (fun W hW => by
    refine ⟨?_, ?_, ?_, ?_, ?_⟩ <;> rw [hW.cell (p := ⟨w.heap.size, _, none⟩) hlt, b1.cell (by simp)] <;> simp)
  obtain ⟨x0, x1, x2, x3, x4⟩ := HX.out w1 (Below.refl _ _)
  clear b1 CC HBA hlt
  go_wp2_with fail
  refine (naming_any v.n w1).mono ?_
  rintro e w2 ⟨rfl, rfl⟩
  have bn := below1 w1 (namesO v.n)
  obtain ⟨w2, hw2⟩ : ∃ w2, w2 = w1.alloc (namesO v.n) := ⟨_, rfl⟩
  have hna : w2.cell? ⟨w1.heap.size, 0, none⟩ = some (.slice v.n.A v.n.n v.n.c) := by rw [hw2]; simp
  rw [← hw2] at bn ⊢
  have HNA := Lib.hid hna
  have HBN := Lib.hid bn
  have B2 := Lib.hid (B1.out.trans (bn.mono B1.out.size))
  obtain ⟨y0, y1, y2, y3, y4⟩ := HX.out w2 bn
  clear hw2 bn hna x0 x1 x2 x3 x4 B1
  have HDL : Hid (v.d.n = m.doms.length) := Lib.hid HI.out.d.len
  have hdn : v.d.n ≤ 256 := by have := HM.out.n256; have := HM.out.len; have := HDL.out; omega
  have HIW : Hid (∀ W, Below w2.heap.size w2 W → ModIn W v m ∧ PowIn W ∧ EntIn W ∧ W.cell? ⟨w1.heap.size, 0, none⟩ = some (.slice v.n.A v.n.n v.n.c)) := Lib.hid (fun W hW => by
    have hb := B2.out.trans (hW.mono B2.out.size)
    exact ⟨HI.out.below hb, HP.out.below hb, HE.out.below hb, (hW.cell (World.block_lt_of_cell? w2 _ HNA.out)).trans HNA.out⟩)
  have eN := eNaming1
  have HWT := Lib.hid hwt
  clear hwt hck
  go_wp2_with fail
  go_loopw [7, 26] (fun lv i wr => ∃ k : Nat, k ≤ v.d.n ∧ i = .int .i64 (k : Nat) ∧ wr.ownsRow w2.heap.size 9 1 lv k (SV (((m.names.zip m.doms).map varT).take k)) ∧ Hid (Below w2.heap.size w2 wr)) (fun _ i _ => v.d.n - (intOf i).toNat)
  case atStart => exact ⟨0, by omega, rfl, World.ownsRow_nil _ _ _ _, Lib.hid (Below.refl _ _)⟩
  case round =>
    obtain ⟨k, hk, rfl, hown, HB⟩ := hrel
    by_cases hlt : k < v.d.n
    · obtain ⟨hIr, hPr, hEr, hnr⟩ := HIW.out wr HB.out
      have hkd : k < m.doms.length := by rw [← HDL.out]; exact hlt
      have hkn : k < m.names.length := by rw [HM.out.len]; exact hkd
      obtain ⟨ad, e1, hbk, hcl⟩ := hIr.d.lies (by omega)
      obtain ⟨u, hu1, hu2⟩ := hcl k hlt
      have hdm : m.doms.getD k [] ∈ m.doms := by
        rw [List.getD_eq_getElem?_getD, List.getElem?_eq_getElem hkd]
        exact List.getElem_mem hkd
      have hdw : dwt (m.doms.getD k []) ≤ 50000 := by
        have h1 := tot_le dwt hdm
        have h2 := HWT.out
        unfold wtM at h2
        omega
      have hdl := dom_len (HM.out.dom _ hdm)
      have CD := Lib.hid (tdomain_any u (m.doms.getD k []) wr hPr hu2 (HM.out.dom _ hdm) (hIr.short _ hdm) (by omega))
      have CN : Hid (∀ W, Below wr.heap.size wr W → Calls Tryz.prog 50 (#[.int .i64 (k : Int)] ++ #[.pointer (some ⟨w1.heap.size, 0, none⟩)]) W fun e w' => e = .returned (.string (txt (m.names.getD k []))) ∧ Below W.heap.size W w') := Lib.hid (fun W hW => by
        have := naming1_any (k : Int) v.n m.names w1.heap.size W (hIr.n.below hW) ((hW.cell (World.block_lt_of_cell? wr _ hnr)).trans hnr) (by omega) (by omega)
        unfold nmV at this
        simpa using this)
      have hq1 : (txt (domT (m.doms.getD k []))).size ≤ 1300000 := by rw [txt_size]; omega
      have hq2 : (txt (m.names.getD k [])).size ≤ 32 := by
        rw [txt_size]
        refine name_len HM.out.may ?_
        rw [List.getD_eq_getElem?_getD, List.getElem?_eq_getElem hkn]
        exact List.getElem_mem hkn
      have HZ := Lib.hid (zip_at HM.out.len hkd)
      have HX9 : Hid ((⟨#[118, 97, 114, 32]⟩ : ByteArray) ++ txt (domT (m.doms.getD k [])) ++ ⟨#[58, 32]⟩ ++ txt (m.names.getD k []) ++ ⟨#[59]⟩ = txt (varT (m.names.getD k [], m.doms.getD k []))) := Lib.hid (bl_inj (by
        rw [bl_append', bl_append', bl_append', bl_append', bl_txt, bl_txt, bl_txt]
        rfl))
      rw [e1] at y1
      have HO := Lib.hid hown
      have hu1' := hu1
      clear hIr hPr hEr hnr hcl hbk hu2 hdm hdw hdl hkd hkn hown hu1
      generalize txt (domT (m.doms.getD k [])) = q1 at CD hq1 HX9
      generalize txt (m.names.getD k []) = q2 at CN hq2 HX9
      generalize hL : varT (m.names.getD k [], m.doms.getD k []) = L at HX9 HZ
      clear hL
      rw [e1]
      go_wp2_with fail
      refine CD.out.mono ?_
      rintro e w3 ⟨rfl, b3⟩
      have B3 := Lib.hid b3
      clear b3 CD
      go_wp2_with fail
      refine (CN.out w3 B3.out).mono ?_
      rintro e w4 ⟨rfl, b4⟩
      have b34 := B3.out.trans (b4.mono B3.out.size)
      have hown4 := own_below HO.out b34
      have hb4 := HB.out.trans (b34.mono HB.out.size)
      clear b4 b34 B3 CN HO HB
      go_wp2_with (at_builtin; refine wpList_append_own _ rfl _ _ 26 rfl w2.heap.size 9 i0 (.string ⟨#[]⟩) 1 16 Tryz.underlying26 hi hz0 hz1 hz2 rfl (by decide) _ _ _ rfl (hown4.alloc _) ⟨_, 0, none⟩ 1 1 [.string (⟨#[118, 97, 114, 32]⟩ ++ q1 ++ ⟨#[58, 32]⟩ ++ q2 ++ ⟨#[59]⟩)] rfl rfl ?c1 ?c2 ?c3 ?c4 ?c5 ?_)
      case c1 => intro j u hj; match j, hj with | 0, hj => simp at hj; subst hj; simp [Addr.add]
      case c2 => intro u hu; simp at hu; subst hu; rfl
      case c3 => unfold maxLen; omega
      case c4 => omega
      case c5 => have := hb4.size; simp; omega
      intro v' w5 hown5 hgrow _
      have hb5 : Below w2.heap.size w2 w5 := (hb4.alloc hb4.size _).grown hgrow (by have := hb4.size; simp; omega) (fun k hk => own_ge hown4 k hk)
      rw [HX9.out, SV_snoc, ← HZ.out] at hown5
      have HO5 := Lib.hid hown5
      have HB5 := Lib.hid hb5
      clear hown4 hown5 hgrow hb4 hb5 HZ HX9
      go_wp2_with fail
      go_roundw
      case rel => exact ⟨k + 1, by omega, by go_num, HO5.out, HB5⟩
      case measure => simp [intOf]; omega
    · have hkn : k = v.d.n := by omega
      subst hkn
      have HVL : Hid (((m.names.zip m.doms).map varT).take v.d.n = (m.names.zip m.doms).map varT) := Lib.hid (List.take_of_length_le (by
        rw [List.length_map, List.length_zip, HDL.out]
        exact Nat.min_le_right _ _))
      rw [HVL.out] at hown
      have HO := Lib.hid hown
      have HCL : Hid (v.c.n = m.cons.length) := Lib.hid HI.out.c.len
      have hcn : v.c.n ≤ 1024 := by have := HM.out.c1024; have := HCL.out; omega
      obtain ⟨wo, rfl⟩ : ∃ wo, wo = wr := ⟨_, rfl⟩
      obtain ⟨t0, t1, t2, t3, t4⟩ := HX.out wo (HBN.out.trans (HB.out.mono HBN.out.size))
      clear hown hlt hk y0 y1 y2 y3 y4
      generalize hVV : (m.names.zip m.doms).map varT = VL at *
      have HVV := Lib.hid hVV
      clear hVV
      go_wp2_with fail
      go_loopw [7, 47] (fun lv i wr => ∃ k : Nat, k ≤ v.c.n ∧ i = .int .i64 (k : Nat) ∧ wr.ownsRow w2.heap.size 9 1 lv (v.d.n + k) (SV (VL ++ (m.cons.map (conT m.names)).take k)) ∧ Hid (Below w2.heap.size w2 wr)) (fun _ i _ => v.c.n - (intOf i).toNat)
      case atStart => exact ⟨0, by omega, rfl, by simpa using HO.out, HB⟩
      case round =>
        obtain ⟨k, hk, rfl, hown2, HB2⟩ := hrel
        by_cases hlt : k < v.c.n
        · obtain ⟨hIr, hPr, hEr, hnr⟩ := HIW.out wr HB2.out
          have hkc : k < m.cons.length := by rw [← HCL.out]; exact hlt
          obtain ⟨g, o, e1, hg, hcl⟩ := hIr.c.lies (by omega)
          obtain ⟨cv, hc8, hcin⟩ := hcl k hlt
          have hcm : m.cons.getD k noCon ∈ m.cons := by
            rw [List.getD_eq_getElem?_getD, List.getElem?_eq_getElem hkc]
            exact List.getElem_mem hkc
          have hwc : wtC (m.cons.getD k noCon) + 1 ≤ 50000 := by
            have h1 := tot_le (fun c => wtC c + 1) hcm
            have h2 := HWT.out
            unfold wtM at h2
            omega
          have hCI : CIn wr w1.heap.size cv v.n (m.cons.getD k noCon) m.names := ⟨hcin, hnr, hIr.n, hPr, hEr, HM.out.may, HM.out.con _ hcm, by omega⟩
          have HCC := Lib.hid (fun W (hW : Below wr.heap.size wr W) => HCON.out (m.cons.getD k noCon) cv w1.heap.size W (hCI.below hW))
          have hq : (txt (conT m.names (m.cons.getD k noCon))).size ≤ 20000000 := by
            have := con_len HM.out.may (HM.out.con _ hcm)
            rw [txt_size]
            omega
          have HZ : Hid ((m.cons.map (conT m.names)).take (k + 1) = (m.cons.map (conT m.names)).take k ++ [conT m.names (m.cons.getD k noCon)]) := Lib.hid (by
            rw [List.take_add_one, List.getElem?_map, List.getElem?_eq_getElem hkc, List.getD_eq_getElem?_getD, List.getElem?_eq_getElem hkc]
            rfl)
          have s0 : wr.cell? ⟨g, o + k * 8, none⟩ = some (.int .i64 (m.cons.getD k noCon).kind) := by simpa using hc8 0 (.int .i64 (m.cons.getD k noCon).kind) rfl
          have s1 := hc8 1 (.slice cv.a.A cv.a.n cv.a.c) rfl
          have s2 := hc8 2 (.slice cv.b.A cv.b.n cv.b.c) rfl
          have s3 := hc8 3 (.slice cv.c.A cv.c.n cv.c.c) rfl
          have s4 := hc8 4 (.slice cv.d.A cv.d.n cv.d.c) rfl
          have s5 := hc8 5 (.slice cv.e.A cv.e.n cv.e.c) rfl
          have s6 := hc8 6 (.int .i64 (m.cons.getD k noCon).K) rfl
          have s7 := hc8 7 (.slice cv.r.A cv.r.n cv.r.c) rfl
          have HO2 := Lib.hid hown2
          clear hIr hPr hEr hnr hcl hc8 hcin hCI hcm hwc hkc hg hown2
          generalize m.cons.getD k noCon = c at *
          generalize v.c.A = cA at *
          subst e1
          go_wp2_with fail
          have ba := below1 wr (conO cv c)
          refine (HCC.out _ ba).mono ?_
          rintro e w4 ⟨rfl, b4⟩
          have b34 := ba.trans (b4.mono ba.size)
          have hown4 := own_below HO2.out b34
          have hb4 := HB2.out.trans (b34.mono HB2.out.size)
          clear b4 b34 ba HCC HO2 HB2
          generalize hqq : txt (conT m.names c) = q at hq
          have HQQ := Lib.hid hqq
          clear hqq
          go_wp2_with (at_builtin; refine wpList_append_own _ rfl _ _ 26 rfl w2.heap.size 9 i0 (.string ⟨#[]⟩) 1 16 Tryz.underlying26 hi hz0 hz1 hz2 rfl (by decide) _ _ _ rfl (hown4.alloc _) ⟨_, 0, none⟩ 1 1 [.string q] rfl rfl ?c1 ?c2 ?c3 ?c4 ?c5 ?_)
          case c1 => intro j u hj; match j, hj with | 0, hj => simp at hj; subst hj; simp [Addr.add]
          case c2 => intro u hu; simp at hu; subst hu; rfl
          case c3 => unfold maxLen; omega
          case c4 => omega
          case c5 => have := hb4.size; simp; omega
          intro v' w5 hown5 hgrow _
          have hb5 : Below w2.heap.size w2 w5 := (hb4.alloc hb4.size _).grown hgrow (by have := hb4.size; simp; omega) (fun k hk => own_ge hown4 k hk)
          rw [← HQQ.out, SV_snoc, List.append_assoc, ← HZ.out] at hown5
          have HO5 := Lib.hid hown5
          have HB5 := Lib.hid hb5
          clear hown4 hown5 hgrow hb4 hb5 HZ HQQ
          go_wp2_with fail
          go_roundw
          case rel =>
            refine ⟨k + 1, by omega, by go_num, ?_, HB5⟩
            have := HO5.out
            rw [Nat.add_assoc] at this
            exact this
          case measure => simp [intOf]; omega
        · have hkn : k = v.c.n := by omega
          subst hkn
          rw [List.take_of_length_le (by rw [List.length_map, HCL.out]; exact Nat.le_refl _)] at hown2
          obtain ⟨hIr, hPr, hEr, hnr⟩ := HIW.out wr HB2.out
          obtain ⟨r0, r1, r2, r3, r4⟩ := HX.out wr (HBN.out.trans (HB2.out.mono HBN.out.size))
          have CG := Lib.hid (tgoal_any v m w1.heap.size wr hIr.n hnr HM.out)
          have HO2 := Lib.hid hown2
          clear hIr hPr hEr hnr hown2 hlt hk t0 t1 t2 t3 t4
          go_wp2_with fail
          refine CG.out.mono ?_
          rintro e w4 ⟨rfl, b4⟩
          have hown4 := own_below HO2.out b4
          have hb4 := HB2.out.trans (b4.mono HB2.out.size)
          clear b4 HO2 HB2 CG
          generalize hqq : txt (goalT m) = q
          have HQQ := Lib.hid hqq
          clear hqq
          go_wp2_with (at_builtin; refine wpList_append_own _ rfl _ _ 26 rfl w2.heap.size 9 i0 (.string ⟨#[]⟩) 1 16 Tryz.underlying26 hi hz0 hz1 hz2 rfl (by decide) _ _ _ rfl (hown4.alloc _) ⟨_, 0, none⟩ 2 2 [.string q, .string ⟨#[]⟩] rfl rfl ?c1 ?c2 ?c3 ?c4 ?c5 ?_)
          case c1 => intro j u hj; match j, hj with | 0, hj => simp at hj; subst hj; simp [Addr.add] | 1, hj => simp at hj; subst hj; simp [Addr.add]
          case c2 => intro u hu; simp at hu; rcases hu with rfl | rfl <;> rfl
          case c3 => unfold maxLen; omega
          case c4 => omega
          case c5 => have := hb4.size; simp; omega
          intro v' w5 hown5 hgrow _
          have hb5 : Below w2.heap.size w2 w5 := (hb4.alloc hb4.size _).grown hgrow (by have := hb4.size; simp; omega) (fun k hk => own_ge hown4 k hk)
          have hls : SV (VL ++ m.cons.map (conT m.names)) ++ [.string q, .string ⟨#[]⟩] = SV (linesT m ++ [[]]) := by
            unfold linesT
            rw [HVV.out, ← HQQ.out]
            simp [SV, txt]
          rw [hls] at hown5
          have hlen : (linesT m ++ [[]]).length = v.d.n + v.c.n + 2 := by
            unfold linesT
            have hl := HM.out.len
            have h1 := HDL.out
            have h2 := HCL.out
            simp only [List.length_append, List.length_map, List.length_zip, List.length_cons, List.length_nil]
            omega
          obtain ⟨g5, c5, e5, hc5⟩ : ∃ g5 c5, v' = .slice (some ⟨g5, 0, none⟩) (v.d.n + v.c.n + 2) c5 ∧ v.d.n + v.c.n + 2 ≤ c5 := by
            rcases hown5.2 with ⟨_, hz⟩ | ⟨g5, c5, cur, e, _, _, hn, _⟩
            · omega
            · exact ⟨g5, c5, e, hn⟩
          subst e5
          have hj := join_row g5 c5 (linesT m ++ [[]]) 10 w5 (fun j y hj => by
            have hjl := (List.getElem?_eq_some_iff.1 hj).1
            rw [hown5.cellAt j (by omega)]
            unfold SV
            rw [List.getElem?_map, hj]
            rfl) (own_lt hown5 rfl).2 (by omega) (by omega) (by
              rw [join_lines]
              have h1 := print_len HM.out
              have h2 := HWT.out
              unfold printT at h1
              omega)
          rw [hlen, join_lines] at hj
          have HJN := Lib.hid hj
          have HB5 := Lib.hid hb5
          clear hown4 hown5 hgrow hb4 hb5 hj hls hlen hc5 HQQ HVV
          go_wp2_with fail
          refine HJN.out.mono ?_
          rintro e w6 ⟨rfl, b6⟩
          have B6 := Lib.hid (B2.out.trans ((HB5.out.trans (b6.mono HB5.out.size)).mono B2.out.size))
          clear b6 HJN HB5
          go_wp2_with fail
          go_ret2
          exact ⟨rfl, B6.out⟩
end Go.Proofs.YtgemgmdnnjaghaaGreatDoor

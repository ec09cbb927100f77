/- The document's Make: what it makes, step by step; what its loops leave. No walk. -/
import Derived.Test.YtkhmocbfkpbpfaaGreatDoorExth0
import Derived.Test.YtkhmocbfkpbpfaaGreatDoorRg2
import Derived.Deep.RegionLaw
import Derived.Laws.AppendOwn
import Derived.Maps.AppendAt
namespace Go.Proofs.YtkhmocbfkpbpfaaGreatDoor
open Go.RowKit Go.Sort

abbrev smV (a b c : Sl) (k K ch : Int) : Value := .agg #[.int .u8 k, .slice a.A a.n a.c, .slice b.A b.n b.c, .slice c.A c.n c.c, .int .i16 K, .int .u8 ch]
abbrev smC (a b c : Sl) (k K ch : Int) : Array Value := #[.int .u8 k, .slice a.A a.n a.c, .slice b.A b.n b.c, .slice c.A c.n c.c, .int .i16 K, .int .u8 ch]
abbrev zeroC : Array Value := #[.int .i64 0, .slice none 0 0, .slice none 0 0, .slice none 0 0, .slice none 0 0, .slice none 0 0, .int .i64 0, .slice none 0 0]
abbrev bareA (kd : Int) : Array Value := #[.int .i64 kd, .slice none 0 0, .slice none 0 0, .slice none 0 0, .slice none 0 0, .slice none 0 0, .int .i64 0, .slice none 0 0]
abbrev mkBox (w : World) (z : Array Value) (kd : Int) : World := ((w.alloc (.cells z 26)).alloc (.cells zeroC 32)).alloc (.cells (bareA kd) 32)
theorem heap_new (w : World) (o : Obj) : (w.alloc o).heap[w.heap.size]? = some o := by
  show (w.heap.push o)[w.heap.size]? = some o
  simp
theorem mk_start (w : World) (z : Array Value) (kd : Int) : Mk w z zeroC (mkBox w z kd) noV (bareC kd) := by
  have e1 := heap_new w (.cells z 26)
  have e2 := heap_new (w.alloc (.cells z 26)) (.cells zeroC 32)
  have e3 := heap_new ((w.alloc (.cells z 26)).alloc (.cells zeroC 32)) (.cells (bareA kd) 32)
  have z1 : (w.alloc (.cells z 26)).heap.size = w.heap.size + 1 := by simp
  have z2 : ((w.alloc (.cells z 26)).alloc (.cells zeroC 32)).heap.size = w.heap.size + 1 + 1 := by simp
  rw [z1] at e2
  rw [z2] at e3
  refine ⟨⟨((below1 w _).alloc (by simp) _).alloc (by simp; omega) _, ?_, ?_, e3⟩, MkR.none _ _ _⟩
  · rw [Below.heap_alloc _ _ _ (by rw [z2]; omega), Below.heap_alloc _ _ _ (by rw [z1]; omega)]
    exact e1
  · rw [Below.heap_alloc _ _ _ (by rw [z2]; omega)]
    exact e2

theorem infoSl' : (Tryz.prog.info? 30).map (fun i => (i.zero, i.size, i.bytes)) = some (some (.slice none 0 0), 1, 24) := by kernel_rfl
theorem bl_mk (b : Bs) : bl ⟨b.toArray⟩ = b := by simp [bl]
theorem shapes_short (k : Nat) (h : k < 24) : (shapesL.getD k []).length ≤ 4 := by
  have : ∀ k, k < 24 → (shapesL.getD k []).length ≤ 4 := by decide +kernel
  exact this k h
theorem count_small (sh : Bs) (h : sh.length ≤ 4) (c : UInt8) : sh.count c ≤ 4 := Nat.le_trans List.count_le_length h

def mkN0 (l : List Int) : Nat := if l.length < 1 then 1 else if 4 < l.length then 4 else l.length
theorem mkN0_in (l : List Int) : 1 ≤ mkN0 l ∧ mkN0 l ≤ 4 := by unfold mkN0; split <;> (try split) <;> omega
def s1 (la : List Int) (vars : Int) (n : Nat) (kd : Int) : ConL := { bareC kd with A := mkL (plcE la vars) n }
def s2 (lb : List Int) (vars : Int) (cw : Nat) (c : ConL) : ConL := if 0 < cw then { c with B := mkL (plcE lb vars) 1 } else c
def s3 (lb : List Int) (vars : Int) (cW n : Nat) (c : ConL) : ConL := if 0 < cW then { c with B := mkL (plcE lb vars) n } else c
def s4 (lc : List Int) (cc n : Nat) (c : ConL) : ConL := if 0 < cc then { c with C := mkL (numE lc 0 (-1) 5) n } else c
def s5 (lc : List Int) (c : ConL) : ConL := if c.kind = 11 then { c with C := mkL (numE lc 0 (-1) 5) (1 + lc.length % 5) } else c
def s6 (K : Int) (ck : Nat) (c : ConL) : ConL := if 0 < ck then { c with K := K.tmod 12 } else c
def negI (k : Int) : Int := if k < 0 then -k else k
def s7 (lc : List Int) (n : Nat) (c : ConL) : ConL := if c.kind = 19 then { c with C := mkL (numE lc 0 0 4) n, D := mkL (numE lc n 0 4) n, K := negI c.K } else c
def gcF (K : Int) (i : Nat) : Int := K.tmod 3 + (i : Int)
def geF (lc : List Int) (ch : Int) (i : Nat) : Int := numE lc 0 0 2 i + (ch / 2 ^ i).tmod 3
def s8 (lc : List Int) (K ch : Int) (c : ConL) : ConL := if c.kind = 21 then { c with C := mkL (gcF K) (1 + lc.length % 3), D := mkL (numE lc 0 0 2) (1 + lc.length % 3), E := mkL (geF lc ch) (1 + lc.length % 3) } else c
def rowF (lc : List Int) (n i : Nat) : List Int := mkL (numE lc (i * n) (-1) 4) n
def s9 (lc : List Int) (n : Nat) (c : ConL) : ConL := if c.kind = 18 then { c with rows := (List.range (1 + lc.length % 6)).map (rowF lc n) } else c
/-- What the document's Make makes. -/
def makeE (la lb lc : List Int) (k K ch vars : Int) : ConL :=
  let kn := (1 + k.tmod 23).toNat
  let sh := shapesL.getD kn []
  let n := if 0 < sh.count 118 then sh.count 118 else mkN0 la
  s9 lc n (s8 lc K ch (s7 lc n (s6 K (sh.count 107) (s5 lc (s4 lc (sh.count 99) n (s3 lb vars (sh.count 87) n (s2 lb vars (sh.count 119) (s1 la vars n (kn : Int)))))))))
theorem makeE_eq (la lb lc : List Int) (k K ch vars : Int) (kn : Nat) (sh : Bs) (hk : (kn : Int) = 1 + k.tmod 23) (hs : sh = shapesL.getD kn []) :
    makeE la lb lc k K ch vars = s9 lc (if 0 < sh.count 118 then sh.count 118 else mkN0 la) (s8 lc K ch (s7 lc (if 0 < sh.count 118 then sh.count 118 else mkN0 la) (s6 K (sh.count 107) (s5 lc (s4 lc (sh.count 99) (if 0 < sh.count 118 then sh.count 118 else mkN0 la) (s3 lb vars (sh.count 87) (if 0 < sh.count 118 then sh.count 118 else mkN0 la) (s2 lb vars (sh.count 119) (s1 la vars (if 0 < sh.count 118 then sh.count 118 else mkN0 la) (kn : Int))))))))) := by
  subst hs
  obtain rfl : kn = (1 + k.tmod 23).toNat := by omega
  rfl
theorem s2_kind {lb vars cw c} : (s2 lb vars cw c).kind = c.kind := by unfold s2; split <;> rfl
theorem s3_kind {lb vars cw n c} : (s3 lb vars cw n c).kind = c.kind := by unfold s3; split <;> rfl
theorem s4_kind {lc cc n c} : (s4 lc cc n c).kind = c.kind := by unfold s4; split <;> rfl
theorem s5_kind {lc c} : (s5 lc c).kind = c.kind := by unfold s5; split <;> rfl
theorem s6_kind {K ck c} : (s6 K ck c).kind = c.kind := by unfold s6; split <;> rfl
theorem s7_kind {lc n c} : (s7 lc n c).kind = c.kind := by unfold s7; split <;> rfl
theorem s8_kind {lc K ch c} : (s8 lc K ch c).kind = c.kind := by unfold s8; split <;> rfl
theorem s9_kind {lc n c} : (s9 lc n c).kind = c.kind := by unfold s9; split <;> rfl
theorem s2_K {lb vars cw c} : (s2 lb vars cw c).K = c.K := by unfold s2; split <;> rfl
theorem s3_K {lb vars cw n c} : (s3 lb vars cw n c).K = c.K := by unfold s3; split <;> rfl
theorem s4_K {lc cc n c} : (s4 lc cc n c).K = c.K := by unfold s4; split <;> rfl
theorem s5_K {lc c} : (s5 lc c).K = c.K := by unfold s5; split <;> rfl
theorem k_small {la lb lc : List Int} {K vars : Int} {n cw cW cc ck : Nat} {kd : Int} : -12 < (s6 K ck (s5 lc (s4 lc cc n (s3 lb vars cW n (s2 lb vars cw (s1 la vars n kd)))))).K ∧ (s6 K ck (s5 lc (s4 lc cc n (s3 lb vars cW n (s2 lb vars cw (s1 la vars n kd)))))).K < 12 := by
  unfold s6
  split
  · exact tmod_in K 12 (by omega)
  · rw [s5_K, s4_K, s3_K, s2_K]
    simp [s1]
/-- Small lists. -/
def Slim (c : ConL) : Prop := c.A.length ≤ 1000000 ∧ c.B.length ≤ 1000000 ∧ c.C.length ≤ 1000000 ∧ c.D.length ≤ 1000000 ∧ c.E.length ≤ 1000000 ∧ c.rows.length ≤ 1000000 ∧ ∀ r ∈ c.rows, r.length ≤ 1000000
theorem slim_all {la lb lc : List Int} {K ch vars : Int} {n cw cW cc ck : Nat} {kd : Int} (hn : n ≤ 1000) : Slim (s9 lc n (s8 lc K ch (s7 lc n (s6 K ck (s5 lc (s4 lc cc n (s3 lb vars cW n (s2 lb vars cw (s1 la vars n kd))))))))) := by
  have h1 : Slim (s1 la vars n kd) := ⟨by simp only [s1, mkL_len]; omega, by simp [s1], by simp [s1], by simp [s1], by simp [s1], by simp [s1], by simp [s1]⟩
  have h2 : ∀ c, Slim c → Slim (s2 lb vars cw c) := fun c h => by
    unfold s2; split
    · exact ⟨h.1, by simp only [mkL_len]; omega, h.2.2⟩
    · exact h
  have h3 : ∀ c, Slim c → Slim (s3 lb vars cW n c) := fun c h => by
    unfold s3; split
    · exact ⟨h.1, by simp only [mkL_len]; omega, h.2.2⟩
    · exact h
  have h4 : ∀ c, Slim c → Slim (s4 lc cc n c) := fun c h => by
    unfold s4; split
    · exact ⟨h.1, h.2.1, by simp only [mkL_len]; omega, h.2.2.2⟩
    · exact h
  have h5 : ∀ c, Slim c → Slim (s5 lc c) := fun c h => by
    unfold s5; split
    · exact ⟨h.1, h.2.1, by simp only [mkL_len]; omega, h.2.2.2⟩
    · exact h
  have h6 : ∀ c, Slim c → Slim (s6 K ck c) := fun c h => by
    unfold s6; split <;> exact h
  have h7 : ∀ c, Slim c → Slim (s7 lc n c) := fun c h => by
    unfold s7; split
    · exact ⟨h.1, h.2.1, by simp only [mkL_len]; omega, by simp only [mkL_len]; omega, h.2.2.2.2⟩
    · exact h
  have h8 : ∀ c, Slim c → Slim (s8 lc K ch c) := fun c h => by
    unfold s8; split
    · exact ⟨h.1, h.2.1, by simp only [mkL_len]; omega, by simp only [mkL_len]; omega, by simp only [mkL_len]; omega, h.2.2.2.2.2⟩
    · exact h
  have h9 : ∀ c, Slim c → Slim (s9 lc n c) := fun c h => by
    unfold s9; split
    · refine ⟨h.1, h.2.1, h.2.2.1, h.2.2.2.1, h.2.2.2.2.1, by simp; omega, fun r hr => ?_⟩
      simp only [List.mem_map, List.mem_range] at hr
      obtain ⟨i, _, rfl⟩ := hr
      unfold rowF
      rw [mkL_len]
      omega
    · exact h
  exact h9 _ (h8 _ (h7 _ (h6 _ (h5 _ (h4 _ (h3 _ (h2 _ h1)))))))

theorem new1_cells' (W : World) (v : Value) (ty : TypeId) : ∀ j u, [v][j]? = some u → (W.alloc (.cells #[v] ty)).cell? ((⟨W.heap.size, 0, none⟩ : Addr).add j) = some u := by
  intro j u hj
  match j, hj with
  | 0, hj => simp at hj; subst hj; simp [Addr.add]
  | j + 1, hj => simp at hj
theorem int_one' (y : Int) : ∀ u ∈ [Value.int .i64 y], u.oneCell' = true := by
  intro u hu
  rw [List.mem_singleton.1 hu]
  rfl
theorem slice_one' (A : Option Addr) (n c : Nat) : ∀ u ∈ [Value.slice A n c], u.oneCell' = true := by
  intro u hu
  rw [List.mem_singleton.1 hu]
  rfl
/-- append onto a row of one's own, in a region that draws its order. -/
theorem step_append_own {P : Program} {ops : Array Oper} {o : Oper} {a : Act} {w : World} {K : Act → World → Prop} {Q : Exit → Act → World → Prop} {E : Prop}
    (hg : o.guard = none) (s x : Operand) (t : TypeId) (hop : o.op = Op.call { callee := Callee.builtin Builtin.append, args := #[s, x], argTypes := #[t, t] })
    (base : Nat) (e : TypeId) (i : TypeInfo) (z : Value) (size bytes : Nat) (ht : P.underlying t = some (.slice e)) (hi : P.info? e = some i) (hz : i.zero = some z)
    (hsize : i.size = size) (hby : i.bytes = bytes) (hzs : z.cells.size = size) (hsz : 0 < size)
    (v : Value) (n : Nat) (xs : List Value) (hs : a.eval s = v) (hown : w.ownsRow base e size v n xs)
    (ad : Addr) (c : Nat) (news : List Value) (hx : a.eval x = .slice (some ad) 1 c) (hl : news.length = 1 * size) (hnews : ∀ j u, news[j]? = some u → w.cell? (ad.add j) = some u) (h1 : ∀ u ∈ news, u.oneCell' = true)
    (h63 : n + 1 ≤ maxLen) (hbytes : (n + 1) * bytes ≤ 140737488355328) (hbase : base ≤ w.heap.size)
    (hK : ∀ v' w', w'.ownsRow base e size v' (n + 1) (xs ++ news) → w.grownBy w' v.ownBlock → K (a.put o.dst v') w') :
    if Region.wanted o (yielded ops a.tmps) = true then Oper.wp P o a w K Q else E := by
  have hw : Region.wanted o (yielded ops a.tmps) = true := by simp [Region.wanted, hg]
  rw [if_pos hw]
  obtain ⟨v', w', hr, h2, h3, h4, h5⟩ := run_append_own_at (P := P) w base t o.type e i z size bytes ht hi hz hsize hby hzs hsz v n xs hown ad 1 c news hl hnews h1 h63 hbytes hbase
  unfold Oper.wp
  simp [execOp, hop, resolve, invoke, builtin, hs, hx, hr, Result.andThen]
  exact hK v' w' h2 h3

theorem row_cell {W : World} {b : Nat} {y : Sl} {L : List Int} (h : Row3 W b y L) {k : Nat} (hk : k < L.length) : ∃ ad, y.A = some ad ∧ y.n = L.length ∧ ad.block < W.heap.size ∧ W.cell? (ad.add k) = some (.int .i64 (L.getD k 0)) := by
  obtain ⟨A, n, c⟩ := y
  obtain ⟨A', c', e, hL, hc⟩ := own_lies h
  simp only [Value.slice.injEq] at e
  obtain ⟨rfl, rfl, rfl⟩ := e
  obtain ⟨ad, rfl, hb, hcl⟩ := hL (by omega)
  exact ⟨ad, rfl, rfl, hb, hcl k hk⟩
theorem makeE_slim (la lb lc : List Int) (k K ch vars : Int) : Slim (makeE la lb lc k K ch vars) := by
  unfold makeE
  refine slim_all ?_
  have h4 : (shapesL.getD (1 + k.tmod 23).toNat []).length ≤ 4 := by
    by_cases h : (1 + k.tmod 23).toNat < 24
    · exact shapes_short _ h
    · rw [List.getD_eq_getElem?_getD, List.getElem?_eq_none (by rw [show shapesL.length = 24 from rfl]; omega)]
      simp
  have := count_small _ h4 118
  have := mkN0_in la
  split <;> omega
/-! Rows that grow, behind a world in which the loop began. -/
section
variable {w wl wr w7 : World} {z o : Array Value} {v : ConV} {c : ConL}
theorem Mk.after (h : Mk w z o wl v c) (k : Kp (w.heap.size + 1 + 1) wl w7) : MkR (w.heap.size + 1 + 1 + 1) w7 v c := h.rows.kp k (by omega)
theorem box_grown' {g : Nat} {t : Obj} {u : Array Value} {ty : TypeId} {row : Option Nat} (hb : wr.heap[g]? = some (.cells u ty (0, 0))) (hg : (wr.alloc t).grownBy w7 row) (hr : ∀ k, row = some k → g ≠ k) : w7.heap[g]? = some (.cells u ty (0, 0)) := by
  have hlt : g < wr.heap.size := (Array.getElem?_eq_some_iff.1 hb).1
  exact (hg.block g (by simp; omega) (fun e => hr g e.symm rfl)).trans ((Below.heap_alloc _ _ _ hlt).trans hb)
theorem Mk.growC (h : Mk w z o wl v c) (k : Kp (w.heap.size + 1 + 1) wl wr) {y y' : Sl} {L L' : List Int} (hb : wr.heap[w.heap.size + 1 + 1]? = some (.cells (({ v with c := y } : ConV).cells c.kind c.K) 32 (0, 0)))
    (hO : Row3 wr wl.heap.size y L) {t : Obj} (hg : (wr.alloc t).grownBy w7 (Value.slice y.A y.n y.c).ownBlock) (hO7 : Row3 w7 wl.heap.size y' L') :
    w7.heap[w.heap.size + 1 + 1]? = some (.cells (({ v with c := y } : ConV).cells c.kind c.K) 32 (0, 0)) ∧ Kp (w.heap.size + 1 + 1) wl (w7.setCell ⟨w.heap.size + 1 + 1, 3, none⟩ (.slice y'.A y'.n y'.c)) ∧
    (w7.setCell ⟨w.heap.size + 1 + 1, 3, none⟩ (.slice y'.A y'.n y'.c)).heap[w.heap.size + 1 + 1]? = some (.cells (({ v with c := y' } : ConV).cells c.kind c.K) 32 (0, 0)) ∧ Row3 (w7.setCell ⟨w.heap.size + 1 + 1, 3, none⟩ (.slice y'.A y'.n y'.c)) wl.heap.size y' L' := by
  have hs := h.size
  have hb7 := box_grown' hb hg (fun k e => by have := (own_lt' hO e).1; omega)
  have k7 : Kp (w.heap.size + 1 + 1) wl w7 := (k.alloc t).grown hg (fun j e => (own_lt' hO e).1)
  exact ⟨hb7, k7.put 3 _, box_put hb7, hO7.kp ((Kp.refl (w.heap.size + 1 + 1) w7).put 3 _) (by omega)⟩
theorem Mk.growE (h : Mk w z o wl v c) (k : Kp (w.heap.size + 1 + 1) wl wr) {y y' : Sl} {L L' : List Int} (hb : wr.heap[w.heap.size + 1 + 1]? = some (.cells (({ v with e := y } : ConV).cells c.kind c.K) 32 (0, 0)))
    (hO : Row3 wr wl.heap.size y L) {t : Obj} (hg : (wr.alloc t).grownBy w7 (Value.slice y.A y.n y.c).ownBlock) (hO7 : Row3 w7 wl.heap.size y' L') :
    w7.heap[w.heap.size + 1 + 1]? = some (.cells (({ v with e := y } : ConV).cells c.kind c.K) 32 (0, 0)) ∧ Kp (w.heap.size + 1 + 1) wl (w7.setCell ⟨w.heap.size + 1 + 1, 5, none⟩ (.slice y'.A y'.n y'.c)) ∧
    (w7.setCell ⟨w.heap.size + 1 + 1, 5, none⟩ (.slice y'.A y'.n y'.c)).heap[w.heap.size + 1 + 1]? = some (.cells (({ v with e := y' } : ConV).cells c.kind c.K) 32 (0, 0)) ∧ Row3 (w7.setCell ⟨w.heap.size + 1 + 1, 5, none⟩ (.slice y'.A y'.n y'.c)) wl.heap.size y' L' := by
  have hs := h.size
  have hb7 := box_grown' hb hg (fun k e => by have := (own_lt' hO e).1; omega)
  have k7 : Kp (w.heap.size + 1 + 1) wl w7 := (k.alloc t).grown hg (fun j e => (own_lt' hO e).1)
  exact ⟨hb7, k7.put 5 _, box_put hb7, hO7.kp ((Kp.refl (w.heap.size + 1 + 1) w7).put 5 _) (by omega)⟩
theorem Mk.end_c (h : Mk w z o wl v c) (k : Kp (w.heap.size + 1 + 1) wl wr) {y : Sl} {L : List Int} (hb : wr.heap[w.heap.size + 1 + 1]? = some (.cells (({ v with c := y } : ConV).cells c.kind c.K) 32 (0, 0))) (hO : Row3 wr wl.heap.size y L) : Mk w z o wr { v with c := y } { c with C := L } := by
  have r := h.after k
  exact ⟨h.box.kp k hb, ⟨r.a, r.b, hO.base h.size, r.d, r.e, r.r⟩⟩
theorem Mk.end_e (h : Mk w z o wl v c) (k : Kp (w.heap.size + 1 + 1) wl wr) {y : Sl} {L : List Int} (hb : wr.heap[w.heap.size + 1 + 1]? = some (.cells (({ v with e := y } : ConV).cells c.kind c.K) 32 (0, 0))) (hO : Row3 wr wl.heap.size y L) : Mk w z o wr { v with e := y } { c with E := L } := by
  have r := h.after k
  exact ⟨h.box.kp k hb, ⟨r.a, r.b, r.c, r.d, hO.base h.size, r.r⟩⟩
theorem Mk.end_r (h : Mk w z o wl v c) (k : Kp (w.heap.size + 1 + 1) wl wr) {y : Sl} {L : List (List Int)} (hb : wr.heap[w.heap.size + 1 + 1]? = some (.cells (({ v with r := y } : ConV).cells c.kind c.K) 32 (0, 0))) (hO : RowsP wr (w.heap.size + 1 + 1 + 1) y L) : Mk w z o wr { v with r := y } { c with rows := L } := by
  have r := h.after k
  exact ⟨h.box.kp k hb, ⟨r.a, r.b, r.c, r.d, r.e, hO⟩⟩
/-- Rows of one's own, the outer one newer. -/
def RowsPP (W : World) (bo bi : Nat) (y : Sl) (R : List (List Int)) : Prop :=
  ∃ xs : List Sl, xs.length = R.length ∧ W.ownsRow bo 30 1 (.slice y.A y.n y.c) R.length (xs.map fun x => Value.slice x.A x.n x.c) ∧ ∀ (k : Nat) (x : Sl) (r : List Int), xs[k]? = some x → R[k]? = some r → Row3 W bi x r
theorem RowsPP.nil (W : World) (bo bi : Nat) : RowsPP W bo bi ⟨none, 0, 0⟩ [] := ⟨[], rfl, World.ownsRow_nil _ _ _ _, fun k x r h => by cases h⟩
theorem RowsPP.one {W : World} {bo bi : Nat} {y : Sl} {R : List (List Int)} (h : RowsPP W bo bi y R) (hb : bi ≤ bo) : RowsP W bi y R := by
  obtain ⟨xs, hl, hO, hR⟩ := h
  exact ⟨xs, hl, own_base hO hb, hR⟩
theorem Mk.growR {w1 : World} {xs : List Sl} {R : List (List Int)} {y y' yN : Sl} {r : List Int} {t : Obj} (h : Mk w z o wl v c) (k : Kp (w.heap.size + 1 + 1) wl w1) (hb : w1.heap[w.heap.size + 1 + 1]? = some (.cells (({ v with r := y } : ConV).cells c.kind c.K) 32 (0, 0)))
    (hl : xs.length = R.length) (hO : w1.ownsRow wl.heap.size 30 1 (.slice y.A y.n y.c) R.length (xs.map fun x => Value.slice x.A x.n x.c)) (hR : ∀ (k : Nat) (x : Sl) (r : List Int), xs[k]? = some x → R[k]? = some r → Row3 w1 (w.heap.size + 1 + 1 + 1) x r) (hN : Row3 w1 (w.heap.size + 1 + 1 + 1) yN r)
    (hg : (w1.alloc t).grownBy w7 (Value.slice y.A y.n y.c).ownBlock) (h7 : w7.ownsRow wl.heap.size 30 1 (.slice y'.A y'.n y'.c) (R.length + 1) ((xs.map fun x => Value.slice x.A x.n x.c) ++ [.slice yN.A yN.n yN.c])) :
    w7.heap[w.heap.size + 1 + 1]? = some (.cells (({ v with r := y } : ConV).cells c.kind c.K) 32 (0, 0)) ∧ Kp (w.heap.size + 1 + 1) wl (w7.setCell ⟨w.heap.size + 1 + 1, 7, none⟩ (.slice y'.A y'.n y'.c)) ∧
    (w7.setCell ⟨w.heap.size + 1 + 1, 7, none⟩ (.slice y'.A y'.n y'.c)).heap[w.heap.size + 1 + 1]? = some (.cells (({ v with r := y' } : ConV).cells c.kind c.K) 32 (0, 0)) ∧ RowsPP (w7.setCell ⟨w.heap.size + 1 + 1, 7, none⟩ (.slice y'.A y'.n y'.c)) wl.heap.size (w.heap.size + 1 + 1 + 1) y' (R ++ [r]) := by
  have hs := h.size
  have hb7 := box_grown' hb hg (fun k e => by have := (own_lt' hO e).1; omega)
  have k7 : Kp (w.heap.size + 1 + 1) wl w7 := (k.alloc t).grown hg (fun j e => (own_lt' hO e).1)
  have hkeep : ∀ {x : Sl} {q : List Int}, Row3 w1 (w.heap.size + 1 + 1 + 1) x q → Row3 (w7.setCell ⟨w.heap.size + 1 + 1, 7, none⟩ (.slice y'.A y'.n y'.c)) (w.heap.size + 1 + 1 + 1) x q := fun {x q} hx => by
    have hx7 : Row3 w7 (w.heap.size + 1 + 1 + 1) x q := own_keep' hx fun g hgx => by
      have hlt := (own_lt' hx hgx).2
      refine (hg.block g (by simp; omega) (fun e => ?_)).trans (Below.heap_alloc _ _ _ hlt)
      obtain ⟨c1, h1⟩ := own_type hx hgx
      obtain ⟨c2, h2⟩ := own_type hO e.symm
      rw [h1] at h2
      simp at h2
    exact hx7.kp ((Kp.refl (w.heap.size + 1 + 1) w7).put 7 _) (by omega)
  refine ⟨hb7, k7.put 7 _, box_put hb7, xs ++ [yN], by simp [hl], ?_, fun i x q h1 h2 => ?_⟩
  · have := own_keep' (w' := w7.setCell ⟨w.heap.size + 1 + 1, 7, none⟩ (.slice y'.A y'.n y'.c)) h7 (fun g hgx => Below.heap_setCell _ _ _ _ (by have := (own_lt' h7 hgx).1; simp only; omega))
    simpa using this
  · by_cases hi : i < xs.length
    · rw [List.getElem?_append_left hi] at h1
      rw [List.getElem?_append_left (by omega)] at h2
      exact hkeep (hR i x q h1 h2)
    · rw [List.getElem?_append_right (by omega)] at h1
      rw [List.getElem?_append_right (by omega)] at h2
      rw [hl] at h1
      cases hd : i - R.length with
      | zero => rw [hd] at h1 h2; simp at h1 h2; subst h1 h2; exact hkeep hN
      | succ n => rw [hd] at h1; simp at h1
theorem out8 {W : World} {g : Nat} {ty : TypeId} (hb : W.heap[g]? = some (.cells zeroC ty (0, 0))) (a0 a1 a2 a3 a4 a5 a6 a7 : Value) :
    ((((((((W.setCell ⟨g, 0, none⟩ a0).setCell ⟨g, 1, none⟩ a1).setCell ⟨g, 2, none⟩ a2).setCell ⟨g, 3, none⟩ a3).setCell ⟨g, 4, none⟩ a4).setCell ⟨g, 5, none⟩ a5).setCell ⟨g, 6, none⟩ a6).setCell ⟨g, 7, none⟩ a7).heap[g]? = some (.cells #[a0, a1, a2, a3, a4, a5, a6, a7] ty (0, 0)) ∧
    Kp g W ((((((((W.setCell ⟨g, 0, none⟩ a0).setCell ⟨g, 1, none⟩ a1).setCell ⟨g, 2, none⟩ a2).setCell ⟨g, 3, none⟩ a3).setCell ⟨g, 4, none⟩ a4).setCell ⟨g, 5, none⟩ a5).setCell ⟨g, 6, none⟩ a6).setCell ⟨g, 7, none⟩ a7) := by
  have b0 := hb
  have b1 : (W.setCell ⟨g, 0, none⟩ a0).heap[g]? = some (.cells #[a0, .slice none 0 0, .slice none 0 0, .slice none 0 0, .slice none 0 0, .slice none 0 0, .int .i64 0, .slice none 0 0] ty (0, 0)) := by simpa using box_put (j := 0) (x := a0) b0
  have b2 : ((W.setCell ⟨g, 0, none⟩ a0).setCell ⟨g, 1, none⟩ a1).heap[g]? = some (.cells #[a0, a1, .slice none 0 0, .slice none 0 0, .slice none 0 0, .slice none 0 0, .int .i64 0, .slice none 0 0] ty (0, 0)) := by simpa using box_put (j := 1) (x := a1) b1
  have b3 : (((W.setCell ⟨g, 0, none⟩ a0).setCell ⟨g, 1, none⟩ a1).setCell ⟨g, 2, none⟩ a2).heap[g]? = some (.cells #[a0, a1, a2, .slice none 0 0, .slice none 0 0, .slice none 0 0, .int .i64 0, .slice none 0 0] ty (0, 0)) := by simpa using box_put (j := 2) (x := a2) b2
  have b4 : ((((W.setCell ⟨g, 0, none⟩ a0).setCell ⟨g, 1, none⟩ a1).setCell ⟨g, 2, none⟩ a2).setCell ⟨g, 3, none⟩ a3).heap[g]? = some (.cells #[a0, a1, a2, a3, .slice none 0 0, .slice none 0 0, .int .i64 0, .slice none 0 0] ty (0, 0)) := by simpa using box_put (j := 3) (x := a3) b3
  have b5 : (((((W.setCell ⟨g, 0, none⟩ a0).setCell ⟨g, 1, none⟩ a1).setCell ⟨g, 2, none⟩ a2).setCell ⟨g, 3, none⟩ a3).setCell ⟨g, 4, none⟩ a4).heap[g]? = some (.cells #[a0, a1, a2, a3, a4, .slice none 0 0, .int .i64 0, .slice none 0 0] ty (0, 0)) := by simpa using box_put (j := 4) (x := a4) b4
  have b6 : ((((((W.setCell ⟨g, 0, none⟩ a0).setCell ⟨g, 1, none⟩ a1).setCell ⟨g, 2, none⟩ a2).setCell ⟨g, 3, none⟩ a3).setCell ⟨g, 4, none⟩ a4).setCell ⟨g, 5, none⟩ a5).heap[g]? = some (.cells #[a0, a1, a2, a3, a4, a5, .int .i64 0, .slice none 0 0] ty (0, 0)) := by simpa using box_put (j := 5) (x := a5) b5
  have b7 : (((((((W.setCell ⟨g, 0, none⟩ a0).setCell ⟨g, 1, none⟩ a1).setCell ⟨g, 2, none⟩ a2).setCell ⟨g, 3, none⟩ a3).setCell ⟨g, 4, none⟩ a4).setCell ⟨g, 5, none⟩ a5).setCell ⟨g, 6, none⟩ a6).heap[g]? = some (.cells #[a0, a1, a2, a3, a4, a5, a6, .slice none 0 0] ty (0, 0)) := by simpa using box_put (j := 6) (x := a6) b6
  have b8 : ((((((((W.setCell ⟨g, 0, none⟩ a0).setCell ⟨g, 1, none⟩ a1).setCell ⟨g, 2, none⟩ a2).setCell ⟨g, 3, none⟩ a3).setCell ⟨g, 4, none⟩ a4).setCell ⟨g, 5, none⟩ a5).setCell ⟨g, 6, none⟩ a6).setCell ⟨g, 7, none⟩ a7).heap[g]? = some (.cells #[a0, a1, a2, a3, a4, a5, a6, a7] ty (0, 0)) := by simpa using box_put (j := 7) (x := a7) b7
  exact ⟨b8, ((((((((Kp.refl g W).put 0 a0).put 1 a1).put 2 a2).put 3 a3).put 4 a4).put 5 a5).put 6 a6).put 7 a7⟩
end
end Go.Proofs.YtkhmocbfkpbpfaaGreatDoor

/- What the document's Make makes may be. No walk. Made by tools/genmkr.py. -/
namespace Go.Proofs.YtkhmocbfkpbpfaaGreatDoor
open Go.RowKit

set_option linter.unusedSimpArgs false in
set_option linter.unusedVariables false in
theorem mk_arity1 (la lb lc : List Int) (K ch vars : Int) (n : Nat) (hb : 1 ≤ n ∧ n ≤ 4) : arityB (s9 lc n (s8 lc K ch (s7 lc n (s6 K 1 (s5 lc (s4 lc 1 n (s3 lb vars 0 n (s2 lb vars 0 (s1 la vars n 1))))))))) ⟨(shapesL.getD 1 []).toArray⟩ = true := by
  have e : shapesL.getD 1 [] = [99, 86, 107] := by kernel_rfl
  rw [e]
  have h3 := Nat.mod_lt lc.length (show 0 < 3 by decide)
  have h5 := Nat.mod_lt lc.length (show 0 < 5 by decide)
  have h6 := Nat.mod_lt lc.length (show 0 < 6 by decide)
  simp [s1, s2, s3, s4, s5, s6, s7, s8, s9, arityB, mkL_len, cntI, lenI, listB, bl, rowF]
  all_goals first | omega | (intros; omega)

set_option linter.unusedSimpArgs false in
set_option linter.unusedVariables false in
theorem mk_arity2 (la lb lc : List Int) (K ch vars : Int) (n : Nat) (hb : 1 ≤ n ∧ n ≤ 4) : arityB (s9 lc n (s8 lc K ch (s7 lc n (s6 K 1 (s5 lc (s4 lc 1 n (s3 lb vars 0 n (s2 lb vars 0 (s1 la vars n 2))))))))) ⟨(shapesL.getD 2 []).toArray⟩ = true := by
  have e : shapesL.getD 2 [] = [99, 86, 107] := by kernel_rfl
  rw [e]
  have h3 := Nat.mod_lt lc.length (show 0 < 3 by decide)
  have h5 := Nat.mod_lt lc.length (show 0 < 5 by decide)
  have h6 := Nat.mod_lt lc.length (show 0 < 6 by decide)
  simp [s1, s2, s3, s4, s5, s6, s7, s8, s9, arityB, mkL_len, cntI, lenI, listB, bl, rowF]
  all_goals first | omega | (intros; omega)

set_option linter.unusedSimpArgs false in
set_option linter.unusedVariables false in
theorem mk_arity3 (la lb lc : List Int) (K ch vars : Int) (n : Nat) (hb : 1 ≤ n ∧ n ≤ 4) : arityB (s9 lc n (s8 lc K ch (s7 lc n (s6 K 1 (s5 lc (s4 lc 1 n (s3 lb vars 0 n (s2 lb vars 0 (s1 la vars n 3))))))))) ⟨(shapesL.getD 3 []).toArray⟩ = true := by
  have e : shapesL.getD 3 [] = [99, 86, 107] := by kernel_rfl
  rw [e]
  have h3 := Nat.mod_lt lc.length (show 0 < 3 by decide)
  have h5 := Nat.mod_lt lc.length (show 0 < 5 by decide)
  have h6 := Nat.mod_lt lc.length (show 0 < 6 by decide)
  simp [s1, s2, s3, s4, s5, s6, s7, s8, s9, arityB, mkL_len, cntI, lenI, listB, bl, rowF]
  all_goals first | omega | (intros; omega)

set_option linter.unusedSimpArgs false in
set_option linter.unusedVariables false in
theorem mk_arity4 (la lb lc : List Int) (K ch vars : Int) (n : Nat) (hb : 1 ≤ n ∧ n ≤ 4) : arityB (s9 lc n (s8 lc K ch (s7 lc n (s6 K 1 (s5 lc (s4 lc 1 n (s3 lb vars 0 n (s2 lb vars 1 (s1 la vars n 4))))))))) ⟨(shapesL.getD 4 []).toArray⟩ = true := by
  have e : shapesL.getD 4 [] = [99, 86, 107, 119] := by kernel_rfl
  rw [e]
  have h3 := Nat.mod_lt lc.length (show 0 < 3 by decide)
  have h5 := Nat.mod_lt lc.length (show 0 < 5 by decide)
  have h6 := Nat.mod_lt lc.length (show 0 < 6 by decide)
  simp [s1, s2, s3, s4, s5, s6, s7, s8, s9, arityB, mkL_len, cntI, lenI, listB, bl, rowF]
  all_goals first | omega | (intros; omega)

set_option linter.unusedSimpArgs false in
set_option linter.unusedVariables false in
theorem mk_arity5 (la lb lc : List Int) (K ch vars : Int) : arityB (s9 lc 3 (s8 lc K ch (s7 lc 3 (s6 K 0 (s5 lc (s4 lc 0 3 (s3 lb vars 0 3 (s2 lb vars 0 (s1 la vars 3 5))))))))) ⟨(shapesL.getD 5 []).toArray⟩ = true := by
  have e : shapesL.getD 5 [] = [118, 118, 118] := by kernel_rfl
  rw [e]
  have h3 := Nat.mod_lt lc.length (show 0 < 3 by decide)
  have h5 := Nat.mod_lt lc.length (show 0 < 5 by decide)
  have h6 := Nat.mod_lt lc.length (show 0 < 6 by decide)
  simp [s1, s2, s3, s4, s5, s6, s7, s8, s9, arityB, mkL_len, cntI, lenI, listB, bl, rowF]
  all_goals first | omega | (intros; omega)

set_option linter.unusedSimpArgs false in
set_option linter.unusedVariables false in
theorem mk_arity6 (la lb lc : List Int) (K ch vars : Int) : arityB (s9 lc 3 (s8 lc K ch (s7 lc 3 (s6 K 0 (s5 lc (s4 lc 0 3 (s3 lb vars 0 3 (s2 lb vars 0 (s1 la vars 3 6))))))))) ⟨(shapesL.getD 6 []).toArray⟩ = true := by
  have e : shapesL.getD 6 [] = [118, 118, 118] := by kernel_rfl
  rw [e]
  have h3 := Nat.mod_lt lc.length (show 0 < 3 by decide)
  have h5 := Nat.mod_lt lc.length (show 0 < 5 by decide)
  have h6 := Nat.mod_lt lc.length (show 0 < 6 by decide)
  simp [s1, s2, s3, s4, s5, s6, s7, s8, s9, arityB, mkL_len, cntI, lenI, listB, bl, rowF]
  all_goals first | omega | (intros; omega)

set_option linter.unusedSimpArgs false in
set_option linter.unusedVariables false in
theorem mk_arity7 (la lb lc : List Int) (K ch vars : Int) : arityB (s9 lc 3 (s8 lc K ch (s7 lc 3 (s6 K 0 (s5 lc (s4 lc 0 3 (s3 lb vars 0 3 (s2 lb vars 0 (s1 la vars 3 7))))))))) ⟨(shapesL.getD 7 []).toArray⟩ = true := by
  have e : shapesL.getD 7 [] = [118, 118, 118] := by kernel_rfl
  rw [e]
  have h3 := Nat.mod_lt lc.length (show 0 < 3 by decide)
  have h5 := Nat.mod_lt lc.length (show 0 < 5 by decide)
  have h6 := Nat.mod_lt lc.length (show 0 < 6 by decide)
  simp [s1, s2, s3, s4, s5, s6, s7, s8, s9, arityB, mkL_len, cntI, lenI, listB, bl, rowF]
  all_goals first | omega | (intros; omega)

set_option linter.unusedSimpArgs false in
set_option linter.unusedVariables false in
theorem mk_arity8 (la lb lc : List Int) (K ch vars : Int) : arityB (s9 lc 2 (s8 lc K ch (s7 lc 2 (s6 K 0 (s5 lc (s4 lc 0 2 (s3 lb vars 0 2 (s2 lb vars 0 (s1 la vars 2 8))))))))) ⟨(shapesL.getD 8 []).toArray⟩ = true := by
  have e : shapesL.getD 8 [] = [118, 118] := by kernel_rfl
  rw [e]
  have h3 := Nat.mod_lt lc.length (show 0 < 3 by decide)
  have h5 := Nat.mod_lt lc.length (show 0 < 5 by decide)
  have h6 := Nat.mod_lt lc.length (show 0 < 6 by decide)
  simp [s1, s2, s3, s4, s5, s6, s7, s8, s9, arityB, mkL_len, cntI, lenI, listB, bl, rowF]
  all_goals first | omega | (intros; omega)

set_option linter.unusedSimpArgs false in
set_option linter.unusedVariables false in
theorem mk_arity9 (la lb lc : List Int) (K ch vars : Int) : arityB (s9 lc 3 (s8 lc K ch (s7 lc 3 (s6 K 0 (s5 lc (s4 lc 0 3 (s3 lb vars 0 3 (s2 lb vars 0 (s1 la vars 3 9))))))))) ⟨(shapesL.getD 9 []).toArray⟩ = true := by
  have e : shapesL.getD 9 [] = [118, 118, 118] := by kernel_rfl
  rw [e]
  have h3 := Nat.mod_lt lc.length (show 0 < 3 by decide)
  have h5 := Nat.mod_lt lc.length (show 0 < 5 by decide)
  have h6 := Nat.mod_lt lc.length (show 0 < 6 by decide)
  simp [s1, s2, s3, s4, s5, s6, s7, s8, s9, arityB, mkL_len, cntI, lenI, listB, bl, rowF]
  all_goals first | omega | (intros; omega)

set_option linter.unusedSimpArgs false in
set_option linter.unusedVariables false in
theorem mk_arity10 (la lb lc : List Int) (K ch vars : Int) : arityB (s9 lc 3 (s8 lc K ch (s7 lc 3 (s6 K 0 (s5 lc (s4 lc 0 3 (s3 lb vars 0 3 (s2 lb vars 0 (s1 la vars 3 10))))))))) ⟨(shapesL.getD 10 []).toArray⟩ = true := by
  have e : shapesL.getD 10 [] = [118, 118, 118] := by kernel_rfl
  rw [e]
  have h3 := Nat.mod_lt lc.length (show 0 < 3 by decide)
  have h5 := Nat.mod_lt lc.length (show 0 < 5 by decide)
  have h6 := Nat.mod_lt lc.length (show 0 < 6 by decide)
  simp [s1, s2, s3, s4, s5, s6, s7, s8, s9, arityB, mkL_len, cntI, lenI, listB, bl, rowF]
  all_goals first | omega | (intros; omega)

set_option linter.unusedSimpArgs false in
set_option linter.unusedVariables false in
theorem mk_arity11 (la lb lc : List Int) (K ch vars : Int) : arityB (s9 lc 2 (s8 lc K ch (s7 lc 2 (s6 K 0 (s5 lc (s4 lc 1 2 (s3 lb vars 0 2 (s2 lb vars 0 (s1 la vars 2 11))))))))) ⟨(shapesL.getD 11 []).toArray⟩ = true := by
  have e : shapesL.getD 11 [] = [118, 99, 118] := by kernel_rfl
  rw [e]
  have h3 := Nat.mod_lt lc.length (show 0 < 3 by decide)
  have h5 := Nat.mod_lt lc.length (show 0 < 5 by decide)
  have h6 := Nat.mod_lt lc.length (show 0 < 6 by decide)
  simp [s1, s2, s3, s4, s5, s6, s7, s8, s9, arityB, mkL_len, cntI, lenI, listB, bl, rowF]
  all_goals first | omega | (intros; omega)

set_option linter.unusedSimpArgs false in
set_option linter.unusedVariables false in
theorem mk_arity12 (la lb lc : List Int) (K ch vars : Int) (n : Nat) (hb : 1 ≤ n ∧ n ≤ 4) : arityB (s9 lc n (s8 lc K ch (s7 lc n (s6 K 0 (s5 lc (s4 lc 0 n (s3 lb vars 1 n (s2 lb vars 0 (s1 la vars n 12))))))))) ⟨(shapesL.getD 12 []).toArray⟩ = true := by
  have e : shapesL.getD 12 [] = [86, 87] := by kernel_rfl
  rw [e]
  have h3 := Nat.mod_lt lc.length (show 0 < 3 by decide)
  have h5 := Nat.mod_lt lc.length (show 0 < 5 by decide)
  have h6 := Nat.mod_lt lc.length (show 0 < 6 by decide)
  simp [s1, s2, s3, s4, s5, s6, s7, s8, s9, arityB, mkL_len, cntI, lenI, listB, bl, rowF]
  all_goals first | omega | (intros; omega)

set_option linter.unusedSimpArgs false in
set_option linter.unusedVariables false in
theorem mk_arity13 (la lb lc : List Int) (K ch vars : Int) : arityB (s9 lc 1 (s8 lc K ch (s7 lc 1 (s6 K 1 (s5 lc (s4 lc 0 1 (s3 lb vars 0 1 (s2 lb vars 1 (s1 la vars 1 13))))))))) ⟨(shapesL.getD 13 []).toArray⟩ = true := by
  have e : shapesL.getD 13 [] = [118, 107, 119] := by kernel_rfl
  rw [e]
  have h3 := Nat.mod_lt lc.length (show 0 < 3 by decide)
  have h5 := Nat.mod_lt lc.length (show 0 < 5 by decide)
  have h6 := Nat.mod_lt lc.length (show 0 < 6 by decide)
  simp [s1, s2, s3, s4, s5, s6, s7, s8, s9, arityB, mkL_len, cntI, lenI, listB, bl, rowF]
  all_goals first | omega | (intros; omega)

set_option linter.unusedSimpArgs false in
set_option linter.unusedVariables false in
theorem mk_arity14 (la lb lc : List Int) (K ch vars : Int) : arityB (s9 lc 1 (s8 lc K ch (s7 lc 1 (s6 K 1 (s5 lc (s4 lc 0 1 (s3 lb vars 0 1 (s2 lb vars 1 (s1 la vars 1 14))))))))) ⟨(shapesL.getD 14 []).toArray⟩ = true := by
  have e : shapesL.getD 14 [] = [118, 107, 119] := by kernel_rfl
  rw [e]
  have h3 := Nat.mod_lt lc.length (show 0 < 3 by decide)
  have h5 := Nat.mod_lt lc.length (show 0 < 5 by decide)
  have h6 := Nat.mod_lt lc.length (show 0 < 6 by decide)
  simp [s1, s2, s3, s4, s5, s6, s7, s8, s9, arityB, mkL_len, cntI, lenI, listB, bl, rowF]
  all_goals first | omega | (intros; omega)

set_option linter.unusedSimpArgs false in
set_option linter.unusedVariables false in
theorem mk_arity15 (la lb lc : List Int) (K ch vars : Int) : arityB (s9 lc 1 (s8 lc K ch (s7 lc 1 (s6 K 1 (s5 lc (s4 lc 0 1 (s3 lb vars 0 1 (s2 lb vars 1 (s1 la vars 1 15))))))))) ⟨(shapesL.getD 15 []).toArray⟩ = true := by
  have e : shapesL.getD 15 [] = [118, 107, 119] := by kernel_rfl
  rw [e]
  have h3 := Nat.mod_lt lc.length (show 0 < 3 by decide)
  have h5 := Nat.mod_lt lc.length (show 0 < 5 by decide)
  have h6 := Nat.mod_lt lc.length (show 0 < 6 by decide)
  simp [s1, s2, s3, s4, s5, s6, s7, s8, s9, arityB, mkL_len, cntI, lenI, listB, bl, rowF]
  all_goals first | omega | (intros; omega)

set_option linter.unusedSimpArgs false in
set_option linter.unusedVariables false in
theorem mk_arity16 (la lb lc : List Int) (K ch vars : Int) : arityB (s9 lc 1 (s8 lc K ch (s7 lc 1 (s6 K 1 (s5 lc (s4 lc 0 1 (s3 lb vars 0 1 (s2 lb vars 1 (s1 la vars 1 16))))))))) ⟨(shapesL.getD 16 []).toArray⟩ = true := by
  have e : shapesL.getD 16 [] = [118, 107, 119] := by kernel_rfl
  rw [e]
  have h3 := Nat.mod_lt lc.length (show 0 < 3 by decide)
  have h5 := Nat.mod_lt lc.length (show 0 < 5 by decide)
  have h6 := Nat.mod_lt lc.length (show 0 < 6 by decide)
  simp [s1, s2, s3, s4, s5, s6, s7, s8, s9, arityB, mkL_len, cntI, lenI, listB, bl, rowF]
  all_goals first | omega | (intros; omega)

set_option linter.unusedSimpArgs false in
set_option linter.unusedVariables false in
theorem mk_arity17 (la lb lc : List Int) (K ch vars : Int) (n : Nat) (hb : 1 ≤ n ∧ n ≤ 4) : arityB (s9 lc n (s8 lc K ch (s7 lc n (s6 K 0 (s5 lc (s4 lc 0 n (s3 lb vars 0 n (s2 lb vars 0 (s1 la vars n 17))))))))) ⟨(shapesL.getD 17 []).toArray⟩ = true := by
  have e : shapesL.getD 17 [] = [86] := by kernel_rfl
  rw [e]
  have h3 := Nat.mod_lt lc.length (show 0 < 3 by decide)
  have h5 := Nat.mod_lt lc.length (show 0 < 5 by decide)
  have h6 := Nat.mod_lt lc.length (show 0 < 6 by decide)
  simp [s1, s2, s3, s4, s5, s6, s7, s8, s9, arityB, mkL_len, cntI, lenI, listB, bl, rowF]
  all_goals first | omega | (intros; omega)

set_option linter.unusedSimpArgs false in
set_option linter.unusedVariables false in
theorem mk_arity18 (la lb lc : List Int) (K ch vars : Int) (n : Nat) (hb : 1 ≤ n ∧ n ≤ 4) : arityB (s9 lc n (s8 lc K ch (s7 lc n (s6 K 0 (s5 lc (s4 lc 0 n (s3 lb vars 0 n (s2 lb vars 0 (s1 la vars n 18))))))))) ⟨(shapesL.getD 18 []).toArray⟩ = true := by
  have e : shapesL.getD 18 [] = [86, 114] := by kernel_rfl
  rw [e]
  have h3 := Nat.mod_lt lc.length (show 0 < 3 by decide)
  have h5 := Nat.mod_lt lc.length (show 0 < 5 by decide)
  have h6 := Nat.mod_lt lc.length (show 0 < 6 by decide)
  simp [s1, s2, s3, s4, s5, s6, s7, s8, s9, arityB, mkL_len, cntI, lenI, listB, bl, rowF]
  all_goals first | omega | (intros; omega)

set_option linter.unusedSimpArgs false in
set_option linter.unusedVariables false in
theorem mk_arity19 (la lb lc : List Int) (K ch vars : Int) (n : Nat) (hb : 1 ≤ n ∧ n ≤ 4) : arityB (s9 lc n (s8 lc K ch (s7 lc n (s6 K 1 (s5 lc (s4 lc 1 n (s3 lb vars 0 n (s2 lb vars 0 (s1 la vars n 19))))))))) ⟨(shapesL.getD 19 []).toArray⟩ = true := by
  have e : shapesL.getD 19 [] = [86, 99, 100, 107] := by kernel_rfl
  rw [e]
  have h3 := Nat.mod_lt lc.length (show 0 < 3 by decide)
  have h5 := Nat.mod_lt lc.length (show 0 < 5 by decide)
  have h6 := Nat.mod_lt lc.length (show 0 < 6 by decide)
  simp [s1, s2, s3, s4, s5, s6, s7, s8, s9, arityB, mkL_len, cntI, lenI, listB, bl, rowF]
  all_goals first | omega | (intros; omega)

set_option linter.unusedSimpArgs false in
set_option linter.unusedVariables false in
theorem mk_arity20 (la lb lc : List Int) (K ch vars : Int) (n : Nat) (hb : 1 ≤ n ∧ n ≤ 4) : arityB (s9 lc n (s8 lc K ch (s7 lc n (s6 K 0 (s5 lc (s4 lc 0 n (s3 lb vars 0 n (s2 lb vars 0 (s1 la vars n 20))))))))) ⟨(shapesL.getD 20 []).toArray⟩ = true := by
  have e : shapesL.getD 20 [] = [86] := by kernel_rfl
  rw [e]
  have h3 := Nat.mod_lt lc.length (show 0 < 3 by decide)
  have h5 := Nat.mod_lt lc.length (show 0 < 5 by decide)
  have h6 := Nat.mod_lt lc.length (show 0 < 6 by decide)
  simp [s1, s2, s3, s4, s5, s6, s7, s8, s9, arityB, mkL_len, cntI, lenI, listB, bl, rowF]
  all_goals first | omega | (intros; omega)

set_option linter.unusedSimpArgs false in
set_option linter.unusedVariables false in
theorem mk_arity21 (la lb lc : List Int) (K ch vars : Int) (n : Nat) (hb : 1 ≤ n ∧ n ≤ 4) : arityB (s9 lc n (s8 lc K ch (s7 lc n (s6 K 0 (s5 lc (s4 lc 1 n (s3 lb vars 0 n (s2 lb vars 0 (s1 la vars n 21))))))))) ⟨(shapesL.getD 21 []).toArray⟩ = true := by
  have e : shapesL.getD 21 [] = [86, 99, 100, 101] := by kernel_rfl
  rw [e]
  have h3 := Nat.mod_lt lc.length (show 0 < 3 by decide)
  have h5 := Nat.mod_lt lc.length (show 0 < 5 by decide)
  have h6 := Nat.mod_lt lc.length (show 0 < 6 by decide)
  simp [s1, s2, s3, s4, s5, s6, s7, s8, s9, arityB, mkL_len, cntI, lenI, listB, bl, rowF]
  all_goals first | omega | (intros; omega)

set_option linter.unusedSimpArgs false in
set_option linter.unusedVariables false in
theorem mk_arity22 (la lb lc : List Int) (K ch vars : Int) (n : Nat) (hb : 1 ≤ n ∧ n ≤ 4) : arityB (s9 lc n (s8 lc K ch (s7 lc n (s6 K 0 (s5 lc (s4 lc 0 n (s3 lb vars 1 n (s2 lb vars 0 (s1 la vars n 22))))))))) ⟨(shapesL.getD 22 []).toArray⟩ = true := by
  have e : shapesL.getD 22 [] = [86, 87] := by kernel_rfl
  rw [e]
  have h3 := Nat.mod_lt lc.length (show 0 < 3 by decide)
  have h5 := Nat.mod_lt lc.length (show 0 < 5 by decide)
  have h6 := Nat.mod_lt lc.length (show 0 < 6 by decide)
  simp [s1, s2, s3, s4, s5, s6, s7, s8, s9, arityB, mkL_len, cntI, lenI, listB, bl, rowF]
  all_goals first | omega | (intros; omega)

set_option linter.unusedSimpArgs false in
set_option linter.unusedVariables false in
theorem mk_arity23 (la lb lc : List Int) (K ch vars : Int) (n : Nat) (hb : 1 ≤ n ∧ n ≤ 4) : arityB (s9 lc n (s8 lc K ch (s7 lc n (s6 K 0 (s5 lc (s4 lc 0 n (s3 lb vars 1 n (s2 lb vars 0 (s1 la vars n 23))))))))) ⟨(shapesL.getD 23 []).toArray⟩ = true := by
  have e : shapesL.getD 23 [] = [86, 87] := by kernel_rfl
  rw [e]
  have h3 := Nat.mod_lt lc.length (show 0 < 3 by decide)
  have h5 := Nat.mod_lt lc.length (show 0 < 5 by decide)
  have h6 := Nat.mod_lt lc.length (show 0 < 6 by decide)
  simp [s1, s2, s3, s4, s5, s6, s7, s8, s9, arityB, mkL_len, cntI, lenI, listB, bl, rowF]
  all_goals first | omega | (intros; omega)

end Go.Proofs.YtkhmocbfkpbpfaaGreatDoor

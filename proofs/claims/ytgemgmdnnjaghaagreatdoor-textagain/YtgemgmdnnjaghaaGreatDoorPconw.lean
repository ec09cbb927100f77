/- Contract: part at a variable (made by genpv.py). -/
import Derived.Test.YtgemgmdnnjaghaaGreatDoorPpart
import Derived.Deep.RegionLaw
import Derived.Deep.RegionHeld
import Derived.Lib.OthersKept
namespace Go.Proofs.YtgemgmdnnjaghaaGreatDoor
open Go.RowKit Go.Sort Go.Maps

/-- append onto a row of one's own, in a region that draws its order. -/
theorem step_append_old {P : Program} {ops : Array Oper} {o : Oper} {a : Act} {w : World} {K : Act → World → Prop} {Q : Exit → Act → World → Prop} {E : Prop}
    (hg : o.guard = none) (s x : Operand) (t : TypeId) (hop : o.op = Op.call { callee := Callee.builtin Builtin.append, args := #[s, x], argTypes := #[t, t] })
    (base : Nat) (e : TypeId) (i : TypeInfo) (z : Value) (size bytes : Nat) (ht : P.underlying t = some (.slice e)) (hi : P.info? e = some i) (hz : i.zero = some z)
    (hsize : i.size = size) (hby : i.bytes = bytes) (hzs : z.cells.size = size) (hsz : 0 < size)
    (v : Value) (n : Nat) (xs : List Value) (hs : a.eval s = v) (hown : w.ownsRow base e size v n xs)
    (ad : Addr) (c : Nat) (news : List Value) (hx : a.eval x = .slice (some ad) 1 c) (hl : news.length = 1 * size) (hnews : ∀ j u, news[j]? = some u → w.cell? (ad.add j) = some u) (h1 : ∀ u ∈ news, u.oneCell' = true)
    (h63 : n + 1 ≤ maxLen) (hbytes : (n + 1) * bytes ≤ 140737488355328) (hbase : base ≤ w.heap.size)
    (hK : ∀ v' w', w'.ownsRow base e size v' (n + 1) (xs ++ news) → w.grownBy w' v.ownBlock → (∀ g, v'.ownBlock = some g → v.ownBlock = some g ∨ w.heap.size ≤ g) → K (a.put o.dst v') w') :
    if Region.wanted o (yielded ops a.tmps) = true then Oper.wp P o a w K Q else E := by
  have hw : Region.wanted o (yielded ops a.tmps) = true := by simp [Region.wanted, hg]
  rw [if_pos hw]
  obtain ⟨v', w', hr, h2, h3, h4⟩ := run_append_old (P := P) w base t o.type e i z size bytes ht hi hz hsize hby hzs hsz v n xs hown ad c news hl hnews h1 h63 hbytes hbase
  unfold Oper.wp
  simp [execOp, hop, resolve, invoke, builtin, hs, hx, hr, Result.andThen]
  exact hK v' w' h2 h3 h4
theorem new1_cells (W : World) (v : Value) (ty : TypeId) : ∀ j u, [v][j]? = some u → (W.alloc (.cells #[v] ty)).cell? ((⟨W.heap.size, 0, none⟩ : Addr).add j) = some u := by
  intro j u hj
  match j, hj with
  | 0, hj => rw [add_zero]; rw [new_cell1]; exact hj
  | j + 1, hj => simp at hj
theorem int_one (y : Int) : ∀ u ∈ [Value.int .i64 y], u.oneCell' = true := by
  intro u hu
  rw [List.mem_singleton.1 hu]
  rfl

set_option maxHeartbeats 2000000 in
set_option maxRecDepth 100000 in
theorem part_v_ok {S : Nat → Bool} {b0 B G : Nat} {r : PRest} {t : Sl} {ts rs : List Tok} {names : List Bs} {U : Nat → Bool} {v : ConV} {c : ConL} {y : Int} (w : World) (h : IsPk S w B r t ts names) (hc : ConSt b0 B U w G v c) (hSb : ∀ g, S g = true → g < b0) (hSU : ∀ g, S g = true → U g = true) (hla : c.A.length ≤ 1048577) (hok : placeP r.en names ts = .ok (y, rs)) : Calls Tryz.prog 114 #[.pointer (some ⟨B, 0, none⟩), .pointer (some ⟨G, 0, none⟩), .int .i32 118] w (PartR S b0 B r G U w (partP r.en names 118 c ts)) := by
  have hd : Mv (one B) w w.drew := Mv.drew (Mv.refl _ _)
  have C := Lib.hid (pplace_any w.drew (h.after hd (h.tk.keep fun _ _ => rfl)))
  have HRES : Hid (partP r.en names 118 c ts = .ok ({ c with A := c.A ++ [y] }, rs)) := Lib.hid (by
    show (match placeP r.en names ts with | .error f => .error f | .ok (x, r) => .ok ({ c with A := c.A ++ [x] }, r) : PR ConL) = _
    rw [hok])
  have HC := Lib.hid (hc.mv hd)
  have HB0 := Lib.hid hc.hb
  have HS := Lib.hid hSb
  have HSU := Lib.hid hSU
  unfold After at C
  rw [hok] at C
  generalize partP r.en names 118 c ts = RES at HRES ⊢
  obtain ⟨i0, hi, hz0, hz1, hz2⟩ := info_parts Tryz.info3
  have HI := Lib.hid (And.intro hi (And.intro hz0 (And.intro hz1 hz2)))
  have cj : w.drew.cell? ⟨G, 1, none⟩ = some (.slice v.a.A v.a.n v.a.c) := HC.out.cells 1 _ rfl
  have Z3 : Hid (c.A.length + 1 ≤ maxLen) := Lib.hid (by unfold maxLen; omega)
  have Z4 : Hid ((c.A.length + 1) * 8 ≤ 140737488355328) := Lib.hid (by omega)
  have HLO : Hid (Lo b0 B w w.drew) := Lib.hid (hd.lo HB0.out)
  clear h hc hSb hSU hla hok hi hz0 hz1 hz2 hd
  go_enter Tryz.func114, Tryz.ntmps114
  go_wp2_with fail
  go_region_law (first
    | (refine step_append_old rfl (.tmp 13) (.tmp 16) 35 rfl b0 3 i0 (.int .i64 0) 1 8 Tryz.underlying35 HI.out.1 HI.out.2.1 HI.out.2.2.1 HI.out.2.2.2 rfl (by decide) (.slice v.a.A v.a.n v.a.c) c.A.length _ rfl (HC1.out.a.alloc _) ⟨w1.heap.size, 0, none⟩ 1 [.int .i64 y] rfl rfl (new1_cells w1 (.int .i64 y) 3) (int_one y) Z3.out Z4.out Z5.out ?_; intro v5 w5 hown5 hg5 hn5; obtain ⟨A5, k5, rfl⟩ := own_shape hown5; have HO5 := Lib.hid (And.intro hown5 (And.intro hg5 hn5)); obtain ⟨cG5, fG5⟩ := HGf.out w5 hg5; clear hown5 hg5 hn5)
    | (go_simp; refine C.out.mono ?_; rintro e w1 ⟨m1, ⟨v1, rfl, rfl⟩, t1, h2⟩; have HC1 := Lib.hid (HC.out.mv m1); have L1 := Lib.hid (HLO.out.trans (m1.lo (b0 := b0) HB0.out)); have MU : Hid (Mv U w w1) := Lib.hid ((Mv.drew (Mv.refl U w)).trans (m1.toS HC.out.uB)); have H2 := Lib.hid h2; have cj1 := HC1.out.cells 1 _ rfl; have cj2 : ∀ o, (w1.alloc o).cell? ⟨G, 1, none⟩ = some (.slice v.a.A v.a.n v.a.c) := (fun o => ((below1 w1 o).cell (HC1.out.lt G HC1.out.uG)).trans cj1); have Z5 : Hid (b0 ≤ (w1.alloc (.cells #[.int .i64 y] 3)).heap.size) := Lib.hid (by have := HC1.out.hb; simp; omega); have HGf : Hid (∀ w5, (w1.alloc (.cells #[.int .i64 y] 3)).grownBy w5 (Value.slice v.a.A v.a.n v.a.c).ownBlock → w5.cell? ⟨G, 1, none⟩ = some (.slice v.a.A v.a.n v.a.c) ∧ w5.frozen? ⟨G, 1, none⟩ = false) := Lib.hid (HC1.out.gone_a 1 rfl); clear m1 h2))
  all_goals
    obtain ⟨hown5, hg5, hn5⟩ := HO5.out
    have hGl := HC1.out.lt G HC1.out.uG
    have hb5 : ∀ g, g < w1.heap.size → (Value.slice v.a.A v.a.n v.a.c).ownBlock ≠ some g → w5.heap[g]? = w1.heap[g]? := fun g hl hne => (hg5.block g (by simp; omega) (fun e => hne e.symm)).trans (Below.heap_alloc _ _ _ hl)
    have hGne : (Value.slice v.a.A v.a.n v.a.c).ownBlock ≠ some G := fun e => by obtain ⟨cur, hcur⟩ := own_typed HC1.out.a e; exact HC1.out.neG hcur rfl
    have hmU : Mv U w1 w5 := ((Mv.refl U w1).alloc _).grown hg5 HC1.out.aU
    have hcs := HC1.out.setA (x := ⟨A5, c.A.length + 1, k5⟩) (l := c.A ++ [y]) (w3 := w5) hmU (by simpa [I] using hown5) (fun g e => (hn5 g e).imp id (by simp; omega)) (hb5 G hGl hGne) (fun g e => hb5 g (own_lt HC1.out.b e).2 (fun e2 => HC1.out.ab g e2 e))
    have HT2 : Hid (IsTk S (w5.setCell ⟨G, 1, none⟩ (.slice A5 (c.A.length + 1) k5)) B r t1 rs) := Lib.hid (H2.out.keep fun g hg => (Below.heap_setCell _ _ _ _ (by have := HS.out g hg; have := HC1.out.ge; simp; omega)).trans (hb5 g (H2.out.lt g hg) (fun e => by have := own_ge HC1.out.a g e; have := HS.out g hg; omega)))
    have L5 : Hid (Lo b0 B w (w5.setCell ⟨G, 1, none⟩ (.slice A5 (c.A.length + 1) k5))) := Lib.hid (((L1.out.trans (lo_below (below1 w1 _) HC1.out.hb)).grown hg5 (by have := HC1.out.hb; simp; omega) (fun k e => own_ge HC1.out.a k e)).setCell (p := ⟨G, 1, none⟩) HC1.out.ge _)
    have HU5 : Hid (∀ g, S g = true → plus U (.slice A5 (c.A.length + 1) k5) g = true) := Lib.hid (fun g hg => plus_of (HSU.out g hg))
    have MF : Hid (Mv U w (w5.setCell ⟨G, 1, none⟩ (.slice A5 (c.A.length + 1) k5))) := Lib.hid ((MU.out.trans hmU).setCell (p := ⟨G, 1, none⟩) HC1.out.uG _)
    have HAG : Hid (∀ g, g < w.heap.size → plus U (.slice A5 (c.A.length + 1) k5) g = U g) := Lib.hid (fun g hg => by
      by_cases e : (Value.slice A5 (c.A.length + 1) k5).ownBlock = some g
      · rcases hn5 g e with h1 | h1
        · rw [plus_own e, HC1.out.aU g h1]
        · have := MU.out.size; simp at h1; omega
      · exact plus_low e)
    have HCS := Lib.hid hcs
    clear hcs hb5 hGne hmU hown5 hg5 hn5 hGl HO5 HGf
    generalize c.A.length + 1 = n5 at *
    go_wp2_with fail
    go_end0
    unfold PartR
    rw [HRES.out]
    exact ⟨L5.out, MF.out, rfl, _, _, _, HCS.out, HU5.out, HAG.out, HT2.out⟩

set_option maxHeartbeats 2000000 in
set_option maxRecDepth 100000 in
theorem part_w_ok {S : Nat → Bool} {b0 B G : Nat} {r : PRest} {t : Sl} {ts rs : List Tok} {names : List Bs} {U : Nat → Bool} {v : ConV} {c : ConL} {y : Int} (w : World) (h : IsPk S w B r t ts names) (hc : ConSt b0 B U w G v c) (hSb : ∀ g, S g = true → g < b0) (hSU : ∀ g, S g = true → U g = true) (hla : c.B.length ≤ 1048577) (hok : placeP r.en names ts = .ok (y, rs)) : Calls Tryz.prog 114 #[.pointer (some ⟨B, 0, none⟩), .pointer (some ⟨G, 0, none⟩), .int .i32 119] w (PartR S b0 B r G U w (partP r.en names 119 c ts)) := by
  have hd : Mv (one B) w w.drew := Mv.drew (Mv.refl _ _)
  have C := Lib.hid (pplace_any w.drew (h.after hd (h.tk.keep fun _ _ => rfl)))
  have HRES : Hid (partP r.en names 119 c ts = .ok ({ c with B := c.B ++ [y] }, rs)) := Lib.hid (by
    show (match placeP r.en names ts with | .error f => .error f | .ok (x, r) => .ok ({ c with B := c.B ++ [x] }, r) : PR ConL) = _
    rw [hok])
  have HC := Lib.hid (hc.mv hd)
  have HB0 := Lib.hid hc.hb
  have HS := Lib.hid hSb
  have HSU := Lib.hid hSU
  unfold After at C
  rw [hok] at C
  generalize partP r.en names 119 c ts = RES at HRES ⊢
  obtain ⟨i0, hi, hz0, hz1, hz2⟩ := info_parts Tryz.info3
  have HI := Lib.hid (And.intro hi (And.intro hz0 (And.intro hz1 hz2)))
  have cj : w.drew.cell? ⟨G, 2, none⟩ = some (.slice v.b.A v.b.n v.b.c) := HC.out.cells 2 _ rfl
  have Z3 : Hid (c.B.length + 1 ≤ maxLen) := Lib.hid (by unfold maxLen; omega)
  have Z4 : Hid ((c.B.length + 1) * 8 ≤ 140737488355328) := Lib.hid (by omega)
  have HLO : Hid (Lo b0 B w w.drew) := Lib.hid (hd.lo HB0.out)
  clear h hc hSb hSU hla hok hi hz0 hz1 hz2 hd
  go_enter Tryz.func114, Tryz.ntmps114
  go_wp2_with fail
  go_region_law (first
    | (refine step_append_old rfl (.tmp 26) (.tmp 29) 35 rfl b0 3 i0 (.int .i64 0) 1 8 Tryz.underlying35 HI.out.1 HI.out.2.1 HI.out.2.2.1 HI.out.2.2.2 rfl (by decide) (.slice v.b.A v.b.n v.b.c) c.B.length _ rfl (HC1.out.b.alloc _) ⟨w1.heap.size, 0, none⟩ 1 [.int .i64 y] rfl rfl (new1_cells w1 (.int .i64 y) 3) (int_one y) Z3.out Z4.out Z5.out ?_; intro v5 w5 hown5 hg5 hn5; obtain ⟨A5, k5, rfl⟩ := own_shape hown5; have HO5 := Lib.hid (And.intro hown5 (And.intro hg5 hn5)); obtain ⟨cG5, fG5⟩ := HGf.out w5 hg5; clear hown5 hg5 hn5)
    | (go_simp; refine C.out.mono ?_; rintro e w1 ⟨m1, ⟨v1, rfl, rfl⟩, t1, h2⟩; have HC1 := Lib.hid (HC.out.mv m1); have L1 := Lib.hid (HLO.out.trans (m1.lo (b0 := b0) HB0.out)); have MU : Hid (Mv U w w1) := Lib.hid ((Mv.drew (Mv.refl U w)).trans (m1.toS HC.out.uB)); have H2 := Lib.hid h2; have cj1 := HC1.out.cells 2 _ rfl; have cj2 : ∀ o, (w1.alloc o).cell? ⟨G, 2, none⟩ = some (.slice v.b.A v.b.n v.b.c) := (fun o => ((below1 w1 o).cell (HC1.out.lt G HC1.out.uG)).trans cj1); have Z5 : Hid (b0 ≤ (w1.alloc (.cells #[.int .i64 y] 3)).heap.size) := Lib.hid (by have := HC1.out.hb; simp; omega); have HGf : Hid (∀ w5, (w1.alloc (.cells #[.int .i64 y] 3)).grownBy w5 (Value.slice v.b.A v.b.n v.b.c).ownBlock → w5.cell? ⟨G, 2, none⟩ = some (.slice v.b.A v.b.n v.b.c) ∧ w5.frozen? ⟨G, 2, none⟩ = false) := Lib.hid (HC1.out.gone_b 2 rfl); clear m1 h2))
  all_goals
    obtain ⟨hown5, hg5, hn5⟩ := HO5.out
    have hGl := HC1.out.lt G HC1.out.uG
    have hb5 : ∀ g, g < w1.heap.size → (Value.slice v.b.A v.b.n v.b.c).ownBlock ≠ some g → w5.heap[g]? = w1.heap[g]? := fun g hl hne => (hg5.block g (by simp; omega) (fun e => hne e.symm)).trans (Below.heap_alloc _ _ _ hl)
    have hGne : (Value.slice v.b.A v.b.n v.b.c).ownBlock ≠ some G := fun e => by obtain ⟨cur, hcur⟩ := own_typed HC1.out.b e; exact HC1.out.neG hcur rfl
    have hmU : Mv U w1 w5 := ((Mv.refl U w1).alloc _).grown hg5 HC1.out.bU
    have hcs := HC1.out.setB (x := ⟨A5, c.B.length + 1, k5⟩) (l := c.B ++ [y]) (w3 := w5) hmU (by simpa [I] using hown5) (fun g e => (hn5 g e).imp id (by simp; omega)) (hb5 G hGl hGne) (fun g e => hb5 g (own_lt HC1.out.a e).2 (fun e2 => HC1.out.ab g e e2))
    have HT2 : Hid (IsTk S (w5.setCell ⟨G, 2, none⟩ (.slice A5 (c.B.length + 1) k5)) B r t1 rs) := Lib.hid (H2.out.keep fun g hg => (Below.heap_setCell _ _ _ _ (by have := HS.out g hg; have := HC1.out.ge; simp; omega)).trans (hb5 g (H2.out.lt g hg) (fun e => by have := own_ge HC1.out.b g e; have := HS.out g hg; omega)))
    have L5 : Hid (Lo b0 B w (w5.setCell ⟨G, 2, none⟩ (.slice A5 (c.B.length + 1) k5))) := Lib.hid (((L1.out.trans (lo_below (below1 w1 _) HC1.out.hb)).grown hg5 (by have := HC1.out.hb; simp; omega) (fun k e => own_ge HC1.out.b k e)).setCell (p := ⟨G, 2, none⟩) HC1.out.ge _)
    have HU5 : Hid (∀ g, S g = true → plus U (.slice A5 (c.B.length + 1) k5) g = true) := Lib.hid (fun g hg => plus_of (HSU.out g hg))
    have MF : Hid (Mv U w (w5.setCell ⟨G, 2, none⟩ (.slice A5 (c.B.length + 1) k5))) := Lib.hid ((MU.out.trans hmU).setCell (p := ⟨G, 2, none⟩) HC1.out.uG _)
    have HAG : Hid (∀ g, g < w.heap.size → plus U (.slice A5 (c.B.length + 1) k5) g = U g) := Lib.hid (fun g hg => by
      by_cases e : (Value.slice A5 (c.B.length + 1) k5).ownBlock = some g
      · rcases hn5 g e with h1 | h1
        · rw [plus_own e, HC1.out.bU g h1]
        · have := MU.out.size; simp at h1; omega
      · exact plus_low e)
    have HCS := Lib.hid hcs
    clear hcs hb5 hGne hmU hown5 hg5 hn5 hGl HO5 HGf
    generalize c.B.length + 1 = n5 at *
    go_wp2_with fail
    go_end0
    unfold PartR
    rw [HRES.out]
    exact ⟨L5.out, MF.out, rfl, _, _, _, HCS.out, HU5.out, HAG.out, HT2.out⟩
end Go.Proofs.YtgemgmdnnjaghaaGreatDoor

/- Contract: part at a variable that is none (made by genpe.py); part, whole. -/
namespace Go.Proofs.YtgemgmdnnjaghaaGreatDoor
open Go.RowKit Go.Sort Go.Maps

set_option linter.unusedSimpArgs false in
set_option maxHeartbeats 2000000 in
set_option maxRecDepth 100000 in
theorem part_v_no {S : Nat → Bool} {b0 B G : Nat} {r : PRest} {t : Sl} {ts : List Tok} {names : List Bs} {U : Nat → Bool} {v : ConV} {c : ConL} {f : Flt} (w : World) (h : IsPk S w B r t ts names) (hc : ConSt b0 B U w G v c) (hno : placeP r.en names ts = .error f) : Calls Tryz.prog 114 #[.pointer (some ⟨B, 0, none⟩), .pointer (some ⟨G, 0, none⟩), .int .i32 118] w (PartR S b0 B r G U w (partP r.en names 118 c ts)) := by
  have hd : Mv (one B) w w.drew := Mv.drew (Mv.refl _ _)
  have C := Lib.hid (pplace_any w.drew (h.after hd (h.tk.keep fun _ _ => rfl)))
  have HRES : Hid (partP r.en names 118 c ts = .error f) := Lib.hid (by
    show (match placeP r.en names ts with | .error f => .error f | .ok (x, r) => .ok ({ c with A := c.A ++ [x] }, r) : PR ConL) = _
    rw [hno])
  have HB0 := Lib.hid hc.hb
  have HUB := Lib.hid hc.uB
  unfold After at C
  rw [hno] at C
  generalize partP r.en names 118 c ts = RES at HRES ⊢
  have cj : w.drew.cell? ⟨G, 1, none⟩ = some (.slice v.a.A v.a.n v.a.c) := hc.cells 1 _ rfl
  have HLO : Hid (Lo b0 B w w.drew) := Lib.hid (hd.lo HB0.out)
  clear h hc hno hd
  go_enter Tryz.func114, Tryz.ntmps114
  go_wp2_with fail
  refine wp_region_held_drew (S := fun W => W.cell? ⟨G, 1, none⟩ = some (.slice v.a.A v.a.n v.a.c)) (by kernel_rfl) cj (fun hS0 => ?_)
  refine wpAnyH_take (i := 0) (v := .pointer (some ⟨G, 0, none⟩)) rfl (by kernel_rfl) (by kernel_rfl) (by kernel_rfl) (fun _ _ _ h => h) (Or.inl ⟨by rfl, ?t0⟩) hS0 ?_
  case t0 => (intro W hW; go_simp)
  try simp only [Act.put, List.setIfInBounds_toArray, List.set_cons_zero, List.set_cons_succ]
  refine wpAnyH_take (i := 1) (v := .pointer (some ⟨G, 0, none⟩)) rfl (by kernel_rfl) (by kernel_rfl) (by kernel_rfl) (fun _ _ _ h => h) (Or.inl ⟨by rfl, ?t1⟩) hS0 ?_
  case t1 => (intro W hW; go_simp)
  try simp only [Act.put, List.setIfInBounds_toArray, List.set_cons_zero, List.set_cons_succ]
  refine wpAnyH_take (i := 2) (v := .pointer (some ⟨G, 0, none⟩)) rfl (by kernel_rfl) (by kernel_rfl) (by kernel_rfl) (fun _ _ _ h => h) (Or.inl ⟨by rfl, ?t2⟩) hS0 ?_
  case t2 => (intro W hW; go_simp)
  try simp only [Act.put, List.setIfInBounds_toArray, List.set_cons_zero, List.set_cons_succ]
  refine wpAnyH_take (i := 3) (v := .pointer (some ⟨G, 1, none⟩)) rfl (by kernel_rfl) (by kernel_rfl) (by kernel_rfl) (fun _ _ _ h => h) (Or.inl ⟨by rfl, ?t3⟩) hS0 ?_
  case t3 => (intro W hW; go_simp)
  try simp only [Act.put, List.setIfInBounds_toArray, List.set_cons_zero, List.set_cons_succ]
  refine wpAnyH_take (i := 4) (v := .slice v.a.A v.a.n v.a.c) rfl (by kernel_rfl) (by kernel_rfl) (by kernel_rfl) (fun _ _ _ h => h) (Or.inl ⟨by rfl, ?t4⟩) hS0 ?_
  case t4 => (intro W hW; go_simp)
  try simp only [Act.put, List.setIfInBounds_toArray, List.set_cons_zero, List.set_cons_succ]
  refine wpAnyH_take (i := 5) (v := .pointer (some ⟨B, 0, none⟩)) rfl (by kernel_rfl) (by kernel_rfl) (by kernel_rfl) (fun _ _ _ h => h) (Or.inl ⟨by rfl, ?t5⟩) hS0 ?_
  case t5 => (intro W hW; go_simp)
  try simp only [Act.put, List.setIfInBounds_toArray, List.set_cons_zero, List.set_cons_succ]
  refine wpAnyH_ready (rs := [6]) (by kernel_rfl) (by simp) ?_
  refine AllReadyH.cons rfl (fun K hK => ?_) AllReadyH.nil
  go_simp
  refine C.out.mono ?_
  rintro e w1 ⟨m1, rfl⟩
  refine ⟨rfl, ?_⟩
  unfold PartR
  rw [HRES.out]
  exact ⟨HLO.out.trans (m1.lo HB0.out), (Mv.drew (Mv.refl U w)).trans (m1.toS HUB.out), rfl⟩

set_option linter.unusedSimpArgs false in
set_option maxHeartbeats 2000000 in
set_option maxRecDepth 100000 in
theorem part_w_no {S : Nat → Bool} {b0 B G : Nat} {r : PRest} {t : Sl} {ts : List Tok} {names : List Bs} {U : Nat → Bool} {v : ConV} {c : ConL} {f : Flt} (w : World) (h : IsPk S w B r t ts names) (hc : ConSt b0 B U w G v c) (hno : placeP r.en names ts = .error f) : Calls Tryz.prog 114 #[.pointer (some ⟨B, 0, none⟩), .pointer (some ⟨G, 0, none⟩), .int .i32 119] w (PartR S b0 B r G U w (partP r.en names 119 c ts)) := by
  have hd : Mv (one B) w w.drew := Mv.drew (Mv.refl _ _)
  have C := Lib.hid (pplace_any w.drew (h.after hd (h.tk.keep fun _ _ => rfl)))
  have HRES : Hid (partP r.en names 119 c ts = .error f) := Lib.hid (by
    show (match placeP r.en names ts with | .error f => .error f | .ok (x, r) => .ok ({ c with B := c.B ++ [x] }, r) : PR ConL) = _
    rw [hno])
  have HB0 := Lib.hid hc.hb
  have HUB := Lib.hid hc.uB
  unfold After at C
  rw [hno] at C
  generalize partP r.en names 119 c ts = RES at HRES ⊢
  have cj : w.drew.cell? ⟨G, 2, none⟩ = some (.slice v.b.A v.b.n v.b.c) := hc.cells 2 _ rfl
  have HLO : Hid (Lo b0 B w w.drew) := Lib.hid (hd.lo HB0.out)
  clear h hc hno hd
  go_enter Tryz.func114, Tryz.ntmps114
  go_wp2_with fail
  refine wp_region_held_drew (S := fun W => W.cell? ⟨G, 2, none⟩ = some (.slice v.b.A v.b.n v.b.c)) (by kernel_rfl) cj (fun hS0 => ?_)
  refine wpAnyH_take (i := 0) (v := .pointer (some ⟨G, 0, none⟩)) rfl (by kernel_rfl) (by kernel_rfl) (by kernel_rfl) (fun _ _ _ h => h) (Or.inl ⟨by rfl, ?t0⟩) hS0 ?_
  case t0 => (intro W hW; go_simp)
  try simp only [Act.put, List.setIfInBounds_toArray, List.set_cons_zero, List.set_cons_succ]
  refine wpAnyH_take (i := 1) (v := .pointer (some ⟨G, 0, none⟩)) rfl (by kernel_rfl) (by kernel_rfl) (by kernel_rfl) (fun _ _ _ h => h) (Or.inl ⟨by rfl, ?t1⟩) hS0 ?_
  case t1 => (intro W hW; go_simp)
  try simp only [Act.put, List.setIfInBounds_toArray, List.set_cons_zero, List.set_cons_succ]
  refine wpAnyH_take (i := 2) (v := .pointer (some ⟨G, 0, none⟩)) rfl (by kernel_rfl) (by kernel_rfl) (by kernel_rfl) (fun _ _ _ h => h) (Or.inl ⟨by rfl, ?t2⟩) hS0 ?_
  case t2 => (intro W hW; go_simp)
  try simp only [Act.put, List.setIfInBounds_toArray, List.set_cons_zero, List.set_cons_succ]
  refine wpAnyH_take (i := 3) (v := .pointer (some ⟨G, 2, none⟩)) rfl (by kernel_rfl) (by kernel_rfl) (by kernel_rfl) (fun _ _ _ h => h) (Or.inl ⟨by rfl, ?t3⟩) hS0 ?_
  case t3 => (intro W hW; go_simp)
  try simp only [Act.put, List.setIfInBounds_toArray, List.set_cons_zero, List.set_cons_succ]
  refine wpAnyH_take (i := 4) (v := .slice v.b.A v.b.n v.b.c) rfl (by kernel_rfl) (by kernel_rfl) (by kernel_rfl) (fun _ _ _ h => h) (Or.inl ⟨by rfl, ?t4⟩) hS0 ?_
  case t4 => (intro W hW; go_simp)
  try simp only [Act.put, List.setIfInBounds_toArray, List.set_cons_zero, List.set_cons_succ]
  refine wpAnyH_take (i := 5) (v := .pointer (some ⟨B, 0, none⟩)) rfl (by kernel_rfl) (by kernel_rfl) (by kernel_rfl) (fun _ _ _ h => h) (Or.inl ⟨by rfl, ?t5⟩) hS0 ?_
  case t5 => (intro W hW; go_simp)
  try simp only [Act.put, List.setIfInBounds_toArray, List.set_cons_zero, List.set_cons_succ]
  refine wpAnyH_ready (rs := [6]) (by kernel_rfl) (by simp) ?_
  refine AllReadyH.cons rfl (fun K hK => ?_) AllReadyH.nil
  go_simp
  refine C.out.mono ?_
  rintro e w1 ⟨m1, rfl⟩
  refine ⟨rfl, ?_⟩
  unfold PartR
  rw [HRES.out]
  exact ⟨HLO.out.trans (m1.lo HB0.out), (Mv.drew (Mv.refl U w)).trans (m1.toS HUB.out), rfl⟩

/-- The letters of shapes. -/
def letters : List Nat := [118, 119, 86, 87, 99, 100, 101, 107, 114]
theorem part_any {S : Nat → Bool} {b0 B G : Nat} {r : PRest} {t : Sl} {ts : List Tok} {names : List Bs} {U : Nat → Bool} {v : ConV} {c : ConL} {k : Nat} (hk : k ∈ letters) (w : World) (h : IsPk S w B r t ts names) (hc : ConSt b0 B U w G v c) (hSb : ∀ g, S g = true → g < b0) (hSU : ∀ g, S g = true → U g = true) (hla : c.A.length ≤ 1048577) (hlb : c.B.length ≤ 1048577) : Calls Tryz.prog 114 #[.pointer (some ⟨B, 0, none⟩), .pointer (some ⟨G, 0, none⟩), .int .i32 (k : Nat)] w (PartR S b0 B r G U w (partP r.en names k c ts)) := by
  simp only [letters, List.mem_cons, List.not_mem_nil, or_false] at hk
  rcases hk with rfl | rfl | rfl | rfl | rfl | rfl | rfl | rfl | rfl
  · cases e : placeP r.en names ts with
    | error f => exact part_v_no w h hc e
    | ok p => exact part_v_ok w h hc hSb hSU hla e
  · cases e : placeP r.en names ts with
    | error f => exact part_w_no w h hc e
    | ok p => exact part_w_ok w h hc hSb hSU hlb e
  · exact part_V w h hc hSb hSU
  · exact part_W w h hc hSb hSU
  · exact part_c w h hc hSb hSU
  · exact part_d w h hc hSb hSU
  · exact part_e w h hc hSb hSU
  · exact part_k w h hc hSb hSU
  · exact part_r w h hc hSb hSU
/-- How long the lists of variables may become. -/
theorem part_len {en : Nat} {names : List Bs} {k : Nat} {c c' : ConL} {ts rs : List Tok} {N : Nat} (h : partP en names k c ts = .ok (c', rs)) (hA : c.A.length + ts.length ≤ N) (hB : c.B.length + ts.length ≤ N) : c'.A.length + rs.length ≤ N ∧ c'.B.length + rs.length ≤ N := by
  unfold partP at h
  repeat' split at h
  all_goals first
    | (cases h; done)
    | (injection h with h; injection h with h1 h2; subst h1; subst h2; first
        | exact ⟨hA, hB⟩
        | (next e => have := placeP_one en names _ _ _ e; simp only [List.length_append, List.length_singleton]; omega)
        | (next e => have := listP_len en _ _ (by decide) (by decide) (placeP_one en names) e; simp only; omega)
        | (next e => have := rowP_one en _ _ _ e; simp only; omega)
        | (next e => have := numP_one en _ _ _ e; simp only; omega)
        | (next e => have := listP_len en _ _ (by decide) (by decide) (rowP_one en) e; simp only; omega))
end Go.Proofs.YtgemgmdnnjaghaaGreatDoor

/- Contract: constraint. -/
namespace Go.Proofs.YtgemgmdnnjaghaaGreatDoor
open Go.RowKit Go.Sort Go.Maps

abbrev v0 : ConV := ⟨⟨none, 0, 0⟩, ⟨none, 0, 0⟩, ⟨none, 0, 0⟩, ⟨none, 0, 0⟩, ⟨none, 0, 0⟩, ⟨none, 0, 0⟩⟩
def andG (S : Nat → Bool) (G : Nat) : Nat → Bool := fun g => S g || g == G
theorem ConSt.new {S : Nat → Bool} {b0 B : Nat} (w : World) (kd : Int) (hb : b0 ≤ w.heap.size) (hB : B < b0) (hSB : S B = true) (hS : ∀ g, S g = true → g < b0) : ConSt b0 B (andG S w.heap.size) (w.alloc (.cells (v0.cells kd 0) 37)) w.heap.size v0 { noCon with kind := kd } := by
  refine ⟨heap_alloc_new w _, hb, hB, by simp [andG], by simp [andG, hSB], fun g hg => ?_, World.ownsRow_nil _ _ _ _, fun g e => (by cases e), World.ownsRow_nil _ _ _ _, fun g e => (by cases e), fun g e => (by cases e), IsInts.nil _, IsInts.nil _, IsInts.nil _, IsRows.nil _⟩
  simp only [andG, Bool.or_eq_true, beq_iff_eq] at hg
  rcases hg with h | h
  · have := hS g h; simp; omega
  · simp; omega
/-- All letters of all shapes. -/
theorem shape_letters (p : Ent → Bool) : ∀ b ∈ (foundF p).1.shape, b.toNat ∈ letters := by
  unfold foundF
  cases h : ents.find? p with
  | none => intro b hb; cases hb
  | some e =>
    have hm := List.mem_of_find?_eq_some h
    have key : ∀ e ∈ ents, ∀ b ∈ e.shape, b.toNat ∈ letters := by decide
    exact key e hm
theorem letters_small {k : Nat} (h : k ∈ letters) : k < 128 := by
  simp only [letters, List.mem_cons, List.not_mem_nil, or_false] at h
  omega
theorem shape_short (p : Ent → Bool) : (foundF p).1.shape.length ≤ 10 := by
  unfold foundF
  cases h : ents.find? p with
  | none => decide
  | some e =>
    have hm := List.mem_of_find?_eq_some h
    have key : ∀ e ∈ ents, e.shape.length ≤ 10 := by decide
    exact key e hm
theorem txt_get (l : Bs) (i : Nat) (h : i < (txt l).size) : (txt l)[i]'h = l[i]'(by rw [txt_size] at h; exact h) := by
  simp [txt, ByteArray.getElem_eq_getElem_data]
theorem IsInts.incl {w w' : World} (hc : ∀ a x, w.cell? a = some x → w'.cell? a = some x) (hs : w.heap.size ≤ w'.heap.size) {x : Sl} {l : List Int} (h : IsInts w x l) : IsInts w' x l := ⟨h.len, fun h0 => by
  obtain ⟨ad, e1, h2, h3⟩ := h.lies h0
  exact ⟨ad, e1, Nat.lt_of_lt_of_le h2 hs, fun j hj => hc _ _ (h3 j hj)⟩, h.big, h.cap⟩
theorem IsRows.incl {w w' : World} (hc : ∀ a x, w.cell? a = some x → w'.cell? a = some x) (hs : w.heap.size ≤ w'.heap.size) {x : Sl} {l : List (List Int)} (h : IsRows w x l) : IsRows w' x l := ⟨h.len, h.big, fun h0 => by
  obtain ⟨ad, e1, h2, h3⟩ := h.lies h0
  refine ⟨ad, e1, Nat.lt_of_lt_of_le h2 hs, fun i hi => ?_⟩
  obtain ⟨u, h4, h5⟩ := h3 i hi
  exact ⟨u, hc _ _ h4, h5.incl hc hs⟩⟩
/-- An iterator goes on. -/
theorem iter_heap_ne (w : World) {k g : Nat} (s : ByteArray) (pos : Nat) (h : g ≠ k) : (w.iterAt k s pos).heap[g]? = w.heap[g]? := by
  simp [World.iterAt, Ne.symm h]
theorem iter_size (w : World) (k : Nat) (s : ByteArray) (pos : Nat) : (w.iterAt k s pos).heap.size = w.heap.size := by simp [World.iterAt]
theorem ConSt.iter {b0 B G : Nat} {U : Nat → Bool} {w : World} {v : ConV} {c : ConL} (h : ConSt b0 B U w G v c) {k pos : Nat} {s : ByteArray} (hk : w.heap[k]? = some (.stringIter s pos)) (pos' : Nat) : ConSt b0 B U (w.iterAt k s pos') G v c := by
  have hne : ∀ (g : Nat) (cur : Array Value) (ty : TypeId), w.heap[g]? = some (.cells cur ty (0, 0)) → (w.iterAt k s pos').heap[g]? = w.heap[g]? := fun g cur ty hg => iter_heap_ne w s pos' (fun e => by rw [e, hk] at hg; cases hg)
  have hcell : ∀ a x, (hide U w).cell? a = some x → (hide U (w.iterAt k s pos')).cell? a = some x := fun a x ha => by
    obtain ⟨h1, h2⟩ := hide_cell ha
    refine cell_hide ?_ h1
    have hb : a.block ≠ k := fun e => by
      unfold World.cell? at h2
      rw [e, hk] at h2
      cases h2
    rw [← h2]
    exact World.cell?_of_block (w := w) (iter_heap_ne w s pos' hb)
  have hs : (hide U w).heap.size ≤ (hide U (w.iterAt k s pos')).heap.size := by rw [hide_size, hide_size, iter_size]; exact Nat.le_refl _
  refine ⟨(hne _ _ _ h.box).trans h.box, h.ge, h.bB, h.uG, h.uB, fun g hg => by rw [iter_size]; exact h.lt g hg, own_same h.a fun g hg _ => ?_, h.aU, own_same h.b fun g hg _ => ?_, h.bU, h.ab, h.fc.incl hcell hs, h.fd.incl hcell hs, h.fe.incl hcell hs, h.fr.incl hcell hs⟩
  · obtain ⟨cur, hc⟩ := own_typed h.a hg
    exact hne _ _ _ hc
  · obtain ⟨cur, hc⟩ := own_typed h.b hg
    exact hne _ _ _ hc
theorem lo_iter {b0 B : Nat} {w w' : World} (h : Lo b0 B w w') {k : Nat} (hk : b0 ≤ k) (s : ByteArray) (pos : Nat) : Lo b0 B w (w'.iterAt k s pos) :=
  h.trans ⟨rfl, rfl, rfl, by rw [iter_size]; exact Nat.le_refl _, fun g hg _ => iter_heap_ne _ s pos (by omega)⟩
/-- What the loop over a shape's letters knows. -/
structure InLoop (S : Nat → Bool) (b0 B : Nat) (r : PRest) (G it Y : Nat) (s : ByteArray) (y : Tok) (w0 w : World) (pos : Nat) (c : ConL) (ts : List Tok) : Prop where
  go : ∃ U v t, ConSt b0 B U w G v c ∧ (∀ g, S g = true → U g = true) ∧ U it = false ∧ U Y = false ∧ IsTk S w B r t ts
  iter : w.heap[it]? = some (.stringIter s pos)
  word : TBox 118 w Y (.int .i64 (y.kind : Nat)) (.string (txt y.text)) (.int .i64 y.num) (.int .i64 (y.at_ : Nat))
  lo : Lo b0 B w0 w
  la : c.A.length + ts.length ≤ 1048576
  lb : c.B.length + ts.length ≤ 1048576
end Go.Proofs.YtgemgmdnnjaghaaGreatDoor

/- Contract: part at a variable (made by genpv.py). -/
import Derived.Test.YtmamgaaeeonfmaaGreatDoorPpart
import Derived.Deep.RegionLaw
import Derived.Deep.RegionHeld
namespace Go.Proofs.YtmamgaaeeonfmaaGreatDoor
open Go.RowKit Go.Sort Go.Maps

/-- append onto a row of one's own, in a region that draws its order. -/
theorem step_append_old {P : Program} {ops : Array Oper} {o : Oper} {a : Act} {w : World} {K : Act → World → Prop} {Q : Exit → Act → World → Prop} {E : Prop}
    (hg : o.guard = none) (s x : Operand) (t : TypeId) (hop : o.op = Op.call { callee := Callee.builtin Builtin.append, args := #[s, x], argTypes := #[t, t] })
    (base : Nat) (e : TypeId) (i : TypeInfo) (z : Value) (size bytes : Nat) (ht : P.underlying t = some (.slice e)) (hi : P.info? e = some i) (hz : i.zero = some z)
    (hsize : i.size = size) (hby : i.bytes = bytes) (hzs : z.cells.size = size) (hsz : 0 < size)
    (v : Value) (n : Nat) (xs : List Value) (hs : a.eval s = v) (hown : w.ownsRow base e size v n xs)
    (ad : Addr) (c : Nat) (news : List Value) (hx : a.eval x = .slice (some ad) 1 c) (hl : news.length = 1 * size) (hnews : ∀ j u, news[j]? = some u → w.cell? (ad.add j) = some u) (h1 : ∀ u ∈ news, u.oneCell' = true)
    (h63 : n + 1 ≤ maxLen) (hbytes : (n + 1) * bytes ≤ 140737488355328) (hbase : base ≤ w.heap.size)
    (hK : ∀ v' w', w'.ownsRow base e size v' (n + 1) (xs ++ news) → w.grownBy w' v.ownBlock → (∀ g, v'.ownBlock = some g → v.ownBlock = some g ∨ w.heap.size ≤ g) → K (a.put o.dst v') w') :
    if Region.wanted o (yielded ops a.tmps) = true then Oper.wp P o a w K Q else E := by
  have hw : Region.wanted o (yielded ops a.tmps) = true := by simp [Region.wanted, hg]
  rw [if_pos hw]
  obtain ⟨v', w', hr, h2, h3, h4⟩ := run_append_old (P := P) w base t o.type e i z size bytes ht hi hz hsize hby hzs hsz v n xs hown ad c news hl hnews h1 h63 hbytes hbase
  unfold Oper.wp
  simp [execOp, hop, resolve, invoke, builtin, hs, hx, hr, Result.andThen]
  exact hK v' w' h2 h3 h4
theorem new1_cells (W : World) (v : Value) (ty : TypeId) : ∀ j u, [v][j]? = some u → (W.alloc (.cells #[v] ty)).cell? ((⟨W.heap.size, 0, none⟩ : Addr).add j) = some u := by
  intro j u hj
  match j, hj with
  | 0, hj => rw [add_zero]; rw [new_cell1]; exact hj
  | j + 1, hj => simp at hj
theorem int_one (y : Int) : ∀ u ∈ [Value.int .i64 y], u.oneCell' = true := by
  intro u hu
  rw [List.mem_singleton.1 hu]
  rfl

set_option maxHeartbeats 2000000 in
set_option maxRecDepth 100000 in
theorem part_v_ok {S : Nat → Bool} {b0 B G : Nat} {r : PRest} {t : Sl} {ts rs : List Tok} {names : List Bs} {U : Nat → Bool} {v : ConV} {c : ConL} {y : Int} (w : World) (h : IsPk S w B r t ts names) (hc : ConSt b0 B U w G v c) (hSb : ∀ g, S g = true → g < b0) (hSU : ∀ g, S g = true → U g = true) (hla : c.A.length ≤ 1048577) (hok : placeP r.en names ts = .ok (y, rs)) : Calls Tryz.prog 60 #[.pointer (some ⟨B, 0, none⟩), .pointer (some ⟨G, 0, none⟩), .int .i32 118] w (PartR S b0 B r G U w (partP r.en names 118 c ts)) := by
  have hd : Mv (one B) w w.drew := Mv.drew (Mv.refl _ _)
  have C := Lib.hid (pplace_any w.drew (h.after hd (h.tk.keep fun _ _ => rfl)))
  have HRES : Hid (partP r.en names 118 c ts = .ok ({ c with A := c.A ++ [y] }, rs)) := Lib.hid (by
    show (match placeP r.en names ts with | .error f => .error f | .ok (x, r) => .ok ({ c with A := c.A ++ [x] }, r) : PR ConL) = _
    rw [hok])
  have HC := Lib.hid (hc.mv hd)
  have HB0 := Lib.hid hc.hb
  have HS := Lib.hid hSb
  have HSU := Lib.hid hSU
  unfold After at C
  rw [hok] at C
  generalize partP r.en names 118 c ts = RES at HRES ⊢
  obtain ⟨i0, hi, hz0, hz1, hz2⟩ := info_parts Tryz.info3
  have HI := Lib.hid (And.intro hi (And.intro hz0 (And.intro hz1 hz2)))
  have cj : w.drew.cell? ⟨G, 1, none⟩ = some (.slice v.a.A v.a.n v.a.c) := HC.out.cells 1 _ rfl
  have Z3 : Hid (c.A.length + 1 ≤ maxLen) := Lib.hid (by unfold maxLen; omega)
  have Z4 : Hid ((c.A.length + 1) * 8 ≤ 140737488355328) := Lib.hid (by omega)
  have HLO : Hid (Lo b0 B w w.drew) := Lib.hid (hd.lo HB0.out)
  clear h hc hSb hSU hla hok hi hz0 hz1 hz2 hd
  go_enter Tryz.func60, Tryz.ntmps60
  go_wp2_with fail
  go_region_law (first
    | (refine step_append_old rfl (.tmp 13) (.tmp 16) 49 rfl b0 3 i0 (.int .i64 0) 1 8 Tryz.underlying49 HI.out.1 HI.out.2.1 HI.out.2.2.1 HI.out.2.2.2 rfl (by decide) (.slice v.a.A v.a.n v.a.c) c.A.length _ rfl (HC1.out.a.alloc _) ⟨w1.heap.size, 0, none⟩ 1 [.int .i64 y] rfl rfl (new1_cells w1 (.int .i64 y) 3) (int_one y) Z3.out Z4.out Z5.out ?_; intro v5 w5 hown5 hg5 hn5; obtain ⟨A5, k5, rfl⟩ := own_shape hown5; have HO5 := Lib.hid (And.intro hown5 (And.intro hg5 hn5)); obtain ⟨cG5, fG5⟩ := HGf.out w5 hg5; clear hown5 hg5 hn5)
    | (go_simp; refine C.out.mono ?_; rintro e w1 ⟨m1, ⟨v1, rfl, rfl⟩, t1, h2⟩; have HC1 := Lib.hid (HC.out.mv m1); have L1 := Lib.hid (HLO.out.trans (m1.lo (b0 := b0) HB0.out)); have MU : Hid (Mv U w w1) := Lib.hid ((Mv.drew (Mv.refl U w)).trans (m1.toS HC.out.uB)); have H2 := Lib.hid h2; have cj1 := HC1.out.cells 1 _ rfl; have cj2 : ∀ o, (w1.alloc o).cell? ⟨G, 1, none⟩ = some (.slice v.a.A v.a.n v.a.c) := (fun o => ((below1 w1 o).cell (HC1.out.lt G HC1.out.uG)).trans cj1); have Z5 : Hid (b0 ≤ (w1.alloc (.cells #[.int .i64 y] 3)).heap.size) := Lib.hid (by have := HC1.out.hb; simp; omega); have HGf : Hid (∀ w5, (w1.alloc (.cells #[.int .i64 y] 3)).grownBy w5 (Value.slice v.a.A v.a.n v.a.c).ownBlock → w5.cell? ⟨G, 1, none⟩ = some (.slice v.a.A v.a.n v.a.c) ∧ w5.frozen? ⟨G, 1, none⟩ = false) := Lib.hid (HC1.out.gone_a 1 rfl); clear m1 h2))
  all_goals
    obtain ⟨hown5, hg5, hn5⟩ := HO5.out
    have hGl := HC1.out.lt G HC1.out.uG
    have hb5 : ∀ g, g < w1.heap.size → (Value.slice v.a.A v.a.n v.a.c).ownBlock ≠ some g → w5.heap[g]? = w1.heap[g]? := fun g hl hne => (hg5.block g (by simp; omega) (fun e => hne e.symm)).trans (Below.heap_alloc _ _ _ hl)
    have hGne : (Value.slice v.a.A v.a.n v.a.c).ownBlock ≠ some G := fun e => by obtain ⟨cur, hcur⟩ := own_typed HC1.out.a e; exact HC1.out.neG hcur rfl
    have hmU : Mv U w1 w5 := ((Mv.refl U w1).alloc _).grown hg5 HC1.out.aU
    have hcs := HC1.out.setA (x := ⟨A5, c.A.length + 1, k5⟩) (l := c.A ++ [y]) (w3 := w5) hmU (by simpa [I] using hown5) (fun g e => (hn5 g e).imp id (by simp; omega)) (hb5 G hGl hGne) (fun g e => hb5 g (own_lt HC1.out.b e).2 (fun e2 => HC1.out.ab g e2 e))
    have HT2 : Hid (IsTk S (w5.setCell ⟨G, 1, none⟩ (.slice A5 (c.A.length + 1) k5)) B r t1 rs) := Lib.hid (H2.out.keep fun g hg => (Below.heap_setCell _ _ _ _ (by have := HS.out g hg; have := HC1.out.ge; simp; omega)).trans (hb5 g (H2.out.lt g hg) (fun e => by have := own_ge HC1.out.a g e; have := HS.out g hg; omega)))
    have L5 : Hid (Lo b0 B w (w5.setCell ⟨G, 1, none⟩ (.slice A5 (c.A.length + 1) k5))) := Lib.hid (((L1.out.trans (lo_below (below1 w1 _) HC1.out.hb)).grown hg5 (by have := HC1.out.hb; simp; omega) (fun k e => own_ge HC1.out.a k e)).setCell (p := ⟨G, 1, none⟩) HC1.out.ge _)
    have HU5 : Hid (∀ g, S g = true → plus U (.slice A5 (c.A.length + 1) k5) g = true) := Lib.hid (fun g hg => plus_of (HSU.out g hg))
    have MF : Hid (Mv U w (w5.setCell ⟨G, 1, none⟩ (.slice A5 (c.A.length + 1) k5))) := Lib.hid ((MU.out.trans hmU).setCell (p := ⟨G, 1, none⟩) HC1.out.uG _)
    have HAG : Hid (∀ g, g < w.heap.size → plus U (.slice A5 (c.A.length + 1) k5) g = U g) := Lib.hid (fun g hg => by
      by_cases e : (Value.slice A5 (c.A.length + 1) k5).ownBlock = some g
      · rcases hn5 g e with h1 | h1
        · rw [plus_own e, HC1.out.aU g h1]
        · have := MU.out.size; simp at h1; omega
      · exact plus_low e)
    have HCS := Lib.hid hcs
    clear hcs hb5 hGne hmU hown5 hg5 hn5 hGl HO5 HGf
    generalize c.A.length + 1 = n5 at *
    go_wp2_with fail
    go_end0
    unfold PartR
    rw [HRES.out]
    exact ⟨L5.out, MF.out, rfl, _, _, _, HCS.out, HU5.out, HAG.out, HT2.out⟩

set_option maxHeartbeats 2000000 in
set_option maxRecDepth 100000 in
theorem part_w_ok {S : Nat → Bool} {b0 B G : Nat} {r : PRest} {t : Sl} {ts rs : List Tok} {names : List Bs} {U : Nat → Bool} {v : ConV} {c : ConL} {y : Int} (w : World) (h : IsPk S w B r t ts names) (hc : ConSt b0 B U w G v c) (hSb : ∀ g, S g = true → g < b0) (hSU : ∀ g, S g = true → U g = true) (hla : c.B.length ≤ 1048577) (hok : placeP r.en names ts = .ok (y, rs)) : Calls Tryz.prog 60 #[.pointer (some ⟨B, 0, none⟩), .pointer (some ⟨G, 0, none⟩), .int .i32 119] w (PartR S b0 B r G U w (partP r.en names 119 c ts)) := by
  have hd : Mv (one B) w w.drew := Mv.drew (Mv.refl _ _)
  have C := Lib.hid (pplace_any w.drew (h.after hd (h.tk.keep fun _ _ => rfl)))
  have HRES : Hid (partP r.en names 119 c ts = .ok ({ c with B := c.B ++ [y] }, rs)) := Lib.hid (by
    show (match placeP r.en names ts with | .error f => .error f | .ok (x, r) => .ok ({ c with B := c.B ++ [x] }, r) : PR ConL) = _
    rw [hok])
  have HC := Lib.hid (hc.mv hd)
  have HB0 := Lib.hid hc.hb
  have HS := Lib.hid hSb
  have HSU := Lib.hid hSU
  unfold After at C
  rw [hok] at C
  generalize partP r.en names 119 c ts = RES at HRES ⊢
  obtain ⟨i0, hi, hz0, hz1, hz2⟩ := info_parts Tryz.info3
  have HI := Lib.hid (And.intro hi (And.intro hz0 (And.intro hz1 hz2)))
  have cj : w.drew.cell? ⟨G, 2, none⟩ = some (.slice v.b.A v.b.n v.b.c) := HC.out.cells 2 _ rfl
  have Z3 : Hid (c.B.length + 1 ≤ maxLen) := Lib.hid (by unfold maxLen; omega)
  have Z4 : Hid ((c.B.length + 1) * 8 ≤ 140737488355328) := Lib.hid (by omega)
  have HLO : Hid (Lo b0 B w w.drew) := Lib.hid (hd.lo HB0.out)
  clear h hc hSb hSU hla hok hi hz0 hz1 hz2 hd
  go_enter Tryz.func60, Tryz.ntmps60
  go_wp2_with fail
  go_region_law (first
    | (refine step_append_old rfl (.tmp 26) (.tmp 29) 49 rfl b0 3 i0 (.int .i64 0) 1 8 Tryz.underlying49 HI.out.1 HI.out.2.1 HI.out.2.2.1 HI.out.2.2.2 rfl (by decide) (.slice v.b.A v.b.n v.b.c) c.B.length _ rfl (HC1.out.b.alloc _) ⟨w1.heap.size, 0, none⟩ 1 [.int .i64 y] rfl rfl (new1_cells w1 (.int .i64 y) 3) (int_one y) Z3.out Z4.out Z5.out ?_; intro v5 w5 hown5 hg5 hn5; obtain ⟨A5, k5, rfl⟩ := own_shape hown5; have HO5 := Lib.hid (And.intro hown5 (And.intro hg5 hn5)); obtain ⟨cG5, fG5⟩ := HGf.out w5 hg5; clear hown5 hg5 hn5)
    | (go_simp; refine C.out.mono ?_; rintro e w1 ⟨m1, ⟨v1, rfl, rfl⟩, t1, h2⟩; have HC1 := Lib.hid (HC.out.mv m1); have L1 := Lib.hid (HLO.out.trans (m1.lo (b0 := b0) HB0.out)); have MU : Hid (Mv U w w1) := Lib.hid ((Mv.drew (Mv.refl U w)).trans (m1.toS HC.out.uB)); have H2 := Lib.hid h2; have cj1 := HC1.out.cells 2 _ rfl; have cj2 : ∀ o, (w1.alloc o).cell? ⟨G, 2, none⟩ = some (.slice v.b.A v.b.n v.b.c) := (fun o => ((below1 w1 o).cell (HC1.out.lt G HC1.out.uG)).trans cj1); have Z5 : Hid (b0 ≤ (w1.alloc (.cells #[.int .i64 y] 3)).heap.size) := Lib.hid (by have := HC1.out.hb; simp; omega); have HGf : Hid (∀ w5, (w1.alloc (.cells #[.int .i64 y] 3)).grownBy w5 (Value.slice v.b.A v.b.n v.b.c).ownBlock → w5.cell? ⟨G, 2, none⟩ = some (.slice v.b.A v.b.n v.b.c) ∧ w5.frozen? ⟨G, 2, none⟩ = false) := Lib.hid (HC1.out.gone_b 2 rfl); clear m1 h2))
  all_goals
    obtain ⟨hown5, hg5, hn5⟩ := HO5.out
    have hGl := HC1.out.lt G HC1.out.uG
    have hb5 : ∀ g, g < w1.heap.size → (Value.slice v.b.A v.b.n v.b.c).ownBlock ≠ some g → w5.heap[g]? = w1.heap[g]? := fun g hl hne => (hg5.block g (by simp; omega) (fun e => hne e.symm)).trans (Below.heap_alloc _ _ _ hl)
    have hGne : (Value.slice v.b.A v.b.n v.b.c).ownBlock ≠ some G := fun e => by obtain ⟨cur, hcur⟩ := own_typed HC1.out.b e; exact HC1.out.neG hcur rfl
    have hmU : Mv U w1 w5 := ((Mv.refl U w1).alloc _).grown hg5 HC1.out.bU
    have hcs := HC1.out.setB (x := ⟨A5, c.B.length + 1, k5⟩) (l := c.B ++ [y]) (w3 := w5) hmU (by simpa [I] using hown5) (fun g e => (hn5 g e).imp id (by simp; omega)) (hb5 G hGl hGne) (fun g e => hb5 g (own_lt HC1.out.a e).2 (fun e2 => HC1.out.ab g e e2))
    have HT2 : Hid (IsTk S (w5.setCell ⟨G, 2, none⟩ (.slice A5 (c.B.length + 1) k5)) B r t1 rs) := Lib.hid (H2.out.keep fun g hg => (Below.heap_setCell _ _ _ _ (by have := HS.out g hg; have := HC1.out.ge; simp; omega)).trans (hb5 g (H2.out.lt g hg) (fun e => by have := own_ge HC1.out.b g e; have := HS.out g hg; omega)))
    have L5 : Hid (Lo b0 B w (w5.setCell ⟨G, 2, none⟩ (.slice A5 (c.B.length + 1) k5))) := Lib.hid (((L1.out.trans (lo_below (below1 w1 _) HC1.out.hb)).grown hg5 (by have := HC1.out.hb; simp; omega) (fun k e => own_ge HC1.out.b k e)).setCell (p := ⟨G, 2, none⟩) HC1.out.ge _)
    have HU5 : Hid (∀ g, S g = true → plus U (.slice A5 (c.B.length + 1) k5) g = true) := Lib.hid (fun g hg => plus_of (HSU.out g hg))
    have MF : Hid (Mv U w (w5.setCell ⟨G, 2, none⟩ (.slice A5 (c.B.length + 1) k5))) := Lib.hid ((MU.out.trans hmU).setCell (p := ⟨G, 2, none⟩) HC1.out.uG _)
    have HAG : Hid (∀ g, g < w.heap.size → plus U (.slice A5 (c.B.length + 1) k5) g = U g) := Lib.hid (fun g hg => by
      by_cases e : (Value.slice A5 (c.B.length + 1) k5).ownBlock = some g
      · rcases hn5 g e with h1 | h1
        · rw [plus_own e, HC1.out.bU g h1]
        · have := MU.out.size; simp at h1; omega
      · exact plus_low e)
    have HCS := Lib.hid hcs
    clear hcs hb5 hGne hmU hown5 hg5 hn5 hGl HO5 HGf
    generalize c.B.length + 1 = n5 at *
    go_wp2_with fail
    go_end0
    unfold PartR
    rw [HRES.out]
    exact ⟨L5.out, MF.out, rfl, _, _, _, HCS.out, HU5.out, HAG.out, HT2.out⟩
end Go.Proofs.YtmamgaaeeonfmaaGreatDoor

/- The parser's whole state in memory; what of it stays, and what turns. No walk. -/
import Derived.Test.YtgemgmdnnjaghaaGreatDoorPdom
import Derived.Laws.AppendOwn
import Derived.Laws.OwnMore
namespace Go.Proofs.YtgemgmdnnjaghaaGreatDoor
open Go.RowKit Go.Sort Go.Maps

theorem hide_step {S T : Nat → Bool} {w w' : World} (h : Mv S w w') (hT : ∀ g, g < w.heap.size → T g = S g) : Below (hide S w).heap.size (hide S w) (hide T w') := by
  rw [hide_size]
  exact h.hide.trans (hide_more hT)
abbrev strB (b : Bs) : Value := .string (txt b)
/-- Domains that were read. -/
def DomsIn (S : Nat → Bool) (w : World) (v : Value) (ls : List (List Int)) : Prop := ∃ xs : List Sl, w.ownsRow 0 35 1 v ls.length (xs.map Sl.v) ∧ ∀ (k : Nat) (x : Sl) (l : List Int), xs[k]? = some x → ls[k]? = some l → IsInts (hide S w) x l
/-- Constraints that were read. -/
def ConsIn (S : Nat → Bool) (w : World) (v : Value) (cs : List ConL) : Prop := ∃ xs : List ConV, xs.length = cs.length ∧ w.ownsRow 0 37 8 v cs.length ((xs.zip cs).flatMap fun p => (p.1.cells p.2.kind p.2.K).toList) ∧ ∀ (k : Nat) (x : ConV) (c : ConL), xs[k]? = some x → cs[k]? = some c → ConIn (hide S w) x c
theorem DomsIn.keep {S T : Nat → Bool} {w w' : World} {v : Value} {ls : List (List Int)} (h : DomsIn S w v ls) (hm : Mv S w w') (hT : ∀ g, g < w.heap.size → T g = S g) (hk : ∀ g, v.ownBlock = some g → g < w.heap.size → w'.heap[g]? = w.heap[g]?) : DomsIn T w' v ls := by
  obtain ⟨xs, h1, h2⟩ := h
  exact ⟨xs, own_same h1 hk, fun k x l a b => (h2 k x l a b).below (hide_step hm hT)⟩
theorem ConsIn.keep {S T : Nat → Bool} {w w' : World} {v : Value} {cs : List ConL} (h : ConsIn S w v cs) (hm : Mv S w w') (hT : ∀ g, g < w.heap.size → T g = S g) (hk : ∀ g, v.ownBlock = some g → g < w.heap.size → w'.heap[g]? = w.heap[g]?) : ConsIn T w' v cs := by
  obtain ⟨xs, h0, h1, h2⟩ := h
  exact ⟨xs, h0, own_same h1 hk, fun k x l a b => (h2 k x l a b).below (hide_step hm hT)⟩

/-- The parser: what is to be read, the names in the map, and what was read. -/
structure IsPx (S : Nat → Bool) (w : World) (B : Nat) (r : PRest) (t : Sl) (ts : List Tok) (pn : List Bs) (nn : List Bs) (dd : List (List Int)) (cc : List ConL) : Prop where
  tk : IsTk S w B r t ts
  plc : ∃ M, r.mp = .map (some M) ∧ Plc w M pn ∧ M ≠ B ∧ S M = true
  n : w.ownsRow 0 9 1 (.slice r.n.A r.n.n r.n.c) nn.length (nn.map strB)
  d : DomsIn S w (.slice r.d.A r.d.n r.d.c) dd
  c : ConsIn S w (.slice r.c.A r.c.n r.c.c) cc
  nS : ∀ g, (Value.slice r.n.A r.n.n r.n.c).ownBlock = some g → S g = true
  dS : ∀ g, (Value.slice r.d.A r.d.n r.d.c).ownBlock = some g → S g = true
  cS : ∀ g, (Value.slice r.c.A r.c.n r.c.c).ownBlock = some g → S g = true
  ent : EntIn (hide S w)
  tab : TabZ (hide S w)
  kept : ∀ p ∈ r.kp, w.heap[p.1]? = some (.cells p.2.1 p.2.2 (0, 0)) ∧ S p.1 = true ∧ p.2.2 ∉ [9, 35, 37, 84]
section
variable {S : Nat → Bool} {w w' : World} {B : Nat} {r : PRest} {t t' : Sl} {ts ts' : List Tok} {pn nn : List Bs} {dd : List (List Int)} {cc : List ConL}
theorem IsPx.pk (h : IsPx S w B r t ts pn nn dd cc) : IsPk S w B r t ts pn := ⟨h.tk, h.plc⟩
theorem IsPx.nT (h : IsPx S w B r t ts pn nn dd cc) {g : Nat} (hg : (Value.slice r.n.A r.n.n r.n.c).ownBlock = some g) : ∃ cur, w.heap[g]? = some (.cells cur 9 (0, 0)) := own_typed h.n hg
theorem IsPx.dT (h : IsPx S w B r t ts pn nn dd cc) {g : Nat} (hg : (Value.slice r.d.A r.d.n r.d.c).ownBlock = some g) : ∃ cur, w.heap[g]? = some (.cells cur 35 (0, 0)) := by
  obtain ⟨xs, h1, -⟩ := h.d
  exact own_typed h1 hg
theorem IsPx.cT (h : IsPx S w B r t ts pn nn dd cc) {g : Nat} (hg : (Value.slice r.c.A r.c.n r.c.c).ownBlock = some g) : ∃ cur, w.heap[g]? = some (.cells cur 37 (0, 0)) := by
  obtain ⟨xs, h0, h1, -⟩ := h.c
  exact own_typed h1 hg
/-- Blocks of two types are two. -/
theorem ty_ne {g k : Nat} {a b : Array Value} {s u : TypeId} (h1 : w.heap[g]? = some (.cells a s (0, 0))) (h2 : w.heap[k]? = some (.cells b u (0, 0))) (hne : s ≠ u) : g ≠ k := fun e => by
  rw [e, h2] at h1
  cases h1
  exact hne rfl
theorem map_ne {g k : Nat} {a : Array Value} {s : TypeId} {M : List Bs} (h1 : w.heap[g]? = some (.cells a s (0, 0))) (h2 : Plc w k M) : g ≠ k := fun e => by
  obtain ⟨D, ⟨es, clock, hb, -⟩, -⟩ := h2
  rw [e, hb] at h1
  cases h1
/-- Only tokens were read. -/
theorem IsPx.mv (h : IsPx S w B r t ts pn nn dd cc) (hm : Mv (one B) w w') (h' : IsTk S w' B r t' ts') : IsPx S w' B r t' ts' pn nn dd cc := by
  have hmS := hm.toS h.tk.hid
  have hk : ∀ g, g ≠ B → g < w.heap.size → w'.heap[g]? = w.heap[g]? := fun g hg hl => hm.block g hl (by simpa [one] using hg)
  refine ⟨h', ?_, own_same h.n fun g hg hl => hk g ?_ hl, h.d.keep hmS (fun _ _ => rfl) fun g hg hl => hk g ?_ hl, h.c.keep hmS (fun _ _ => rfl) fun g hg hl => hk g ?_ hl, h.nS, h.dS, h.cS, h.ent.below (hide_step hmS fun _ _ => rfl), h.tab.below (hide_step hmS fun _ _ => rfl), fun p hp => ?_⟩
  · obtain ⟨M, e, hP, hne, hS⟩ := h.plc
    exact ⟨M, e, hP.keep (hk M hne hP.lt), hne, hS⟩
  · obtain ⟨cur, hc⟩ := h.nT hg
    exact ty_ne hc h.tk.box (by decide)
  · obtain ⟨cur, hc⟩ := h.dT hg
    exact ty_ne hc h.tk.box (by decide)
  · obtain ⟨cur, hc⟩ := h.cT hg
    exact ty_ne hc h.tk.box (by decide)
  · obtain ⟨h1, h2, h3⟩ := h.kept p hp
    exact ⟨(hk p.1 (ty_ne h1 h.tk.box (fun e => h3 (by rw [e]; simp))) (lt_of_block h1)).trans h1, h2, h3⟩
/-- The tokens stay. -/
theorem IsTk.put {S T : Nat → Bool} {r' : PRest} (h : IsTk S w B r t ts) (hT : ∀ g, g < w.heap.size → T g = S g) (hTl : ∀ g, T g = true → g < w'.heap.size) (hs : w.heap.size ≤ w'.heap.size) (hbox : w'.heap[B]? = some (.cells (pcells t r') 84 (0, 0))) (hk : ∀ (g : Nat) (cur : Array Value), w.heap[g]? = some (.cells cur 118 (0, 0)) → w'.heap[g]? = w.heap[g]?) : IsTk T w' B r' t ts := by
  refine ⟨hbox, (hT B (h.lt B h.hid)).trans h.hid, hTl, ⟨h.tok.len, h.tok.cap, h.tok.big, h.tok.brief, fun h0 => ?_⟩, fun h0 => ?_⟩
  · obtain ⟨g, o, e, hg, hc⟩ := h.tok.lies h0
    obtain ⟨ad, cur, e2, hS, hne, hb⟩ := h.own h0
    rw [e] at e2
    cases e2
    have hcell : ∀ o, w'.cell? ⟨g, o, none⟩ = w.cell? ⟨g, o, none⟩ := fun o => World.cell?_of_block (hk g cur hb)
    refine ⟨g, o, e, Nat.lt_of_lt_of_le hg hs, fun i hi => ?_⟩
    obtain ⟨a, b, c, d⟩ := hc i hi
    exact ⟨(hcell _).trans a, (hcell _).trans b, (hcell _).trans c, (hcell _).trans d⟩
  · obtain ⟨ad, cur, e2, hS, hne, hb⟩ := h.own h0
    exact ⟨ad, cur, e2, (hT _ (lt_of_block hb)).trans hS, hne, (hk _ cur hb).trans hb⟩
/-- A set with one row's block more. -/
def plus (S : Nat → Bool) (v : Value) : Nat → Bool := fun g => S g || decide (v.ownBlock = some g)
/-- Behind an append: what is known of the new world. -/
structure Grew (S : Nat → Bool) (w w' : World) (B : Nat) (e : TypeId) (v v' : Value) : Prop where
  mv : Mv S w w'
  keep : ∀ g, g < w.heap.size → g ≠ B → v.ownBlock ≠ some g → w'.heap[g]? = w.heap[g]?
  new : ∀ g, v'.ownBlock = some g → g < w'.heap.size ∧ (g < w.heap.size → S g = true)
theorem Grew.same {e : TypeId} {v v' : Value} (h : Grew S w w' B e v v') : ∀ g, g < w.heap.size → plus S v' g = S g := fun g hg => by
  unfold plus
  by_cases e : v'.ownBlock = some g
  · simp [e, (h.new g e).2 hg]
  · simp [e]
theorem Grew.lt {e : TypeId} {v v' : Value} (h : Grew S w w' B e v v') (hS : ∀ g, S g = true → g < w.heap.size) : ∀ g, plus S v' g = true → g < w'.heap.size := fun g hg => by
  unfold plus at hg
  by_cases e : v'.ownBlock = some g
  · exact (h.new g e).1
  · exact Nat.lt_of_lt_of_le (hS g (by simpa [e] using hg)) h.mv.size
end
end Go.Proofs.YtgemgmdnnjaghaaGreatDoor

/- Append onto a row of one's own: the new row lies in the old block, or in a new one. No walk. -/
namespace Go.Proofs.YtgemgmdnnjaghaaGreatDoor
open Go.RowKit Go.Sort Go.Maps

theorem run_append_old {P : Program} (w : World) (base : Nat) (t ty e : TypeId) (i : TypeInfo) (z : Value) (size bytes : Nat) (ht : P.underlying t = some (.slice e)) (hi : P.info? e = some i) (hz : i.zero = some z)
    (hsize : i.size = size) (hby : i.bytes = bytes) (hzs : z.cells.size = size) (hsz : 0 < size)
    (v : Value) (n : Nat) (xs : List Value) (hown : w.ownsRow base e size v n xs)
    (a : Addr) (c : Nat) (news : List Value) (hl : news.length = 1 * size) (hnews : ∀ j u, news[j]? = some u → w.cell? (a.add j) = some u) (h1 : ∀ u ∈ news, u.oneCell' = true)
    (h63 : n + 1 ≤ maxLen) (hbytes : (n + 1) * bytes ≤ 140737488355328) (hbase : base ≤ w.heap.size) :
    ∃ v' w', (Builtin.append_ #[t, t] ty #[v, .slice (some a) 1 c]).run P w = .ok v' w' ∧ w'.ownsRow base e size v' (n + 1) (xs ++ news) ∧ w.grownBy w' v.ownBlock ∧ ∀ g, v'.ownBlock = some g → v.ownBlock = some g ∨ w.heap.size ≤ g := by
  obtain ⟨v', w', hr, h2, h3, -⟩ := run_append_own (P := P) w base t ty e i z size bytes ht hi hz hsize hby hzs hsz v n xs hown a 1 c news hl hnews h1 h63 hbytes hbase
  refine ⟨v', w', hr, h2, h3, ?_⟩
  have hsl : news.length = 1 * i.size := by rw [hsize]; exact hl
  rcases hown.2 with ⟨rfl, h0⟩ | ⟨g, cap, cur, rfl, hb, hg, hn, hm, hs, ht'⟩
  · have h4 := run_append_nil (P := P) w t ty e i z ht hi hz a 1 c news hsl hnews (by omega) (by omega) (by rw [hby]; subst h0; omega)
    rw [hr] at h4
    injection h4 with h5 h6
    intro g hg
    rw [h5] at hg
    simp [Value.ownBlock] at hg
    right; omega
  · by_cases hroom : n + 1 ≤ cap
    · obtain ⟨w2, h4, -⟩ := run_append_fits (P := P) w base t ty e i size ht hi hsize g n cap xs hown a 1 c news hl hnews h1 hroom
      rw [hr] at h4
      injection h4 with h5 h6
      intro k hk
      rw [h5] at hk
      left; exact hk
    · have h4 := run_append_grow (P := P) w t ty e i z ht hi hz ⟨g, 0, none⟩ n cap xs (by rw [hsize]; exact hown.1) (fun j u hj => hown.cells (g := g) rfl j u hj) a 1 c news hsl hnews (by omega) (by unfold maxLen at h63; omega) (growslice_fits (by omega) (by rw [hby]; omega))
      rw [hr] at h4
      injection h4 with h5 h6
      intro k hk
      rw [h5] at hk
      simp [Value.ownBlock] at hk
      right; omega

theorem wpList_append_old {P : Program} (w : World) {ops : Array Oper} {rest : List Oper} {o : Oper} {a : Act} {Q : Exit → Act → World → Prop} (hgd : o.guard = none) (s x : Operand) (t : TypeId)
    (ho : o.op = .call { callee := .builtin .append, args := #[s, x], argTypes := #[t, t] })
    (e : TypeId) (i : TypeInfo) (z : Value) (size bytes : Nat) (ht : P.underlying t = some (.slice e)) (hi : P.info? e = some i) (hz : i.zero = some z)
    (hsize : i.size = size) (hby : i.bytes = bytes) (hzs : z.cells.size = size) (hsz : 0 < size)
    (v : Value) (n : Nat) (xs : List Value) (hs : a.eval s = v) (hown : w.ownsRow 0 e size v n xs)
    (ad : Addr) (c : Nat) (news : List Value) (hx : a.eval x = .slice (some ad) 1 c) (hl : news.length = 1 * size) (hnews : ∀ j u, news[j]? = some u → w.cell? (ad.add j) = some u) (h1 : ∀ u ∈ news, u.oneCell' = true)
    (h63 : n + 1 ≤ maxLen) (hbytes : (n + 1) * bytes ≤ 140737488355328)
    (h : ∀ v' w', w'.ownsRow 0 e size v' (n + 1) (xs ++ news) → w.grownBy w' v.ownBlock → (∀ g, v'.ownBlock = some g → v.ownBlock = some g ∨ w.heap.size ≤ g) → wpList P ops Q rest (a.put o.dst v') w') : wpList P ops Q (o :: rest) a w := by
  refine wpList_plain hgd fun K hK => ?_
  obtain ⟨v', w', hr, h2, h3, h4⟩ := run_append_old (P := P) w 0 t o.type e i z size bytes ht hi hz hsize hby hzs hsz v n xs hown ad c news hl hnews h1 h63 hbytes (Nat.zero_le _)
  unfold Oper.wp
  simp [execOp, ho, resolve, invoke, builtin, hs, hx, hr, Result.andThen]
  exact hK _ _ (h v' w' h2 h3 h4)

section
variable {S : Nat → Bool} {w w' : World} {B : Nat} {r : PRest} {t t' : Sl} {ts ts' : List Tok} {pn nn : List Bs} {dd : List (List Int)} {cc : List ConL}
/-- Behind an append and a store into the box. -/
theorem grew_of {e : TypeId} {v v' u : Value} {o : Obj} {wb : World} {j : Nat} (hB : S B = true) (hv : ∀ g, v.ownBlock = some g → S g = true) (hlt : ∀ g, v'.ownBlock = some g → g < wb.heap.size) (hg : (w.alloc o).grownBy wb v.ownBlock) (hnew : ∀ g, v'.ownBlock = some g → v.ownBlock = some g ∨ w.heap.size + 1 ≤ g) : Grew S w (wb.setCell ⟨B, j, none⟩ u) B e v v' := by
  have hs : w.heap.size ≤ wb.heap.size := by have := hg.size; simp at this; omega
  have hsz : (wb.setCell ⟨B, j, none⟩ u).heap.size = wb.heap.size := by simp [World.setCell]
  have hk : ∀ g, g < w.heap.size → g ≠ B → v.ownBlock ≠ some g → (wb.setCell ⟨B, j, none⟩ u).heap[g]? = w.heap[g]? := fun g hl hne ho =>
    (Below.heap_setCell _ _ _ _ hne).trans ((hg.block g (by simp; omega) (fun e => ho e.symm)).trans (Below.heap_alloc _ _ _ hl))
  refine ⟨⟨hg.os, hg.tape, hg.output, by rw [hsz]; exact hs, fun k hl hS => hk k hl (fun e => by rw [e, hB] at hS; cases hS) (fun e => by rw [hv k e] at hS; cases hS)⟩, hk, fun g e => ⟨by rw [hsz]; exact hlt g e, fun hl => ?_⟩⟩
  rcases hnew g e with h | h
  · exact hv g h
  · omega
theorem own_len {w : World} {base : Nat} {e : TypeId} {size n k c : Nat} {A : Option Addr} {xs : List Value} (h : w.ownsRow base e size (.slice A k c) n xs) : k = n := by
  rcases h.2 with ⟨e, h0⟩ | ⟨g, cap, cur, e, -⟩ <;> cases e
  · exact h0.symm
  · rfl
theorem plus_of {v : Value} {g : Nat} (h : S g = true) : plus S v g = true := by simp [plus, h]
theorem plus_own {v : Value} {g : Nat} (h : v.ownBlock = some g) : plus S v g = true := by simp [plus, h]
theorem box_n {x : Sl} (h : w.heap[B]? = some (.cells (pcells t r) 84 (0, 0))) : (w.setCell ⟨B, 3, none⟩ (.slice x.A x.n x.c)).heap[B]? = some (.cells (pcells t { r with n := x }) 84 (0, 0)) := by
  simp [World.setCell, Array.getElem?_modify, h, pcells]
theorem box_d {x : Sl} (h : w.heap[B]? = some (.cells (pcells t r) 84 (0, 0))) : (w.setCell ⟨B, 4, none⟩ (.slice x.A x.n x.c)).heap[B]? = some (.cells (pcells t { r with d := x }) 84 (0, 0)) := by
  simp [World.setCell, Array.getElem?_modify, h, pcells]
theorem box_c {x : Sl} (h : w.heap[B]? = some (.cells (pcells t r) 84 (0, 0))) : (w.setCell ⟨B, 5, none⟩ (.slice x.A x.n x.c)).heap[B]? = some (.cells (pcells t { r with c := x }) 84 (0, 0)) := by
  simp [World.setCell, Array.getElem?_modify, h, pcells]
theorem box_g {g : Int} (h : w.heap[B]? = some (.cells (pcells t r) 84 (0, 0))) : (w.setCell ⟨B, 6, none⟩ (.int .i64 g)).heap[B]? = some (.cells (pcells t { r with goal := g }) 84 (0, 0)) := by
  simp [World.setCell, Array.getElem?_modify, h, pcells]
theorem box_o {g : Int} (h : w.heap[B]? = some (.cells (pcells t r) 84 (0, 0))) : (w.setCell ⟨B, 7, none⟩ (.int .i64 g)).heap[B]? = some (.cells (pcells t { r with obj := g }) 84 (0, 0)) := by
  simp [World.setCell, Array.getElem?_modify, h, pcells]
theorem IsPx.name (h : IsPx S w B r t ts pn nn dd cc) {x : Sl} {b : Bs} (hG : Grew S w w' B 9 (.slice r.n.A r.n.n r.n.c) (.slice x.A x.n x.c)) (hbox : w'.heap[B]? = some (.cells (pcells t { r with n := x }) 84 (0, 0))) (hrow : w'.ownsRow 0 9 1 (.slice x.A x.n x.c) (nn.length + 1) (nn.map strB ++ [strB b])) : IsPx (plus S (.slice x.A x.n x.c)) w' B { r with n := x } t ts pn (nn ++ [b]) dd cc := by
  have hown : ∀ g, (Value.slice r.n.A r.n.n r.n.c).ownBlock = some g → ∃ cur, w.heap[g]? = some (.cells cur 9 (0, 0)) := fun g hg => h.nT hg
  have hk : ∀ (g : Nat) (cur : Array Value) (s : TypeId), w.heap[g]? = some (.cells cur s (0, 0)) → s ≠ 9 → s ≠ 84 → w'.heap[g]? = w.heap[g]? := fun g cur s hg h9 h8 => hG.keep g (lt_of_block hg) (ty_ne hg h.tk.box h8) (fun e => by
    obtain ⟨c2, hc2⟩ := hown g e
    exact ty_ne hg hc2 h9 rfl)
  refine ⟨h.tk.put hG.same (hG.lt h.tk.lt) hG.mv.size hbox fun g cur hg => hk g cur _ hg (by decide) (by decide), ?_, by simpa using hrow, h.d.keep hG.mv hG.same fun g hg hl => ?_, h.c.keep hG.mv hG.same fun g hg hl => ?_, fun g hg => plus_own hg, fun g hg => plus_of (h.dS g hg), fun g hg => plus_of (h.cS g hg), h.ent.below (hide_step hG.mv hG.same), h.tab.below (hide_step hG.mv hG.same), fun p hp => ?_⟩
  · obtain ⟨M, e, hP, hne, hS⟩ := h.plc
    refine ⟨M, e, hP.keep (hG.keep M hP.lt hne fun e => ?_), hne, plus_of hS⟩
    obtain ⟨c2, hc2⟩ := hown M e
    exact map_ne hc2 hP rfl
  · obtain ⟨cur, hc⟩ := h.dT hg
    exact hk g cur _ hc (by decide) (by decide)
  · obtain ⟨cur, hc⟩ := h.cT hg
    exact hk g cur _ hc (by decide) (by decide)
  · obtain ⟨h1, h2, h3⟩ := h.kept p hp
    exact ⟨(hk _ _ _ h1 (fun e => h3 (by rw [e]; simp)) (fun e => h3 (by rw [e]; simp))).trans h1, plus_of h2, h3⟩
theorem get_app {α : Type} {xs : List α} {y z : α} {k : Nat} (h : (xs ++ [y])[k]? = some z) : (k < xs.length ∧ xs[k]? = some z) ∨ (k = xs.length ∧ z = y) := by
  by_cases hk : k < xs.length
  · rw [List.getElem?_append_left hk] at h
    exact .inl ⟨hk, h⟩
  · rw [List.getElem?_append_right (by omega)] at h
    have h0 : k - xs.length = 0 := by
      have := (List.getElem?_eq_some_iff.1 h).1
      simp at this; omega
    rw [h0] at h
    simp at h
    exact .inr ⟨by omega, h.symm⟩
theorem IsPx.dom (h : IsPx S w B r t ts pn nn dd cc) {x y : Sl} {l : List Int} {xs : List Sl} (hxl : xs.length = dd.length) (hxs : ∀ (k : Nat) (x : Sl) (l : List Int), xs[k]? = some x → dd[k]? = some l → IsInts (hide S w) x l) (hy : IsInts (hide S w) y l) (hG : Grew S w w' B 35 (.slice r.d.A r.d.n r.d.c) (.slice x.A x.n x.c)) (hbox : w'.heap[B]? = some (.cells (pcells t { r with d := x }) 84 (0, 0))) (hrow : w'.ownsRow 0 35 1 (.slice x.A x.n x.c) (dd.length + 1) (xs.map Sl.v ++ [y.v])) : IsPx (plus S (.slice x.A x.n x.c)) w' B { r with d := x } t ts pn nn (dd ++ [l]) cc := by
  have hown : ∀ g, (Value.slice r.d.A r.d.n r.d.c).ownBlock = some g → ∃ cur, w.heap[g]? = some (.cells cur 35 (0, 0)) := fun g hg => h.dT hg
  have hk : ∀ (g : Nat) (cur : Array Value) (s : TypeId), w.heap[g]? = some (.cells cur s (0, 0)) → s ≠ 35 → s ≠ 84 → w'.heap[g]? = w.heap[g]? := fun g cur s hg h9 h8 => hG.keep g (lt_of_block hg) (ty_ne hg h.tk.box h8) (fun e => by
    obtain ⟨c2, hc2⟩ := hown g e
    exact ty_ne hg hc2 h9 rfl)
  refine ⟨h.tk.put hG.same (hG.lt h.tk.lt) hG.mv.size hbox fun g cur hg => hk g cur _ hg (by decide) (by decide), ?_, own_same h.n fun g hg hl => ?_, ⟨xs ++ [y], by simpa using hrow, fun k u c a b => ?_⟩, h.c.keep hG.mv hG.same fun g hg hl => ?_, fun g hg => plus_of (h.nS g hg), fun g hg => plus_own hg, fun g hg => plus_of (h.cS g hg), h.ent.below (hide_step hG.mv hG.same), h.tab.below (hide_step hG.mv hG.same), fun p hp => ?_⟩
  · obtain ⟨M, e, hP, hne, hS⟩ := h.plc
    refine ⟨M, e, hP.keep (hG.keep M hP.lt hne fun e => ?_), hne, plus_of hS⟩
    obtain ⟨c2, hc2⟩ := hown M e
    exact map_ne hc2 hP rfl
  · obtain ⟨cur, hc⟩ := h.nT hg
    exact hk g cur _ hc (by decide) (by decide)
  · rcases get_app a with ⟨h1, h2⟩ | ⟨h1, rfl⟩ <;> rcases get_app b with ⟨h3, h4⟩ | ⟨h3, rfl⟩
    · exact (hxs k u c h2 h4).below (hide_step hG.mv hG.same)
    · omega
    · omega
    · exact hy.below (hide_step hG.mv hG.same)
  · obtain ⟨cur, hc⟩ := h.cT hg
    exact hk g cur _ hc (by decide) (by decide)
  · obtain ⟨h1, h2, h3⟩ := h.kept p hp
    exact ⟨(hk _ _ _ h1 (fun e => h3 (by rw [e]; simp)) (fun e => h3 (by rw [e]; simp))).trans h1, plus_of h2, h3⟩
theorem IsPx.con (h : IsPx S w B r t ts pn nn dd cc) {x : Sl} {y : ConV} {l : ConL} {xs : List ConV} (hxl : xs.length = cc.length) (hxs : ∀ (k : Nat) (x : ConV) (l : ConL), xs[k]? = some x → cc[k]? = some l → ConIn (hide S w) x l) (hy : ConIn (hide S w) y l) (hG : Grew S w w' B 37 (.slice r.c.A r.c.n r.c.c) (.slice x.A x.n x.c)) (hbox : w'.heap[B]? = some (.cells (pcells t { r with c := x }) 84 (0, 0))) (hrow : w'.ownsRow 0 37 8 (.slice x.A x.n x.c) (cc.length + 1) (((xs.zip cc).flatMap fun p => (p.1.cells p.2.kind p.2.K).toList) ++ (y.cells l.kind l.K).toList)) : IsPx (plus S (.slice x.A x.n x.c)) w' B { r with c := x } t ts pn nn dd (cc ++ [l]) := by
  have hown : ∀ g, (Value.slice r.c.A r.c.n r.c.c).ownBlock = some g → ∃ cur, w.heap[g]? = some (.cells cur 37 (0, 0)) := fun g hg => h.cT hg
  have hk : ∀ (g : Nat) (cur : Array Value) (s : TypeId), w.heap[g]? = some (.cells cur s (0, 0)) → s ≠ 37 → s ≠ 84 → w'.heap[g]? = w.heap[g]? := fun g cur s hg h9 h8 => hG.keep g (lt_of_block hg) (ty_ne hg h.tk.box h8) (fun e => by
    obtain ⟨c2, hc2⟩ := hown g e
    exact ty_ne hg hc2 h9 rfl)
  refine ⟨h.tk.put hG.same (hG.lt h.tk.lt) hG.mv.size hbox fun g cur hg => hk g cur _ hg (by decide) (by decide), ?_, own_same h.n fun g hg hl => ?_, h.d.keep hG.mv hG.same fun g hg hl => ?_, ⟨xs ++ [y], by simp [hxl], ?_, fun k u c a b => ?_⟩, fun g hg => plus_of (h.nS g hg), fun g hg => plus_of (h.dS g hg), fun g hg => plus_own hg, h.ent.below (hide_step hG.mv hG.same), h.tab.below (hide_step hG.mv hG.same), fun p hp => ?_⟩
  · obtain ⟨M, e, hP, hne, hS⟩ := h.plc
    refine ⟨M, e, hP.keep (hG.keep M hP.lt hne fun e => ?_), hne, plus_of hS⟩
    obtain ⟨c2, hc2⟩ := hown M e
    exact map_ne hc2 hP rfl
  · obtain ⟨cur, hc⟩ := h.nT hg
    exact hk g cur _ hc (by decide) (by decide)
  · obtain ⟨cur, hc⟩ := h.dT hg
    exact hk g cur _ hc (by decide) (by decide)
  · rw [List.zip_append hxl, List.flatMap_append, List.length_append]
    simpa using hrow
  · rcases get_app a with ⟨h1, h2⟩ | ⟨h1, rfl⟩ <;> rcases get_app b with ⟨h3, h4⟩ | ⟨h3, rfl⟩
    · exact (hxs k u c h2 h4).below (hide_step hG.mv hG.same)
    · omega
    · omega
    · exact hy.below (hide_step hG.mv hG.same)
  · obtain ⟨h1, h2, h3⟩ := h.kept p hp
    exact ⟨(hk _ _ _ h1 (fun e => h3 (by rw [e]; simp)) (fun e => h3 (by rw [e]; simp))).trans h1, plus_of h2, h3⟩
/-- A name more in the map. -/
theorem IsPx.map (h : IsPx S w B r t ts pn nn dd cc) {M : Nat} {pn' : List Bs} (hM : r.mp = .map (some M)) (hk : ∀ g, g ≠ M → w'.heap[g]? = w.heap[g]?) (hs : w'.heap.size = w.heap.size) (hos : w'.os = w.os ∧ w'.tape = w.tape ∧ w'.output = w.output) (hP' : Plc w' M pn') : Mv S w w' ∧ IsPx S w' B r t ts pn' nn dd cc := by
  obtain ⟨M', e, hP, hne, hS⟩ := h.plc
  rw [hM] at e
  cases e
  have hm : Mv S w w' := ⟨hos.1, hos.2.1, hos.2.2, Nat.le_of_eq hs.symm, fun k _ hk' => hk k (fun e => by rw [e, hS] at hk'; cases hk')⟩
  have hc : ∀ (g : Nat) (cur : Array Value) (s : TypeId), w.heap[g]? = some (.cells cur s (0, 0)) → w'.heap[g]? = w.heap[g]? := fun g cur s hg => hk g (map_ne hg hP)
  refine ⟨hm, h.tk.put (fun _ _ => rfl) (fun g hg => by rw [hs]; exact h.tk.lt g hg) (Nat.le_of_eq hs.symm) ((hc _ _ _ h.tk.box).trans h.tk.box) (fun g cur hg => hc g cur _ hg), ⟨M, hM, hP', hne, hS⟩, own_same h.n fun g hg hl => ?_, h.d.keep hm (fun _ _ => rfl) fun g hg hl => ?_, h.c.keep hm (fun _ _ => rfl) fun g hg hl => ?_, h.nS, h.dS, h.cS, h.ent.below (hide_step hm fun _ _ => rfl), h.tab.below (hide_step hm fun _ _ => rfl), fun p hp => ?_⟩
  · obtain ⟨cur, hcc⟩ := h.nT hg
    exact hc g cur _ hcc
  · obtain ⟨cur, hcc⟩ := h.dT hg
    exact hc g cur _ hcc
  · obtain ⟨cur, hcc⟩ := h.cT hg
    exact hc g cur _ hcc
  · obtain ⟨h1, h2, h3⟩ := h.kept p hp
    exact ⟨(hc _ _ _ h1).trans h1, h2, h3⟩
end
end Go.Proofs.YtgemgmdnnjaghaaGreatDoor

/- The parser's whole state in memory; what of it stays, and what turns. No walk. -/
import Derived.Test.YtmamgaaeeonfmaaGreatDoorPdom
namespace Go.Proofs.YtmamgaaeeonfmaaGreatDoor
open Go.RowKit Go.Sort Go.Maps

theorem hide_step {S T : Nat → Bool} {w w' : World} (h : Mv S w w') (hT : ∀ g, g < w.heap.size → T g = S g) : Below (hide S w).heap.size (hide S w) (hide T w') := by
  rw [hide_size]
  exact h.hide.trans (hide_more hT)
abbrev strB (b : Bs) : Value := .string (txt b)
/-- Domains that were read. -/
def DomsIn (S : Nat → Bool) (w : World) (v : Value) (ls : List (List Int)) : Prop := ∃ xs : List Sl, w.ownsRow 0 49 1 v ls.length (xs.map Sl.v) ∧ ∀ (k : Nat) (x : Sl) (l : List Int), xs[k]? = some x → ls[k]? = some l → IsInts (hide S w) x l
/-- Constraints that were read. -/
def ConsIn (S : Nat → Bool) (w : World) (v : Value) (cs : List ConL) : Prop := ∃ xs : List ConV, xs.length = cs.length ∧ w.ownsRow 0 51 8 v cs.length ((xs.zip cs).flatMap fun p => (p.1.cells p.2.kind p.2.K).toList) ∧ ∀ (k : Nat) (x : ConV) (c : ConL), xs[k]? = some x → cs[k]? = some c → ConIn (hide S w) x c
theorem DomsIn.keep {S T : Nat → Bool} {w w' : World} {v : Value} {ls : List (List Int)} (h : DomsIn S w v ls) (hm : Mv S w w') (hT : ∀ g, g < w.heap.size → T g = S g) (hk : ∀ g, v.ownBlock = some g → g < w.heap.size → w'.heap[g]? = w.heap[g]?) : DomsIn T w' v ls := by
  obtain ⟨xs, h1, h2⟩ := h
  exact ⟨xs, own_same h1 hk, fun k x l a b => (h2 k x l a b).below (hide_step hm hT)⟩
theorem ConsIn.keep {S T : Nat → Bool} {w w' : World} {v : Value} {cs : List ConL} (h : ConsIn S w v cs) (hm : Mv S w w') (hT : ∀ g, g < w.heap.size → T g = S g) (hk : ∀ g, v.ownBlock = some g → g < w.heap.size → w'.heap[g]? = w.heap[g]?) : ConsIn T w' v cs := by
  obtain ⟨xs, h0, h1, h2⟩ := h
  exact ⟨xs, h0, own_same h1 hk, fun k x l a b => (h2 k x l a b).below (hide_step hm hT)⟩

/-- The parser: what is to be read, the names in the map, and what was read. -/
structure IsPx (S : Nat → Bool) (w : World) (B : Nat) (r : PRest) (t : Sl) (ts : List Tok) (pn : List Bs) (nn : List Bs) (dd : List (List Int)) (cc : List ConL) : Prop where
  tk : IsTk S w B r t ts
  plc : ∃ M, r.mp = .map (some M) ∧ Plc w M pn ∧ M ≠ B ∧ S M = true
  n : w.ownsRow 0 9 1 (.slice r.n.A r.n.n r.n.c) nn.length (nn.map strB)
  d : DomsIn S w (.slice r.d.A r.d.n r.d.c) dd
  c : ConsIn S w (.slice r.c.A r.c.n r.c.c) cc
  nS : ∀ g, (Value.slice r.n.A r.n.n r.n.c).ownBlock = some g → S g = true
  dS : ∀ g, (Value.slice r.d.A r.d.n r.d.c).ownBlock = some g → S g = true
  cS : ∀ g, (Value.slice r.c.A r.c.n r.c.c).ownBlock = some g → S g = true
  ent : EntIn (hide S w)
  tab : TabZ (hide S w)
  kept : ∀ p ∈ r.kp, w.heap[p.1]? = some (.cells p.2.1 p.2.2 (0, 0)) ∧ S p.1 = true ∧ p.2.2 ∉ [9, 49, 51, 48]
section
variable {S : Nat → Bool} {w w' : World} {B : Nat} {r : PRest} {t t' : Sl} {ts ts' : List Tok} {pn nn : List Bs} {dd : List (List Int)} {cc : List ConL}
theorem IsPx.pk (h : IsPx S w B r t ts pn nn dd cc) : IsPk S w B r t ts pn := ⟨h.tk, h.plc⟩
theorem IsPx.nT (h : IsPx S w B r t ts pn nn dd cc) {g : Nat} (hg : (Value.slice r.n.A r.n.n r.n.c).ownBlock = some g) : ∃ cur, w.heap[g]? = some (.cells cur 9 (0, 0)) := own_typed h.n hg
theorem IsPx.dT (h : IsPx S w B r t ts pn nn dd cc) {g : Nat} (hg : (Value.slice r.d.A r.d.n r.d.c).ownBlock = some g) : ∃ cur, w.heap[g]? = some (.cells cur 49 (0, 0)) := by
  obtain ⟨xs, h1, -⟩ := h.d
  exact own_typed h1 hg
theorem IsPx.cT (h : IsPx S w B r t ts pn nn dd cc) {g : Nat} (hg : (Value.slice r.c.A r.c.n r.c.c).ownBlock = some g) : ∃ cur, w.heap[g]? = some (.cells cur 51 (0, 0)) := by
  obtain ⟨xs, h0, h1, -⟩ := h.c
  exact own_typed h1 hg
/-- Blocks of two types are two. -/
theorem ty_ne {g k : Nat} {a b : Array Value} {s u : TypeId} (h1 : w.heap[g]? = some (.cells a s (0, 0))) (h2 : w.heap[k]? = some (.cells b u (0, 0))) (hne : s ≠ u) : g ≠ k := fun e => by
  rw [e, h2] at h1
  cases h1
  exact hne rfl
theorem map_ne {g k : Nat} {a : Array Value} {s : TypeId} {M : List Bs} (h1 : w.heap[g]? = some (.cells a s (0, 0))) (h2 : Plc w k M) : g ≠ k := fun e => by
  obtain ⟨D, ⟨es, clock, hb, -⟩, -⟩ := h2
  rw [e, hb] at h1
  cases h1
/-- Only tokens were read. -/
theorem IsPx.mv (h : IsPx S w B r t ts pn nn dd cc) (hm : Mv (one B) w w') (h' : IsTk S w' B r t' ts') : IsPx S w' B r t' ts' pn nn dd cc := by
  have hmS := hm.toS h.tk.hid
  have hk : ∀ g, g ≠ B → g < w.heap.size → w'.heap[g]? = w.heap[g]? := fun g hg hl => hm.block g hl (by simpa [one] using hg)
  refine ⟨h', ?_, own_same h.n fun g hg hl => hk g ?_ hl, h.d.keep hmS (fun _ _ => rfl) fun g hg hl => hk g ?_ hl, h.c.keep hmS (fun _ _ => rfl) fun g hg hl => hk g ?_ hl, h.nS, h.dS, h.cS, h.ent.below (hide_step hmS fun _ _ => rfl), h.tab.below (hide_step hmS fun _ _ => rfl), fun p hp => ?_⟩
  · obtain ⟨M, e, hP, hne, hS⟩ := h.plc
    exact ⟨M, e, hP.keep (hk M hne hP.lt), hne, hS⟩
  · obtain ⟨cur, hc⟩ := h.nT hg
    exact ty_ne hc h.tk.box (by decide)
  · obtain ⟨cur, hc⟩ := h.dT hg
    exact ty_ne hc h.tk.box (by decide)
  · obtain ⟨cur, hc⟩ := h.cT hg
    exact ty_ne hc h.tk.box (by decide)
  · obtain ⟨h1, h2, h3⟩ := h.kept p hp
    exact ⟨(hk p.1 (ty_ne h1 h.tk.box (fun e => h3 (by rw [e]; simp))) (lt_of_block h1)).trans h1, h2, h3⟩
/-- The tokens stay. -/
theorem IsTk.put {S T : Nat → Bool} {r' : PRest} (h : IsTk S w B r t ts) (hT : ∀ g, g < w.heap.size → T g = S g) (hTl : ∀ g, T g = true → g < w'.heap.size) (hs : w.heap.size ≤ w'.heap.size) (hbox : w'.heap[B]? = some (.cells (pcells t r') 48 (0, 0))) (hk : ∀ (g : Nat) (cur : Array Value), w.heap[g]? = some (.cells cur 63 (0, 0)) → w'.heap[g]? = w.heap[g]?) : IsTk T w' B r' t ts := by
  refine ⟨hbox, (hT B (h.lt B h.hid)).trans h.hid, hTl, ⟨h.tok.len, h.tok.cap, h.tok.big, h.tok.brief, fun h0 => ?_⟩, fun h0 => ?_⟩
  · obtain ⟨g, o, e, hg, hc⟩ := h.tok.lies h0
    obtain ⟨ad, cur, e2, hS, hne, hb⟩ := h.own h0
    rw [e] at e2
    cases e2
    have hcell : ∀ o, w'.cell? ⟨g, o, none⟩ = w.cell? ⟨g, o, none⟩ := fun o => World.cell?_of_block (hk g cur hb)
    refine ⟨g, o, e, Nat.lt_of_lt_of_le hg hs, fun i hi => ?_⟩
    obtain ⟨a, b, c, d⟩ := hc i hi
    exact ⟨(hcell _).trans a, (hcell _).trans b, (hcell _).trans c, (hcell _).trans d⟩
  · obtain ⟨ad, cur, e2, hS, hne, hb⟩ := h.own h0
    exact ⟨ad, cur, e2, (hT _ (lt_of_block hb)).trans hS, hne, (hk _ cur hb).trans hb⟩
/-- A set with one row's block more. -/
def plus (S : Nat → Bool) (v : Value) : Nat → Bool := fun g => S g || decide (v.ownBlock = some g)
/-- Behind an append: what is known of the new world. -/
structure Grew (S : Nat → Bool) (w w' : World) (B : Nat) (e : TypeId) (v v' : Value) : Prop where
  mv : Mv S w w'
  keep : ∀ g, g < w.heap.size → g ≠ B → v.ownBlock ≠ some g → w'.heap[g]? = w.heap[g]?
  new : ∀ g, v'.ownBlock = some g → g < w'.heap.size ∧ (g < w.heap.size → S g = true)
theorem Grew.same {e : TypeId} {v v' : Value} (h : Grew S w w' B e v v') : ∀ g, g < w.heap.size → plus S v' g = S g := fun g hg => by
  unfold plus
  by_cases e : v'.ownBlock = some g
  · simp [e, (h.new g e).2 hg]
  · simp [e]
theorem Grew.lt {e : TypeId} {v v' : Value} (h : Grew S w w' B e v v') (hS : ∀ g, S g = true → g < w.heap.size) : ∀ g, plus S v' g = true → g < w'.heap.size := fun g hg => by
  unfold plus at hg
  by_cases e : v'.ownBlock = some g
  · exact (h.new g e).1
  · exact Nat.lt_of_lt_of_le (hS g (by simpa [e] using hg)) h.mv.size
end
end Go.Proofs.YtmamgaaeeonfmaaGreatDoor

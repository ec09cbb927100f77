/- The document's lists of words and shapes. -/
import Derived.Test.YtppiemgdjkehkaaDoorMrefs
import Derived.BigRegion
namespace Go.Proofs.YtppiemgdjkehkaaDoor
open Go.RowKit Go.Sort

def shapesL : List Bs := [] :: ents.map Ent.shape
def wordsL : List Bs := [] :: ents.map Ent.word
def strV (b : Bs) : Value := .string ⟨b.toArray⟩
/-- A slice of texts. -/
structure IsStrs (w : World) (x : Sl) (l : List Bs) : Prop where
  len : x.n = l.length
  lies : Lies w x.A x.n (fun j => strV (l.getD j []))
  big : x.n ≤ 4611686018427387903
  cap : x.n ≤ x.c
theorem IsStrs.below {w w' : World} {x : Sl} {l : List Bs} (h : IsStrs w x l) (hb : Below w.heap.size w w') : IsStrs w' x l := ⟨h.len, h.lies.below hb, h.big, h.cap⟩

theorem strs_new (w : World) (l : List Bs) (t : TypeId) (hl : l.length ≤ 4611686018427387903) : IsStrs (w.alloc (.cells (l.map strV).toArray t)) ⟨some ⟨w.heap.size, 0, none⟩, l.length, l.length⟩ l := by
  refine ⟨rfl, fun _ => ⟨_, rfl, by simp, fun j hj => ?_⟩, hl, Nat.le_refl _⟩
  rw [Addr.add_mid, Nat.zero_add]
  have hj' : j < l.length := hj
  simp [hj', List.getD_eq_getElem?_getD]

set_option maxRecDepth 100000 in
theorem shapes_any (w : World) : Calls Tryd.prog 16 #[] w fun e w' => (∃ x : Sl, e = .returned (.slice x.A x.n x.c) ∧ IsStrs w' x shapesL) ∧ Below w.heap.size w w' := by
  go_enter Tryd.func16, Tryd.ntmps16
  go_wp2_with fail
  go_ret
  exact ⟨⟨⟨some ⟨w.heap.size, 0, none⟩, 24, 24⟩, rfl, strs_new w shapesL _ (by decide)⟩, below1 _ _⟩

def cntI (sh : ByteArray) (x : UInt8) : Int := (((bl sh).count x : Nat) : Int)
def lenI (l : List Int) : Int := ((l.length : Nat) : Int)

/-- Are all lists as they must be? As the document asks it. -/
def arityB (c : ConL) (sh : ByteArray) : Bool :=
  if (c.K != 0 && cntI sh 107 == 0) = true then false
  else if (c.kind == 12) = true then decide (1 ≤ lenI c.A + lenI c.B) && decide (lenI c.A ≤ 64) && decide (lenI c.B ≤ 64) && lenI c.C == 0 && lenI c.D == 0 && lenI c.E == 0 && ((c.rows.length : Nat) : Int) == 0
  else if (!listB (lenI c.A) (cntI sh 118) (cntI sh 86) || !listB (lenI c.B) (cntI sh 119) (cntI sh 87) || !listB (lenI c.C) 0 (cntI sh 99) || !listB (lenI c.D) 0 (cntI sh 100) || !listB (lenI c.E) 0 (cntI sh 101)) = true then false
  else if (cntI sh 114 == 0 && decide (0 < ((c.rows.length : Nat) : Int)) || decide (0 < cntI sh 114) && (decide (((c.rows.length : Nat) : Int) < 1) || decide (1024 < ((c.rows.length : Nat) : Int)))) = true then false
  else if (decide (c.kind ≤ 4) && lenI c.C != lenI c.A) = true then false
  else if (c.kind == 19 && (lenI c.C != lenI c.A || lenI c.D != lenI c.A) || c.kind == 21 && (lenI c.D != lenI c.C || lenI c.E != lenI c.C) || decide (22 ≤ c.kind) && lenI c.B != lenI c.A) = true then false
  else !c.rows.any (fun r => r.length != c.A.length)

def secD (c : ConL) : Int := if c.kind = 19 ∨ c.kind = 21 then 0 else -1000000
/-- Are all numbers within their bounds? As the document asks it. -/
def coefsB (c : ConL) : Bool := !c.C.any (outB (lowC c) 1000000) && !c.D.any (outB (secD c) 1000000) && !c.E.any (outB (secD c) 1000000) && !outB (lowK c) 9999999999 c.K && !c.rows.any (fun r => r.any (outB (-1000000) 1000000)) && (c.kind != 21 || countsB c)

end Go.Proofs.YtppiemgdjkehkaaDoor

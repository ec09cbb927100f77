/- A region that draws its order: begun by taking what may be taken and by its calls, ended by one walk over what only reads. -/
import Derived.Test.YtegiaonlneamfaaDoorLists
namespace Go.Proofs.YtegiaonlneamfaaDoor
open Go.RowKit

section
variable {P : Program} {md : Region.Mode} {ops : Array Oper} {C S : World → Prop}

theorem wpAnyH_of_quiet {Q : Act → Prop} {Q' : Exit → Act → World → Prop} (hQ : ∀ a w, C w → Q a → Q' .normal a w) (hS : ∀ w, C w → S w) : ∀ (fuel : Nat) (listed : Array Bool) (a : Act) (w : World), C w → wpAnyQ P md ops C Q fuel listed a → wpAnyH P md ops Q' S fuel listed a w
  | 0, _, _, _, hw, h => ⟨h.1, hQ _ _ hw h.2⟩
  | fuel + 1, _, _, _, hw, h => ⟨fun h0 => hQ _ _ hw (h.1 h0), fun i hi => wpOp_of_qOp hw (fun a' w' hw' hk => ⟨hS w' hw', wpAnyH_of_quiet hQ hS fuel _ a' w' hw' hk⟩) (h.2 i hi)⟩

theorem wpAnyH_finish {L : List Oper} (k : Nat) {fuel : Nat} {listed : Array Bool} {a : Act} {w : World} {Q : Exit → Act → World → Prop} (hf : (L.drop k).length = fuel) (hs : Region.noSelect L.toArray = true) (hB : Region.lexFrom md L.toArray fuel k listed = true)
    (hS : ∀ n, S (w.drewN n)) (h : wpQuiet P L.toArray (fun w' => ∃ n, w' = w.drewN n) (fun a' => ∀ w', (∃ n, w' = w.drewN n) → Q .normal a' w') (L.drop k) a) : wpAnyH P md L.toArray Q S fuel listed a w := by
  subst hf
  refine wpAnyH_of_quiet (C := fun w' => ∃ n, w' = w.drewN n) (Q := fun a' => ∀ w', (∃ n, w' = w.drewN n) → Q .normal a' w') (fun a w' hw h => h w' hw) (fun w' ⟨n, e⟩ => e ▸ hS n) _ _ _ _ ⟨0, rfl⟩ ?_
  exact wpAnyQ_lex hs (L.drop k) k listed a (fun j => by simp) hB h
end
end Go.Proofs.YtegiaonlneamfaaDoor

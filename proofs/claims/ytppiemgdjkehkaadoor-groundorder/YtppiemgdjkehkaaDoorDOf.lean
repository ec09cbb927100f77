/- Contract of Of: the domain of some numbers, or its error. -/
import Derived.Test.YtppiemgdjkehkaaDoorDOfm
namespace Go.Proofs.YtppiemgdjkehkaaDoor
open Go.RowKit

theorem least_unique {zs : List Int} {a b : Int} (h : MinTo zs zs.length a) (h' : MinTo zs zs.length b) : a = b := by
  have h1 := h.mem; have h2 := h'.mem
  have := h1.2 b h2.1; have := h2.2 a h1.1; omega
theorem most_unique {zs : List Int} {a b : Int} (h : MaxTo zs zs.length a) (h' : MaxTo zs zs.length b) : a = b := by
  have h1 := h.mem; have h2 := h'.mem
  have := h1.2 b h2.1; have := h2.2 a h1.1; omega

theorem min_exists (zs : List Int) (h : 0 < zs.length) : ∃ m, MinTo zs zs.length m := by
  have : ∀ k, 0 < k → k ≤ zs.length → ∃ m, MinTo zs k m := by
    intro k
    induction k with
    | zero => intro h; omega
    | succ k ih =>
      intro _ hk
      by_cases h0 : k = 0
      · subst h0; exact ⟨_, MinTo.start rfl⟩
      · obtain ⟨m, hm⟩ := ih (by omega) (by omega)
        exact ⟨_, hm.step⟩
  exact this _ h (Nat.le_refl _)
theorem max_exists (zs : List Int) (h : 0 < zs.length) : ∃ m, MaxTo zs zs.length m := by
  have : ∀ k, 0 < k → k ≤ zs.length → ∃ m, MaxTo zs k m := by
    intro k
    induction k with
    | zero => intro h; omega
    | succ k ih =>
      intro _ hk
      by_cases h0 : k = 0
      · subst h0; exact ⟨_, MaxTo.start rfl⟩
      · obtain ⟨m, hm⟩ := ih (by omega) (by omega)
        exact ⟨_, hm.step⟩
  exact this _ h (Nat.le_refl _)

end Go.Proofs.YtppiemgdjkehkaaDoor

/- Contracts of Without, Only, AtLeast, AtMost, And, Minus over a domain's rising list. -/
import Derived.Test.YtppiemgdjkehkaaDoorDCutm
namespace Go.Proofs.YtppiemgdjkehkaaDoor
open Go.RowKit

section
variable {w W : World} {o p : Obj}
end

/-- A domain stays one, when a block is written that holds none of its words. -/
theorem IsDom.stored {W : World} {R : List Int} {s' z : Int} {A : Option Addr} {ws : List Nat} {c g : Nat} (hl : Lies W A ws.length (u64f ws)) (hz : z = (R.length : Nat)) (hF : Form s' ws) (hL : listOf s' ws = R) (hg : ∀ ad, A = some ad → 0 < ws.length → ad.block ≠ g) (v0 v1 v2 : Value) :
    IsDom (((W.setCell ⟨g, 0, none⟩ v0).setCell ⟨g, 1, none⟩ v1).setCell ⟨g, 2, none⟩ v2) (.agg #[.int .i64 s', .slice A ws.length c, .int .i64 z]) R := by
  refine ⟨s', A, ws, c, by rw [hz], fun hp => ?_, hF, hL⟩
  obtain ⟨ad, e, hb, hc⟩ := hl hp
  refine ⟨ad, e, by simpa [World.setCell] using hb, fun j hj => ?_⟩
  have hne := hg ad e hp
  rw [World.cell?_setCell_other _ _ _ _ (fun q => hne (by have := congrArg Addr.block q; rw [add_block] at this; exact this.symm)), World.cell?_setCell_other _ _ _ _ (fun q => hne (by have := congrArg Addr.block q; rw [add_block] at this; exact this.symm)), World.cell?_setCell_other _ _ _ _ (fun q => hne (by have := congrArg Addr.block q; rw [add_block] at this; exact this.symm))]
  exact hc j hj

end Go.Proofs.YtppiemgdjkehkaaDoor

/- Contracts of slices.Equal, Min and Max, at words and numbers; of Equal of two domains. -/
namespace Go.Proofs.YtppiemgdjkehkaaDoor
open Go.RowKit

theorem Lies.drewN {w : World} {A : Option Addr} {n : Nat} {f : Nat → Value} (h : Lies w A n f) (k : Nat) : Lies (w.drewN k) A n f := h

end Go.Proofs.YtppiemgdjkehkaaDoor

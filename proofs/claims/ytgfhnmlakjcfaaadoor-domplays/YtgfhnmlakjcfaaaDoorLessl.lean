/- Contract of the law's own less, first part: Keep of no numbers. -/
import Derived.Test.YtgfhnmlakjcfaaaDoorKeep
namespace Go.Proofs.YtgfhnmlakjcfaaaDoor
open Go.RowKit Go.Sort

theorem refkeep_none (A B : Option Addr) (o v : Int) (cA m cB : Nat) (w : World) : Calls Tryd.prog 46 #[.slice A 0 cA, .int .i64 o, .int .i64 v, .slice B m cB] w (GivesOf w [] 0) := by
  have hch := refchange_any A none [] [] 0 0 cA 0 w rfl rfl (fun h => absurd h (by omega)) (Lies.none _ _ _) (by omega) (by omega)
  have Hch := Lib.hid hch
  clear hch
  go_enter Tryd.func46, Tryd.ntmps46
  go_wp2
  refine wp_loop_rounds 1 ?_
  rw [rounds_succ]
  go_wp2_with fail
  refine Hch.out.mono ?_
  rintro e w3 ⟨rfl, hb3⟩
  have Hb3 := Lib.hid hb3
  clear hb3
  go_wp2_with fail
  go_ret2
  exact ⟨_, rfl, World.ownsRow_nil _ _ _ _, Hb3.out⟩
end Go.Proofs.YtgfhnmlakjcfaaaDoor

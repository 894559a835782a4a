/- HeapSorts at a slice without elements. -/
import Derived.Test.YtfhpabcjbjmcmaaSortsWalk
namespace Go.Proofs.Ytfhpabcjbjmcmaa
open Go.RowKit Go.Maps

set_option maxHeartbeats 1000000 in
set_option maxRecDepth 100000 in
theorem sorts_zero [Inhabited EntI] [Inhabited EntS] (a : Option Addr) (cap : Nat) (w : World) :
    Calls Try.prog 4 #[.slice a 0 cap] w fun e w' => e = .returned (.bool true) ∧ Below w.heap.size w w' := by
  go_enter Try.func4, Try.ntmps4
  go_wp2_with fail
  refine (newLI 13 w less13).mono ?_
  rintro e w1 ⟨p, rfl, L1⟩
  have HL1 := hide L1
  clear L1
  go_wp2_with fail
  refine (awake_any w1).mono ?_
  rintro e w2 ⟨rfl, hb2⟩
  have L2 := (unhide HL1).step hb2
  have CP := hide (popNoneLI L2)
  have HB := hide L2.below
  clear HL1 hb2 L2
  go_wp2_with fail
  refine wp_loop_rounds 1 ?_
  rw [rounds_succ]
  go_wp2_with fail
  refine wp_loop_rounds 1 ?_
  rw [rounds_succ]
  go_wp2_with fail
  refine (unhide CP).mono ?_
  rintro e w' ⟨rfl, rfl⟩
  clear CP
  go_wp2_with fail
  go_ret
  exact ⟨rfl, unhide HB⟩
end Go.Proofs.Ytfhpabcjbjmcmaa

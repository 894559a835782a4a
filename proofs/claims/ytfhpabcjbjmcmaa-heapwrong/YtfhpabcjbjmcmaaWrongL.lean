/- The order of HeapWrong. -/
import Derived.Test.YtfhpabcjbjmcmaaWrongC
import Derived.Deep.RegionHeld3
import Derived.Deep.CutRange
namespace Go.Proofs.Ytfhpabcjbjmcmaa
open Go.RowKit Go.Maps

set_option maxHeartbeats 1000000 in
set_option maxRecDepth 100000 in
theorem wrongNone (ab sb cap c : Nat) (a : Option Addr) (x y : Int) (w : World) (hc : c ≤ 1099511627776) (c0 : w.cell? ⟨ab, 0, none⟩ = some (.int .i64 c)) (cf : ∀ o, w.frozen? ⟨ab, o, none⟩ = false) (s0 : w.cell? ⟨sb, 0, none⟩ = some (.slice a 0 cap)) (hne : ¬ (sb = ab)) :
    Calls Try.prog 24 #[.int .i64 x, .int .i64 y, .pointer (some ⟨ab, 0, none⟩), .pointer (some ⟨sb, 0, none⟩)] w fun e w' => ∃ r : Bool, e = .returned (.bool r) ∧ ∃ q, w' = (w.setCell ⟨ab, 0, none⟩ (.int .i64 ((c : Int) + 1))).drewN q := by
  have hne' : ¬ (ab = sb) := fun e => hne e.symm
  have c1 : (w.setCell ⟨ab, 0, none⟩ (.int .i64 ((c : Int) + 1))).cell? ⟨ab, 0, none⟩ = some (.int .i64 ((c : Int) + 1)) := World.cell?_setCell_same _ _ _ c0
  have s1 : (w.setCell ⟨ab, 0, none⟩ (.int .i64 ((c : Int) + 1))).cell? ⟨sb, 0, none⟩ = some (.slice a 0 cap) := (World.cell?_setCell_other _ _ _ _ (by simp)).trans s0
  go_enter Try.func24, Try.ntmps24
  go_upto_region 2 with fail
  obtain ⟨W, hW⟩ : ∃ W, W = w.setCell ⟨ab, 0, none⟩ (.int .i64 ((c : Int) + 1)) := ⟨_, rfl⟩
  rw [← hW] at c1 s1 ⊢
  have HW := hide hW
  clear hW c0 s0 cf
  refine wp_region_quiet_lit (by kernel_rfl) (by kernel_rfl) ?_
  repeat (first | go_big_quiet_skip | quiet_step (fail))
  refine wpQuiet_nil ?_
  intro _ hw'
  obtain ⟨nq, hw''⟩ := hw'
  subst hw''
  go_wp2_with fail
  go_ret
  exact ⟨_, rfl, nq, by rw [← unhide HW]⟩

set_option maxHeartbeats 1000000 in
set_option maxRecDepth 100000 in
theorem wrongSome (ab sb blk off j L cap c : Nat) (x y : Int) (z : Bool) (w : World) (hc : c ≤ 1099511627776) (hL : 0 < L) (hj : j = (c + 1) % L) (c0 : w.cell? ⟨ab, 0, none⟩ = some (.int .i64 c)) (cf : ∀ o, w.frozen? ⟨ab, o, none⟩ = false) (s0 : w.cell? ⟨sb, 0, none⟩ = some (.slice (some ⟨blk, off, none⟩) L cap)) (b0 : w.cell? ⟨blk, off + j, none⟩ = some (.bool z)) (hne : ¬ (sb = ab)) (hnb : ¬ (blk = ab)) :
    Calls Try.prog 24 #[.int .i64 x, .int .i64 y, .pointer (some ⟨ab, 0, none⟩), .pointer (some ⟨sb, 0, none⟩)] w fun e w' => ∃ r : Bool, e = .returned (.bool r) ∧ ∃ q, w' = (w.setCell ⟨ab, 0, none⟩ (.int .i64 ((c : Int) + 1))).drewN q := by
  have hne' : ¬ (ab = sb) := fun e => hne e.symm
  have c1 : (w.setCell ⟨ab, 0, none⟩ (.int .i64 ((c : Int) + 1))).cell? ⟨ab, 0, none⟩ = some (.int .i64 ((c : Int) + 1)) := World.cell?_setCell_same _ _ _ c0
  have s1 : (w.setCell ⟨ab, 0, none⟩ (.int .i64 ((c : Int) + 1))).cell? ⟨sb, 0, none⟩ = some (.slice (some ⟨blk, off, none⟩) L cap) := (World.cell?_setCell_other _ _ _ _ (by simp)).trans s0
  have b1 : (w.setCell ⟨ab, 0, none⟩ (.int .i64 ((c : Int) + 1))).cell? ⟨blk, off + j, none⟩ = some (.bool z) := (World.cell?_setCell_other _ _ _ _ (by simp)).trans b0
  have hLz : (0 : Int) < (L : Int) := by omega
  have hLd : decide ((0 : Int) < (L : Int)) = true := by simpa using hL
  have hjz : ((c : Int) + 1) % (L : Int) = (j : Int) := by rw [hj, Int.natCast_emod]; rfl
  have hjL : (j : Int) < (L : Int) := by rw [hj]; have := Nat.mod_lt (c + 1) hL; omega
  clear hj
  go_enter Try.func24, Try.ntmps24
  go_upto_region 2 with fail
  obtain ⟨W, hW⟩ : ∃ W, W = w.setCell ⟨ab, 0, none⟩ (.int .i64 ((c : Int) + 1)) := ⟨_, rfl⟩
  rw [← hW] at c1 s1 b1 ⊢
  have HW := hide hW
  clear hW c0 s0 b0 cf
  go_quiet (fail)
  go_wp2_with fail
  go_ret
  exact ⟨_, rfl, nq, by rw [← unhide HW]⟩
end Go.Proofs.Ytfhpabcjbjmcmaa

/- The fixed fact that the statements ask first, over ints. -/
import Derived.Test.YtfhidghjmookhaaLiveN
namespace Go.Proofs.Ytfhidghjmookhaa
open Go.RowKit Go.Maps

theorem ok5 : okN 5 := by show (Lit.int .i64 5).wf = true; decide
theorem ok3 : okN 3 := by show (Lit.int .i64 3).wf = true; decide

theorem two_one {x1 x2 : Part Int} (h : Fam ltN okN ([] ++ [x1] ++ [x2])) : x1.q ≠ x2.q := by
  have := h.apart
  simp at this
  exact this.1

theorem without_two {x1 x2 : Part Int} : without x2 (without x1 ([] ++ [x1] ++ [x2])) = [] ∧ without x1 (without x2 ([] ++ [x1] ++ [x2])) = [] := by
  constructor <;> rw [List.eq_nil_iff_forall_not_mem] <;> intro z hz
  · obtain ⟨h1, h2⟩ := mem_without.1 hz
    obtain ⟨h3, h4⟩ := mem_without.1 h1
    simp at h3
    rcases h3 with rfl | rfl
    · exact h4 rfl
    · exact h2 rfl
  · obtain ⟨h1, h2⟩ := mem_without.1 hz
    obtain ⟨h3, h4⟩ := mem_without.1 h1
    simp at h3
    rcases h3 with rfl | rfl
    · exact h2 rfl
    · exact h4 rfl

set_option maxHeartbeats 2000000 in
set_option maxRecDepth 100000 in
theorem awake_any (w : World) : Calls Try.prog 8 #[] w fun e w' => e = .returned (.bool true) ∧ Below w.heap.size w w' := by
  go_enter Try.func8, Try.ntmps8
  go_wp2_with fail
  refine (newLN w).mono ?_
  rintro e w1 ⟨p, rfl, L1⟩
  have C1 := hide (addLN 5 L1 ok5 (fun z hz => by simp at hz) (by simp [tot]))
  clear L1
  go_wp2_with fail
  refine (unhide C1).mono ?_
  rintro e w2 ⟨rfl, x1, hx1, L2⟩
  have C2 := hide (addLN 3 L2 ok3 (fun z hz => by simp at hz; rw [hz, hx1]; simp) (by simp [tot, hx1]))
  clear L2 C1
  go_wp2_with fail
  refine (unhide C2).mono ?_
  rintro e w3 ⟨rfl, x2, hx2, L3⟩
  have C3 := hide (addInLN (x := x2) 3 L3 (by simp) (by rw [hx2]; simp))
  have C4 := hide (joinLN (x := x1) (y := x2) 5 3 L3 (by simp) (by simp) (by rw [hx1]; simp) (by rw [hx2]; simp) (two_one L3.fam) (by simp [tot, hx1, hx2]))
  clear L3 C2
  go_wp2_with fail
  refine (unhide C3).mono ?_
  rintro e w' ⟨rfl, rfl⟩
  clear C3
  go_wp2_with fail
  refine (unhide C4).mono ?_
  rintro e w4 ⟨rfl, z, R, hz, hzl, hR, L4⟩
  have hRn : R = [] := by
    rcases hR with h | h
    · rw [h]; exact without_two.1
    · rw [h]; exact without_two.2
  subst hRn
  have hzm : z ∈ ([] ++ [z] : List (Part Int)) := by simp
  have hzk : z.ks = [3, 5] := by
    refine rising_ext linN (L4.fam.rise z hzm) (by simp [Rising, ltN]) (fun k => ?_)
    rw [hz, hx1, hx2]
    simp
    exact Or.comm
  have f3 : fOf ([] ++ [z]) (3 : Int) = some z.q := fOf_some L4.fam hzm (by rw [hzk]; simp)
  have f5 : fOf ([] ++ [z]) (5 : Int) = some z.q := fOf_some L4.fam hzm (by rw [hzk]; simp)
  have C5 := hide (joinNoLN 3 5 L4 ok3 ok5 (.inr (.inr (by rw [f3, f5]))))
  clear L4 C4 hR hz hzl
  go_wp2_with fail
  refine (unhide C5).mono ?_
  rintro e w5 ⟨rfl, L5⟩
  have C6 := hide (headLN (x := z) 5 L5 hzm (by rw [hzk]; simp))
  have C7 := hide (lenLN L5)
  have C8 := hide (sameLN 3 5 L5 ok3 ok5)
  have HB := hide L5.below
  rw [hzk] at C6
  rw [show tot ([] ++ [z]) = 2 by simp [tot, hzk]] at C7
  rw [f3, f5] at C8
  clear L5 C5 f3 f5 hzk hzm hx1 hx2
  go_wp2_with fail
  refine (unhide C6).mono ?_
  rintro e w' ⟨rfl, rfl⟩
  clear C6
  go_wp2_with fail
  refine (unhide C7).mono ?_
  rintro e w' ⟨rfl, rfl⟩
  clear C7
  go_wp2_with fail
  refine (unhide C8).mono ?_
  rintro e w' ⟨rfl, rfl⟩
  clear C8
  go_wp2_with fail
  go_ret
  exact ⟨by simp, unhide HB⟩
end Go.Proofs.Ytfhidghjmookhaa

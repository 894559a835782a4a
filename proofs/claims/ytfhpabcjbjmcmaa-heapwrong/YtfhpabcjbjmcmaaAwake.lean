/- The fixed fact that the statements ask first: the document's example over texts. -/
import Derived.Test.YtfhpabcjbjmcmaaLiveS
namespace Go.Proofs.Ytfhpabcjbjmcmaa
open Go.RowKit Go.Maps

set_option maxHeartbeats 400000 in
theorem less29 : Less (.func (.func 29) #[] #[]) (fun x => x) := by
  refine ⟨29, #[], rfl, enters_of Try.func29 (by kernel_rfl) rfl, fun x y w => ?_⟩
  show Calls Try.prog 29 #[.int .i64 x, .int .i64 y] w _
  go_enter Try.func29, Try.ntmps29
  go_wp2
  go_ret
  exact ⟨rfl, rfl⟩

theorem okA : KeyOkS (ByteArray.mk #[97]) := by show (1 : Nat) ≤ maxLen; unfold maxLen; omega
theorem okB : KeyOkS (ByteArray.mk #[98]) := by show (1 : Nat) ≤ maxLen; unfold maxLen; omega
theorem abNe : (ByteArray.mk #[97] : ByteArray) ≠ ByteArray.mk #[98] := by decide

set_option maxHeartbeats 1000000 in
set_option maxRecDepth 100000 in
theorem awake_any [Inhabited EntS] (w : World) : Calls Try.prog 10 #[] w fun e w' => e = .returned (.bool true) ∧ Below w.heap.size w w' := by
  go_enter Try.func10, Try.ntmps10
  go_wp2_with fail
  refine (newLS 29 w less29).mono ?_
  rintro e w1 ⟨p, rfl, L1⟩
  have C1 := hide (pushLS (ByteArray.mk #[97]) 5 L1 okA (by simp) (by simp) (by omega))
  clear L1
  go_wp2_with fail
  refine (unhide C1).mono ?_
  rintro e w2 ⟨rfl, L2⟩
  have C2 := hide (pushLS (ByteArray.mk #[98]) 3 L2 okB (by intro x hx; simp at hx; subst hx; exact abNe) (by simp) (by omega))
  clear L2 C1
  go_wp2_with fail
  refine (unhide C2).mono ?_
  rintro e w3 ⟨rfl, L3⟩
  have C3 := hide (pushInLS (ByteArray.mk #[97]) 1 L3 okA ⟨_, by simp; exact .inl rfl, rfl⟩)
  have C4 := hide (lowerLS (x := ⟨ByteArray.mk #[97], 5, 0⟩) L3 (by simp) 2 (by simp))
  clear L3 C2
  go_wp2_with fail
  refine (unhide C3).mono ?_
  rintro e w' ⟨rfl, rfl⟩
  clear C3
  go_wp2_with fail
  refine (unhide C4).mono ?_
  rintro e w4 ⟨rfl, L4⟩
  have e1 : (decide ((2 : Int) < 5)) = true := by decide
  have e2 : lowered (ByteArray.mk #[97]) (2 : Int) ([] ++ [(⟨ByteArray.mk #[97], 5, 0⟩ : EntS)] ++ [⟨ByteArray.mk #[98], 3, 0 + 1⟩]) = [⟨ByteArray.mk #[97], 2, 0⟩, ⟨ByteArray.mk #[98], 3, 1⟩] := by
    simp [lowered, Ne.symm abNe]
  have L5 : LiveS w.heap.size w p [⟨ByteArray.mk #[97], 2, 0⟩, ⟨ByteArray.mk #[98], 3, 1⟩] 2 w4 := by
    have := L4
    rw [if_pos (by decide), e2] at this
    exact this
  have C5 := hide (popLS L5 (by simp) (by simp))
  clear L4 L5 C4 e2
  go_wp2_with fail
  refine (unhide C5).mono ?_
  rintro e w5 ⟨x, hx, rfl, hle, L6⟩
  obtain rfl : x = ⟨ByteArray.mk #[97], 2, 0⟩ := by
    simp at hx
    rcases hx with rfl | rfl
    · rfl
    · have := hle ⟨ByteArray.mk #[97], 2, 0⟩ (by simp)
      unfold le at this
      simp at this
  have L7 : LiveS w.heap.size w p [⟨ByteArray.mk #[98], 3, 1⟩] 2 w5 := by
    have e3 : without (ByteArray.mk #[97]) [(⟨ByteArray.mk #[97], 2, 0⟩ : EntS), ⟨ByteArray.mk #[98], 3, 1⟩] = [⟨ByteArray.mk #[98], 3, 1⟩] := by simp [without, Ne.symm abNe]
    have := L6
    simp only [e3] at this
    exact this
  have C6 := hide (lenLS L7)
  have HB := hide L7.below
  clear hx hle L6 L7 C5
  go_wp2_with fail
  refine (unhide C6).mono ?_
  rintro e w' ⟨rfl, rfl⟩
  clear C6
  go_wp2_with fail
  go_ret
  exact ⟨rfl, unhide HB⟩
end Go.Proofs.Ytfhpabcjbjmcmaa

/- The reference's Add, at whatever two words. -/
import Derived.Test.YtagibmgbjhemkaaGreatWRefAdd
namespace Go.Proofs.YtagibmgbjhemkaaGreat
open Go.RowKit

namespace M
/-- The reference's sum, of two that count as costs. -/
def refAdd (c1 c2 : Nat) : Nat :=
  let a := max c1 c2
  let b := min c1 c2
  let s := mant a * 2 ^ (expo a - expo b) + mant b
  if a = 2139095040 then 2139095040 else if 26 ≤ expo a - expo b then a else tail (expo b) (s.log2 - 23) (rounded s (s.log2 - 23))

theorem mant_lt (x : Nat) : mant x < 16777216 := by unfold mant; split <;> omega
theorem expo_mono {x y : Nat} (h : x ≤ y) : expo x ≤ expo y := by
  have := Nat.div_le_div_right (c := 8388608) h
  unfold expo; (repeat' split) <;> omega
theorem expo_le {x : Nat} (h : x < 2139095040) : expo x ≤ 254 := by
  unfold expo; split <;> omega
end M

theorem refAdd_nat (x y : Nat) (w : World) :
    Calls Tryz.prog 50 #[.int .u32 (x : Int), .int .u32 (y : Int)] w fun e w' => e = .returned (.int .u32 (M.refAdd (M.counts x) (M.counts y) : Int)) ∧ ∃ nq, w' = w.drewN nq := by
  have HX := hide (counts_nat x)
  have HY := hide (counts_nat y)
  have l1 := M.counts_le x
  have l2 := M.counts_le y
  generalize M.counts x = c1 at *
  generalize M.counts y = c2 at *
  unfold M.refAdd
  obtain ⟨a, b, hab, ea, eb, hle, hal⟩ : ∃ a b, ((c1 < c2 ∧ a = c2 ∧ b = c1) ∨ (¬ c1 < c2 ∧ a = c1 ∧ b = c2)) ∧ max c1 c2 = a ∧ min c1 c2 = b ∧ b ≤ a ∧ a ≤ 2139095040 := by
    by_cases h : c1 < c2
    · exact ⟨c2, c1, Or.inl ⟨h, rfl, rfl⟩, by omega, by omega, by omega, l2⟩
    · exact ⟨c1, c2, Or.inr ⟨h, rfl, rfl⟩, by omega, by omega, by omega, l1⟩
  rw [ea, eb]
  simp only []
  by_cases hi : a = 2139095040
  · rw [if_pos hi]
    exact refAdd_inf x y c1 c2 a b w hab HX HY (by simpa using by omega)
  · rw [if_neg hi]
    have he := M.expo_mono hle
    have hea := M.expo_le (x := a) (by omega)
    obtain ⟨d, hd⟩ : ∃ d, M.expo a = M.expo b + d := ⟨M.expo a - M.expo b, by omega⟩
    have HP1 : Hid (∀ w, Calls Tryz.prog 84 #[.int .i64 (a : Int)] w fun e w' => e = .returned (.tuple #[.int .i64 (M.mant a : Int), .int .i64 ((M.expo b : Int) + (d : Int))]) ∧ w' = w) := fun w => by
      have := parts_nat a hal w
      rwa [hd, Int.natCast_add] at this
    have HP2 : Hid (∀ w, Calls Tryz.prog 84 #[.int .i64 (b : Int)] w fun e w' => e = .returned (.tuple #[.int .i64 (M.mant b : Int), .int .i64 (M.expo b : Int)]) ∧ w' = w) := fun w => parts_nat b (by omega) w
    rw [show M.expo a - M.expo b = d by omega]
    by_cases h26 : 26 ≤ d
    · rw [if_pos h26]
      exact refAdd_far x y c1 c2 a b w (M.mant a) (M.expo b) d (M.mant b) h26 (by omega) (by omega) hab HX HY HP1 HP2
    · rw [if_neg h26]
      have m1 := M.mant_lt a
      have m2 := M.mant_lt b
      obtain ⟨s, hs⟩ : ∃ s, M.mant a * 2 ^ d + M.mant b = s := ⟨_, rfl⟩
      have hp := Nat.pow_le_pow_right (n := 2) (by omega) (show d ≤ 25 by omega)
      have hm := Nat.mul_le_mul (Nat.le_of_lt m1) hp
      have hsl : s < 2 ^ 50 := by omega
      rw [hs]
      refine refAdd_main x y c1 c2 a b w (M.mant a) (M.expo b) d (M.mant b) (by omega) (by omega) hab (by simpa using by omega) s (s.log2 - 23) ?_ ?_ ?_ ?_ HX HY HP1 HP2
      · show _ = _
        have e1 : ((M.mant a : Int) * 2 ^ d) = ((M.mant a * 2 ^ d : Nat) : Int) := by simp
        have e2 : ∀ z : Int, 0 ≤ z → z < 2 ^ 60 → wrap64 z = z := fun z h1 h2 => by unfold wrap64; omega
        rw [e1, e2 ((M.mant a * 2 ^ d : Nat) : Int) (by omega) (by omega), e2 _ (by omega) (by omega)]
        omega
      · have : s.log2 < 50 := by
          by_cases h0 : s = 0
          · subst h0; decide
          · exact (Nat.log2_lt h0).2 hsl
        omega
      · intro k hk
        have h0 : s ≠ 0 := by rintro rfl; simp at hk
        have h1 : 2 ^ s.log2 ≤ s := Nat.log2_self_le h0
        rw [Nat.le_div_iff_mul_le (Nat.two_pow_pos k)]
        have h2 := Nat.pow_le_pow_right (n := 2) (by omega) (show k + 24 ≤ s.log2 by omega)
        rw [Nat.pow_add] at h2
        omega
      · show _ < _
        rw [Nat.div_lt_iff_lt_mul (Nat.two_pow_pos _)]
        by_cases h0 : s = 0
        · subst h0; exact Nat.mul_pos (by omega) (Nat.two_pow_pos _)
        · have h1 : s < 2 ^ (s.log2 + 1) := Nat.lt_log2_self
          have h2 := Nat.pow_le_pow_right (n := 2) (by omega) (show s.log2 + 1 ≤ 24 + (s.log2 - 23) by omega)
          rw [Nat.pow_add 2 24] at h2
          omega
end Go.Proofs.YtagibmgbjhemkaaGreat

/- The walks of package weight's functions at costs. -/
import Derived.Test.YtjeplokphkcloaaDoorRound
import Derived.RowKit3
namespace Go.Proofs.YtjeplokphkcloaaDoor
open Go.RowKit

theorem bits_cost {r : Nat} (h : r ≤ 2139095040) : bitsB r = (r : Int) := by
  rw [bitsB_eq (by omega)]
  have : M.nan r = false := decide_eq_false (by omega)
  rw [this]; rfl
theorem grown_drewN {w w' : World} (h : Grown w w') : ∀ n, Grown w (w'.drewN n)
  | 0 => h
  | n + 1 => (grown_drewN h n).drew
theorem counts_cost {r : Nat} (h : r ≤ 2139095040) : M.counts r = r := by
  unfold M.counts; rw [if_neg (by omega), if_neg (by omega)]

theorem float_nat (b : Nat) (w : World) :
    Calls Tryd.prog 13 #[.int .u32 (b : Int)] w fun e w' => e = .returned (.float .f32 b) ∧ w' = w := float_any b w
theorem cost_nat (b : Nat) (hb : b < 4294967296) (w : World) :
    Calls Tryd.prog 14 #[.float .f32 b] w fun e w' => e = .returned (.bool (decide ((b : Int) ≤ 2139095040))) ∧ w' = w := by
  have := cost_any b w
  rwa [show decide (bitsB b ≤ 2139095040) = decide ((b : Int) ≤ 2139095040) by
    apply decide_eq_decide.2
    rw [bitsB_eq hb]
    by_cases hn : 2139095040 < b % 2147483648
    · rw [show M.nan b = true from decide_eq_true hn]; simp; omega
    · rw [show M.nan b = false from decide_eq_false hn]; simp] at this
theorem bits_nat {b : Nat} (h : b ≤ 2139095040) (w : World) :
    Calls Tryd.prog 15 #[.float .f32 b] w fun e w' => e = .returned (.int .u32 (b : Int)) ∧ w' = w := by
  have := bits_any b w
  rwa [bits_cost h] at this
theorem is_same {r : Nat} (h : r ≤ 2139095040) (w : World) :
    Calls Tryd.prog 12 #[.float .f32 r, .int .u32 (r : Int)] w fun e w' => e = .returned (.bool true) ∧ w' = w := by
  have := is_any r (r : Int) w
  rwa [bits_cost h, show (((r : Int) == (r : Int)) && ((r : Int) == (r : Int))) = true by simp] at this
theorem add_cost {x y : Nat} (hx : x ≤ 2139095040) (hy : y ≤ 2139095040) (w : World) :
    Calls Tryd.prog 17 #[.float .f32 x, .float .f32 y] w fun e w' => e = .returned (.float .f32 (M.addC x y)) ∧ w' = w := by
  have := add_nat x y (by omega) (by omega) w
  rwa [counts_cost hx, counts_cost hy] at this
theorem before_cost {x y : Nat} (hx : x ≤ 2139095040) (hy : y ≤ 2139095040) (w : World) :
    Calls Tryd.prog 21 #[.float .f32 x, .float .f32 y] w fun e w' => e = .returned (.bool (decide (x < y))) ∧ w' = w := by
  have := before_any x y w
  rwa [show (FloatKind.f32.format.order x y == some .lt) = decide (x < y) by
    rw [show FloatKind.f32.format = Ieee.single from rfl, M.order_lt (by omega) (by omega)]
    rw [show M.nan x = false from decide_eq_false (by omega), show M.nan y = false from decide_eq_false (by omega)]
    unfold M.place
    rw [if_neg (by omega), if_neg (by omega)]
    simp] at this
end Go.Proofs.YtjeplokphkcloaaDoor

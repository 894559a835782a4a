/- Sums of costs, on both sides. -/
import Derived.Test.YtagibmgbjhemkaaGreatWRound
import Derived.RowKit3
namespace Go.Proofs.YtagibmgbjhemkaaGreat
open Go.RowKit

theorem bits_cost {r : Nat} (h : r ≤ 2139095040) : bitsB r = (r : Int) := by
  rw [bitsB_eq (by omega)]
  have : M.nan r = false := decide_eq_false (by omega)
  rw [this]; rfl
theorem counts_cost {r : Nat} (h : r ≤ 2139095040) : M.counts r = r := by
  unfold M.counts; rw [if_neg (by omega), if_neg (by omega)]

theorem bits_nat {b : Nat} (h : b ≤ 2139095040) (w : World) :
    Calls Tryz.prog 44 #[.float .f32 b] w fun e w' => e = .returned (.int .u32 (b : Int)) ∧ w' = w := by
  have := bits_any b w
  rwa [bits_cost h] at this
namespace M
/-- Added from the left. -/
def foldN (bs : List Nat) : Nat := bs.foldl (fun c x => addC c (counts x)) 0
theorem foldN_snoc (bs : List Nat) (x : Nat) : foldN (bs ++ [x]) = addC (foldN bs) (counts x) := by simp [foldN]
theorem foldl_le (bs : List Nat) : ∀ c, c ≤ 2139095040 → bs.foldl (fun c x => addC c (counts x)) c ≤ 2139095040 := by
  induction bs with
  | nil => intro c h; exact h
  | cons x bs ih => intro c h; exact ih _ (addC_le h (counts_le x))
theorem foldN_le (bs : List Nat) : foldN bs ≤ 2139095040 := foldl_le bs 0 (by omega)
end M

theorem fold_step {c x : Nat} (hc : c ≤ 2139095040) (hx : x < 4294967296) (w : World) :
    Calls Tryz.prog 42 #[.float .f32 c, .float .f32 x] w fun e w' => e = .returned (.float .f32 (M.addC c (M.counts x))) ∧ w' = w := by
  have := add_nat c x (by omega) hx w
  rwa [counts_cost hc] at this

theorem fold_zero (a : Option Addr) (cap : Nat) (w : World) :
    Calls Tryz.prog 39 #[.slice a 0 cap] w fun e w' => e = .returned (.float .f32 0) ∧ w' = w := by
  go_enter Tryz.func39, Tryz.ntmps39
  go_wp2
  refine wp_loop_rounds 1 ?_
  rw [rounds_succ]
  go_wp2
  go_ret
  exact ⟨rfl, rfl⟩

theorem refFold_step {c : Nat} (x : Nat) (hc : c ≤ 2139095040) (w : World) :
    Calls Tryz.prog 50 #[.int .u32 (c : Int), .int .u32 (x : Int)] w fun e w' => e = .returned (.int .u32 (M.addC c (M.counts x) : Int)) ∧ ∃ nq, w' = w.drewN nq := by
  have := refAdd_nat c x w
  rwa [M.refAdd_eq (M.counts_le c) (M.counts_le x), counts_cost hc] at this

end Go.Proofs.YtagibmgbjhemkaaGreat

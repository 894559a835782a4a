/- weight.Add and what goes with it. -/
import Derived.Test.YtagibmgbjhemkaaGreatStEasy
import Derived.Laws.FloatArith
namespace Go.Proofs.YtagibmgbjhemkaaGreat
open Go.RowKit

/-- What Bits answers of a float of these bits. -/
def bitsB (b : Nat) : Int := if (FloatKind.f32.format.order b b != some .eq) = true then 2143289344 else b
theorem bits_any (b : Nat) (w : World) :
    Calls Tryz.prog 44 #[.float .f32 b] w fun e w' => e = .returned (.int .u32 (bitsB b)) ∧ w' = w := by
  have hx := run_tobits
  unfold bitsB
  generalize hn : (FloatKind.f32.format.order b b != some .eq) = t
  have hc : ∀ w, Calls Tryz.prog 80 #[.float .f32 b] w fun e w' => e = .returned (.bool t) ∧ w' = w := fun w => by
    have := isNaN_any b w; rwa [hn] at this
  have H := hide hc
  clear hc hn
  cases t
  · go_enter Tryz.func44, Tryz.ntmps44
    go_wp2_with (go_at_call 80; refine (unhide H _).mono ?_; rintro e w' ⟨rfl, rfl⟩)
    go_ret
    exact ⟨rfl, rfl⟩
  · go_enter Tryz.func44, Tryz.ntmps44
    go_wp2_with (go_at_call 80; refine (unhide H _).mono ?_; rintro e w' ⟨rfl, rfl⟩)
    go_ret
    exact ⟨rfl, rfl⟩

theorem cost_any (b : Nat) (w : World) :
    Calls Tryz.prog 105 #[.float .f32 b] w fun e w' => e = .returned (.bool (decide (bitsB b ≤ 2139095040))) ∧ w' = w := by
  go_enter Tryz.func105, Tryz.ntmps105
  go_wp2_with (go_at_call 44; refine (bits_any _ _).mono ?_; rintro e w' ⟨rfl, rfl⟩)
  go_ret
  exact ⟨rfl, rfl⟩

theorem bitsB_eq {b : Nat} (h : b < 4294967296) : bitsB b = if M.nan b then 2143289344 else (b : Int) := by
  have := M.order_self h
  unfold bitsB
  rw [show FloatKind.f32.format = Ieee.single from rfl, this]

namespace M
open Ieee
/-- What a word counts as. -/
def counts (b : Nat) : Nat := if b = 2147483648 then 0 else if 2139095040 < b then 2139095040 else b
theorem counts_le (b : Nat) : counts b ≤ 2139095040 := by unfold counts; (repeat' split) <;> omega
theorem sgn_cost {x : Nat} (h : x ≤ 2139095040) : sgn x = false := by
  rw [sgn_eq (by omega)]; exact decide_eq_false (by omega)

/-- Two costs have a sum. -/
theorem add_some {x y : Nat} (hx : x ≤ 2139095040) (hy : y ≤ 2139095040) : ∃ r, single.add x y = some r := by
  unfold Format.add
  by_cases ix : x = 2139095040
  · rw [read_inf (x := x) (by omega), sgn_cost hx]
    by_cases iy : y = 2139095040
    · rw [read_inf (x := y) (by omega), sgn_cost hy]; exact ⟨_, rfl⟩
    · obtain ⟨m, k, e, -⟩ := read_fin (x := y) (by omega)
      rw [e]; exact ⟨_, rfl⟩
  · obtain ⟨m, k, e, -⟩ := read_fin (x := x) (by omega)
    rw [e]
    by_cases iy : y = 2139095040
    · rw [read_inf (x := y) (by omega)]; exact ⟨_, rfl⟩
    · obtain ⟨m, k, e, -⟩ := read_fin (x := y) (by omega)
      rw [e]; exact ⟨_, rfl⟩
/-- The sum of two costs. -/
def addC (x y : Nat) : Nat := (single.add x y).getD 0
theorem add_eq {x y : Nat} (hx : x ≤ 2139095040) (hy : y ≤ 2139095040) : single.add x y = some (addC x y) := by
  obtain ⟨r, hr⟩ := add_some hx hy
  unfold addC
  rw [hr]; rfl
end M

theorem asCost_nat (b : Nat) (h : b < 4294967296) (w : World) :
    Calls Tryz.prog 79 #[.float .f32 b] w fun e w' => e = .returned (.float .f32 (M.counts b)) ∧ w' = w := by
  have hx := run_frombits
  have hz : (FloatKind.f32.format.order b 0 == some .eq) = decide (b = 0 ∨ b = 2147483648) := M.order_zero h
  have hB := bitsB_eq h
  unfold M.counts
  by_cases h0 : b = 0 ∨ b = 2147483648
  · rw [decide_eq_true h0] at hz
    have e : (if b = 2147483648 then 0 else if 2139095040 < b then 2139095040 else b) = 0 := by (repeat' split) <;> omega
    rw [e]
    clear e h0 hB
    go_enter Tryz.func79, Tryz.ntmps79
    go_wp2
    go_ret
    exact ⟨rfl, rfl⟩
  · rw [decide_eq_false h0] at hz
    by_cases h1 : 2139095040 < b
    · have e : (if b = 2147483648 then 0 else if 2139095040 < b then 2139095040 else b) = 2139095040 := by rw [if_neg (by omega), if_pos h1]
      rw [e]
      have hc : ∀ w, Calls Tryz.prog 105 #[.float .f32 b] w fun e w' => e = .returned (.bool false) ∧ w' = w := fun w => by
        have := cost_any b w
        rwa [decide_eq_false] at this
        rw [hB]; split <;> omega
      have H := hide hc
      clear e hc hB h0
      go_enter Tryz.func79, Tryz.ntmps79
      go_wp2_with (go_at_call 105; refine (unhide H _).mono ?_; rintro e w' ⟨rfl, rfl⟩)
      go_ret
      exact ⟨rfl, rfl⟩
    · have e : (if b = 2147483648 then 0 else if 2139095040 < b then 2139095040 else b) = b := by rw [if_neg (by omega), if_neg h1]
      rw [e]
      have hc : ∀ w, Calls Tryz.prog 105 #[.float .f32 b] w fun e w' => e = .returned (.bool true) ∧ w' = w := fun w => by
        have := cost_any b w
        rwa [decide_eq_true] at this
        rw [hB]
        have : M.nan b = false := decide_eq_false (by omega)
        rw [this]; simp; omega
      have H := hide hc
      clear e hc hB h0
      go_enter Tryz.func79, Tryz.ntmps79
      go_wp2_with (go_at_call 105; refine (unhide H _).mono ?_; rintro e w' ⟨rfl, rfl⟩)
      go_ret
      exact ⟨rfl, rfl⟩

theorem add_nat (a b : Nat) (ha : a < 4294967296) (hb : b < 4294967296) (w : World) :
    Calls Tryz.prog 42 #[.float .f32 a, .float .f32 b] w fun e w' => e = .returned (.float .f32 (M.addC (M.counts a) (M.counts b))) ∧ w' = w := by
  have hr := fun w => run_float_arith (P := Tryz.prog) w .add 95 .f32 (M.counts a) (M.counts b) _ (M.add_eq (M.counts_le a) (M.counts_le b))
  have HA := hide (asCost_nat a ha)
  have HB := hide (asCost_nat b hb)
  go_enter Tryz.func42, Tryz.ntmps42
  go_wp2_with fail
  refine (unhide HA _).mono ?_
  rintro e w' ⟨rfl, rfl⟩
  go_wp2_with fail
  refine (unhide HB _).mono ?_
  rintro e w' ⟨rfl, rfl⟩
  go_wp2
  go_ret
  exact ⟨rfl, rfl⟩
end Go.Proofs.YtagibmgbjhemkaaGreat

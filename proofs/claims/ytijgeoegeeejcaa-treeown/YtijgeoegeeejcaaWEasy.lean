/- The weights' bits: Admit, Bits, Before (made out of StEasy, for seats without the store). -/
import Derived.Test.YtijgeoegeeejcaaWord
import Derived.Test.YtijgeoegeeejcaaLaws2
namespace Go.Proofs.Ytijgeoegeeejcaa
open Go.RowKit Go.Maps
/-! ### weights -/
theorem run_frombits (n : Int) (w : World) : (callFunc 63 #[.int .u32 n]).run Try.prog w = .ok (.value (.float .f32 n.toNat)) w := by
  rw [run_callFunc_extern (e := Extern.MathFloatBits.float32frombits) Try.func63 (by kernel_rfl) (by kernel_rfl) (by kernel_rfl) (by kernel_rfl)]
  rfl
theorem run_tobits (b : Nat) (w : World) : (callFunc 65 #[.float .f32 b]).run Try.prog w = .ok (.value (.int .u32 b)) w := by
  rw [run_callFunc_extern (e := Extern.MathFloatBits.float32bits) Try.func65 (by kernel_rfl) (by kernel_rfl) (by kernel_rfl) (by kernel_rfl)]
  rfl
theorem isNaN_any (b : Nat) (w : World) : Calls Try.prog 64 #[.float .f32 b] w fun e w' => e = .returned (.bool (FloatKind.f32.format.order b b != some .eq)) ∧ w' = w := by
  go_enter Try.func64, Try.ntmps64
  go_wp2
  go_ret
  exact ⟨rfl, rfl⟩
theorem bits_plain (b : Nat) (hb : b < 2139095040) (w : World) : Calls Try.prog 36 #[.float .f32 b] w fun e w' => e = .returned (.int .u32 b) ∧ w' = w := by
  have hx := run_tobits
  have hn : (FloatKind.f32.format.order b b != some .eq) = false := by
    have := M.order_self (x := b) (by omega)
    rw [show FloatKind.f32.format = Ieee.single from rfl, this]
    unfold M.nan
    exact decide_eq_false (by omega)
  have hc : ∀ w, Calls Try.prog 64 #[.float .f32 b] w fun e w' => e = .returned (.bool false) ∧ w' = w := fun w => by
    have := isNaN_any b w; rwa [hn] at this
  have H := hide hc
  clear hc hn hb
  go_enter Try.func36, Try.ntmps36
  go_wp2_with (go_at_call 64; refine (unhide H _).mono ?_; rintro e w' ⟨rfl, rfl⟩)
  go_ret
  exact ⟨rfl, rfl⟩

/-- With what bits an edge stands; none: they are no weight's. -/
def kept (n : Int) : Option Int := if n = 2147483648 then some 0 else if 2139095040 ≤ n then none else some n
theorem admitW_zero (w : World) : Calls Try.prog 35 #[.int .u32 2147483648] w fun e w' => e = .returned (.tuple #[.float .f32 0, .int .i64 0]) ∧ w' = w := by
  go_enter Try.func35, Try.ntmps35
  go_wp2
  go_ret2
  exact ⟨rfl, rfl⟩
theorem admitW_no (n : Int) (h1 : ¬ n = 2147483648) (h2 : 2139095040 ≤ n) (w : World) : Calls Try.prog 35 #[.int .u32 n] w fun e w' => e = .returned (.tuple #[.float .f32 0, .int .i64 7]) ∧ w' = w := by
  go_enter Try.func35, Try.ntmps35
  go_wp2
  go_ret2
  exact ⟨rfl, rfl⟩
theorem admitW_yes (n : Int) (h2 : ¬ 2139095040 ≤ n) (w : World) : Calls Try.prog 35 #[.int .u32 n] w fun e w' => e = .returned (.tuple #[.float .f32 n.toNat, .int .i64 0]) ∧ w' = w := by
  have h1 : ¬ n = 2147483648 := by omega
  have hx := run_frombits
  go_enter Try.func35, Try.ntmps35
  go_wp2
  go_ret2
  exact ⟨rfl, rfl⟩


/-- What Admit answers. -/
def ansAd (n : Int) : Value := match kept n with
  | some b => .tuple #[.float .f32 b.toNat, .int .i64 0]
  | none => .tuple #[.float .f32 0, .int .i64 7]
theorem admitS (n : Int) (w : World) : Calls Try.prog 35 #[.int .u32 n] w fun e w' => e = .returned (ansAd n) ∧ w' = w := by
  unfold ansAd kept
  by_cases h1 : n = 2147483648
  · subst h1
    rw [if_pos rfl]
    exact admitW_zero w
  · rw [if_neg h1]
    by_cases h2 : 2139095040 ≤ n
    · rw [if_pos h2]; exact admitW_no n h1 h2 w
    · rw [if_neg h2]; exact admitW_yes n h2 w
theorem before_any (a b : Nat) (w : World) : Calls Try.prog 52 #[.float .f32 a, .float .f32 b] w fun e w' => e = .returned (.bool (FloatKind.f32.format.order a b == some .lt)) ∧ w' = w := by
  go_enter Try.func52, Try.ntmps52
  go_wp2
  go_ret
  exact ⟨rfl, rfl⟩
theorem before_cost {a b : Nat} (ha : a ≤ 2139095040) (hb : b ≤ 2139095040) (w : World) : Calls Try.prog 52 #[.float .f32 a, .float .f32 b] w fun e w' => e = .returned (.bool (decide (a < b))) ∧ w' = w := by
  have h := before_any a b w
  have e : (FloatKind.f32.format.order a b == some .lt) = decide (a < b) := by
    rw [show FloatKind.f32.format = Ieee.single from rfl, M.order_lt (by omega) (by omega)]
    have n1 : M.nan a = false := decide_eq_false (by omega)
    have n2 : M.nan b = false := decide_eq_false (by omega)
    rw [n1, n2]
    have e1 : M.place a = (a : Int) := by unfold M.place; split <;> omega
    have e2 : M.place b = (b : Int) := by unfold M.place; split <;> omega
    rw [e1, e2]
    simp
  rwa [e] at h
end Go.Proofs.Ytijgeoegeeejcaa

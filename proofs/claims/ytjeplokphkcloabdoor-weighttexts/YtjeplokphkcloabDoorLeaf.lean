/- The walks of the small functions of package weight and of the reference: what each answers, the world as it was. -/
import Derived.Test.YtjeplokphkcloabDoorRows
import Derived.WalkKit
import Derived.WalkSpells
import Derived.WalkLawsBesides
import Derived.Laws.Externs
import Derived.Test.YtjeplokphkcloabDoorMath
namespace Go.Proofs.YtjeplokphkcloabDoor
open Go.RowKit

theorem hide {p : Prop} (h : p) : Hid p := h
theorem unhide {p : Prop} (h : Hid p) : p := h
/-- math.Float32frombits, as the model has it. -/
theorem run_frombits (n : Int) (w : World) : (callFunc 17 #[.int .u32 n]).run Tryd.prog w = .ok (.value (.float .f32 n.toNat)) w := by
  rw [run_callFunc_extern (e := Extern.MathFloatBits.float32frombits) Tryd.func17 (by kernel_rfl) (by kernel_rfl) (by kernel_rfl) (by kernel_rfl)]
  rfl

/-- math.Float32bits. -/
theorem run_tobits (b : Nat) (w : World) : (callFunc 12 #[.float .f32 b]).run Tryd.prog w = .ok (.value (.int .u32 b)) w := by
  rw [run_callFunc_extern (e := Extern.MathFloatBits.float32bits) Tryd.func12 (by kernel_rfl) (by kernel_rfl) (by kernel_rfl) (by kernel_rfl)]
  rfl

theorem float_any (n : Int) (w : World) :
    Calls Tryd.prog 6 #[.int .u32 n] w fun e w' => e = .returned (.float .f32 n.toNat) ∧ w' = w := by
  have hx := run_frombits
  go_enter Tryd.func6, Tryd.ntmps6
  go_wp2
  go_ret
  exact ⟨rfl, rfl⟩

theorem isNaN_any (b : Nat) (w : World) :
    Calls Tryd.prog 22 #[.float .f32 b] w fun e w' => e = .returned (.bool (FloatKind.f32.format.order b b != some .eq)) ∧ w' = w := by
  go_enter Tryd.func22, Tryd.ntmps22
  go_wp2
  go_ret
  exact ⟨rfl, rfl⟩

theorem refNan_any (n : Int) (w : World) (h0 : 0 ≤ n) :
    Calls Tryd.prog 30 #[.int .u32 n] w fun e w' => e = .returned (.bool (decide (2139095040 < n % 2147483648))) ∧ w' = w := by
  go_enter Tryd.func30, Tryd.ntmps30
  go_wp2
  go_ret
  exact ⟨rfl, rfl⟩

/-- What Bits answers of a float of these bits. -/
def bitsB (b : Nat) : Int := if (FloatKind.f32.format.order b b != some .eq) = true then 2143289344 else b
theorem bits_any (b : Nat) (w : World) :
    Calls Tryd.prog 14 #[.float .f32 b] w fun e w' => e = .returned (.int .u32 (bitsB b)) ∧ w' = w := by
  have hx := run_tobits
  unfold bitsB
  generalize hn : (FloatKind.f32.format.order b b != some .eq) = t
  have hc : ∀ w, Calls Tryd.prog 22 #[.float .f32 b] w fun e w' => e = .returned (.bool t) ∧ w' = w := fun w => by
    have := isNaN_any b w; rwa [hn] at this
  have H := hide hc
  clear hc hn
  cases t
  · go_enter Tryd.func14, Tryd.ntmps14
    go_wp2_with (go_at_call 22; refine (unhide H _).mono ?_; rintro e w' ⟨rfl, rfl⟩)
    go_ret
    exact ⟨rfl, rfl⟩
  · go_enter Tryd.func14, Tryd.ntmps14
    go_wp2_with (go_at_call 22; refine (unhide H _).mono ?_; rintro e w' ⟨rfl, rfl⟩)
    go_ret
    exact ⟨rfl, rfl⟩

theorem cost_any (b : Nat) (w : World) :
    Calls Tryd.prog 31 #[.float .f32 b] w fun e w' => e = .returned (.bool (decide (bitsB b ≤ 2139095040))) ∧ w' = w := by
  go_enter Tryd.func31, Tryd.ntmps31
  go_wp2_with (go_at_call 14; refine (bits_any _ _).mono ?_; rintro e w' ⟨rfl, rfl⟩)
  go_ret
  exact ⟨rfl, rfl⟩

theorem is_any (b : Nat) (n : Int) (w : World) :
    Calls Tryd.prog 10 #[.float .f32 b, .int .u32 n] w fun e w' => e = .returned (.bool ((bitsB b == n) && ((b : Int) == n))) ∧ w' = w := by
  have hx := run_tobits
  generalize h1 : (bitsB b == n) = t
  have hc : ∀ w, Calls Tryd.prog 14 #[.float .f32 b] w fun e w' => e = .returned (.int .u32 (bitsB b)) ∧ w' = w := fun w => bits_any b w
  have H := hide hc
  clear hc
  cases t
  · go_enter Tryd.func10, Tryd.ntmps10
    go_wp2_with (go_at_call 14; refine (unhide H _).mono ?_; rintro e w' ⟨rfl, rfl⟩)
    go_ret
    exact ⟨by simp, rfl⟩
  · go_enter Tryd.func10, Tryd.ntmps10
    go_wp2_with (go_at_call 14; refine (unhide H _).mono ?_; rintro e w' ⟨rfl, rfl⟩)
    go_ret
    exact ⟨by simp, rfl⟩

theorem refNan_nat (b : Nat) (w : World) :
    Calls Tryd.prog 30 #[.int .u32 (b : Int)] w fun e w' => e = .returned (.bool (M.nan b)) ∧ w' = w := by
  have h : M.nan b = decide (2139095040 < (b : Int) % 2147483648) := by
    unfold M.nan; exact decide_eq_decide.2 (by omega)
  rw [h]
  exact refNan_any b w (by omega)

theorem bitsB_eq {b : Nat} (h : b < 4294967296) : bitsB b = if M.nan b then 2143289344 else (b : Int) := by
  have := M.order_self h
  unfold bitsB
  rw [show FloatKind.f32.format = Ieee.single from rfl, this]

theorem refBits_nat (b : Nat) (w : World) :
    Calls Tryd.prog 18 #[.int .u32 (b : Int)] w fun e w' => e = .returned (.int .u32 (if M.nan b then 2143289344 else (b : Int))) ∧ w' = w := by
  have H := hide (refNan_nat b)
  cases hb : M.nan b
  · rw [hb] at H
    clear hb
    go_enter Tryd.func18, Tryd.ntmps18
    go_wp2_with (go_at_call 30; refine (unhide H _).mono ?_; rintro e w' ⟨rfl, rfl⟩)
    go_ret
    exact ⟨rfl, rfl⟩
  · rw [hb] at H
    clear hb
    go_enter Tryd.func18, Tryd.ntmps18
    go_wp2_with (go_at_call 30; refine (unhide H _).mono ?_; rintro e w' ⟨rfl, rfl⟩)
    go_ret
    exact ⟨rfl, rfl⟩

/-- Admit: the weight's bits and the error's number. -/
def admW (b : Nat) : Nat := if b = 2147483648 then 0 else if 2139095040 ≤ b then 0 else b
def admE (b : Nat) : Int := if b = 2147483648 then 0 else if 2139095040 ≤ b then 7 else 0

theorem admit_nat (b : Nat) (w : World) :
    Calls Tryd.prog 11 #[.int .u32 (b : Int)] w fun e w' => e = .returned (.tuple #[.float .f32 (admW b), .int .i64 (admE b)]) ∧ w' = w := by
  have hx := run_frombits
  unfold admW admE
  by_cases h1 : b = 2147483648
  · subst h1
    go_enter Tryd.func11, Tryd.ntmps11
    go_wp2
    go_ret2
    exact ⟨rfl, rfl⟩
  · have h2 : ((b : Int) == 2147483648) = false := by simp; omega
    rw [if_neg h1, if_neg h1]
    clear h1
    by_cases h3 : 2139095040 ≤ b
    · have h4 : (2139095040 : Int) ≤ (b : Int) := by omega
      rw [if_pos h3, if_pos h3]
      go_enter Tryd.func11, Tryd.ntmps11
      go_wp2
      go_ret2
      exact ⟨rfl, rfl⟩
    · have h4 : ¬ (2139095040 : Int) ≤ (b : Int) := by omega
      rw [if_neg h3, if_neg h3]
      go_enter Tryd.func11, Tryd.ntmps11
      go_wp2
      go_ret2
      exact ⟨rfl, rfl⟩

theorem refAdmit_nat (b : Nat) (w : World) :
    Calls Tryd.prog 20 #[.int .u32 (b : Int)] w fun e w' => e = .returned (.tuple #[.int .u32 (admW b : Int), .int .i64 (admE b)]) ∧ w' = w := by
  unfold admW admE
  by_cases h1 : b = 2147483648
  · subst h1
    go_enter Tryd.func20, Tryd.ntmps20
    go_wp2
    go_ret2
    exact ⟨rfl, rfl⟩
  · have h2 : ((b : Int) == 2147483648) = false := by simp; omega
    rw [if_neg h1, if_neg h1]
    clear h1
    by_cases h3 : 2139095040 ≤ b
    · have h4 : (2139095040 : Int) ≤ (b : Int) := by omega
      rw [if_pos h3, if_pos h3]
      go_enter Tryd.func20, Tryd.ntmps20
      go_wp2
      go_ret2
      exact ⟨rfl, rfl⟩
    · have h4 : ¬ (2139095040 : Int) ≤ (b : Int) := by omega
      rw [if_neg h3, if_neg h3]
      go_enter Tryd.func20, Tryd.ntmps20
      go_wp2
      go_ret2
      exact ⟨rfl, rfl⟩
end Go.Proofs.YtjeplokphkcloabDoor

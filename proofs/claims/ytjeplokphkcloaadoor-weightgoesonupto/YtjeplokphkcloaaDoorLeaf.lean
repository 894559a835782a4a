/- The walks of the small functions of package weight and of the reference: what each answers, the world as it was. -/
import Derived.Test.YtjeplokphkcloaaDoorRows
import Derived.WalkKit
import Derived.WalkSpells
import Derived.WalkLawsBesides
import Derived.Laws.Externs
import Derived.Test.YtjeplokphkcloaaDoorMath
namespace Go.Proofs.YtjeplokphkcloaaDoor
open Go.RowKit

theorem hide {p : Prop} (h : p) : Hid p := h
theorem unhide {p : Prop} (h : Hid p) : p := h
/-- math.Float32frombits, as the model has it. -/
theorem run_frombits (n : Int) (w : World) : (callFunc 26 #[.int .u32 n]).run Tryd.prog w = .ok (.value (.float .f32 n.toNat)) w := by
  rw [run_callFunc_extern (e := Extern.MathFloatBits.float32frombits) Tryd.func26 (by kernel_rfl) (by kernel_rfl) (by kernel_rfl) (by kernel_rfl)]
  rfl

/-- math.Float32bits. -/
theorem run_tobits (b : Nat) (w : World) : (callFunc 23 #[.float .f32 b]).run Tryd.prog w = .ok (.value (.int .u32 b)) w := by
  rw [run_callFunc_extern (e := Extern.MathFloatBits.float32bits) Tryd.func23 (by kernel_rfl) (by kernel_rfl) (by kernel_rfl) (by kernel_rfl)]
  rfl

theorem float_any (n : Int) (w : World) :
    Calls Tryd.prog 13 #[.int .u32 n] w fun e w' => e = .returned (.float .f32 n.toNat) ∧ w' = w := by
  have hx := run_frombits
  go_enter Tryd.func13, Tryd.ntmps13
  go_wp2
  go_ret
  exact ⟨rfl, rfl⟩

theorem isNaN_any (b : Nat) (w : World) :
    Calls Tryd.prog 27 #[.float .f32 b] w fun e w' => e = .returned (.bool (FloatKind.f32.format.order b b != some .eq)) ∧ w' = w := by
  go_enter Tryd.func27, Tryd.ntmps27
  go_wp2
  go_ret
  exact ⟨rfl, rfl⟩

theorem before_any (a b : Nat) (w : World) :
    Calls Tryd.prog 21 #[.float .f32 a, .float .f32 b] w fun e w' => e = .returned (.bool (FloatKind.f32.format.order a b == some .lt)) ∧ w' = w := by
  go_enter Tryd.func21, Tryd.ntmps21
  go_wp2
  go_ret
  exact ⟨rfl, rfl⟩

theorem refNan_any (n : Int) (w : World) (h0 : 0 ≤ n) :
    Calls Tryd.prog 24 #[.int .u32 n] w fun e w' => e = .returned (.bool (decide (2139095040 < n % 2147483648))) ∧ w' = w := by
  go_enter Tryd.func24, Tryd.ntmps24
  go_wp2
  go_ret
  exact ⟨rfl, rfl⟩

/-- What Bits answers of a float of these bits. -/
def bitsB (b : Nat) : Int := if (FloatKind.f32.format.order b b != some .eq) = true then 2143289344 else b
theorem bits_any (b : Nat) (w : World) :
    Calls Tryd.prog 15 #[.float .f32 b] w fun e w' => e = .returned (.int .u32 (bitsB b)) ∧ w' = w := by
  have hx := run_tobits
  unfold bitsB
  generalize hn : (FloatKind.f32.format.order b b != some .eq) = t
  have hc : ∀ w, Calls Tryd.prog 27 #[.float .f32 b] w fun e w' => e = .returned (.bool t) ∧ w' = w := fun w => by
    have := isNaN_any b w; rwa [hn] at this
  have H := hide hc
  clear hc hn
  cases t
  · go_enter Tryd.func15, Tryd.ntmps15
    go_wp2_with (go_at_call 27; refine (unhide H _).mono ?_; rintro e w' ⟨rfl, rfl⟩)
    go_ret
    exact ⟨rfl, rfl⟩
  · go_enter Tryd.func15, Tryd.ntmps15
    go_wp2_with (go_at_call 27; refine (unhide H _).mono ?_; rintro e w' ⟨rfl, rfl⟩)
    go_ret
    exact ⟨rfl, rfl⟩

theorem cost_any (b : Nat) (w : World) :
    Calls Tryd.prog 14 #[.float .f32 b] w fun e w' => e = .returned (.bool (decide (bitsB b ≤ 2139095040))) ∧ w' = w := by
  go_enter Tryd.func14, Tryd.ntmps14
  go_wp2_with (go_at_call 15; refine (bits_any _ _).mono ?_; rintro e w' ⟨rfl, rfl⟩)
  go_ret
  exact ⟨rfl, rfl⟩

theorem is_any (b : Nat) (n : Int) (w : World) :
    Calls Tryd.prog 12 #[.float .f32 b, .int .u32 n] w fun e w' => e = .returned (.bool ((bitsB b == n) && ((b : Int) == n))) ∧ w' = w := by
  have hx := run_tobits
  generalize h1 : (bitsB b == n) = t
  have hc : ∀ w, Calls Tryd.prog 15 #[.float .f32 b] w fun e w' => e = .returned (.int .u32 (bitsB b)) ∧ w' = w := fun w => bits_any b w
  have H := hide hc
  clear hc
  cases t
  · go_enter Tryd.func12, Tryd.ntmps12
    go_wp2_with (go_at_call 15; refine (unhide H _).mono ?_; rintro e w' ⟨rfl, rfl⟩)
    go_ret
    exact ⟨by simp, rfl⟩
  · go_enter Tryd.func12, Tryd.ntmps12
    go_wp2_with (go_at_call 15; refine (unhide H _).mono ?_; rintro e w' ⟨rfl, rfl⟩)
    go_ret
    exact ⟨by simp, rfl⟩

theorem refNan_nat (b : Nat) (w : World) :
    Calls Tryd.prog 24 #[.int .u32 (b : Int)] w fun e w' => e = .returned (.bool (M.nan b)) ∧ w' = w := by
  have h : M.nan b = decide (2139095040 < (b : Int) % 2147483648) := by
    unfold M.nan; exact decide_eq_decide.2 (by omega)
  rw [h]
  exact refNan_any b w (by omega)

theorem bitsB_eq {b : Nat} (h : b < 4294967296) : bitsB b = if M.nan b then 2143289344 else (b : Int) := by
  have := M.order_self h
  unfold bitsB
  rw [show FloatKind.f32.format = Ieee.single from rfl, this]

theorem refBits_nat (b : Nat) (w : World) :
    Calls Tryd.prog 16 #[.int .u32 (b : Int)] w fun e w' => e = .returned (.int .u32 (if M.nan b then 2143289344 else (b : Int))) ∧ w' = w := by
  have H := hide (refNan_nat b)
  cases hb : M.nan b
  · rw [hb] at H
    clear hb
    go_enter Tryd.func16, Tryd.ntmps16
    go_wp2_with (go_at_call 24; refine (unhide H _).mono ?_; rintro e w' ⟨rfl, rfl⟩)
    go_ret
    exact ⟨rfl, rfl⟩
  · rw [hb] at H
    clear hb
    go_enter Tryd.func16, Tryd.ntmps16
    go_wp2_with (go_at_call 24; refine (unhide H _).mono ?_; rintro e w' ⟨rfl, rfl⟩)
    go_ret
    exact ⟨rfl, rfl⟩

theorem place_nat (b : Nat) (h : b < 4294967296) (w : World) :
    Calls Tryd.prog 31 #[.int .u32 (b : Int)] w fun e w' => e = .returned (.int .i64 (M.place b)) ∧ w' = w := by
  unfold M.place
  by_cases h1 : 2147483648 ≤ b
  · have h2 : (2147483648 : Int) ≤ (b : Int) := by omega
    have h3 : (b : Int) < 4294967296 := by omega
    rw [if_pos h1]
    go_enter Tryd.func31, Tryd.ntmps31
    go_wp2
    go_ret
    exact ⟨rfl, rfl⟩
  · have h2 : ¬ (2147483648 : Int) ≤ (b : Int) := by omega
    rw [if_neg h1]
    go_enter Tryd.func31, Tryd.ntmps31
    go_wp2
    go_ret
    exact ⟨rfl, rfl⟩

theorem refBefore_nat (a b : Nat) (ha : a < 4294967296) (hb : b < 4294967296) (w : World) :
    Calls Tryd.prog 22 #[.int .u32 (a : Int), .int .u32 (b : Int)] w fun e w' => e = .returned (.bool (!M.nan a && !M.nan b && decide (M.place a < M.place b))) ∧ w' = w := by
  have HA := hide (refNan_nat a)
  have HB := hide (refNan_nat b)
  have PA := hide (place_nat a ha)
  have PB := hide (place_nat b hb)
  clear ha hb
  cases h1 : M.nan a
  · cases h2 : M.nan b
    · rw [h1] at HA; rw [h2] at HB
      clear h1 h2
      go_enter Tryd.func22, Tryd.ntmps22
      go_wp2_with fail
      refine (unhide HA _).mono ?_
      rintro e w' ⟨rfl, rfl⟩
      go_wp2_with fail
      refine (unhide HB _).mono ?_
      rintro e w' ⟨rfl, rfl⟩
      go_wp2_with fail
      refine (unhide PA _).mono ?_
      rintro e w' ⟨rfl, rfl⟩
      go_wp2_with fail
      refine (unhide PB _).mono ?_
      rintro e w' ⟨rfl, rfl⟩
      go_wp2
      go_ret
      exact ⟨rfl, rfl⟩
    · rw [h1] at HA; rw [h2] at HB
      clear h1 h2
      go_enter Tryd.func22, Tryd.ntmps22
      go_wp2_with fail
      refine (unhide HA _).mono ?_
      rintro e w' ⟨rfl, rfl⟩
      go_wp2_with fail
      refine (unhide HB _).mono ?_
      rintro e w' ⟨rfl, rfl⟩
      go_wp2
      go_ret
      exact ⟨rfl, rfl⟩
  · rw [h1] at HA
    clear h1
    go_enter Tryd.func22, Tryd.ntmps22
    go_wp2_with fail
    refine (unhide HA _).mono ?_
    rintro e w' ⟨rfl, rfl⟩
    go_wp2
    go_ret
    exact ⟨rfl, rfl⟩

/-- Admit: the weight's bits and the error's number. -/
def admW (b : Nat) : Nat := if b = 2147483648 then 0 else if 2139095040 ≤ b then 0 else b
def admE (b : Nat) : Int := if b = 2147483648 then 0 else if 2139095040 ≤ b then 7 else 0

theorem admit_nat (b : Nat) (w : World) :
    Calls Tryd.prog 10 #[.int .u32 (b : Int)] w fun e w' => e = .returned (.tuple #[.float .f32 (admW b), .int .i64 (admE b)]) ∧ w' = w := by
  have hx := run_frombits
  unfold admW admE
  by_cases h1 : b = 2147483648
  · subst h1
    go_enter Tryd.func10, Tryd.ntmps10
    go_wp2
    go_ret2
    exact ⟨rfl, rfl⟩
  · have h2 : ((b : Int) == 2147483648) = false := by simp; omega
    rw [if_neg h1, if_neg h1]
    clear h1
    by_cases h3 : 2139095040 ≤ b
    · have h4 : (2139095040 : Int) ≤ (b : Int) := by omega
      rw [if_pos h3, if_pos h3]
      go_enter Tryd.func10, Tryd.ntmps10
      go_wp2
      go_ret2
      exact ⟨rfl, rfl⟩
    · have h4 : ¬ (2139095040 : Int) ≤ (b : Int) := by omega
      rw [if_neg h3, if_neg h3]
      go_enter Tryd.func10, Tryd.ntmps10
      go_wp2
      go_ret2
      exact ⟨rfl, rfl⟩

theorem refAdmit_nat (b : Nat) (w : World) :
    Calls Tryd.prog 11 #[.int .u32 (b : Int)] w fun e w' => e = .returned (.tuple #[.int .u32 (admW b : Int), .int .i64 (admE b)]) ∧ w' = w := by
  unfold admW admE
  by_cases h1 : b = 2147483648
  · subst h1
    go_enter Tryd.func11, Tryd.ntmps11
    go_wp2
    go_ret2
    exact ⟨rfl, rfl⟩
  · have h2 : ((b : Int) == 2147483648) = false := by simp; omega
    rw [if_neg h1, if_neg h1]
    clear h1
    by_cases h3 : 2139095040 ≤ b
    · have h4 : (2139095040 : Int) ≤ (b : Int) := by omega
      rw [if_pos h3, if_pos h3]
      go_enter Tryd.func11, Tryd.ntmps11
      go_wp2
      go_ret2
      exact ⟨rfl, rfl⟩
    · have h4 : ¬ (2139095040 : Int) ≤ (b : Int) := by omega
      rw [if_neg h3, if_neg h3]
      go_enter Tryd.func11, Tryd.ntmps11
      go_wp2
      go_ret2
      exact ⟨rfl, rfl⟩
end Go.Proofs.YtjeplokphkcloaaDoor

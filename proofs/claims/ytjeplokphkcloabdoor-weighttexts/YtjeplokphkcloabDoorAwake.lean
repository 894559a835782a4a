/- The law package's own awake: it answers true; the world as it was but for one new block. -/
import Derived.Test.YtjeplokphkcloabDoorHex
import Derived.Laws.FloatArith
namespace Go.Proofs.YtjeplokphkcloabDoor
open Go.RowKit

namespace M
open Ieee
/-- What a word counts as. -/
def counts (b : Nat) : Nat := if b = 2147483648 then 0 else if 2139095040 < b then 2139095040 else b
theorem counts_le (b : Nat) : counts b ≤ 2139095040 := by unfold counts; (repeat' split) <;> omega
theorem counts_lt (b : Nat) : counts b < 4294967296 := by have := counts_le b; omega

theorem sgn_cost {x : Nat} (h : x ≤ 2139095040) : sgn x = false := by
  rw [sgn_eq (by omega)]; exact decide_eq_false (by omega)

/-- Two costs have a sum. -/
theorem add_some {x y : Nat} (hx : x ≤ 2139095040) (hy : y ≤ 2139095040) : ∃ r, single.add x y = some r := by
  unfold Format.add
  by_cases ix : x = 2139095040
  · rw [read_inf (x := x) (by omega), sgn_cost hx]
    by_cases iy : y = 2139095040
    · rw [read_inf (x := y) (by omega), sgn_cost hy]; exact ⟨_, rfl⟩
    · obtain ⟨m, k, e, -⟩ := read_fin (x := y) (by omega)
      rw [e]; exact ⟨_, rfl⟩
  · obtain ⟨m, k, e, -⟩ := read_fin (x := x) (by omega)
    rw [e]
    by_cases iy : y = 2139095040
    · rw [read_inf (x := y) (by omega)]; exact ⟨_, rfl⟩
    · obtain ⟨m, k, e, -⟩ := read_fin (x := y) (by omega)
      rw [e]; exact ⟨_, rfl⟩
/-- The sum of two costs. -/
def addC (x y : Nat) : Nat := (single.add x y).getD 0
theorem add_eq {x y : Nat} (hx : x ≤ 2139095040) (hy : y ≤ 2139095040) : single.add x y = some (addC x y) := by
  obtain ⟨r, hr⟩ := add_some hx hy
  unfold addC
  rw [hr]; rfl
end M

theorem asCost_nat (b : Nat) (h : b < 4294967296) (w : World) :
    Calls Tryd.prog 21 #[.float .f32 b] w fun e w' => e = .returned (.float .f32 (M.counts b)) ∧ w' = w := by
  have hx := run_frombits
  have hz : (FloatKind.f32.format.order b 0 == some .eq) = decide (b = 0 ∨ b = 2147483648) := M.order_zero h
  have hB := bitsB_eq h
  unfold M.counts
  by_cases h0 : b = 0 ∨ b = 2147483648
  · rw [decide_eq_true h0] at hz
    have e : (if b = 2147483648 then 0 else if 2139095040 < b then 2139095040 else b) = 0 := by (repeat' split) <;> omega
    rw [e]
    clear e h0 hB
    go_enter Tryd.func21, Tryd.ntmps21
    go_wp2
    go_ret
    exact ⟨rfl, rfl⟩
  · rw [decide_eq_false h0] at hz
    by_cases h1 : 2139095040 < b
    · have e : (if b = 2147483648 then 0 else if 2139095040 < b then 2139095040 else b) = 2139095040 := by rw [if_neg (by omega), if_pos h1]
      rw [e]
      have hc : ∀ w, Calls Tryd.prog 31 #[.float .f32 b] w fun e w' => e = .returned (.bool false) ∧ w' = w := fun w => by
        have := cost_any b w
        rwa [decide_eq_false] at this
        rw [hB]; split <;> omega
      have H := hide hc
      clear e hc hB h0
      go_enter Tryd.func21, Tryd.ntmps21
      go_wp2_with (go_at_call 31; refine (unhide H _).mono ?_; rintro e w' ⟨rfl, rfl⟩)
      go_ret
      exact ⟨rfl, rfl⟩
    · have e : (if b = 2147483648 then 0 else if 2139095040 < b then 2139095040 else b) = b := by rw [if_neg (by omega), if_neg h1]
      rw [e]
      have hc : ∀ w, Calls Tryd.prog 31 #[.float .f32 b] w fun e w' => e = .returned (.bool true) ∧ w' = w := fun w => by
        have := cost_any b w
        rwa [decide_eq_true] at this
        rw [hB]
        have : M.nan b = false := decide_eq_false (by omega)
        rw [this]; simp; omega
      have H := hide hc
      clear e hc hB h0
      go_enter Tryd.func21, Tryd.ntmps21
      go_wp2_with (go_at_call 31; refine (unhide H _).mono ?_; rintro e w' ⟨rfl, rfl⟩)
      go_ret
      exact ⟨rfl, rfl⟩

theorem add_nat (a b : Nat) (ha : a < 4294967296) (hb : b < 4294967296) (w : World) :
    Calls Tryd.prog 13 #[.float .f32 a, .float .f32 b] w fun e w' => e = .returned (.float .f32 (M.addC (M.counts a) (M.counts b))) ∧ w' = w := by
  have hr := fun w => run_float_arith (P := Tryd.prog) w .add 25 .f32 (M.counts a) (M.counts b) _ (M.add_eq (M.counts_le a) (M.counts_le b))
  have HA := hide (asCost_nat a ha)
  have HB := hide (asCost_nat b hb)
  go_enter Tryd.func13, Tryd.ntmps13
  go_wp2_with fail
  refine (unhide HA _).mono ?_
  rintro e w' ⟨rfl, rfl⟩
  go_wp2_with fail
  refine (unhide HB _).mono ?_
  rintro e w' ⟨rfl, rfl⟩
  go_wp2
  go_ret
  exact ⟨rfl, rfl⟩

set_option maxRecDepth 100000 in
theorem repeat_0 (s : ByteArray) (w : World) : Calls Tryd.prog 16 #[.string s, .int .i64 0] w fun e w' => e = .returned (.string ⟨#[]⟩) ∧ w' = w := by
  go_enter Tryd.func16, Tryd.ntmps16
  go_wp2
  go_ret
  exact ⟨rfl, rfl⟩

theorem hexs_15 : hexs 8 1069547520 = [51, 102, 99, 48, 48, 48, 48, 48] := by decide

set_option maxHeartbeats 400000 in
theorem text_15 (w : World) (hc : w.cell? ⟨4, 15, none⟩ = some (.int .u8 4)) (h4 : 4 < w.heap.size) :
    Calls Tryd.prog 5 #[.float .f32 1069547520] w fun e w' => e = .returned (.string ⟨#[51, 102, 99, 48, 48, 48, 48, 48]⟩) ∧ ∃ A : Array Value, w' = w.alloc (.cells A 77) := by
  have HB : Hid (∀ w, Calls Tryd.prog 14 #[.float .f32 1069547520] w fun e w' => e = .returned (.int .u32 1069547520) ∧ w' = w) := fun w => by
    have := bits_any 1069547520 w
    rwa [show bitsB 1069547520 = 1069547520 by rw [bitsB_eq (by decide)]; rfl] at this
  have HF : Hid (∀ w, w.cell? ⟨4, 15, none⟩ = some (.int .u8 4) → 4 < w.heap.size → Calls Tryd.prog 15 #[.int .u64 1069547520, .int .i64 16] w fun e w' => e = .returned (.string ⟨#[51, 102, 99, 48, 48, 48, 48, 48]⟩) ∧ ∃ A : Array Value, w' = w.alloc (.cells A 77)) := fun w hc h4 => by
    refine (strconvFormatUint_16 1069547520 (by decide) w hc h4).mono ?_
    rintro e w' ⟨n, rfl, h1, h2, -, A, rfl⟩
    have : n = 7 := by
      apply Nat.le_antisymm h1
      apply Nat.le_of_not_lt
      intro h
      have := Nat.pow_le_pow_right (n := 16) (by omega) (show n + 1 ≤ 7 by omega)
      omega
    subst this
    exact ⟨by rw [hexs_15], A, rfl⟩
  go_enter Tryd.func5, Tryd.ntmps5
  go_wp2_with fail
  refine (unhide HB _).mono ?_
  rintro e w' ⟨rfl, rfl⟩
  go_wp2_with fail
  refine (unhide HF _ hc h4).mono ?_
  rintro e w' ⟨rfl, A, rfl⟩
  go_wp2_with fail
  refine (repeat_0 _ _).mono ?_
  rintro e w' ⟨rfl, rfl⟩
  go_wp2
  go_ret
  exact ⟨rfl, A, rfl⟩

theorem ord_1 : (FloatKind.f32.format.order 1065353216 1065353216 == some .eq) = true := by decide
theorem ord_3 : (FloatKind.f32.format.order 1077936128 1077936128 == some .eq) = true := by decide
theorem sum_3 : M.addC (M.counts 1065353216) (M.counts 1073741824) = 1077936128 := by decide

set_option maxHeartbeats 400000 in
theorem awake_any (w : World) (hc : w.cell? ⟨4, 15, none⟩ = some (.int .u8 4)) (h4 : 4 < w.heap.size) :
    Calls Tryd.prog 4 #[] w fun e w' => e = .returned (.bool true) ∧ ∃ A : Array Value, w' = w.alloc (.cells A 77) := by
  have HM : Hid (∀ w, Calls Tryd.prog 11 #[.int .u32 1065353216] w fun e w' => e = .returned (.tuple #[.float .f32 1065353216, .int .i64 0]) ∧ w' = w) := fun w => admit_nat 1065353216 w
  have HB : Hid (∀ w, Calls Tryd.prog 14 #[.float .f32 1065353216] w fun e w' => e = .returned (.int .u32 1065353216) ∧ w' = w) := fun w => by
    have := bits_any 1065353216 w
    rwa [show bitsB 1065353216 = 1065353216 by rw [bitsB_eq (by decide)]; rfl] at this
  have HS : Hid (∀ w, Calls Tryd.prog 13 #[.float .f32 1065353216, .float .f32 1073741824] w fun e w' => e = .returned (.float .f32 1077936128) ∧ w' = w) := fun w => by
    have := add_nat 1065353216 1073741824 (by decide) (by decide) w
    rwa [sum_3] at this
  have o1 := ord_1
  have o3 := ord_3
  go_enter Tryd.func4, Tryd.ntmps4
  go_wp2_with fail
  refine (unhide HM _).mono ?_
  rintro e w' ⟨rfl, rfl⟩
  go_wp2_with fail
  refine (unhide HS _).mono ?_
  rintro e w' ⟨rfl, rfl⟩
  go_wp2_with fail
  refine (unhide HB _).mono ?_
  rintro e w' ⟨rfl, rfl⟩
  go_wp2_with fail
  refine (text_15 _ hc h4).mono ?_
  rintro e w' ⟨rfl, A, rfl⟩
  go_wp2
  go_ret
  exact ⟨rfl, A, rfl⟩
end Go.Proofs.YtjeplokphkcloabDoor

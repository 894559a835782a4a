/- A store's calls that only read: Has, Free, Reads, Writes, admit; the weights. -/
import Ieee.Arith
import Derived.Laws.FloatBits
import Derived.Test.YtagibmgbjhemkaaGreatStAt
namespace Go.Proofs.YtagibmgbjhemkaaGreat

namespace M
open Ieee
def val (r : Nat) : Nat := if r < 8388608 then r else (8388608 + r % 8388608) * 2 ^ (r / 8388608 - 1)
theorem read_eq (x : Nat) : single.read x =
    (if x % 2147483648 < 8388608 then Datum.number (x / 2147483648 % 2 == 1) (x % 2147483648) (-149)
     else if x % 2147483648 < 2139095040 then Datum.number (x / 2147483648 % 2 == 1) (8388608 + x % 2147483648 % 8388608) (-149 + (x % 2147483648 / 8388608 - 1 : Nat))
     else if x % 2147483648 = 2139095040 then .infinity (x / 2147483648 % 2 == 1)
     else .nan (x / 2147483648 % 2 == 1) (x % 2147483648 - 2139095040)) := rfl
theorem val_lo {r : Nat} (h : r < 8388608) : val r = r := if_pos h
theorem val_hi {r : Nat} (h : ¬ r < 8388608) : val r = (8388608 + r % 8388608) * 2 ^ (r / 8388608 - 1) := if_neg h
theorem val_mono {r t : Nat} (h : r < t) : val r < val t := by
  by_cases ht : t < 8388608
  · rw [val_lo ht, val_lo (by omega)]; exact h
  · rw [val_hi ht]; have hq : 1 ≤ t / 8388608 := by omega
    have hp : ∀ k, 1 ≤ 2 ^ k := fun k => Nat.one_le_two_pow
    by_cases hr : r < 8388608
    · rw [val_lo hr]; have := Nat.mul_le_mul (Nat.le_add_right 8388608 (t % 8388608)) (hp (t / 8388608 - 1)); omega
    · rw [val_hi hr]; have hle : r / 8388608 ≤ t / 8388608 := Nat.div_le_div_right (by omega)
      rcases Nat.lt_or_eq_of_le hle with hlt | heq
      · have e : 2 ^ (t / 8388608 - 1) = 2 ^ (r / 8388608 - 1) * 2 ^ (t / 8388608 - r / 8388608) := by rw [← Nat.pow_add]; congr 1; omega
        have h2 : 2 ≤ 2 ^ (t / 8388608 - r / 8388608) := by
          have := Nat.pow_le_pow_right (n := 2) (by omega) (show 1 ≤ t / 8388608 - r / 8388608 by omega)
          simpa using this
        have h3 : (8388608 + r % 8388608) * 2 ^ (r / 8388608 - 1) < 16777216 * 2 ^ (r / 8388608 - 1) := Nat.mul_lt_mul_of_pos_right (by omega) (hp _)
        have h4 : 16777216 * 2 ^ (r / 8388608 - 1) ≤ 8388608 * (2 ^ (r / 8388608 - 1) * 2 ^ (t / 8388608 - r / 8388608)) := by
          have := Nat.mul_le_mul_left (8388608 * 2 ^ (r / 8388608 - 1)) h2; rw [Nat.mul_assoc, Nat.mul_assoc] at this; omega
        have h5 : 8388608 * (2 ^ (r / 8388608 - 1) * 2 ^ (t / 8388608 - r / 8388608)) ≤ (8388608 + t % 8388608) * 2 ^ (t / 8388608 - 1) := by
          rw [e]; exact Nat.mul_le_mul_right _ (by omega)
        omega
      · rw [← heq]; exact Nat.mul_lt_mul_of_pos_right (by omega) (hp _)
def sgn (x : Nat) : Bool := x / 2147483648 % 2 == 1
def sv (x : Nat) : Int := if sgn x then -(val (x % 2147483648) : Int) else val (x % 2147483648)
theorem read_fin {x : Nat} (h : x % 2147483648 < 2139095040) : ∃ m : Nat, ∃ k : Nat, single.read x = .number (sgn x) m (-149 + (k : Int)) ∧ m * 2 ^ k = val (x % 2147483648) := by
  rw [read_eq]
  by_cases h1 : x % 2147483648 < 8388608
  · refine ⟨x % 2147483648, 0, ?_, ?_⟩
    · rw [if_pos h1]; rfl
    · rw [val_lo h1]; simp
  · refine ⟨8388608 + x % 2147483648 % 8388608, x % 2147483648 / 8388608 - 1, ?_, ?_⟩
    · rw [if_neg h1, if_pos h]; rfl
    · rw [val_hi h1]
theorem signed_eq (s : Bool) (m k : Nat) : signed s m k = (if s then -((m * 2 ^ k : Nat) : Int) else ((m * 2 ^ k : Nat) : Int)) := by
  unfold signed; rw [Nat.shiftLeft_eq]
theorem compare_scale (a b : Int) (k : Nat) : compare (a * (2 ^ k : Nat)) (b * (2 ^ k : Nat)) = compare a b := by
  have hp : (0 : Int) < ((2 ^ k : Nat) : Int) := by have := Nat.two_pow_pos k; omega
  rcases Int.lt_trichotomy a b with h | h | h
  · rw [Int.compare_eq_lt.2 h, Int.compare_eq_lt.2 (Int.mul_lt_mul_of_pos_right h hp)]
  · subst h; simp
  · rw [Int.compare_eq_gt.2 h, Int.compare_eq_gt.2 (Int.mul_lt_mul_of_pos_right h hp)]
theorem signed_scale (s : Bool) (m a c : Nat) : signed s m a * (2 ^ c : Nat) = signed s m (a + c) := by
  rw [signed_eq, signed_eq, Nat.pow_add, ← Nat.mul_assoc]
  cases s <;> simp [Int.neg_mul]
theorem order_fin {x y : Nat} (hx : x % 2147483648 < 2139095040) (hy : y % 2147483648 < 2139095040) : single.order x y = some (compare (sv x) (sv y)) := by
  obtain ⟨m, k, e1, v1⟩ := read_fin hx; obtain ⟨n, l, e2, v2⟩ := read_fin hy; unfold Format.order; rw [e1, e2]; simp only [Datum.order]; congr 1; have eb : ∃ c : Nat, min (-149 + (k : Int)) (-149 + (l : Int)) = -149 + (c : Int) ∧ c ≤ k ∧ c ≤ l := by
    rcases Nat.le_total k l with h | h
    · exact ⟨k, by omega, Nat.le_refl _, h⟩
    · exact ⟨l, by omega, h, Nat.le_refl _⟩
  obtain ⟨c, ec, hk, hl⟩ := eb; rw [ec, show (-149 + (k : Int) - (-149 + (c : Int))).toNat = k - c by omega, show (-149 + (l : Int) - (-149 + (c : Int))).toNat = l - c by omega]
  rw [← compare_scale _ _ c, signed_scale, signed_scale, Nat.sub_add_cancel hk, Nat.sub_add_cancel hl, signed_eq, signed_eq, v1, v2]; rfl
def place (x : Nat) : Int := if 2147483648 ≤ x then -((x : Int) - 2147483648) else x
def nan (x : Nat) : Bool := decide (2139095040 < x % 2147483648)
theorem sgn_eq {x : Nat} (h : x < 4294967296) : sgn x = decide (2147483648 ≤ x) := by
  unfold sgn
  by_cases h1 : 2147483648 ≤ x
  · have : x / 2147483648 = 1 := by omega
    simp [h1, this]
  · have : x / 2147483648 = 0 := by omega
    simp [h1, this]
theorem val_inj_le {r t : Nat} : val r ≤ val t ↔ r ≤ t := by
  constructor
  · intro h; apply Nat.le_of_not_lt; intro h2; have := val_mono h2; omega
  · intro h; rcases Nat.lt_or_eq_of_le h with h | h
    · exact Nat.le_of_lt (val_mono h)
    · subst h; exact Nat.le_refl _
theorem val_zero : val 0 = 0 := rfl
theorem sv_place {x : Nat} (h : x < 4294967296) : sv x = if 2147483648 ≤ x then -(val (x - 2147483648) : Int) else val x := by
  unfold sv; rw [sgn_eq h]
  by_cases h1 : 2147483648 ≤ x
  · have e : x % 2147483648 = x - 2147483648 := by omega
    simp [h1, e]
  · have e : x % 2147483648 = x := by omega
    simp [h1, e]
theorem sv_cmp {x y : Nat} (hx : x < 4294967296) (hy : y < 4294967296) : (sv x < sv y ↔ place x < place y) ∧ (sv x = sv y ↔ place x = place y) := by
  rw [sv_place hx, sv_place hy]; unfold place; have z1 := fun r => @val_inj_le r 0
  rw [val_zero] at z1
  by_cases h1 : 2147483648 ≤ x <;> by_cases h2 : 2147483648 ≤ y <;> simp only [h1, h2, if_true, if_false]
  · have a := @val_inj_le (x - 2147483648) (y - 2147483648); have b := @val_inj_le (y - 2147483648) (x - 2147483648); omega
  · have a := z1 (x - 2147483648); have b := z1 y; omega
  · have a := z1 x; have b := z1 (y - 2147483648); omega
  · have a := @val_inj_le x y; have b := @val_inj_le y x; omega
theorem read_inf {x : Nat} (h : x % 2147483648 = 2139095040) : single.read x = .infinity (sgn x) := by
  rw [read_eq, if_neg (by omega), if_neg (by omega), if_pos h]; rfl
theorem read_nan {x : Nat} (h : 2139095040 < x % 2147483648) : single.read x = .nan (sgn x) (x % 2147483648 - 2139095040) := by
  rw [read_eq, if_neg (by omega), if_neg (by omega), if_neg (by omega)]; rfl
theorem order_nan {x y : Nat} (h : nan x = true ∨ nan y = true) : single.order x y = none := by
  unfold Format.order; rcases h with h | h
  · rw [read_nan (of_decide_eq_true h)]; rfl
  · rw [read_nan (of_decide_eq_true h)]; cases single.read x <;> rfl
theorem order_num {x y : Nat} (hx : x < 4294967296) (hy : y < 4294967296) (nx : nan x = false) (ny : nan y = false) : single.order x y = some (compare (place x) (place y)) := by
  have nx := of_decide_eq_false nx; have ny := of_decide_eq_false ny; have hc : ∀ a b c d : Int, (a < b ↔ c < d) → (a = b ↔ c = d) → compare a b = compare c d := by
    intro a b c d h1 h2; rcases Int.lt_trichotomy a b with h | h | h
    · rw [Int.compare_eq_lt.2 h, Int.compare_eq_lt.2 (h1.1 h)]
    · rw [Int.compare_eq_eq.2 h, Int.compare_eq_eq.2 (h2.1 h)]
    · rw [Int.compare_eq_gt.2 h, Int.compare_eq_gt.2 (by omega)]
  by_cases ix : x % 2147483648 = 2139095040
  · by_cases iy : y % 2147483648 = 2139095040
    · unfold Format.order; rw [read_inf ix, read_inf iy]; simp only [Datum.order]; congr 1; rw [sgn_eq hx, sgn_eq hy]; unfold place
      by_cases h1 : 2147483648 ≤ x <;> by_cases h2 : 2147483648 ≤ y <;> simp only [h1, h2, if_true, if_false, decide_true, decide_false]
      · rw [show x = y by omega]; simp
      · rw [Int.compare_eq_lt.2 (by omega)]; rfl
      · rw [Int.compare_eq_gt.2 (by omega)]; rfl
      · rw [show x = y by omega]; simp
    · obtain ⟨n, l, e2, -⟩ := read_fin (x := y) (by omega)
      unfold Format.order; rw [read_inf ix, e2]; simp only [Datum.order]; congr 1; rw [sgn_eq hx]; unfold place
      by_cases h1 : 2147483648 ≤ x <;> by_cases h2 : 2147483648 ≤ y <;> simp only [h1, h2, if_true, if_false, decide_true, decide_false]
      · rw [Int.compare_eq_lt.2 (by omega)]
      · rw [Int.compare_eq_lt.2 (by omega)]
      · rw [Int.compare_eq_gt.2 (by omega)]; rfl
      · rw [Int.compare_eq_gt.2 (by omega)]; rfl
  · by_cases iy : y % 2147483648 = 2139095040
    · obtain ⟨n, l, e2, -⟩ := read_fin (x := x) (by omega)
      unfold Format.order; rw [read_inf iy, e2]; simp only [Datum.order]; congr 1; rw [sgn_eq hy]; unfold place
      by_cases h1 : 2147483648 ≤ x <;> by_cases h2 : 2147483648 ≤ y <;> simp only [h1, h2, if_true, if_false, decide_true, decide_false]
      · rw [Int.compare_eq_gt.2 (by omega)]
      · rw [Int.compare_eq_lt.2 (by omega)]; rfl
      · rw [Int.compare_eq_gt.2 (by omega)]
      · rw [Int.compare_eq_lt.2 (by omega)]; rfl
    · rw [order_fin (by omega) (by omega)]
      congr 1; exact hc _ _ _ _ (sv_cmp hx hy).1 (sv_cmp hx hy).2
theorem order_self {x : Nat} (hx : x < 4294967296) : (single.order x x != some .eq) = nan x := by
  cases h : nan x
  · rw [order_num hx hx h h]; simp
  · rw [order_nan (Or.inl h)]; rfl
theorem order_zero {x : Nat} (hx : x < 4294967296) : (single.order x 0 == some .eq) = decide (x = 0 ∨ x = 2147483648) := by
  cases h1 : nan x
  · rw [order_num hx (by omega) h1 rfl]
    unfold place
    by_cases h : x = 0 ∨ x = 2147483648
    · rcases h with rfl | rfl <;> rfl
    · have : ¬ (if 2147483648 ≤ x then -((x : Int) - 2147483648) else x) = 0 := by split <;> omega
      simp [h, this]
  · have := of_decide_eq_true h1; rw [order_nan (Or.inl h1), decide_eq_false (by omega)]; rfl
end M

section
open Go.RowKit Go.Maps
/-! ### weights -/
theorem run_frombits (n : Int) (w : World) : (callFunc 43 #[.int .u32 n]).run Tryz.prog w = .ok (.value (.float .f32 n.toNat)) w := by
  rw [run_callFunc_extern (e := Extern.MathFloatBits.float32frombits) Tryz.func43 (by kernel_rfl) (by kernel_rfl) (by kernel_rfl) (by kernel_rfl)]
  rfl
theorem run_tobits (b : Nat) (w : World) : (callFunc 81 #[.float .f32 b]).run Tryz.prog w = .ok (.value (.int .u32 b)) w := by
  rw [run_callFunc_extern (e := Extern.MathFloatBits.float32bits) Tryz.func81 (by kernel_rfl) (by kernel_rfl) (by kernel_rfl) (by kernel_rfl)]
  rfl
theorem isNaN_any (b : Nat) (w : World) : Calls Tryz.prog 80 #[.float .f32 b] w fun e w' => e = .returned (.bool (FloatKind.f32.format.order b b != some .eq)) ∧ w' = w := by
  go_enter Tryz.func80, Tryz.ntmps80
  go_wp2
  go_ret
  exact ⟨rfl, rfl⟩
theorem bits_plain (b : Nat) (hb : b < 2139095040) (w : World) : Calls Tryz.prog 44 #[.float .f32 b] w fun e w' => e = .returned (.int .u32 b) ∧ w' = w := by
  have hx := run_tobits; have hn : (FloatKind.f32.format.order b b != some .eq) = false := by
    have := M.order_self (x := b) (by omega)
    rw [show FloatKind.f32.format = Ieee.single from rfl, this]
    unfold M.nan; exact decide_eq_false (by omega)
  have hc : ∀ w, Calls Tryz.prog 80 #[.float .f32 b] w fun e w' => e = .returned (.bool false) ∧ w' = w := fun w => by
    have := isNaN_any b w; rwa [hn] at this
  have H := hide hc; clear hc hn hb
  go_enter Tryz.func44, Tryz.ntmps44
  go_wp2_with (go_at_call 80; refine (unhide H _).mono ?_; rintro e w' ⟨rfl, rfl⟩)
  go_ret
  exact ⟨rfl, rfl⟩
def kept (n : Int) : Option Int := if n = 2147483648 then some 0 else if 2139095040 ≤ n then none else some n
def ansK : Option Int → Value
  | some b => .tuple #[.int .u32 b, .int .i64 0]
  | none => .tuple #[.int .u32 0, .int .i64 7]
theorem admitW_zero (w : World) : Calls Tryz.prog 119 #[.int .u32 2147483648] w fun e w' => e = .returned (.tuple #[.float .f32 0, .int .i64 0]) ∧ w' = w := by
  go_enter Tryz.func119, Tryz.ntmps119
  go_wp2
  go_ret2
  exact ⟨rfl, rfl⟩
theorem admitW_no (n : Int) (h1 : ¬ n = 2147483648) (h2 : 2139095040 ≤ n) (w : World) : Calls Tryz.prog 119 #[.int .u32 n] w fun e w' => e = .returned (.tuple #[.float .f32 0, .int .i64 7]) ∧ w' = w := by
  go_enter Tryz.func119, Tryz.ntmps119
  go_wp2
  go_ret2
  exact ⟨rfl, rfl⟩
theorem admitW_yes (n : Int) (h2 : ¬ 2139095040 ≤ n) (w : World) : Calls Tryz.prog 119 #[.int .u32 n] w fun e w' => e = .returned (.tuple #[.float .f32 n.toNat, .int .i64 0]) ∧ w' = w := by
  have h1 : ¬ n = 2147483648 := by omega
  have hx := run_frombits
  go_enter Tryz.func119, Tryz.ntmps119
  go_wp2
  go_ret2
  exact ⟨rfl, rfl⟩
set_option maxHeartbeats 1000000 in
set_option maxRecDepth 100000 in
theorem keptS (n : Int) (h0 : 0 ≤ n) (w : World) : Calls Tryz.prog 101 #[.int .u32 n] w fun e w' => e = .returned (ansK (kept n)) ∧ w' = w := by
  unfold kept
  by_cases h1 : n = 2147483648
  · subst h1; rw [if_pos rfl]; have CA := hide (admitW_zero w); have CB := hide (bits_plain 0 (by omega) w)
    clear h0
    go_enter Tryz.func101, Tryz.ntmps101
    go_wp2_with fail
    refine (unhide CA).mono ?_
    rintro e w1 ⟨rfl, rfl⟩
    clear CA
    go_wp2_with fail
    refine (unhide CB).mono ?_
    rintro e w1 ⟨rfl, rfl⟩
    clear CB
    go_wp2_with fail
    go_ret2
    exact ⟨rfl, rfl⟩
  · rw [if_neg h1]
    by_cases h2 : 2139095040 ≤ n
    · rw [if_pos h2]; have CA := hide (admitW_no n h1 h2 w); clear h0 h1 h2
      go_enter Tryz.func101, Tryz.ntmps101
      go_wp2_with fail
      refine (unhide CA).mono ?_
      rintro e w1 ⟨rfl, rfl⟩
      clear CA
      go_wp2_with fail
      go_ret2
      exact ⟨rfl, rfl⟩
    · rw [if_neg h2]; have CA := hide (admitW_yes n h2 w); have CB := hide (bits_plain n.toNat (by omega) w)
      have hn : Hid (((n.toNat : Nat) : Int) = n) := by show _ = _; omega
      generalize n.toNat = b at *; clear h0 h1 h2
      go_enter Tryz.func101, Tryz.ntmps101
      go_wp2_with fail
      refine (unhide CA).mono ?_
      rintro e w1 ⟨rfl, rfl⟩
      clear CA
      go_wp2_with fail
      refine (unhide CB).mono ?_
      rintro e w1 ⟨rfl, rfl⟩
      clear CB
      go_wp2_with fail
      go_ret2
      exact ⟨by rw [← unhide hn]; rfl, rfl⟩
variable [Inhabited EntI] {w : World} {X : Sto}
set_option maxHeartbeats 1000000 in
set_option maxRecDepth 100000 in
theorem hasS (k : Int) (h : StAt w X) (hk : okN k) : Calls Tryz.prog 18 #[.pointer (some ⟨X.s, 0, none⟩), .int .i64 k] w fun e w' => e = .returned (.bool (X.f k).isSome) ∧ w' = w := by
  obtain ⟨-, c1, -, -, -⟩ := h.cells; have hl := h.look2 k hk; generalize ptr (X.f k) = p at *; generalize (X.f k).isSome = b at *; generalize X.s = s at *; generalize X.m = m at *; clear h hk
  go_enter Tryz.func18, Tryz.ntmps18
  go_wp2_with fail
  go_ret
  exact ⟨rfl, rfl⟩
set_option maxHeartbeats 1000000 in
set_option maxRecDepth 100000 in
theorem freeS (h : StAt w X) : Calls Tryz.prog 57 #[.pointer (some ⟨X.s, 0, none⟩)] w fun e w' => ∃ r, e = .returned (.int .i64 r) ∧ Hid (FreeIs X.ps 1024 r ∧ ∃ q, w' = w.drewN q) := by
  obtain ⟨c0, -, -, -, -⟩ := h.cells; have CF := hide (freeE w h.tab); generalize X.s = s at *; generalize X.t = t at *; clear h
  go_enter Tryz.func57, Tryz.ntmps57
  go_wp2_with fail
  refine (unhide CF).mono ?_
  rintro e w2 ⟨r, rfl, h2⟩
  clear CF
  go_wp2_with fail
  go_ret
  exact ⟨r, rfl, h2⟩
set_option maxHeartbeats 1000000 in
set_option maxRecDepth 100000 in
theorem readsS (h : StAt w X) : Calls Tryz.prog 10 #[.pointer (some ⟨X.s, 0, none⟩)] w fun e w' => e = .returned (.int .i64 X.rd) ∧ w' = w := by
  obtain ⟨-, -, c2, -, -⟩ := h.cells; clear h
  go_enter Tryz.func10, Tryz.ntmps10
  go_wp2_with fail
  go_ret
  exact ⟨rfl, rfl⟩
set_option maxHeartbeats 1000000 in
set_option maxRecDepth 100000 in
theorem writesS (h : StAt w X) : Calls Tryz.prog 15 #[.pointer (some ⟨X.s, 0, none⟩)] w fun e w' => e = .returned (.int .i64 X.wr) ∧ w' = w := by
  obtain ⟨-, -, -, c3, -⟩ := h.cells; clear h
  go_enter Tryz.func15, Tryz.ntmps15
  go_wp2_with fail
  go_ret
  exact ⟨rfl, rfl⟩
set_option maxHeartbeats 1000000 in
set_option maxRecDepth 100000 in
theorem admitNoS (u v n : Int) (h : StAt w X) (hu : okN u) (hv : okN v) (hno : X.f u = none ∨ X.f v = none) : Calls Tryz.prog 75 #[.pointer (some ⟨X.s, 0, none⟩), .int .i64 u, .int .i64 v, .int .u32 n] w fun e w' => e = .returned (.tuple #[.int .u32 0, .int .i64 5]) ∧ w' = w := by
  have C1 := hide (hasS u h hu); have C2 := hide (hasS v h hv)
  by_cases h1 : X.f u = none
  · rw [h1] at C1; simp only [Option.isSome_none] at C1; clear C2 h hno h1 hu hv
    go_enter Tryz.func75, Tryz.ntmps75
    go_wp2_with fail
    refine (unhide C1).mono ?_
    rintro e w1 ⟨rfl, rfl⟩
    clear C1
    go_wp2_with fail
    go_ret2
    exact ⟨rfl, rfl⟩
  · have e1 : (X.f u).isSome = true := by cases hh : X.f u with | none => exact absurd hh h1 | some q => rfl
    have h2 : X.f v = none := hno.resolve_left h1; rw [e1] at C1; rw [h2] at C2; simp only [Option.isSome_none] at C2; clear h hno h1 hu hv h2 e1
    go_enter Tryz.func75, Tryz.ntmps75
    go_wp2_with fail
    refine (unhide C1).mono ?_
    rintro e w1 ⟨rfl, rfl⟩
    clear C1
    go_wp2_with fail
    refine (unhide C2).mono ?_
    rintro e w1 ⟨rfl, rfl⟩
    clear C2
    go_wp2_with fail
    go_ret2
    exact ⟨rfl, rfl⟩
set_option maxHeartbeats 1000000 in
set_option maxRecDepth 100000 in
theorem admitS (u v n : Int) (h : StAt w X) (hu : X.f u ≠ none) (hv : X.f v ≠ none) (h0 : 0 ≤ n) : Calls Tryz.prog 75 #[.pointer (some ⟨X.s, 0, none⟩), .int .i64 u, .int .i64 v, .int .u32 n] w fun e w' => e = .returned (ansK (kept n)) ∧ w' = w := by
  obtain ⟨q1, e1⟩ : ∃ q, X.f u = some q := by cases hh : X.f u with | none => exact absurd hh hu | some q => exact ⟨q, rfl⟩
  obtain ⟨q2, e2⟩ : ∃ q, X.f v = some q := by cases hh : X.f v with | none => exact absurd hh hv | some q => exact ⟨q, rfl⟩
  have C1 := hide (hasS u h (h.ok e1)); have C2 := hide (hasS v h (h.ok e2)); have C3 := hide (keptS n h0 w); rw [e1] at C1; rw [e2] at C2; simp only [Option.isSome_some] at C1 C2; obtain ⟨a, b, eab⟩ : ∃ a b, ansK (kept n) = .tuple #[a, b] := by cases kept n <;> exact ⟨_, _, rfl⟩
  rw [eab] at C3 ⊢; clear h hu hv h0 e1 e2 eab
  go_enter Tryz.func75, Tryz.ntmps75
  go_wp2_with fail
  refine (unhide C1).mono ?_
  rintro e w1 ⟨rfl, rfl⟩
  clear C1
  go_wp2_with fail
  refine (unhide C2).mono ?_
  rintro e w1 ⟨rfl, rfl⟩
  clear C2
  go_wp2_with fail
  refine (unhide C3).mono ?_
  rintro e w1 ⟨rfl, rfl⟩
  clear C3
  go_wp2_with fail
  go_ret2
  exact ⟨rfl, rfl⟩
end

end Go.Proofs.YtagibmgbjhemkaaGreat

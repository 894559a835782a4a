/- Rounding: the model's sum of two costs and the reference's are one; it rises. -/
import Derived.Test.YtagibmgbjhemkaaGreatWRefAdd
namespace Go.Proofs.YtagibmgbjhemkaaGreat

section
open Go.RowKit
namespace M
/-- The reference's sum, of two that count as costs. -/
def refAdd (c1 c2 : Nat) : Nat :=
  let a := max c1 c2
  let b := min c1 c2
  let s := mant a * 2 ^ (expo a - expo b) + mant b
  if a = 2139095040 then 2139095040 else if 26 ≤ expo a - expo b then a else tail (expo b) (s.log2 - 23) (rounded s (s.log2 - 23))

theorem mant_lt (x : Nat) : mant x < 16777216 := by unfold mant; split <;> omega
theorem expo_mono {x y : Nat} (h : x ≤ y) : expo x ≤ expo y := by
  have := Nat.div_le_div_right (c := 8388608) h
  unfold expo; (repeat' split) <;> omega
theorem expo_le {x : Nat} (h : x < 2139095040) : expo x ≤ 254 := by
  unfold expo; split <;> omega
end M

theorem refAdd_nat (x y : Nat) (w : World) :
    Calls Tryz.prog 50 #[.int .u32 (x : Int), .int .u32 (y : Int)] w fun e w' => e = .returned (.int .u32 (M.refAdd (M.counts x) (M.counts y) : Int)) ∧ ∃ nq, w' = w.drewN nq := by
  have HX := hide (counts_nat x)
  have HY := hide (counts_nat y)
  have l1 := M.counts_le x
  have l2 := M.counts_le y
  generalize M.counts x = c1 at *
  generalize M.counts y = c2 at *
  unfold M.refAdd
  obtain ⟨a, b, hab, ea, eb, hle, hal⟩ : ∃ a b, ((c1 < c2 ∧ a = c2 ∧ b = c1) ∨ (¬ c1 < c2 ∧ a = c1 ∧ b = c2)) ∧ max c1 c2 = a ∧ min c1 c2 = b ∧ b ≤ a ∧ a ≤ 2139095040 := by
    by_cases h : c1 < c2
    · exact ⟨c2, c1, Or.inl ⟨h, rfl, rfl⟩, by omega, by omega, by omega, l2⟩
    · exact ⟨c1, c2, Or.inr ⟨h, rfl, rfl⟩, by omega, by omega, by omega, l1⟩
  rw [ea, eb]
  simp only []
  by_cases hi : a = 2139095040
  · rw [if_pos hi]
    exact refAdd_inf x y c1 c2 a b w hab HX HY (by simpa using by omega)
  · rw [if_neg hi]
    have he := M.expo_mono hle
    have hea := M.expo_le (x := a) (by omega)
    obtain ⟨d, hd⟩ : ∃ d, M.expo a = M.expo b + d := ⟨M.expo a - M.expo b, by omega⟩
    have HP1 : Hid (∀ w, Calls Tryz.prog 84 #[.int .i64 (a : Int)] w fun e w' => e = .returned (.tuple #[.int .i64 (M.mant a : Int), .int .i64 ((M.expo b : Int) + (d : Int))]) ∧ w' = w) := fun w => by
      have := parts_nat a hal w
      rwa [hd, Int.natCast_add] at this
    have HP2 : Hid (∀ w, Calls Tryz.prog 84 #[.int .i64 (b : Int)] w fun e w' => e = .returned (.tuple #[.int .i64 (M.mant b : Int), .int .i64 (M.expo b : Int)]) ∧ w' = w) := fun w => parts_nat b (by omega) w
    rw [show M.expo a - M.expo b = d by omega]
    by_cases h26 : 26 ≤ d
    · rw [if_pos h26]
      exact refAdd_far x y c1 c2 a b w (M.mant a) (M.expo b) d (M.mant b) h26 (by omega) (by omega) hab HX HY HP1 HP2
    · rw [if_neg h26]
      have m1 := M.mant_lt a
      have m2 := M.mant_lt b
      obtain ⟨s, hs⟩ : ∃ s, M.mant a * 2 ^ d + M.mant b = s := ⟨_, rfl⟩
      have hp := Nat.pow_le_pow_right (n := 2) (by omega) (show d ≤ 25 by omega)
      have hm := Nat.mul_le_mul (Nat.le_of_lt m1) hp
      have hsl : s < 2 ^ 50 := by omega
      rw [hs]
      refine refAdd_main x y c1 c2 a b w (M.mant a) (M.expo b) d (M.mant b) (by omega) (by omega) hab (by simpa using by omega) s (s.log2 - 23) ?_ ?_ ?_ ?_ HX HY HP1 HP2
      · show _ = _
        have e1 : ((M.mant a : Int) * 2 ^ d) = ((M.mant a * 2 ^ d : Nat) : Int) := by simp
        have e2 : ∀ z : Int, 0 ≤ z → z < 2 ^ 60 → wrap64 z = z := fun z h1 h2 => by unfold wrap64; omega
        rw [e1, e2 ((M.mant a * 2 ^ d : Nat) : Int) (by omega) (by omega), e2 _ (by omega) (by omega)]
        omega
      · have : s.log2 < 50 := by
          by_cases h0 : s = 0
          · subst h0; decide
          · exact (Nat.log2_lt h0).2 hsl
        omega
      · intro k hk
        have h0 : s ≠ 0 := by rintro rfl; simp at hk
        have h1 : 2 ^ s.log2 ≤ s := Nat.log2_self_le h0
        rw [Nat.le_div_iff_mul_le (Nat.two_pow_pos k)]
        have h2 := Nat.pow_le_pow_right (n := 2) (by omega) (show k + 24 ≤ s.log2 by omega)
        rw [Nat.pow_add] at h2
        omega
      · show _ < _
        rw [Nat.div_lt_iff_lt_mul (Nat.two_pow_pos _)]
        by_cases h0 : s = 0
        · subst h0; exact Nat.mul_pos (by omega) (Nat.two_pow_pos _)
        · have h1 : s < 2 ^ (s.log2 + 1) := Nat.lt_log2_self
          have h2 := Nat.pow_le_pow_right (n := 2) (by omega) (show s.log2 + 1 ≤ 24 + (s.log2 - 23) by omega)
          rw [Nat.pow_add 2 24] at h2
          omega
end

namespace M
open Ieee
theorem two_pow_split {a b : Nat} (h : b ≤ a) : 2 ^ a = 2 ^ (a - b) * 2 ^ b := by rw [← Nat.pow_add]; congr 1; omega

theorem mul_mod_pow (s k c : Nat) : s * 2 ^ c % 2 ^ (k + c) = s % 2 ^ k * 2 ^ c := by
  rw [Nat.pow_add, Nat.mul_mod_mul_right]
theorem mul_div_pow (s k c : Nat) : s * 2 ^ c / 2 ^ (k + c) = s / 2 ^ k := by
  rw [Nat.pow_add, Nat.mul_div_mul_right _ _ (Nat.two_pow_pos c)]

/-- Both scaled alike: the rounding is the same. -/
theorem rounded_scale (s k c : Nat) : rounded (s * 2 ^ c) (k + c) = rounded s k := by
  have hc := Nat.two_pow_pos c
  by_cases hk : k = 0
  · subst hk
    by_cases h0 : c = 0
    · subst h0; simp
    · unfold rounded up
      rw [if_neg (by omega), if_pos rfl, mul_mod_pow, mul_div_pow]
      have := Nat.two_pow_pos (0 + c - 1)
      rw [Nat.pow_zero, Nat.mod_one, Nat.zero_mul, Nat.div_one, decide_eq_false (p := 2 ^ (0 + c - 1) < 0) (by omega), decide_eq_false (p := 0 = 2 ^ (0 + c - 1)) (by omega)]
      rfl
  · unfold rounded up
    rw [if_neg (by omega), if_neg hk, mul_mod_pow, mul_div_pow, show k + c - 1 = (k - 1) + c by omega, Nat.pow_add 2 (k - 1) c]
    have e1 : (2 ^ (k - 1) * 2 ^ c < s % 2 ^ k * 2 ^ c) ↔ 2 ^ (k - 1) < s % 2 ^ k := Nat.mul_lt_mul_right hc
    have e2 : (s % 2 ^ k * 2 ^ c = 2 ^ (k - 1) * 2 ^ c) ↔ s % 2 ^ k = 2 ^ (k - 1) := Nat.mul_left_inj (by omega)
    simp only [e1, e2]

/-- The rung of S units of the least place. -/
def R (S : Nat) : Nat := min ((S.log2 - 23) * 8388608 + rounded S (S.log2 - 23)) 2139095040

theorem log2_mul_pow {T : Nat} (h : T ≠ 0) (c : Nat) : (T * 2 ^ c).log2 = T.log2 + c := by
  apply (Nat.log2_eq_iff (by have := Nat.mul_pos (Nat.pos_of_ne_zero h) (Nat.two_pow_pos c); omega)).2
  have h1 := Nat.log2_self_le h
  have h2 : T < 2 ^ (T.log2 + 1) := Nat.lt_log2_self
  constructor
  · rw [Nat.pow_add]; exact Nat.mul_le_mul_right _ h1
  · rw [show T.log2 + c + 1 = (T.log2 + 1) + c by omega, Nat.pow_add]
    exact Nat.mul_lt_mul_of_pos_right h2 (Nat.two_pow_pos c)

theorem cut_zero (n : Nat) : Toward.even.cut false n 0 = n := by
  simp [Toward.cut, Nat.mod_one]

theorem cut_eq (n D : Nat) (h0 : 0 < D) (h : D ≤ n.log2 + 2) : Toward.even.cut false n D = rounded n D := by
  unfold Toward.cut rounded up
  rw [if_neg (by omega), Nat.min_eq_left h, Nat.one_shiftLeft]
  have e : 2 ^ D = 2 * 2 ^ (D - 1) := by rw [← Nat.pow_succ']; congr 1; omega
  have e1 : (2 ^ D < 2 * (n % 2 ^ D)) ↔ 2 ^ (D - 1) < n % 2 ^ D := by omega
  have e2 : (2 ^ D = 2 * (n % 2 ^ D)) ↔ n % 2 ^ D = 2 ^ (D - 1) := by omega
  simp only [e1]
  congr 2
  rw [show (2 ^ D == 2 * (n % 2 ^ D)) = decide (n % 2 ^ D = 2 ^ (D - 1)) by
    rw [Bool.eq_iff_iff]; simp only [beq_iff_eq, decide_eq_true_eq]; exact e2]
  rw [show (n / 2 ^ D % 2 == 1) = decide (n / 2 ^ D % 2 = 1) by rw [Bool.eq_iff_iff]; simp]

theorem nearest_eq (T c : Nat) : single.nearest false T (-149 + (c : Int)) = R (T * 2 ^ c) := by
  by_cases h0 : T = 0
  · subst h0
    unfold R
    simp [Format.nearest, Format.word, rounded]
  · unfold Format.nearest R
    rw [if_neg h0, log2_mul_pow h0]
    have el : max (-149 + (c : Int) + (T.log2 : Int) - (single.fractionBits : Int)) single.leastPlace = -149 + ((T.log2 + c - 23 : Nat) : Int) := by
      have f1 : (single.fractionBits : Int) = 23 := rfl
      have f2 : single.leastPlace = -149 := rfl
      rw [f1, f2]; omega
    simp only [el]
    have f2 : single.leastPlace = -149 := rfl
    rw [f2, show (-149 + ((T.log2 + c - 23 : Nat) : Int) - -149).toNat = T.log2 + c - 23 by omega]
    have f3 : single.binade = 8388608 := rfl
    have f4 : single.infRung = 2139095040 := rfl
    rw [f3, f4]
    unfold Format.word
    simp only [Bool.false_eq_true, if_false]
    congr 2
    by_cases hK : T.log2 + c - 23 ≤ c
    · rw [show (-149 + (c : Int) - (-149 + ((T.log2 + c - 23 : Nat) : Int))).toNat = c - (T.log2 + c - 23) by omega,
        show (-149 + ((T.log2 + c - 23 : Nat) : Int) - (-149 + (c : Int))).toNat = 0 by omega, cut_zero, Nat.shiftLeft_eq]
      generalize T.log2 + c - 23 = K at hK
      have := rounded_scale (T * 2 ^ (c - K)) 0 K
      rw [Nat.zero_add, Nat.mul_assoc, ← two_pow_split hK] at this
      rw [this]
      simp [rounded]
    · rw [show (-149 + (c : Int) - (-149 + ((T.log2 + c - 23 : Nat) : Int))).toNat = 0 by omega,
        show (-149 + ((T.log2 + c - 23 : Nat) : Int) - (-149 + (c : Int))).toNat = T.log2 - 23 by omega, Nat.shiftLeft_zero, cut_eq _ _ (by omega) (by omega)]
      rw [show T.log2 + c - 23 = (T.log2 - 23) + c by omega, rounded_scale]

/-- The model's sum. -/
theorem addC_fin {x y : Nat} (hx : x < 2139095040) (hy : y < 2139095040) : addC x y = R (val x + val y) := by
  obtain ⟨m, k, e1, v1⟩ := read_fin (x := x) (by omega)
  obtain ⟨n, l, e2, v2⟩ := read_fin (x := y) (by omega)
  rw [Nat.mod_eq_of_lt (by omega)] at v1 v2
  rw [sgn_cost (by omega)] at e1 e2
  unfold addC Format.add
  rw [e1, e2]
  simp only [Datum.sum]
  have eb : ∃ c : Nat, min (-149 + (k : Int)) (-149 + (l : Int)) = -149 + (c : Int) ∧ c ≤ k ∧ c ≤ l := by
    rcases Nat.le_total k l with h | h
    · exact ⟨k, by omega, Nat.le_refl _, h⟩
    · exact ⟨l, by omega, h, Nat.le_refl _⟩
  obtain ⟨c, ec, hk, hl⟩ := eb
  rw [ec, show (-149 + (k : Int) - (-149 + (c : Int))).toNat = k - c by omega, show (-149 + (l : Int) - (-149 + (c : Int))).toNat = l - c by omega]
  rw [signed_eq, signed_eq]
  simp only [Bool.false_eq_true, if_false, Bool.and_false]
  obtain ⟨T, hT⟩ : ∃ T, m * 2 ^ (k - c) + n * 2 ^ (l - c) = T := ⟨_, rfl⟩
  rw [← Int.natCast_add, hT]
  have e3 : (if (T : Int) = 0 then false else decide ((T : Int) < 0)) = false := by
    split
    · rfl
    · exact decide_eq_false (by omega)
  rw [e3]
  simp only [Option.map_some, Option.getD_some, Format.write, Int.natAbs_natCast]
  rw [nearest_eq, ← hT, Nat.add_mul, Nat.mul_assoc, Nat.mul_assoc, ← two_pow_split hk, ← two_pow_split hl, v1, v2]

theorem addC_inf {x y : Nat} (hx : x ≤ 2139095040) (hy : y ≤ 2139095040) (h : x = 2139095040 ∨ y = 2139095040) : addC x y = 2139095040 := by
  unfold addC Format.add
  by_cases ix : x = 2139095040
  · rw [read_inf (x := x) (by omega), sgn_cost hx]
    by_cases iy : y = 2139095040
    · rw [read_inf (x := y) (by omega), sgn_cost hy]; rfl
    · obtain ⟨m, k, e, -⟩ := read_fin (x := y) (by omega)
      rw [e]; rfl
  · obtain ⟨m, k, e, -⟩ := read_fin (x := x) (by omega)
    rw [e, read_inf (x := y) (by omega), sgn_cost hy]; rfl

theorem R_le (S : Nat) : R S ≤ 2139095040 := Nat.min_le_right _ _
theorem addC_le {x y : Nat} (hx : x ≤ 2139095040) (hy : y ≤ 2139095040) : addC x y ≤ 2139095040 := by
  by_cases h : x = 2139095040 ∨ y = 2139095040
  · rw [addC_inf hx hy h]; omega
  · rw [addC_fin (by omega) (by omega)]; exact R_le _
theorem addC_comm {x y : Nat} (hx : x ≤ 2139095040) (hy : y ≤ 2139095040) : addC x y = addC y x := by
  by_cases h : x = 2139095040 ∨ y = 2139095040
  · rw [addC_inf hx hy h, addC_inf hy hx h.symm]
  · rw [addC_fin (by omega) (by omega), addC_fin (by omega) (by omega), Nat.add_comm]

theorem val_mant (x : Nat) : val x = mant x * 2 ^ (expo x - 1) := by
  unfold val mant expo
  by_cases h : x < 8388608
  · rw [if_pos h, if_pos (by omega), if_pos (by omega)]; simp; omega
  · rw [if_neg h, if_neg (by omega), if_neg (by omega), Nat.add_comm]

theorem rounded_bounds {s k : Nat} (h1 : 8388608 ≤ s / 2 ^ k) (h2 : s / 2 ^ k < 16777216) : 8388608 ≤ rounded s k ∧ rounded s k ≤ 16777216 := by
  unfold rounded
  split
  · rename_i h; subst h; simp at h1 h2; omega
  · have : (up s k).toNat ≤ 1 := by cases up s k <;> decide
    omega

theorem div_log {s : Nat} (h : 23 ≤ s.log2) : 8388608 ≤ s / 2 ^ (s.log2 - 23) ∧ s / 2 ^ (s.log2 - 23) < 16777216 := by
  have h0 : s ≠ 0 := by rintro rfl; simp at h
  have h1 := Nat.log2_self_le h0
  have h2 : s < 2 ^ (s.log2 + 1) := Nat.lt_log2_self
  rw [Nat.le_div_iff_mul_le (Nat.two_pow_pos _), Nat.div_lt_iff_lt_mul (Nat.two_pow_pos _)]
  have e1 : 2 ^ s.log2 = 2 ^ 23 * 2 ^ (s.log2 - 23) := by rw [← Nat.pow_add]; congr 1; omega
  have e2 : 2 ^ (s.log2 + 1) = 2 ^ 24 * 2 ^ (s.log2 - 23) := by rw [← Nat.pow_add]; congr 1; omega
  omega

theorem tail_eq {f k q : Nat} (hf : 1 ≤ f) (h1 : 8388608 ≤ q) (h2 : q ≤ 16777216) : tail f k q = min ((f - 1 + k) * 8388608 + q) 2139095040 := by
  unfold tail
  by_cases h : q = 16777216
  · simp only [h, if_true]
    (repeat' split) <;> omega
  · simp only [h, if_false]
    (repeat' split) <;> omega

theorem expo_pos (x : Nat) : 1 ≤ expo x := by unfold expo; split <;> omega
theorem word_parts (x : Nat) : x = (expo x - 1) * 8388608 + mant x := by unfold expo mant; split <;> omega

/-- Far apart: the greater one is the rounded sum. -/
theorem far_log {A B d : Nat} (ha : 8388608 ≤ A) (hA : A < 16777216) (hB : B < 16777216) (h26 : 26 ≤ d) : (A * 2 ^ d + B).log2 = 23 + d ∧ rounded (A * 2 ^ d + B) d = A := by
  have hpd := Nat.two_pow_pos d
  have hp26 : 67108864 ≤ 2 ^ d := Nat.pow_le_pow_right (n := 2) (by omega) h26
  have e3 : 33554432 ≤ 2 ^ (d - 1) := Nat.pow_le_pow_right (n := 2) (by omega) (show 25 ≤ d - 1 by omega)
  have a1 := Nat.mul_le_mul_right (2 ^ d) ha
  have a2 := Nat.mul_le_mul_right (2 ^ d) (show A + 1 ≤ 16777216 by omega)
  rw [Nat.add_mul] at a2
  constructor
  · apply (Nat.log2_eq_iff (by omega)).2
    have p1 : 2 ^ (23 + d) = 8388608 * 2 ^ d := by rw [Nat.pow_add]
    have p2 : 2 ^ (23 + d + 1) = 16777216 * 2 ^ d := by rw [show 23 + d + 1 = 24 + d by omega, Nat.pow_add]
    rw [p1, p2]
    omega
  · have e1 : (A * 2 ^ d + B) / 2 ^ d = A := by
      rw [Nat.add_comm, Nat.add_mul_div_right _ _ hpd, Nat.div_eq_of_lt (by omega), Nat.zero_add]
    have e2 : (A * 2 ^ d + B) % 2 ^ d = B := by
      rw [Nat.add_comm, Nat.add_mul_mod_self_right, Nat.mod_eq_of_lt (by omega)]
    unfold rounded up
    rw [if_neg (by omega), e1, e2, decide_eq_false (p := 2 ^ (d - 1) < B) (by omega), decide_eq_false (p := B = 2 ^ (d - 1)) (by omega)]
    rfl

theorem R_scaled {s c : Nat} (h : 23 ≤ s.log2) : R (s * 2 ^ c) = min ((c + (s.log2 - 23)) * 8388608 + rounded s (s.log2 - 23)) 2139095040 := by
  have h0 : s ≠ 0 := by rintro rfl; simp at h
  unfold R
  rw [log2_mul_pow h0, show s.log2 + c - 23 = (s.log2 - 23) + c by omega, rounded_scale, Nat.add_comm (s.log2 - 23)]

/-- The reference's sum. -/
theorem refAdd_fin {x y : Nat} (hx : x < 2139095040) (hy : y < 2139095040) : refAdd x y = R (val x + val y) := by
  unfold refAdd
  obtain ⟨a, b, ea, eb, hle, hal, hv⟩ : ∃ a b, max x y = a ∧ min x y = b ∧ b ≤ a ∧ a < 2139095040 ∧ val x + val y = val a + val b := by
    by_cases h : x < y
    · exact ⟨y, x, by omega, by omega, by omega, hy, by omega⟩
    · exact ⟨x, y, by omega, by omega, by omega, hx, rfl⟩
  rw [ea, eb, hv]
  simp only []
  rw [if_neg (by omega)]
  have he := expo_mono hle
  have hea := expo_le hal
  have pb := expo_pos b
  obtain ⟨d, hd⟩ : ∃ d, expo a = expo b + d := ⟨expo a - expo b, by omega⟩
  rw [show expo a - expo b = d by omega]
  have ev : val a + val b = (mant a * 2 ^ d + mant b) * 2 ^ (expo b - 1) := by
    rw [val_mant a, val_mant b, Nat.add_mul, Nat.mul_assoc, ← Nat.pow_add, hd]
    congr 3; omega
  rw [ev]
  have m1 := mant_lt a
  have m2 := mant_lt b
  have hma : 2 ≤ expo a → 8388608 ≤ mant a := by unfold expo mant; intro h; split at h <;> split <;> omega
  have wa := word_parts a
  obtain ⟨s, hs⟩ : ∃ s, mant a * 2 ^ d + mant b = s := ⟨_, rfl⟩
  have hpd := Nat.two_pow_pos d
  have hsm : mant a * 1 ≤ mant a * 2 ^ d := Nat.mul_le_mul_left _ hpd
  rw [hs]
  by_cases h26 : 26 ≤ d
  · rw [if_pos h26]
    have ha := hma (by omega)
    obtain ⟨f1, f2⟩ := far_log (B := mant b) ha m1 m2 h26
    rw [hs] at f1 f2
    rw [R_scaled (by omega), f1, show 23 + d - 23 = d by omega, f2, show expo b - 1 + d = expo a - 1 by omega, ← wa, Nat.min_eq_left (by omega)]
  · rw [if_neg h26]
    by_cases h23 : 23 ≤ s.log2
    · obtain ⟨b1, b2⟩ := div_log h23
      obtain ⟨b3, b4⟩ := rounded_bounds b1 b2
      rw [R_scaled h23, tail_eq pb b3 b4]
    · have hs23 : s < 8388608 := by
        by_cases h0 : s = 0
        · omega
        · have := (Nat.log2_lt (k := 23) h0).1 (by omega)
          omega
      have e1 : expo a = 1 := by
        have := expo_pos a
        apply Nat.le_antisymm _ this
        apply Nat.le_of_not_lt
        intro h
        have := hma (by omega)
        omega
      rw [show expo b = 1 by omega, show s.log2 - 23 = 0 by omega]
      unfold R tail rounded
      simp only [Nat.sub_self, Nat.pow_zero, Nat.mul_one, if_true]
      rw [show s.log2 - 23 = 0 by omega]
      simp only [if_true]
      (repeat' split) <;> omega

theorem refAdd_eq {x y : Nat} (hx : x ≤ 2139095040) (hy : y ≤ 2139095040) : refAdd x y = addC x y := by
  by_cases h : x = 2139095040 ∨ y = 2139095040
  · rw [addC_inf hx hy h]
    unfold refAdd
    simp only []
    rw [if_pos (by omega)]
  · rw [addC_fin (by omega) (by omega), refAdd_fin (by omega) (by omega)]

/-! What rises. -/
theorem R_val {x : Nat} (h : x < 2139095040) : R (val x) = x := by
  have w := word_parts x
  have p := expo_pos x
  by_cases hx : x < 8388608
  · rw [val_lo hx]
    unfold R
    have hl : x.log2 - 23 = 0 := by
      by_cases h0 : x = 0
      · subst h0; rfl
      · have := (Nat.log2_lt (k := 23) h0).2 (by omega)
        omega
    rw [hl]
    unfold rounded; simp; omega
  · have hm : 8388608 ≤ mant x := by unfold mant; split <;> omega
    have hm2 := mant_lt x
    have hl : (mant x).log2 = 23 := by
      apply (Nat.log2_eq_iff (by omega)).2
      omega
    rw [val_mant, R_scaled (by omega), hl]
    unfold rounded
    simp only [Nat.sub_self, if_true, Nat.add_zero]
    omega

theorem addC_zero {x : Nat} (hx : x ≤ 2139095040) : addC x 0 = x := by
  by_cases h : x = 2139095040
  · rw [addC_inf hx (by omega) (Or.inl h), h]
  · rw [addC_fin (by omega) (by omega), val_zero, Nat.add_zero, R_val (by omega)]
end M

end Go.Proofs.YtagibmgbjhemkaaGreat

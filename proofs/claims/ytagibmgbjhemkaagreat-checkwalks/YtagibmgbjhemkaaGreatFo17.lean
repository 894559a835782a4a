/- walk.Follow over a checker's records. -/
import Derived.Test.YtagibmgbjhemkaaGreatWRefAdd
import Derived.RowKit3
import Derived.Test.YtagibmgbjhemkaaGreatMapG17
import Derived.Test.YtagibmgbjhemkaaGreatTail
import Derived.BigQuiet
namespace Go.Proofs.YtagibmgbjhemkaaGreat

section
open Go.RowKit
namespace M
def refAdd (c1 c2 : Nat) : Nat :=
  let a := max c1 c2
  let b := min c1 c2
  let s := mant a * 2 ^ (expo a - expo b) + mant b
  if a = 2139095040 then 2139095040 else if 26 ≤ expo a - expo b then a else tail (expo b) (s.log2 - 23) (rounded s (s.log2 - 23))
theorem mant_lt (x : Nat) : mant x < 16777216 := by unfold mant; split <;> omega
theorem expo_mono {x y : Nat} (h : x ≤ y) : expo x ≤ expo y := by
  have := Nat.div_le_div_right (c := 8388608) h; unfold expo; (repeat' split) <;> omega
theorem expo_le {x : Nat} (h : x < 2139095040) : expo x ≤ 254 := by
  unfold expo; split <;> omega
end M
theorem refAdd_nat (x y : Nat) (w : World) :
    Calls Tryz.prog 50 #[.int .u32 (x : Int), .int .u32 (y : Int)] w fun e w' => e = .returned (.int .u32 (M.refAdd (M.counts x) (M.counts y) : Int)) ∧ ∃ nq, w' = w.drewN nq := by
  have HX := hide (counts_nat x); have HY := hide (counts_nat y); have l1 := M.counts_le x; have l2 := M.counts_le y; generalize M.counts x = c1 at *; generalize M.counts y = c2 at *; unfold M.refAdd; obtain ⟨a, b, hab, ea, eb, hle, hal⟩ : ∃ a b, ((c1 < c2 ∧ a = c2 ∧ b = c1) ∨ (¬ c1 < c2 ∧ a = c1 ∧ b = c2)) ∧ max c1 c2 = a ∧ min c1 c2 = b ∧ b ≤ a ∧ a ≤ 2139095040 := by
    by_cases h : c1 < c2
    · exact ⟨c2, c1, Or.inl ⟨h, rfl, rfl⟩, by omega, by omega, by omega, l2⟩
    · exact ⟨c1, c2, Or.inr ⟨h, rfl, rfl⟩, by omega, by omega, by omega, l1⟩
  rw [ea, eb]; simp only []
  by_cases hi : a = 2139095040
  · rw [if_pos hi]; exact refAdd_inf x y c1 c2 a b w hab HX HY (by simpa using by omega)
  · rw [if_neg hi]; have he := M.expo_mono hle; have hea := M.expo_le (x := a) (by omega)
    obtain ⟨d, hd⟩ : ∃ d, M.expo a = M.expo b + d := ⟨M.expo a - M.expo b, by omega⟩
    have HP1 : Hid (∀ w, Calls Tryz.prog 84 #[.int .i64 (a : Int)] w fun e w' => e = .returned (.tuple #[.int .i64 (M.mant a : Int), .int .i64 ((M.expo b : Int) + (d : Int))]) ∧ w' = w) := fun w => by
      have := parts_nat a hal w
      rwa [hd, Int.natCast_add] at this
    have HP2 : Hid (∀ w, Calls Tryz.prog 84 #[.int .i64 (b : Int)] w fun e w' => e = .returned (.tuple #[.int .i64 (M.mant b : Int), .int .i64 (M.expo b : Int)]) ∧ w' = w) := fun w => parts_nat b (by omega) w
    rw [show M.expo a - M.expo b = d by omega]
    by_cases h26 : 26 ≤ d
    · rw [if_pos h26]; exact refAdd_far x y c1 c2 a b w (M.mant a) (M.expo b) d (M.mant b) h26 (by omega) (by omega) hab HX HY HP1 HP2
    · rw [if_neg h26]; have m1 := M.mant_lt a; have m2 := M.mant_lt b; obtain ⟨s, hs⟩ : ∃ s, M.mant a * 2 ^ d + M.mant b = s := ⟨_, rfl⟩; have hp := Nat.pow_le_pow_right (n := 2) (by omega) (show d ≤ 25 by omega)
      have hm := Nat.mul_le_mul (Nat.le_of_lt m1) hp; have hsl : s < 2 ^ 50 := by omega
      rw [hs]; refine refAdd_main x y c1 c2 a b w (M.mant a) (M.expo b) d (M.mant b) (by omega) (by omega) hab (by simpa using by omega) s (s.log2 - 23) ?_ ?_ ?_ ?_ HX HY HP1 HP2
      · show _ = _; have e1 : ((M.mant a : Int) * 2 ^ d) = ((M.mant a * 2 ^ d : Nat) : Int) := by simp
        have e2 : ∀ z : Int, 0 ≤ z → z < 2 ^ 60 → wrap64 z = z := fun z h1 h2 => by unfold wrap64; omega
        rw [e1, e2 ((M.mant a * 2 ^ d : Nat) : Int) (by omega) (by omega), e2 _ (by omega) (by omega)]
        omega
      · have : s.log2 < 50 := by
          by_cases h0 : s = 0
          · subst h0; decide
          · exact (Nat.log2_lt h0).2 hsl
        omega
      · intro k hk; have h0 : s ≠ 0 := by rintro rfl; simp at hk
        have h1 : 2 ^ s.log2 ≤ s := Nat.log2_self_le h0; rw [Nat.le_div_iff_mul_le (Nat.two_pow_pos k)]; have h2 := Nat.pow_le_pow_right (n := 2) (by omega) (show k + 24 ≤ s.log2 by omega)
        rw [Nat.pow_add] at h2; omega
      · show _ < _; rw [Nat.div_lt_iff_lt_mul (Nat.two_pow_pos _)]
        by_cases h0 : s = 0
        · subst h0; exact Nat.mul_pos (by omega) (Nat.two_pow_pos _)
        · have h1 : s < 2 ^ (s.log2 + 1) := Nat.lt_log2_self; have h2 := Nat.pow_le_pow_right (n := 2) (by omega) (show s.log2 + 1 ≤ 24 + (s.log2 - 23) by omega)
          rw [Nat.pow_add 2 24] at h2; omega
end

namespace M
open Ieee
theorem two_pow_split {a b : Nat} (h : b ≤ a) : 2 ^ a = 2 ^ (a - b) * 2 ^ b := by rw [← Nat.pow_add]; congr 1; omega
theorem mul_mod_pow (s k c : Nat) : s * 2 ^ c % 2 ^ (k + c) = s % 2 ^ k * 2 ^ c := by
  rw [Nat.pow_add, Nat.mul_mod_mul_right]
theorem mul_div_pow (s k c : Nat) : s * 2 ^ c / 2 ^ (k + c) = s / 2 ^ k := by
  rw [Nat.pow_add, Nat.mul_div_mul_right _ _ (Nat.two_pow_pos c)]
theorem rounded_scale (s k c : Nat) : rounded (s * 2 ^ c) (k + c) = rounded s k := by
  have hc := Nat.two_pow_pos c
  by_cases hk : k = 0
  · subst hk
    by_cases h0 : c = 0
    · subst h0; simp
    · unfold rounded up; rw [if_neg (by omega), if_pos rfl, mul_mod_pow, mul_div_pow]
      have := Nat.two_pow_pos (0 + c - 1); rw [Nat.pow_zero, Nat.mod_one, Nat.zero_mul, Nat.div_one, decide_eq_false (p := 2 ^ (0 + c - 1) < 0) (by omega), decide_eq_false (p := 0 = 2 ^ (0 + c - 1)) (by omega)]
      rfl
  · unfold rounded up; rw [if_neg (by omega), if_neg hk, mul_mod_pow, mul_div_pow, show k + c - 1 = (k - 1) + c by omega, Nat.pow_add 2 (k - 1) c]
    have e1 : (2 ^ (k - 1) * 2 ^ c < s % 2 ^ k * 2 ^ c) ↔ 2 ^ (k - 1) < s % 2 ^ k := Nat.mul_lt_mul_right hc; have e2 : (s % 2 ^ k * 2 ^ c = 2 ^ (k - 1) * 2 ^ c) ↔ s % 2 ^ k = 2 ^ (k - 1) := Nat.mul_left_inj (by omega)
    simp only [e1, e2]
def R (S : Nat) : Nat := min ((S.log2 - 23) * 8388608 + rounded S (S.log2 - 23)) 2139095040
theorem log2_mul_pow {T : Nat} (h : T ≠ 0) (c : Nat) : (T * 2 ^ c).log2 = T.log2 + c := by
  apply (Nat.log2_eq_iff (by have := Nat.mul_pos (Nat.pos_of_ne_zero h) (Nat.two_pow_pos c); omega)).2
  have h1 := Nat.log2_self_le h; have h2 : T < 2 ^ (T.log2 + 1) := Nat.lt_log2_self; constructor
  · rw [Nat.pow_add]; exact Nat.mul_le_mul_right _ h1
  · rw [show T.log2 + c + 1 = (T.log2 + 1) + c by omega, Nat.pow_add]
    exact Nat.mul_lt_mul_of_pos_right h2 (Nat.two_pow_pos c)
theorem cut_zero (n : Nat) : Toward.even.cut false n 0 = n := by
  simp [Toward.cut, Nat.mod_one]
theorem cut_eq (n D : Nat) (h0 : 0 < D) (h : D ≤ n.log2 + 2) : Toward.even.cut false n D = rounded n D := by
  unfold Toward.cut rounded up; rw [if_neg (by omega), Nat.min_eq_left h, Nat.one_shiftLeft]
  have e : 2 ^ D = 2 * 2 ^ (D - 1) := by rw [← Nat.pow_succ']; congr 1; omega
  have e1 : (2 ^ D < 2 * (n % 2 ^ D)) ↔ 2 ^ (D - 1) < n % 2 ^ D := by omega
  have e2 : (2 ^ D = 2 * (n % 2 ^ D)) ↔ n % 2 ^ D = 2 ^ (D - 1) := by omega
  simp only [e1]; congr 2; rw [show (2 ^ D == 2 * (n % 2 ^ D)) = decide (n % 2 ^ D = 2 ^ (D - 1)) by
    rw [Bool.eq_iff_iff]; simp only [beq_iff_eq, decide_eq_true_eq]; exact e2]
  rw [show (n / 2 ^ D % 2 == 1) = decide (n / 2 ^ D % 2 = 1) by rw [Bool.eq_iff_iff]; simp]
theorem nearest_eq (T c : Nat) : single.nearest false T (-149 + (c : Int)) = R (T * 2 ^ c) := by
  by_cases h0 : T = 0
  · subst h0; unfold R; simp [Format.nearest, Format.word, rounded]
  · unfold Format.nearest R; rw [if_neg h0, log2_mul_pow h0]; have el : max (-149 + (c : Int) + (T.log2 : Int) - (single.fractionBits : Int)) single.leastPlace = -149 + ((T.log2 + c - 23 : Nat) : Int) := by
      have f1 : (single.fractionBits : Int) = 23 := rfl; have f2 : single.leastPlace = -149 := rfl; rw [f1, f2]; omega
    simp only [el]; have f2 : single.leastPlace = -149 := rfl; rw [f2, show (-149 + ((T.log2 + c - 23 : Nat) : Int) - -149).toNat = T.log2 + c - 23 by omega]
    have f3 : single.binade = 8388608 := rfl; have f4 : single.infRung = 2139095040 := rfl; rw [f3, f4]; unfold Format.word; simp only [Bool.false_eq_true, if_false]; congr 2
    by_cases hK : T.log2 + c - 23 ≤ c
    · rw [show (-149 + (c : Int) - (-149 + ((T.log2 + c - 23 : Nat) : Int))).toNat = c - (T.log2 + c - 23) by omega,
        show (-149 + ((T.log2 + c - 23 : Nat) : Int) - (-149 + (c : Int))).toNat = 0 by omega, cut_zero, Nat.shiftLeft_eq]
      generalize T.log2 + c - 23 = K at hK; have := rounded_scale (T * 2 ^ (c - K)) 0 K; rw [Nat.zero_add, Nat.mul_assoc, ← two_pow_split hK] at this; rw [this]; simp [rounded]
    · rw [show (-149 + (c : Int) - (-149 + ((T.log2 + c - 23 : Nat) : Int))).toNat = 0 by omega,
        show (-149 + ((T.log2 + c - 23 : Nat) : Int) - (-149 + (c : Int))).toNat = T.log2 - 23 by omega, Nat.shiftLeft_zero, cut_eq _ _ (by omega) (by omega)]
      rw [show T.log2 + c - 23 = (T.log2 - 23) + c by omega, rounded_scale]
theorem addC_fin {x y : Nat} (hx : x < 2139095040) (hy : y < 2139095040) : addC x y = R (val x + val y) := by
  obtain ⟨m, k, e1, v1⟩ := read_fin (x := x) (by omega)
  obtain ⟨n, l, e2, v2⟩ := read_fin (x := y) (by omega)
  rw [Nat.mod_eq_of_lt (by omega)] at v1 v2
  rw [sgn_cost (by omega)] at e1 e2
  unfold addC Format.add; rw [e1, e2]; simp only [Datum.sum]; have eb : ∃ c : Nat, min (-149 + (k : Int)) (-149 + (l : Int)) = -149 + (c : Int) ∧ c ≤ k ∧ c ≤ l := by
    rcases Nat.le_total k l with h | h
    · exact ⟨k, by omega, Nat.le_refl _, h⟩
    · exact ⟨l, by omega, h, Nat.le_refl _⟩
  obtain ⟨c, ec, hk, hl⟩ := eb; rw [ec, show (-149 + (k : Int) - (-149 + (c : Int))).toNat = k - c by omega, show (-149 + (l : Int) - (-149 + (c : Int))).toNat = l - c by omega]
  rw [signed_eq, signed_eq]; simp only [Bool.false_eq_true, if_false, Bool.and_false]; obtain ⟨T, hT⟩ : ∃ T, m * 2 ^ (k - c) + n * 2 ^ (l - c) = T := ⟨_, rfl⟩; rw [← Int.natCast_add, hT]; have e3 : (if (T : Int) = 0 then false else decide ((T : Int) < 0)) = false := by
    split
    · rfl
    · exact decide_eq_false (by omega)
  rw [e3]; simp only [Option.map_some, Option.getD_some, Format.write, Int.natAbs_natCast]; rw [nearest_eq, ← hT, Nat.add_mul, Nat.mul_assoc, Nat.mul_assoc, ← two_pow_split hk, ← two_pow_split hl, v1, v2]
theorem addC_inf {x y : Nat} (hx : x ≤ 2139095040) (hy : y ≤ 2139095040) (h : x = 2139095040 ∨ y = 2139095040) : addC x y = 2139095040 := by
  unfold addC Format.add
  by_cases ix : x = 2139095040
  · rw [read_inf (x := x) (by omega), sgn_cost hx]
    by_cases iy : y = 2139095040
    · rw [read_inf (x := y) (by omega), sgn_cost hy]; rfl
    · obtain ⟨m, k, e, -⟩ := read_fin (x := y) (by omega)
      rw [e]; rfl
  · obtain ⟨m, k, e, -⟩ := read_fin (x := x) (by omega)
    rw [e, read_inf (x := y) (by omega), sgn_cost hy]; rfl
theorem R_le (S : Nat) : R S ≤ 2139095040 := Nat.min_le_right _ _
theorem addC_le {x y : Nat} (hx : x ≤ 2139095040) (hy : y ≤ 2139095040) : addC x y ≤ 2139095040 := by
  by_cases h : x = 2139095040 ∨ y = 2139095040
  · rw [addC_inf hx hy h]; omega
  · rw [addC_fin (by omega) (by omega)]; exact R_le _
theorem addC_comm {x y : Nat} (hx : x ≤ 2139095040) (hy : y ≤ 2139095040) : addC x y = addC y x := by
  by_cases h : x = 2139095040 ∨ y = 2139095040
  · rw [addC_inf hx hy h, addC_inf hy hx h.symm]
  · rw [addC_fin (by omega) (by omega), addC_fin (by omega) (by omega), Nat.add_comm]
theorem val_mant (x : Nat) : val x = mant x * 2 ^ (expo x - 1) := by
  unfold val mant expo
  by_cases h : x < 8388608
  · rw [if_pos h, if_pos (by omega), if_pos (by omega)]; simp; omega
  · rw [if_neg h, if_neg (by omega), if_neg (by omega), Nat.add_comm]
theorem rounded_bounds {s k : Nat} (h1 : 8388608 ≤ s / 2 ^ k) (h2 : s / 2 ^ k < 16777216) : 8388608 ≤ rounded s k ∧ rounded s k ≤ 16777216 := by
  unfold rounded; split
  · rename_i h; subst h; simp at h1 h2; omega
  · have : (up s k).toNat ≤ 1 := by cases up s k <;> decide
    omega
theorem div_log {s : Nat} (h : 23 ≤ s.log2) : 8388608 ≤ s / 2 ^ (s.log2 - 23) ∧ s / 2 ^ (s.log2 - 23) < 16777216 := by
  have h0 : s ≠ 0 := by rintro rfl; simp at h
  have h1 := Nat.log2_self_le h0; have h2 : s < 2 ^ (s.log2 + 1) := Nat.lt_log2_self; rw [Nat.le_div_iff_mul_le (Nat.two_pow_pos _), Nat.div_lt_iff_lt_mul (Nat.two_pow_pos _)]; have e1 : 2 ^ s.log2 = 2 ^ 23 * 2 ^ (s.log2 - 23) := by rw [← Nat.pow_add]; congr 1; omega
  have e2 : 2 ^ (s.log2 + 1) = 2 ^ 24 * 2 ^ (s.log2 - 23) := by rw [← Nat.pow_add]; congr 1; omega
  omega
theorem tail_eq {f k q : Nat} (hf : 1 ≤ f) (h1 : 8388608 ≤ q) (h2 : q ≤ 16777216) : tail f k q = min ((f - 1 + k) * 8388608 + q) 2139095040 := by
  unfold tail
  by_cases h : q = 16777216
  · simp only [h, if_true]
    (repeat' split) <;> omega
  · simp only [h, if_false]
    (repeat' split) <;> omega
theorem expo_pos (x : Nat) : 1 ≤ expo x := by unfold expo; split <;> omega
theorem word_parts (x : Nat) : x = (expo x - 1) * 8388608 + mant x := by unfold expo mant; split <;> omega
theorem far_log {A B d : Nat} (ha : 8388608 ≤ A) (hA : A < 16777216) (hB : B < 16777216) (h26 : 26 ≤ d) : (A * 2 ^ d + B).log2 = 23 + d ∧ rounded (A * 2 ^ d + B) d = A := by
  have hpd := Nat.two_pow_pos d; have hp26 : 67108864 ≤ 2 ^ d := Nat.pow_le_pow_right (n := 2) (by omega) h26
  have e3 : 33554432 ≤ 2 ^ (d - 1) := Nat.pow_le_pow_right (n := 2) (by omega) (show 25 ≤ d - 1 by omega)
  have a1 := Nat.mul_le_mul_right (2 ^ d) ha; have a2 := Nat.mul_le_mul_right (2 ^ d) (show A + 1 ≤ 16777216 by omega)
  rw [Nat.add_mul] at a2; constructor
  · apply (Nat.log2_eq_iff (by omega)).2
    have p1 : 2 ^ (23 + d) = 8388608 * 2 ^ d := by rw [Nat.pow_add]
    have p2 : 2 ^ (23 + d + 1) = 16777216 * 2 ^ d := by rw [show 23 + d + 1 = 24 + d by omega, Nat.pow_add]
    rw [p1, p2]; omega
  · have e1 : (A * 2 ^ d + B) / 2 ^ d = A := by
      rw [Nat.add_comm, Nat.add_mul_div_right _ _ hpd, Nat.div_eq_of_lt (by omega), Nat.zero_add]
    have e2 : (A * 2 ^ d + B) % 2 ^ d = B := by
      rw [Nat.add_comm, Nat.add_mul_mod_self_right, Nat.mod_eq_of_lt (by omega)]
    unfold rounded up; rw [if_neg (by omega), e1, e2, decide_eq_false (p := 2 ^ (d - 1) < B) (by omega), decide_eq_false (p := B = 2 ^ (d - 1)) (by omega)]
    rfl
theorem R_scaled {s c : Nat} (h : 23 ≤ s.log2) : R (s * 2 ^ c) = min ((c + (s.log2 - 23)) * 8388608 + rounded s (s.log2 - 23)) 2139095040 := by
  have h0 : s ≠ 0 := by rintro rfl; simp at h
  unfold R; rw [log2_mul_pow h0, show s.log2 + c - 23 = (s.log2 - 23) + c by omega, rounded_scale, Nat.add_comm (s.log2 - 23)]
theorem refAdd_fin {x y : Nat} (hx : x < 2139095040) (hy : y < 2139095040) : refAdd x y = R (val x + val y) := by
  unfold refAdd; obtain ⟨a, b, ea, eb, hle, hal, hv⟩ : ∃ a b, max x y = a ∧ min x y = b ∧ b ≤ a ∧ a < 2139095040 ∧ val x + val y = val a + val b := by
    by_cases h : x < y
    · exact ⟨y, x, by omega, by omega, by omega, hy, by omega⟩
    · exact ⟨x, y, by omega, by omega, by omega, hx, rfl⟩
  rw [ea, eb, hv]; simp only []; rw [if_neg (by omega)]
  have he := expo_mono hle; have hea := expo_le hal; have pb := expo_pos b; obtain ⟨d, hd⟩ : ∃ d, expo a = expo b + d := ⟨expo a - expo b, by omega⟩
  rw [show expo a - expo b = d by omega]
  have ev : val a + val b = (mant a * 2 ^ d + mant b) * 2 ^ (expo b - 1) := by
    rw [val_mant a, val_mant b, Nat.add_mul, Nat.mul_assoc, ← Nat.pow_add, hd]; congr 3; omega
  rw [ev]; have m1 := mant_lt a; have m2 := mant_lt b; have hma : 2 ≤ expo a → 8388608 ≤ mant a := by unfold expo mant; intro h; split at h <;> split <;> omega
  have wa := word_parts a; obtain ⟨s, hs⟩ : ∃ s, mant a * 2 ^ d + mant b = s := ⟨_, rfl⟩; have hpd := Nat.two_pow_pos d; have hsm : mant a * 1 ≤ mant a * 2 ^ d := Nat.mul_le_mul_left _ hpd; rw [hs]
  by_cases h26 : 26 ≤ d
  · rw [if_pos h26]; have ha := hma (by omega)
    obtain ⟨f1, f2⟩ := far_log (B := mant b) ha m1 m2 h26; rw [hs] at f1 f2; rw [R_scaled (by omega), f1, show 23 + d - 23 = d by omega, f2, show expo b - 1 + d = expo a - 1 by omega, ← wa, Nat.min_eq_left (by omega)]
  · rw [if_neg h26]
    by_cases h23 : 23 ≤ s.log2
    · obtain ⟨b1, b2⟩ := div_log h23; obtain ⟨b3, b4⟩ := rounded_bounds b1 b2; rw [R_scaled h23, tail_eq pb b3 b4]
    · have hs23 : s < 8388608 := by
        by_cases h0 : s = 0
        · omega
        · have := (Nat.log2_lt (k := 23) h0).1 (by omega)
          omega
      have e1 : expo a = 1 := by
        have := expo_pos a; apply Nat.le_antisymm _ this; apply Nat.le_of_not_lt; intro h; have := hma (by omega)
        omega
      rw [show expo b = 1 by omega, show s.log2 - 23 = 0 by omega]
      unfold R tail rounded; simp only [Nat.sub_self, Nat.pow_zero, Nat.mul_one, if_true]; rw [show s.log2 - 23 = 0 by omega]
      simp only [if_true]
      (repeat' split) <;> omega
theorem refAdd_eq {x y : Nat} (hx : x ≤ 2139095040) (hy : y ≤ 2139095040) : refAdd x y = addC x y := by
  by_cases h : x = 2139095040 ∨ y = 2139095040
  · rw [addC_inf hx hy h]; unfold refAdd; simp only []; rw [if_pos (by omega)]
  · rw [addC_fin (by omega) (by omega), refAdd_fin (by omega) (by omega)]
/-! What rises. -/
theorem R_val {x : Nat} (h : x < 2139095040) : R (val x) = x := by
  have w := word_parts x; have p := expo_pos x
  by_cases hx : x < 8388608
  · rw [val_lo hx]; unfold R; have hl : x.log2 - 23 = 0 := by
      by_cases h0 : x = 0
      · subst h0; rfl
      · have := (Nat.log2_lt (k := 23) h0).2 (by omega)
        omega
    rw [hl]; unfold rounded; simp; omega
  · have hm : 8388608 ≤ mant x := by unfold mant; split <;> omega
    have hm2 := mant_lt x; have hl : (mant x).log2 = 23 := by
      apply (Nat.log2_eq_iff (by omega)).2
      omega
    rw [val_mant, R_scaled (by omega), hl]
    unfold rounded; simp only [Nat.sub_self, if_true, Nat.add_zero]; omega
theorem addC_zero {x : Nat} (hx : x ≤ 2139095040) : addC x 0 = x := by
  by_cases h : x = 2139095040
  · rw [addC_inf hx (by omega) (Or.inl h), h]
  · rw [addC_fin (by omega) (by omega), val_zero, Nat.add_zero, R_val (by omega)]
end M

section
open Go.RowKit
theorem bits_cost {r : Nat} (h : r ≤ 2139095040) : bitsB r = (r : Int) := by
  rw [bitsB_eq (by omega)]
  have : M.nan r = false := decide_eq_false (by omega)
  rw [this]; rfl
theorem counts_cost {r : Nat} (h : r ≤ 2139095040) : M.counts r = r := by
  unfold M.counts; rw [if_neg (by omega), if_neg (by omega)]
theorem bits_nat {b : Nat} (h : b ≤ 2139095040) (w : World) :
    Calls Tryz.prog 44 #[.float .f32 b] w fun e w' => e = .returned (.int .u32 (b : Int)) ∧ w' = w := by
  have := bits_any b w
  rwa [bits_cost h] at this
namespace M
def foldN (bs : List Nat) : Nat := bs.foldl (fun c x => addC c (counts x)) 0
theorem foldN_snoc (bs : List Nat) (x : Nat) : foldN (bs ++ [x]) = addC (foldN bs) (counts x) := by simp [foldN]
theorem foldl_le (bs : List Nat) : ∀ c, c ≤ 2139095040 → bs.foldl (fun c x => addC c (counts x)) c ≤ 2139095040 := by
  induction bs with
  | nil => intro c h; exact h
  | cons x bs ih => intro c h; exact ih _ (addC_le h (counts_le x))
theorem foldN_le (bs : List Nat) : foldN bs ≤ 2139095040 := foldl_le bs 0 (by omega)
end M
theorem fold_step {c x : Nat} (hc : c ≤ 2139095040) (hx : x < 4294967296) (w : World) :
    Calls Tryz.prog 42 #[.float .f32 c, .float .f32 x] w fun e w' => e = .returned (.float .f32 (M.addC c (M.counts x))) ∧ w' = w := by
  have := add_nat c x (by omega) hx w
  rwa [counts_cost hc] at this
theorem fold_zero (a : Option Addr) (cap : Nat) (w : World) :
    Calls Tryz.prog 39 #[.slice a 0 cap] w fun e w' => e = .returned (.float .f32 0) ∧ w' = w := by
  go_enter Tryz.func39, Tryz.ntmps39
  go_wp2
  refine wp_loop_rounds 1 ?_; rw [rounds_succ]
  go_wp2
  go_ret
  exact ⟨rfl, rfl⟩
theorem refFold_step {c : Nat} (x : Nat) (hc : c ≤ 2139095040) (w : World) :
    Calls Tryz.prog 50 #[.int .u32 (c : Int), .int .u32 (x : Int)] w fun e w' => e = .returned (.int .u32 (M.addC c (M.counts x) : Int)) ∧ ∃ nq, w' = w.drewN nq := by
  have := refAdd_nat c x w
  rwa [M.refAdd_eq (M.counts_le c) (M.counts_le x), counts_cost hc] at this
end

section
open Go.RowKit Go.Maps
def costOf (d : List EdgeV) : Nat := M.foldN (d.map (fun x => x.2.2.2.toNat))
theorem costOf_le (d : List EdgeV) : costOf d ≤ 2139095040 := M.foldN_le _
theorem costOf_snoc (d : List EdgeV) (x : EdgeV) : costOf (d ++ [x]) = M.addC (costOf d) (M.counts x.2.2.2.toNat) := by
  unfold costOf; rw [List.map_append]; exact M.foldN_snoc _ _
def oI8 (n : Int) : Obj := .cells #[.int .i64 n] 3 (0, 0)
def oF8 (n : Nat) : Obj := .cells #[.float .f32 n] 95 (0, 0)
theorem cellI8 {w : World} {b : Nat} {n : Int} (h : w.heap[b]? = some (oI8 n)) : w.cell? ⟨b, 0, none⟩ = some (.int .i64 n) ∧ ∀ o, w.frozen? ⟨b, o, none⟩ = false := ⟨(cell_of_row _ _ 0 _ _ (0, 0) h).trans rfl, fun o => frozen_of_row _ _ o _ _ h⟩
theorem cellF8 {w : World} {b n : Nat} (h : w.heap[b]? = some (oF8 n)) : w.cell? ⟨b, 0, none⟩ = some (.float .f32 n) ∧ ∀ o, w.frozen? ⟨b, o, none⟩ = false := ⟨(cell_of_row _ _ 0 _ _ (0, 0) h).trans rfl, fun o => frozen_of_row _ _ o _ _ h⟩
def FP (be bc : Nat) (a : Int) (d : List EdgeV) (A : Nat → Prop) (w : World) : Prop :=
  (∀ b, A b ↔ b = be ∨ b = bc) ∧ w.heap[be]? = some (oI8 (endOf a d)) ∧ w.heap[bc]? = some (oF8 (costOf d)) ∧ be ≠ bc
theorem heap_lt {w : World} {b : Nat} {o : Obj} (h : w.heap[b]? = some o) : b < w.heap.size := (Array.getElem?_eq_some_iff.1 h).1
theorem FP.step {be bc : Nat} {a : Int} {d : List EdgeV} {A : Nat → Prop} {w w1 : World} {x : EdgeV} (h : FP be bc a d A w) (hb : Below w.heap.size w w1) :
    FP be bc a (d ++ [x]) A ((w1.setCell ⟨be, 0, none⟩ (.int .i64 x.2.2.1)).setCell ⟨bc, 0, none⟩ (.float .f32 (M.addC (costOf d) (M.counts x.2.2.2.toNat)))) ∧ Turned A w ((w1.setCell ⟨be, 0, none⟩ (.int .i64 x.2.2.1)).setCell ⟨bc, 0, none⟩ (.float .f32 (M.addC (costOf d) (M.counts x.2.2.2.toNat)))) := by
  obtain ⟨h1, h2, h3, h4⟩ := h; have k2 := (hb.block be (heap_lt h2)).trans h2; have k3 := (hb.block bc (heap_lt h3)).trans h3; refine ⟨⟨h1, ?_, ?_, h4⟩, ?_⟩
  · rw [heap_setCell_other _ _ _ _ (show be ≠ bc from h4), heap_setCell_same _ _ _ _ _ _ k2, endOf_snoc]; rfl
  · rw [heap_setCell_same _ _ _ _ _ _ ((heap_setCell_other _ _ _ _ (show bc ≠ be from h4.symm)).trans k3), costOf_snoc]; rfl
  · exact ((turned_of_below hb).trans (turned_setCell _ _ _ ((h1 _).2 (.inl rfl)))).trans (turned_setCell _ _ _ ((h1 _).2 (.inr rfl)))
def Wt (x : EdgeV) : Prop := 0 ≤ x.2.2.2 ∧ x.2.2.2 < 2139095040
theorem run_storeF (w : World) (a : Addr) (n : Nat) (m : Mode) : (store a (.float .f32 n) m).run Tryz.prog w = stored Tryz.prog w a (.float .f32 n) m := run_store Tryz.prog w a (.float .f32 n) m rfl
set_option maxHeartbeats 2000000 in
set_option maxRecDepth 100000 in
theorem follow1 {be bc : Nat} {a : Int} {d : List EdgeV} {A : Nat → Prop} {w : World} (x : EdgeV) (e : Int) (h : FP be bc a d A w) (hx : Wt x) :
    Calls Tryz.prog 41 #[.int .i64 e, .agg #[.int .i64 x.1, .int .i64 x.2.1, .int .i64 x.2.2.1, .int .u32 x.2.2.2], .pointer (some ⟨bc, 0, none⟩), .pointer (some ⟨be, 0, none⟩)] w fun r w' => r = .returned (.tuple #[]) ∧ Hid (FP be bc a (d ++ [x]) A w' ∧ Turned A w w') := by
  have hb := below_new w (oE x); have HS := hide (h.step (x := x) hb); obtain ⟨x0, x1, x2, x3, -⟩ := box_cells (heap_alloc_new w (oE x)); obtain ⟨-, h2, h3, h4⟩ := h; obtain ⟨k2, f2⟩ := cellI8 ((hb.block be (heap_lt h2)).trans h2); obtain ⟨k3, f3⟩ := cellF8 ((hb.block bc (heap_lt h3)).trans h3); have CA : Hid (∀ W, Calls Tryz.prog 42 #[.float .f32 (costOf d), .float .f32 x.2.2.2.toNat] W fun e w' => e = .returned (.float .f32 (M.addC (costOf d) (M.counts x.2.2.2.toNat))) ∧ w' = W) := fun W => fold_step (costOf_le d) (by have := hx.1; have := hx.2; omega) W
  have hx' := run_frombits; have hsf := run_storeF; obtain ⟨k5, f5⟩ := cellF8 (w := (w.alloc (oE x)).setCell ⟨be, 0, none⟩ (.int .i64 x.2.2.1)) (b := bc) (n := costOf d) ((heap_setCell_other _ _ _ _ (show bc ≠ be from h4.symm)).trans ((hb.block bc (heap_lt h3)).trans h3))
  have hn1 : ¬ be = bc := h4; have hn2 : ¬ bc = be := fun e => h4 e.symm
  clear hb h2 h3 hx h4; generalize M.addC (costOf d) (M.counts x.2.2.2.toNat) = c' at *; generalize costOf d = c at *; generalize endOf a d = ae at *
  go_enter Tryz.func41, Tryz.ntmps41
  go_upto_region 1 with fail
  change Code.wp _ _ _ _ (w.alloc (oE x)); generalize w.alloc (oE x) = w1 at *; generalize w.heap.size = bx at *; refine wp_region_noPanic ?_; refine regionL [7, 8] (fun y => y.cell? ⟨bx, 2, none⟩ = some (.int .i64 x.2.2.1) ∧ y.cell? ⟨bc, 0, none⟩ = some (.float .f32 c) ∧ y.cell? ⟨bx, 3, none⟩ = some (.int .u32 x.2.2.2)) (by kernel_rfl) ⟨x2, k3, x3⟩ (fun hHeld => ?_)
  refine takeN 0 6 rfl ?_
  (try simp only [sl])
  refine takeN 1 7 rfl ?_
  (try simp only [sl])
  refine takeN 2 8 rfl ?_
  (try simp only [sl])
  refine takeN 3 9 rfl ?_
  (try simp only [sl])
  refine takeN 4 10 rfl ?_
  (try simp only [sl])
  refine takeN 5 11 rfl ?_
  (try simp only [sl])
  refine readyL (i := 6) (by kernel_rfl) rfl (fun K hK => ?_)
  go_simp
  refine (unhide CA _).mono ?_
  rintro e w' ⟨rfl, rfl⟩
  (try dsimp only)
  refine hK.out _ _ (fun _ => (And.intro x2 (And.intro k3 x3))) ?_
  clear hK K
  (try simp only [sl])
  have hH4 := (And.intro x2 (And.intro k3 x3)); refine readyL (i := 7) (by kernel_rfl) rfl (fun K hK => ?_)
  go_simp
  refine hK.out _ _ (fun h => by cases h) ?_
  clear hK K
  (try simp only [sl])
  refine readyL (i := 8) (by kernel_rfl) rfl (fun K hK => ?_)
  go_simp
  refine hK.out _ _ (fun h => by cases h) ?_
  clear hK K
  (try simp only [sl])
  refine doneL (by kernel_rfl) ?_ _
  refine NoPanic.normal ?_
  go_wp2_with fail
  go_end0
  exact ⟨rfl, (unhide HS).1, (unhide HS).2.drewN 1⟩
theorem follow_fn (N be bc : Nat) (a : Int) : StepFn (.func (.func 41) #[] #[.pointer (some ⟨bc, 0, none⟩), .pointer (some ⟨be, 0, none⟩)]) N Wt (FP be bc a) := by
  refine ⟨⟨_, _, rfl, enters_of Tryz.func41 (by kernel_rfl) rfl, fun d x A w _ hx hP => ?_⟩, fun d A w w' hP hk hs => ?_, fun d A w b hP hb => ?_⟩
  · refine (follow1 x x.1 hP hx).mono ?_
    rintro r w' ⟨rfl, hh⟩
    exact ⟨rfl, A, (unhide hh).1, (unhide hh).2, fun b hb => .inl hb⟩
  · obtain ⟨h1, h2, h3, h4⟩ := hP; exact ⟨h1, (hk be ((h1 be).2 (.inl rfl))).trans h2, (hk bc ((h1 bc).2 (.inr rfl))).trans h3, h4⟩
  · obtain ⟨h1, h2, h3, h4⟩ := hP; rcases (h1 b).1 hb with rfl | rfl
    · exact heap_lt h2
    · exact heap_lt h3
def fAns (a : Int) (t : List EdgeV × Option Int) : Value := if t.2 = none then .tuple #[.int .i64 (endOf a t.1), .int .u32 (costOf t.1), .int .i64 0, .int .i64 0] else .tuple #[.int .i64 0, .int .u32 0, .int .i64 t.1.length, .int .i64 (tCode t)]
theorem Mid.out [Inhabited EntI] {P : List EdgeV → (Nat → Prop) → World → Prop} {w0 w w' : World} {X : Sto} {A A' : Nat → Prop} {n : Nat} {d : List EdgeV} (h : Mid P w X A n d A' w') (hb : Below w0.heap.size w0 w) (hA : ∀ b, A b → w0.heap.size ≤ b) : Step w0 X w' { X with rd := X.rd + (n : Int) } := by
  refine ⟨h.st, rfl, ?_, fun b hb => .inl hb⟩
  refine (turned_of_below hb).then_ h.turned (fun b hb' ho => ho.elim id (fun ha => ?_))
  have := hA b ha; omega
def Rd [Inhabited EntI] (w : World) (X : Sto) (n : Nat) (w' : World) : Prop := Step w X w' { X with rd := X.rd + (n : Int) }
theorem Step.draw [Inhabited EntI] {w w' : World} {X X' : Sto} (h : Step w X w' X') (q : Nat) : Step w X (w'.drewN q) X' := h.trans (Step.below h.1 (below_drewN (Below.refl _ _) q))
theorem tCode_ne {ps : List (EdgeV × Bool)} {a : Int} : ∀ {es : List Int}, (trip ps a es).2 ≠ none → (trip ps a es).2 = some 6 ∨ (trip ps a es).2 = some 80 := by
  intro es
  induction es generalizing a with
  | nil => intro h; exact absurd rfl h
  | cons e es ih =>
    intro h; rw [trip] at h ⊢
    cases hl : lk ps e with
    | none => exact .inl rfl
    | some x =>
      rw [hl] at h; simp only at h ⊢
      by_cases hx : x.2.1 = a
      · rw [if_pos hx] at h ⊢; exact ih h
      · rw [if_neg hx]; exact .inr rfl
set_option maxHeartbeats 2000000 in
set_option maxRecDepth 100000 in
theorem followS [Inhabited EntI] {w : World} {X : Sto} (from_ : Int) {ev : Value} {es : List Int} (h : StAt w X) (hr : SRow w ev es) (hl : es.length ≤ 100000) (hx0 : 0 ≤ X.rd) (hx1 : X.rd ≤ 100000000)
    (hQ : ∀ (i : Nat) (x : EdgeV), X.ps[i]? = some (x, true) → Wt x) (hb : ∀ b, blkOf ev = some b → b < w.heap.size ∧ X.L b = none) :
    Calls Tryz.prog 21 #[.iface 24 (.pointer (some ⟨X.s, 0, none⟩)), .int .i64 from_, ev] w fun e w' => e = .returned (fAns from_ (trip X.ps from_ es)) ∧ Hid (Rd w X (tReads (trip X.ps from_ es)) w') := by
  have CF := hide (fold_zero none 0 w); have hb1 := below_new w (oI8 from_); have hb2 := below_new (w.alloc (oI8 from_)) (oF8 0); have hs1 : (w.alloc (oI8 from_)).heap.size = w.heap.size + 1 := by simp
  have hbb : Below w.heap.size w ((w.alloc (oI8 from_)).alloc (oF8 0)) := hb1.trans (hb2.mono (by omega))
  obtain ⟨ea, ec, rfl, hcell⟩ := hr; have CA : Hid (∀ be bc : Nat, be = w.heap.size → bc = w.heap.size + 1 → Calls Tryz.prog 40 #[.iface 24 (.pointer (some ⟨X.s, 0, none⟩)), .int .i64 from_, .slice ea es.length ec, .func (.func 41) #[] #[.pointer (some ⟨bc, 0, none⟩), .pointer (some ⟨be, 0, none⟩)]] ((w.alloc (oI8 from_)).alloc (oF8 0)) fun e w' => e = .returned (.tuple #[.int .i64 (tPlace (trip X.ps from_ es)), .int .i64 (tCode (trip X.ps from_ es))]) ∧ (w'.cell? ⟨be, 0, none⟩ = some (.int .i64 (endOf from_ (trip X.ps from_ es).1)) ∧ w'.cell? ⟨bc, 0, none⟩ = some (.float .f32 (costOf (trip X.ps from_ es).1))) ∧ Hid (Rd w X (tReads (trip X.ps from_ es)) w')) := by
    rintro be bc rfl rfl
    have hs2 := h.mem.new (k := w.heap.size) (Nat.le_refl _); refine (alongS (follow_fn 100000 w.heap.size (w.heap.size + 1) from_) from_ (A := fun b => b = w.heap.size ∨ b = w.heap.size + 1) (h.below hbb) (SRow.below ⟨ea, ec, rfl, hcell⟩ hbb) hl (Nat.le_refl _) hx0 hx1 hQ ?_ ?_ (fun b hb' _ => ⟨(hb b hb').2, fun ho => by have := (hb b hb').1; omega⟩)).mono ?_
    · refine ⟨fun b => Iff.rfl, (heap_alloc_old _ _ (by omega)).trans (heap_alloc_new _ _), ?_, by omega⟩
      have := heap_alloc_new (w.alloc (oI8 from_)) (oF8 0); rw [hs1] at this; exact this
    · rintro b (rfl | rfl)
      · exact hs2
      · exact h.mem.new (by omega)
    · rintro e w' ⟨rfl, hh⟩
      obtain ⟨A', hM⟩ := unhide hh; obtain ⟨-, p2, p3, -⟩ := hM.pic; refine ⟨rfl, ⟨(cellI8 p2).1, (cellF8 p3).1⟩, hM.out hbb ?_⟩
      rintro b (rfl | rfl) <;> omega
  have HB := hide hbb; generalize hsx : X.s = s at *; obtain ⟨t, ht⟩ : ∃ t, t = trip X.ps from_ es := ⟨_, rfl⟩; rw [← ht]; rw [← ht] at CA; have HT : Hid (t.2 ≠ none → tCode t ≠ 0) := fun hn => by
    rw [ht] at hn ⊢; rcases tCode_ne hn with e | e <;> (unfold tCode; rw [e]; decide)
  have HLC := hide (costOf_le t.1); clear h hcell hl hx0 hx1 hQ hb hb1 hb2 hs1 hbb hsx ht; generalize es.length = len at *; have hsf := run_storeF
  by_cases hn : t.2 = none
  · have e1 : tCode t = 0 := by unfold tCode; rw [hn]; rfl
    have e2 : fAns from_ t = .tuple #[.int .i64 (endOf from_ t.1), .int .u32 (costOf t.1), .int .i64 0, .int .i64 0] := if_pos hn; rw [e2]; rw [e1] at CA; have CB : Hid (∀ W, Calls Tryz.prog 44 #[.float .f32 (costOf t.1)] W fun e w' => e = .returned (.int .u32 (costOf t.1 : Int)) ∧ w' = W) := fun W => bits_nat (unhide HLC) W
    clear HT HLC e1 e2 hn; generalize costOf t.1 = c at *; generalize endOf from_ t.1 = ae at *; generalize tPlace t = pl at *; generalize tReads t = rdn at *
    go_enter Tryz.func21, Tryz.ntmps21
    go_wp2_with fail
    refine (unhide CF).mono ?_
    rintro e w ⟨rfl, rfl⟩
    clear CF
    go_upto_region 2 with fail
    change Code.wp _ _ _ _ ((w.alloc (oI8 from_)).alloc (oF8 0)); have CA2 := hide (unhide CA _ _ rfl rfl); clear CA; generalize (w.alloc (oI8 from_)).alloc (oF8 0) = w2 at *
    go_wp2_with fail
    refine (unhide CA2).mono ?_
    rintro e w3 ⟨rfl, ⟨k1, k2⟩, hR⟩
    clear CA2
    go_wp2_with fail
    go_quiet ((go_at_call 44; exact (unhide CB _).mono (fun _ _ h => ⟨h.1, _, h.2⟩)))
    go_wp2_with fail
    go_returns
    exact ⟨rfl, Step.draw (unhide hR) _⟩
  · have e1 := unhide HT hn; have e2 : fAns from_ t = .tuple #[.int .i64 0, .int .u32 0, .int .i64 t.1.length, .int .i64 (tCode t)] := if_neg hn; have e3 : tPlace t = t.1.length := if_neg hn; rw [e2]; rw [e3] at CA; have e4 : (tCode t == 0) = false := by simp [e1]
    clear HT HLC e2 hn e3 e1; generalize costOf t.1 = c at *; generalize endOf from_ t.1 = ae at *; generalize tCode t = tc at *; generalize tReads t = rdn at *; generalize t.1.length = tl at *
    go_enter Tryz.func21, Tryz.ntmps21
    go_wp2_with fail
    refine (unhide CF).mono ?_
    rintro e w ⟨rfl, rfl⟩
    clear CF
    go_upto_region 2 with fail
    change Code.wp _ _ _ _ ((w.alloc (oI8 from_)).alloc (oF8 0)); have CA2 := hide (unhide CA _ _ rfl rfl); clear CA; generalize (w.alloc (oI8 from_)).alloc (oF8 0) = w2 at *
    go_wp2_with fail
    refine (unhide CA2).mono ?_
    rintro e w3 ⟨rfl, ⟨k1, k2⟩, hR⟩
    clear CA2
    go_wp2_with fail
    go_returns
    exact ⟨rfl, hR⟩
end

section
open Go.RowKit Go.Maps
def RdM [Inhabited EntI] (w : World) (X : Sto) (m n : Nat) (w' : World) : Prop := (∃ k : Nat, k ≤ n ∧ StAt w' { X with rd := X.rd + (k : Int) }) ∧ Turned (fun b => X.L b ≠ none ∨ b = m) w w'
theorem RdM.draw [Inhabited EntI] {w w' : World} {X : Sto} {m n : Nat} (h : RdM w X m n w') (q : Nat) : RdM w X m n (w'.drewN q) := by
  obtain ⟨⟨k, h1, h2⟩, h3⟩ := h; have hb := below_drewN (Below.refl w'.heap.size w') q; exact ⟨⟨k, h1, h2.below hb⟩, h3.trans (turned_of_below hb)⟩
theorem MidR.out [Inhabited EntI] {P : List EdgeV → (Nat → Prop) → World → Prop} {w0 w w' : World} {X : Sto} {A A' : Nat → Prop} {m n : Nat} {d : List EdgeV} (h : MidR P w X A m n d A' w') (hb : Below w0.heap.size w0 w) (hA : ∀ b, A b → w0.heap.size ≤ b) : RdM w0 X m n w' := by
  refine ⟨h.st, ?_⟩; refine (turned_of_below hb).then_ h.turned (fun b hb' ho => ho.elim id (fun ha => ?_))
  have := hA b ha; omega
set_option maxHeartbeats 2000000 in
set_option maxRecDepth 100000 in
theorem followR [Inhabited EntI] {w : World} {X : Sto} {m : Nat} (from_ : Int) {ev : Value} {es : List Int} (h : StAt w X) (hm : Kn X.ps 0 w m) (hmL : X.L m = none) (hok : ∀ e ∈ es, okN e) (hr : SRow w ev es) (hl : es.length ≤ 100000) (hx0 : 0 ≤ X.rd) (hx1 : X.rd ≤ 100000000)
    (hQ : ∀ (i : Nat) (x : EdgeV), X.ps[i]? = some (x, true) → Wt x) (hb : ∀ b, blkOf ev = some b → b < w.heap.size ∧ X.L b = none ∧ b ≠ m) :
    Calls Tryz.prog 21 #[.iface 139 (.agg #[.iface 24 (.pointer (some ⟨X.s, 0, none⟩)), .map (some m)]), .int .i64 from_, ev] w fun e w' => e = .returned (fAns from_ (trip X.ps from_ es)) ∧ Hid (RdM w X m es.length w') := by
  have CF := hide (fold_zero none 0 w); have hb1 := below_new w (oI8 from_); have hb2 := below_new (w.alloc (oI8 from_)) (oF8 0); have hs1 : (w.alloc (oI8 from_)).heap.size = w.heap.size + 1 := by simp
  have hbb : Below w.heap.size w ((w.alloc (oI8 from_)).alloc (oF8 0)) := hb1.trans (hb2.mono (by omega))
  obtain ⟨ea, ec, rfl, hcell⟩ := hr; have CA : Hid (∀ be bc : Nat, be = w.heap.size → bc = w.heap.size + 1 → Calls Tryz.prog 40 #[.iface 139 (.agg #[.iface 24 (.pointer (some ⟨X.s, 0, none⟩)), .map (some m)]), .int .i64 from_, .slice ea es.length ec, .func (.func 41) #[] #[.pointer (some ⟨bc, 0, none⟩), .pointer (some ⟨be, 0, none⟩)]] ((w.alloc (oI8 from_)).alloc (oF8 0)) fun e w' => e = .returned (.tuple #[.int .i64 (tPlace (trip X.ps from_ es)), .int .i64 (tCode (trip X.ps from_ es))]) ∧ (w'.cell? ⟨be, 0, none⟩ = some (.int .i64 (endOf from_ (trip X.ps from_ es).1)) ∧ w'.cell? ⟨bc, 0, none⟩ = some (.float .f32 (costOf (trip X.ps from_ es).1))) ∧ Hid (RdM w X m es.length w')) := by
    rintro be bc rfl rfl
    have hs2 := h.mem.new (k := w.heap.size) (Nat.le_refl _); have hm2 := hm.below hbb; have hmlt : m < w.heap.size := hm.lt; refine (alongR (follow_fn 100000 w.heap.size (w.heap.size + 1) from_) from_ (A := fun b => b = w.heap.size ∨ b = w.heap.size + 1) (m := m) ⟨⟨0, Nat.le_refl _, by simpa using h.below hbb⟩, hm2, ⟨fun b => Iff.rfl, (heap_alloc_old _ _ (by omega)).trans (heap_alloc_new _ _), ?_, by omega⟩, Turned.refl _ _, fun b hb' => .inl hb', ?_, hmL⟩ (SRow.below ⟨ea, ec, rfl, hcell⟩ hbb) hok hl (Nat.le_refl _) hx0 hx1 hQ (fun b hb' _ => ⟨(hb b hb').2, fun ho => by have := (hb b hb').1; omega⟩)).mono ?_
    · have := heap_alloc_new (w.alloc (oI8 from_)) (oF8 0); rw [hs1] at this; exact this
    · rintro b (rfl | rfl)
      · exact ⟨hs2, by omega⟩
      · exact ⟨h.mem.new (by omega), by omega⟩
    · rintro e w' ⟨rfl, hh⟩
      obtain ⟨A', hM⟩ := unhide hh; obtain ⟨-, p2, p3, -⟩ := hM.pic; refine ⟨rfl, ⟨(cellI8 p2).1, (cellF8 p3).1⟩, hM.out hbb ?_⟩
      rintro b (rfl | rfl) <;> omega
  have HB := hide hbb; generalize hsx : X.s = s at *; obtain ⟨t, ht⟩ : ∃ t, t = trip X.ps from_ es := ⟨_, rfl⟩; rw [← ht]; rw [← ht] at CA; have HT : Hid (t.2 ≠ none → tCode t ≠ 0) := fun hn => by
    rw [ht] at hn ⊢; rcases tCode_ne hn with e | e <;> (unfold tCode; rw [e]; decide)
  have HLC := hide (costOf_le t.1); clear h hm hmL hok hcell hl hx0 hx1 hQ hb hb1 hb2 hs1 hbb hsx ht; generalize es.length = len at *; have hsf := run_storeF
  by_cases hn : t.2 = none
  · have e1 : tCode t = 0 := by unfold tCode; rw [hn]; rfl
    have e2 : fAns from_ t = .tuple #[.int .i64 (endOf from_ t.1), .int .u32 (costOf t.1), .int .i64 0, .int .i64 0] := if_pos hn; rw [e2]; rw [e1] at CA; have CB : Hid (∀ W, Calls Tryz.prog 44 #[.float .f32 (costOf t.1)] W fun e w' => e = .returned (.int .u32 (costOf t.1 : Int)) ∧ w' = W) := fun W => bits_nat (unhide HLC) W
    clear HT HLC e1 e2 hn; generalize costOf t.1 = c at *; generalize endOf from_ t.1 = ae at *; generalize tPlace t = pl at *
    go_enter Tryz.func21, Tryz.ntmps21
    go_wp2_with fail
    refine (unhide CF).mono ?_
    rintro e w ⟨rfl, rfl⟩
    clear CF
    go_upto_region 2 with fail
    change Code.wp _ _ _ _ ((w.alloc (oI8 from_)).alloc (oF8 0)); have CA2 := hide (unhide CA _ _ rfl rfl); clear CA; generalize (w.alloc (oI8 from_)).alloc (oF8 0) = w2 at *
    go_wp2_with fail
    refine (unhide CA2).mono ?_
    rintro e w3 ⟨rfl, ⟨k1, k2⟩, hR⟩
    clear CA2
    go_wp2_with fail
    go_quiet ((go_at_call 44; exact (unhide CB _).mono (fun _ _ h => ⟨h.1, _, h.2⟩)))
    go_wp2_with fail
    go_returns
    exact ⟨rfl, (unhide hR).draw _⟩
  · have e1 := unhide HT hn; have e2 : fAns from_ t = .tuple #[.int .i64 0, .int .u32 0, .int .i64 t.1.length, .int .i64 (tCode t)] := if_neg hn; have e3 : tPlace t = t.1.length := if_neg hn; rw [e2]; rw [e3] at CA; have e4 : (tCode t == 0) = false := by simp [e1]
    clear HT HLC e2 hn e3 e1; generalize costOf t.1 = c at *; generalize endOf from_ t.1 = ae at *; generalize tCode t = tc at *; generalize t.1.length = tl at *
    go_enter Tryz.func21, Tryz.ntmps21
    go_wp2_with fail
    refine (unhide CF).mono ?_
    rintro e w ⟨rfl, rfl⟩
    clear CF
    go_upto_region 2 with fail
    change Code.wp _ _ _ _ ((w.alloc (oI8 from_)).alloc (oF8 0)); have CA2 := hide (unhide CA _ _ rfl rfl); clear CA; generalize (w.alloc (oI8 from_)).alloc (oF8 0) = w2 at *
    go_wp2_with fail
    refine (unhide CA2).mono ?_
    rintro e w3 ⟨rfl, ⟨k1, k2⟩, hR⟩
    clear CA2
    go_wp2_with fail
    go_returns
    exact ⟨rfl, hR⟩
end

end Go.Proofs.YtagibmgbjhemkaaGreat

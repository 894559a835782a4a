/- The reference's Add. -/
import Derived.Test.YtagibmgbjhemkaaGreatWAdd
import Derived.Deep.QuietTactic
import Derived.BigQuiet
import Derived.Deep.DeepCutAuto
namespace Go.Proofs.YtagibmgbjhemkaaGreat
open Go.RowKit

theorem counts_nat (b : Nat) (w : World) :
    Calls Tryz.prog 83 #[.int .u32 (b : Int)] w fun e w' => e = .returned (.int .i64 (M.counts b : Int)) ∧ w' = w := by
  unfold M.counts
  by_cases h1 : b = 2147483648
  · subst h1
    go_enter Tryz.func83, Tryz.ntmps83
    go_wp2
    go_ret
    exact ⟨rfl, rfl⟩
  · have h2 : ((b : Int) == 2147483648) = false := by simp; omega
    rw [if_neg h1]
    clear h1
    by_cases h3 : 2139095040 < b
    · have h4 : (2139095040 : Int) < (b : Int) := by omega
      rw [if_pos h3]
      go_enter Tryz.func83, Tryz.ntmps83
      go_wp2
      go_ret
      exact ⟨rfl, rfl⟩
    · have h4 : ¬ (2139095040 : Int) < (b : Int) := by omega
      rw [if_neg h3]
      go_enter Tryz.func83, Tryz.ntmps83
      go_wp2
      go_ret
      exact ⟨rfl, rfl⟩

namespace M
def mant (x : Nat) : Nat := if x / 8388608 = 0 then x % 8388608 else x % 8388608 + 8388608
def expo (x : Nat) : Nat := if x / 8388608 = 0 then 1 else x / 8388608
/-- Does the rounding of s by k digits go up? -/
def up (s k : Nat) : Bool := decide (2 ^ (k - 1) < s % 2 ^ k) || (decide (s % 2 ^ k = 2 ^ (k - 1)) && decide (s / 2 ^ k % 2 = 1))
def rounded (s k : Nat) : Nat := if k = 0 then s else s / 2 ^ k + (up s k).toNat
/-- The word of q times 2 to the power k, the exponent f. -/
def tail (f k q : Nat) : Nat :=
  if 255 ≤ f + (if q = 16777216 then k + 1 else k) then 2139095040
  else if (if q = 16777216 then 8388608 else q) < 8388608 then q
  else (f + (if q = 16777216 then k + 1 else k)) * 8388608 + (if q = 16777216 then 8388608 else q) - 8388608
end M

theorem parts_nat (x : Nat) (hx : x ≤ 2139095040) (w : World) :
    Calls Tryz.prog 84 #[.int .i64 (x : Int)] w fun e w' => e = .returned (.tuple #[.int .i64 (M.mant x : Int), .int .i64 (M.expo x : Int)]) ∧ w' = w := by
  unfold M.mant M.expo
  have hxi : (x : Int) ≤ 2139095040 := by omega
  by_cases h1 : x / 8388608 = 0
  · have h2 : ((x : Int) / 8388608 == 0) = true := by simp; omega
    rw [if_pos h1, if_pos h1]
    go_enter Tryz.func84, Tryz.ntmps84
    go_wp2
    go_ret2
    exact ⟨rfl, rfl⟩
  · have h2 : ((x : Int) / 8388608 == 0) = false := by simp; omega
    rw [if_neg h1, if_neg h1]
    go_enter Tryz.func84, Tryz.ntmps84
    go_wp2
    go_ret2
    exact ⟨rfl, rfl⟩

theorem ret_u32 {a b : Int} (h : a = b) : Ending.returned (.int .u32 a) = .returned (.int .u32 b) := by rw [h]
set_option maxRecDepth 100000 in
set_option maxHeartbeats 4000000 in
theorem refAdd_main (x y c1 c2 a b : Nat) (w : World) (m f d n : Nat) (hd : d ≤ 25) (hf : f ≤ 254)
    (hab : (c1 < c2 ∧ a = c2 ∧ b = c1) ∨ (¬ c1 < c2 ∧ a = c1 ∧ b = c2))
    (hne : ((a : Int) == 2139095040) = false) (s SH : Nat) (HS : Hid (wrap64 (wrap64 ((m : Int) * 2 ^ d) + (n : Int)) = (s : Int))) (hSH : SH ≤ 26) (HLO : Hid (∀ k, k < SH → 16777216 ≤ s / 2 ^ k)) (HHI : Hid (s / 2 ^ SH < 16777216))
    (HX : Hid (∀ w, Calls Tryz.prog 83 #[.int .u32 (x : Int)] w fun e w' => e = .returned (.int .i64 (c1 : Int)) ∧ w' = w))
    (HY : Hid (∀ w, Calls Tryz.prog 83 #[.int .u32 (y : Int)] w fun e w' => e = .returned (.int .i64 (c2 : Int)) ∧ w' = w))
    (HP1 : Hid (∀ w, Calls Tryz.prog 84 #[.int .i64 (a : Int)] w fun e w' => e = .returned (.tuple #[.int .i64 (m : Int), .int .i64 ((f : Int) + (d : Int))]) ∧ w' = w))
    (HP2 : Hid (∀ w, Calls Tryz.prog 84 #[.int .i64 (b : Int)] w fun e w' => e = .returned (.tuple #[.int .i64 (n : Int), .int .i64 (f : Int)]) ∧ w' = w)) :
    Calls Tryz.prog 50 #[.int .u32 (x : Int), .int .u32 (y : Int)] w fun e w' => e = .returned (.int .u32 ((M.tail f SH (M.rounded s SH) : Nat) : Int)) ∧ ∃ nq, w' = w.drewN nq := by
  go_enter Tryz.func50, Tryz.ntmps50
  go_upto_region 1 with fail
  go_cut [5, 6] from 16 (fun s5 s6 w1 => s5 = .int .i64 (a : Int) ∧ s6 = .int .i64 (b : Int) ∧ w1 = w)
  case first =>
    rcases hab with ⟨h, rfl, rfl⟩ | ⟨h, rfl, rfl⟩
    all_goals
      go_wp2_with fail
      refine (unhide HX _).mono ?_
      rintro e w' ⟨rfl, rfl⟩
      go_wp2_with fail
      refine (unhide HY _).mono ?_
      rintro e w' ⟨rfl, rfl⟩
      go_wp2_with fail
      refine (unhide HX _).mono ?_
      rintro e w' ⟨rfl, rfl⟩
      go_wp2_with fail
      refine (unhide HY _).mono ?_
      rintro e w' ⟨rfl, rfl⟩
      go_wp2_with fail
      all_goals
        go_meet
        case rel => first | exact ⟨rfl, rfl, rfl⟩ | exact ⟨congrArg (Value.int .i64) (by omega), congrArg (Value.int .i64) (by omega), rfl⟩ | (obtain rfl : a = b := (by omega); exact ⟨rfl, rfl, rfl⟩)
  case rest =>
    obtain ⟨rfl, rfl, rfl⟩ := hcut
    clear hab
    go_wp2_with fail
    refine (unhide HP1 _).mono ?_
    rintro e w' ⟨rfl, rfl⟩
    go_wp2_with fail
    refine (unhide HP2 _).mono ?_
    rintro e w' ⟨rfl, rfl⟩
    go_upto_region 8 with fail
    go_cut [10, 11] from 16 (fun s10 s11 w1 => s10 = .int .i64 (f : Int) ∧ s11 = .int .i64 (s : Int) ∧ w1 = w')
    case first =>
      go_wp2_with fail
      go_meet
      case rel => exact ⟨rfl, by rw [unhide HS], rfl⟩
    case rest =>
      obtain ⟨rfl, rfl, hw⟩ := hcut
      subst hw
      clear HS hne hd HP1 HP2 HX HY
      go_wp2_with fail
      go_loop [12] (fun ti => ∃ k : Nat, k ≤ SH ∧ ti = .int .i64 (k : Int)) (fun ti => SH - (intOf ti).toNat)
      case atStart => exact ⟨0, Nat.zero_le _, rfl⟩
      case round =>
        obtain ⟨k, hk, rfl⟩ := hrel
        by_cases hlt : k < SH
        · have t1 : (16777216 : Int) ≤ (s : Int) / 2 ^ k := by
            have := unhide HLO k hlt
            have e : ((s / 2 ^ k : Nat) : Int) = (s : Int) / 2 ^ k := by simp
            omega
          go_wp2
          go_round
          case rel => exact ⟨k + 1, by omega, by go_num⟩
          case measure => simp [intOf]; omega
        · have ek : k = SH := by omega
          have k26 : k ≤ 26 := by omega
          obtain ⟨p, hpn⟩ : ∃ p : Nat, 2 ^ k = p := ⟨_, rfl⟩
          have hp : (2 : Int) ^ k = (p : Int) := by rw [← hpn]; simp
          have hp0 : (0 : Int) < (p : Int) := by
            have := Nat.two_pow_pos k
            omega
          have hp1 : (p : Int) ≤ 67108864 := by
            have := Nat.pow_le_pow_right (n := 2) (by omega) k26
            omega
          obtain ⟨q, hqn⟩ : ∃ q : Nat, s / p = q := ⟨_, rfl⟩
          obtain ⟨r, hrn⟩ : ∃ r : Nat, s % p = r := ⟨_, rfl⟩
          have hq : (s : Int) / (p : Int) = (q : Int) := by rw [← hqn]; simp
          have hr : (s : Int) % (p : Int) = (r : Int) := by rw [← hrn]; simp
          have t3 : ¬ (16777216 : Int) ≤ (q : Int) := by
            have := unhide HHI
            rw [← ek, hpn, hqn] at this
            omega
          have EK := hide ek
          have HPN := hide hpn
          have HQN := hide hqn
          have HRN := hide hrn
          clear hlt hk hSH ek hpn hqn hrn
          have t4 : q < 16777216 := by omega
          by_cases hk0 : k = 0
          · have HT : Hid (M.tail f SH (M.rounded s SH) = M.tail f k q) := by
              show _ = _
              have e1 := unhide EK
              have e2 := unhide HPN
              have e3 := unhide HQN
              unfold M.rounded
              rw [← e1, if_pos hk0]
              rw [hk0] at e2
              rw [← e3, ← e2]; simp
            subst hk0
            go_wp2_with fail
            go_quiet (fail)
            go_upto_region 17 with fail
            clear hp hp0 hp1 hq hr t3
            have z1b : ((q : Int) == 16777216) = false := by simp; omega
            have z2b : ¬ (255 : Int) ≤ (f : Int) := by omega
            by_cases z3 : q < 8388608
            · have z3b : (q : Int) < 8388608 := by omega
              go_wp2
              go_ret
              refine ⟨ret_u32 ?_, _, rfl⟩
              rw [unhide HT]
              unfold M.tail
              (repeat' split) <;> omega
            · have z3b : ¬ (q : Int) < 8388608 := by omega
              go_wp2
              go_ret
              refine ⟨ret_u32 ?_, _, rfl⟩
              rw [unhide HT]
              unfold M.tail
              (repeat' split) <;> omega
          · obtain ⟨h, hhn⟩ : ∃ h : Nat, 2 ^ (k - 1) = h := ⟨_, rfl⟩
            have hh : (2 : Int) ^ (k - 1) = (h : Int) := by rw [← hhn]; simp
            have hh0 : (0 : Int) < (h : Int) := by
              have := Nat.two_pow_pos (k - 1)
              omega
            have hh1 : (h : Int) ≤ 33554432 := by
              have := Nat.pow_le_pow_right (n := 2) (by omega) (show k - 1 ≤ 25 by omega)
              omega
            have hk1 : (0 : Int) < (k : Int) := by omega
            have HT : Hid (M.tail f SH (M.rounded s SH) = M.tail f k (q + (decide (h < r) || (decide (r = h) && decide (q % 2 = 1))).toNat)) := by
              have e1 := unhide EK
              have e2 := unhide HPN
              have e3 := unhide HQN
              have e4 := unhide HRN
              show _ = _
              unfold M.rounded M.up
              rw [← e1, if_neg hk0, hhn, e2, e3, e4]
            have HRZ : Hid ((s : Int) % (p : Int) = (r : Int)) := hr
            clear hhn hk0
            go_wp2_with fail
            go_quiet (fail)
            go_upto_region 13 with fail
            clear hp hp0 hp1 hq hr t3
            go_upto_region 15 with fail
            go_cut [85] from 51 (fun s85 w1 => s85 = .bool (decide (h < r) || (decide (r = h) && decide (q % 2 = 1))) ∧ w1 = wc.drewN nq)
            case first =>
              have hrz := unhide HRZ
              by_cases g1 : (h : Int) < (s : Int) % (p : Int)
              · have e : (decide (h < r) || (decide (r = h) && decide (q % 2 = 1))) = true := by
                  have : h < r := by omega
                  simp [this]
                have E := hide e
                clear hrz e
                go_wp2_with fail
                go_meet
                case rel => exact ⟨by rw [unhide E], rfl⟩
              · by_cases g2 : (s : Int) % (p : Int) = (h : Int)
                · have g2b : ((s : Int) % (p : Int) == (h : Int)) = true := by simpa using g2
                  have rh : r = h := by omega
                  have e : (decide (h < r) || (decide (r = h) && decide (q % 2 = 1))) = ((q : Int) % 2 == 1) := by
                    rw [Bool.eq_iff_iff]; simp [rh]; omega
                  have E := hide e
                  clear hrz e g2 rh
                  go_wp2_with fail
                  go_meet
                  case rel => exact ⟨by rw [unhide E], rfl⟩
                · have g2b : ((s : Int) % (p : Int) == (h : Int)) = false := by simpa using g2
                  have e : (decide (h < r) || (decide (r = h) && decide (q % 2 = 1))) = false := by
                    have : ¬ h < r := by omega
                    have : ¬ r = h := by omega
                    simp [*]
                  have E := hide e
                  clear hrz e g2
                  go_wp2_with fail
                  go_meet
                  case rel => exact ⟨by rw [unhide E], rfl⟩
            case rest =>
              obtain ⟨rfl, hw⟩ := hcut
              subst hw
              clear hh hh0 hh1 HRZ
              generalize (decide (h < r) || (decide (r = h) && decide (q % 2 = 1))) = u at HT ⊢
              cases u
              · change Hid (_ = M.tail f k q) at HT
                by_cases z1 : q = 16777216
                · have z1b : ((q : Int) == 16777216) = true := by simp; omega
                  by_cases z2 : 255 ≤ f + (k + 1)
                  · have z2b : (255 : Int) ≤ (f : Int) + ((k : Int) + 1) := by omega
                    have Z1 := hide z1
                    clear z1
                    go_wp2
                    go_ret
                    refine ⟨ret_u32 ?_, _, rfl⟩
                    rw [unhide HT]
                    have z1 := unhide Z1
                    unfold M.tail
                    (repeat' split) <;> omega
                  · have z2b : ¬ (255 : Int) ≤ (f : Int) + ((k : Int) + 1) := by omega
                    have Z1 := hide z1
                    clear z1
                    go_wp2
                    go_ret
                    refine ⟨ret_u32 ?_, _, rfl⟩
                    rw [unhide HT]
                    have z1 := unhide Z1
                    unfold M.tail
                    (repeat' split) <;> omega
                · have z1b : ((q : Int) == 16777216) = false := by simp; omega
                  by_cases z2 : 255 ≤ f + k
                  · have z2b : (255 : Int) ≤ (f : Int) + (k : Int) := by omega
                    go_wp2
                    go_ret
                    refine ⟨ret_u32 ?_, _, rfl⟩
                    rw [unhide HT]
                    unfold M.tail
                    (repeat' split) <;> omega
                  · have z2b : ¬ (255 : Int) ≤ (f : Int) + (k : Int) := by omega
                    by_cases z3 : q < 8388608
                    · have z3b : (q : Int) < 8388608 := by omega
                      go_wp2
                      go_ret
                      refine ⟨ret_u32 ?_, _, rfl⟩
                      rw [unhide HT]
                      unfold M.tail
                      (repeat' split) <;> omega
                    · have z3b : ¬ (q : Int) < 8388608 := by omega
                      go_wp2
                      go_ret
                      refine ⟨ret_u32 ?_, _, rfl⟩
                      rw [unhide HT]
                      unfold M.tail
                      (repeat' split) <;> omega
              · change Hid (_ = M.tail f k (q + 1)) at HT
                by_cases z1 : q + 1 = 16777216
                · have z1b : (((q : Int) + 1) == 16777216) = true := by simp; omega
                  by_cases z2 : 255 ≤ f + (k + 1)
                  · have z2b : (255 : Int) ≤ (f : Int) + ((k : Int) + 1) := by omega
                    have Z1 := hide z1
                    clear z1
                    go_wp2
                    go_ret
                    refine ⟨ret_u32 ?_, _, rfl⟩
                    rw [unhide HT]
                    have z1 := unhide Z1
                    unfold M.tail
                    (repeat' split) <;> omega
                  · have z2b : ¬ (255 : Int) ≤ (f : Int) + ((k : Int) + 1) := by omega
                    have Z1 := hide z1
                    clear z1
                    go_wp2
                    go_ret
                    refine ⟨ret_u32 ?_, _, rfl⟩
                    rw [unhide HT]
                    have z1 := unhide Z1
                    unfold M.tail
                    (repeat' split) <;> omega
                · have z1b : (((q : Int) + 1) == 16777216) = false := by simp; omega
                  by_cases z2 : 255 ≤ f + k
                  · have z2b : (255 : Int) ≤ (f : Int) + (k : Int) := by omega
                    go_wp2
                    go_ret
                    refine ⟨ret_u32 ?_, _, rfl⟩
                    rw [unhide HT]
                    unfold M.tail
                    (repeat' split) <;> omega
                  · have z2b : ¬ (255 : Int) ≤ (f : Int) + (k : Int) := by omega
                    by_cases z3 : q + 1 < 8388608
                    · have z3b : ((q : Int) + 1) < 8388608 := by omega
                      go_wp2
                      go_ret
                      refine ⟨ret_u32 ?_, _, rfl⟩
                      rw [unhide HT]
                      unfold M.tail
                      (repeat' split) <;> omega
                    · have z3b : ¬ ((q : Int) + 1) < 8388608 := by omega
                      go_wp2
                      go_ret
                      refine ⟨ret_u32 ?_, _, rfl⟩
                      rw [unhide HT]
                      unfold M.tail
                      (repeat' split) <;> omega

set_option maxRecDepth 100000 in
set_option maxHeartbeats 1000000 in
theorem refAdd_inf (x y c1 c2 a b : Nat) (w : World)
    (hab : (c1 < c2 ∧ a = c2 ∧ b = c1) ∨ (¬ c1 < c2 ∧ a = c1 ∧ b = c2))
    (HX : Hid (∀ w, Calls Tryz.prog 83 #[.int .u32 (x : Int)] w fun e w' => e = .returned (.int .i64 (c1 : Int)) ∧ w' = w))
    (HY : Hid (∀ w, Calls Tryz.prog 83 #[.int .u32 (y : Int)] w fun e w' => e = .returned (.int .i64 (c2 : Int)) ∧ w' = w))
    (hne : ((a : Int) == 2139095040) = true) :
    Calls Tryz.prog 50 #[.int .u32 (x : Int), .int .u32 (y : Int)] w fun e w' => e = .returned (.int .u32 2139095040) ∧ ∃ nq, w' = w.drewN nq := by
  go_enter Tryz.func50, Tryz.ntmps50
  go_upto_region 1 with fail
  go_cut [5, 6] from 16 (fun s5 s6 w1 => s5 = .int .i64 (a : Int) ∧ s6 = .int .i64 (b : Int) ∧ w1 = w)
  case first =>
    rcases hab with ⟨h, rfl, rfl⟩ | ⟨h, rfl, rfl⟩
    all_goals
      go_wp2_with fail
      refine (unhide HX _).mono ?_
      rintro e w' ⟨rfl, rfl⟩
      go_wp2_with fail
      refine (unhide HY _).mono ?_
      rintro e w' ⟨rfl, rfl⟩
      go_wp2_with fail
      refine (unhide HX _).mono ?_
      rintro e w' ⟨rfl, rfl⟩
      go_wp2_with fail
      refine (unhide HY _).mono ?_
      rintro e w' ⟨rfl, rfl⟩
      go_wp2_with fail
      all_goals
        go_meet
        case rel => first | exact ⟨rfl, rfl, rfl⟩ | exact ⟨congrArg (Value.int .i64) (by omega), congrArg (Value.int .i64) (by omega), rfl⟩ | (obtain rfl : a = b := (by omega); exact ⟨rfl, rfl, rfl⟩)
  case rest =>
    obtain ⟨rfl, rfl, rfl⟩ := hcut
    clear hab
    go_wp2
    go_ret
    exact ⟨rfl, 0, rfl⟩

set_option maxRecDepth 100000 in
set_option maxHeartbeats 1000000 in
theorem refAdd_far (x y c1 c2 a b : Nat) (w : World) (m f d n : Nat) (hd : 26 ≤ d) (hf : f + d ≤ 254) (ha : a < 2139095040)
    (hab : (c1 < c2 ∧ a = c2 ∧ b = c1) ∨ (¬ c1 < c2 ∧ a = c1 ∧ b = c2))
    (HX : Hid (∀ w, Calls Tryz.prog 83 #[.int .u32 (x : Int)] w fun e w' => e = .returned (.int .i64 (c1 : Int)) ∧ w' = w))
    (HY : Hid (∀ w, Calls Tryz.prog 83 #[.int .u32 (y : Int)] w fun e w' => e = .returned (.int .i64 (c2 : Int)) ∧ w' = w))
    (HP1 : Hid (∀ w, Calls Tryz.prog 84 #[.int .i64 (a : Int)] w fun e w' => e = .returned (.tuple #[.int .i64 (m : Int), .int .i64 ((f : Int) + (d : Int))]) ∧ w' = w))
    (HP2 : Hid (∀ w, Calls Tryz.prog 84 #[.int .i64 (b : Int)] w fun e w' => e = .returned (.tuple #[.int .i64 (n : Int), .int .i64 (f : Int)]) ∧ w' = w)) :
    Calls Tryz.prog 50 #[.int .u32 (x : Int), .int .u32 (y : Int)] w fun e w' => e = .returned (.int .u32 (a : Int)) ∧ ∃ nq, w' = w.drewN nq := by
  go_enter Tryz.func50, Tryz.ntmps50
  go_upto_region 1 with fail
  go_cut [5, 6] from 16 (fun s5 s6 w1 => s5 = .int .i64 (a : Int) ∧ s6 = .int .i64 (b : Int) ∧ w1 = w)
  case first =>
    rcases hab with ⟨h, rfl, rfl⟩ | ⟨h, rfl, rfl⟩
    all_goals
      go_wp2_with fail
      refine (unhide HX _).mono ?_
      rintro e w' ⟨rfl, rfl⟩
      go_wp2_with fail
      refine (unhide HY _).mono ?_
      rintro e w' ⟨rfl, rfl⟩
      go_wp2_with fail
      refine (unhide HX _).mono ?_
      rintro e w' ⟨rfl, rfl⟩
      go_wp2_with fail
      refine (unhide HY _).mono ?_
      rintro e w' ⟨rfl, rfl⟩
      go_wp2_with fail
      all_goals
        go_meet
        case rel => first | exact ⟨rfl, rfl, rfl⟩ | exact ⟨congrArg (Value.int .i64) (by omega), congrArg (Value.int .i64) (by omega), rfl⟩ | (obtain rfl : a = b := (by omega); exact ⟨rfl, rfl, rfl⟩)
  case rest =>
    obtain ⟨rfl, rfl, rfl⟩ := hcut
    clear hab
    have hne : ((a : Int) == 2139095040) = false := by simp; omega
    go_wp2_with fail
    refine (unhide HP1 _).mono ?_
    rintro e w' ⟨rfl, rfl⟩
    go_wp2_with fail
    refine (unhide HP2 _).mono ?_
    rintro e w' ⟨rfl, rfl⟩
    go_wp2
    go_ret
    exact ⟨rfl, 0, rfl⟩

end Go.Proofs.YtagibmgbjhemkaaGreat

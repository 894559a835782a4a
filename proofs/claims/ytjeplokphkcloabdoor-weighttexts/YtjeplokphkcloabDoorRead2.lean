/- The walk of the reference's Read; texts of another length; what is read back. -/
import Derived.Test.YtjeplokphkcloabDoorRead1
import Derived.Deep.DeepCutAuto
namespace Go.Proofs.YtjeplokphkcloabDoor
open Go.RowKit

theorem small_of {g : Nat → Nat} {k v : Nat} (hk : k < 8) (h : pv g k = some v) : v < 268435456 := by
  have h1 := pv_lt h
  have h2 := Nat.pow_le_pow_right (n := 16) (by omega) (show k ≤ 7 by omega)
  omega

set_option maxHeartbeats 1000000 in
theorem refRead_8 (s : ByteArray) (g : Nat → Nat) (hs : s.size = 8) (hg : ∀ k (h : k < s.size), (s[k]).toNat = g k) (w : World) :
    Calls Tryd.prog 9 #[.string s] w fun e w' => e = .returned (.tuple #[.int .u32 (rdW g : Int), .int .i64 (rdE g)]) ∧ w' = w := by
  have HG := hide hg
  clear hg
  go_enter Tryd.func9, Tryd.ntmps9
  go_wp2
  go_loop [4, 5] (fun tb ti => ∃ k v : Nat, k ≤ 8 ∧ pv g k = some v ∧ tb = .int .i64 (v : Int) ∧ ti = .int .i64 (k : Int)) (fun _ ti => 8 - (intOf ti).toNat)
  case atStart => exact ⟨0, 0, by omega, rfl, rfl, rfl⟩
  case round =>
    obtain ⟨k, v, hk, hv, rfl, rfl⟩ := hrel
    have hvk := pv_lt hv
    by_cases hlt : k < 8
    · have hks : k < s.size := by omega
      have HN : Hid (pv g (k + 1) = (digV (g k)).map fun d => 16 * v + d) := by show _ = _; unfold pv; rw [hv]; rfl
      have HVK := hide hv
      clear hv hvk
      go_upto_region 8 with fail
      have hgk := unhide HG k hks
      have hn : g k < 256 := by rw [← hgk]; exact (s[k]).toNat_lt
      rw [hgk]
      clear hgk
      generalize g k = n at HN hn ⊢
      rw [wrap_small (n : Int) (by omega) (by omega)]
      by_cases h1 : 48 ≤ n ∧ n ≤ 57
      · have a : (48 : Int) ≤ (n : Int) := by omega
        have b : (n : Int) ≤ 57 := by omega
        have hd : digV n = some (n - 48) := by unfold digV; rw [if_pos h1]
        rw [hd] at HN
        clear hd h1
        go_wp2
        go_round
        case rel =>
          have hv16 := small_of hlt (unhide HVK)
          exact ⟨k + 1, 16 * v + (n - 48), by omega, unhide HN, congrArg (Value.int .i64) (by (try unfold wrap64); omega), by go_num⟩
        case measure => simp [intOf]; omega
      · by_cases h2 : 97 ≤ n ∧ n ≤ 102
        · have a0 : (48 : Int) ≤ (n : Int) := by omega
          have b0 : ¬ (n : Int) ≤ 57 := by omega
          have a : (97 : Int) ≤ (n : Int) := by omega
          have b : (n : Int) ≤ 102 := by omega
          have hd : digV n = some (n - 97 + 10) := by unfold digV; rw [if_neg h1, if_pos h2]
          rw [hd] at HN
          clear hd h1 h2
          go_wp2
          go_round
          case rel =>
            have hv16 := small_of hlt (unhide HVK)
            exact ⟨k + 1, 16 * v + (n - 97 + 10), by omega, unhide HN, congrArg (Value.int .i64) (by (try unfold wrap64); omega), by go_num⟩
          case measure => simp [intOf]; omega
        · have hd : digV n = none := by unfold digV; rw [if_neg h1, if_neg h2]
          rw [hd] at HN
          have h8 : pv g 8 = none := by
            have := pv_none (unhide HN) (7 - k)
            rwa [show k + 1 + (7 - k) = 8 by omega] at this
          have H8 := hide h8
          clear hd h8
          by_cases h3 : 48 ≤ n
          · by_cases h4 : 97 ≤ n
            · have a0 : (48 : Int) ≤ (n : Int) := by omega
              have b0 : ¬ (n : Int) ≤ 57 := by omega
              have a1 : (97 : Int) ≤ (n : Int) := by omega
              have a : ¬ (n : Int) ≤ 102 := by omega
              clear h1 h2 h3 h4
              go_wp2
              go_ret2
              unfold rdW rdE
              rw [unhide H8]
              exact ⟨rfl, rfl⟩
            · have a0 : (48 : Int) ≤ (n : Int) := by omega
              have a : ¬ (n : Int) ≤ 57 := by omega
              have b : ¬ (97 : Int) ≤ (n : Int) := by omega
              clear h1 h2 h3 h4
              go_wp2
              go_ret2
              unfold rdW rdE
              rw [unhide H8]
              exact ⟨rfl, rfl⟩
          · have a : ¬ (48 : Int) ≤ (n : Int) := by omega
            have b : ¬ (97 : Int) ≤ (n : Int) := by omega
            clear h1 h2 h3
            go_wp2
            go_ret2
            unfold rdW rdE
            rw [unhide H8]
            exact ⟨rfl, rfl⟩
    · obtain rfl : k = 8 := by omega
      have HA := hide (refAdmit_nat v)
      have HV := hide hv
      have hvi : (v : Int) < 4294967296 := by omega
      clear hv hlt hk hvk
      go_wp2_with fail
      refine (unhide HA _).mono ?_
      rintro e w' ⟨rfl, rfl⟩
      go_wp2
      go_ret2
      unfold rdW rdE
      rw [unhide HV]
      exact ⟨rfl, rfl⟩

theorem read_bad (s : ByteArray) (hs : ((s.size : Int) == 8) = false) (w : World) :
    Calls Tryd.prog 8 #[.string s] w fun e w' => e = .returned (.tuple #[.float .f32 0, .int .i64 10]) ∧ w' = w := by
  go_enter Tryd.func8, Tryd.ntmps8
  go_wp2
  go_ret2
  exact ⟨rfl, rfl⟩
theorem refRead_bad (s : ByteArray) (hs : ((s.size : Int) == 8) = false) (w : World) :
    Calls Tryd.prog 9 #[.string s] w fun e w' => e = .returned (.tuple #[.int .u32 0, .int .i64 10]) ∧ w' = w := by
  go_enter Tryd.func9, Tryd.ntmps9
  go_wp2
  go_ret2
  exact ⟨rfl, rfl⟩

/-- What is written is read back. -/
theorem digV_hex : ∀ d : Fin 16, digV (hexDig d.val).toNat = some d.val := by decide
theorem pv_hexs (u : Nat) (hu : u < 4294967296) : ∀ k, k ≤ 8 → pv (fun j => ((hexs 8 u).getD j 0).toNat) k = some (u / 16 ^ (8 - k))
  | 0, _ => by
    have : u / 16 ^ 8 = 0 := Nat.div_eq_of_lt (by omega)
    simp [pv, this]
  | k + 1, hk => by
    have ih := pv_hexs u hu k (by omega)
    unfold pv
    rw [ih]
    have e : (hexs 8 u).getD k 0 = hexDig (u / 16 ^ (7 - k) % 16) := by
      have := hexs_at 8 u k (by simp [hexs]; omega)
      rw [List.getD, List.getElem?_eq_getElem (by simp [hexs]; omega), Option.getD_some, this]
    simp only [e, Option.bind_some]
    rw [digV_hex ⟨u / 16 ^ (7 - k) % 16, Nat.mod_lt _ (by omega)⟩]
    simp only [Option.map_some]
    congr 1
    rw [show 8 - k = (7 - k) + 1 by omega, show 8 - (k + 1) = 7 - k by omega, Nat.pow_succ, ← Nat.div_div_eq_div_mul]
    omega
end Go.Proofs.YtjeplokphkcloabDoor

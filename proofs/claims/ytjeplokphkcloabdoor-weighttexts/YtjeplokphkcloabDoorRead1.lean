/- The walks of weight.Read and of the reference's Read. -/
import Derived.Test.YtjeplokphkcloabDoorTexts1
namespace Go.Proofs.YtjeplokphkcloabDoor
open Go.RowKit

/-- What a byte means as a digit. -/
def digV (n : Nat) : Option Nat := if 48 ≤ n ∧ n ≤ 57 then some (n - 48) else if 97 ≤ n ∧ n ≤ 102 then some (n - 97 + 10) else none
theorem digV_lt {n d : Nat} (h : digV n = some d) : d < 16 := by
  unfold digV at h
  split at h
  · injection h; omega
  · split at h
    · injection h; omega
    · cases h
/-- The number of the first k bytes. -/
def pv (g : Nat → Nat) : Nat → Option Nat
  | 0 => some 0
  | k + 1 => (pv g k).bind fun v => (digV (g k)).map fun d => 16 * v + d
theorem pv_none {g : Nat → Nat} {k : Nat} (h : pv g k = none) : ∀ j, pv g (k + j) = none
  | 0 => h
  | j + 1 => by rw [← Nat.add_assoc]; unfold pv; rw [pv_none h j]; rfl
theorem pv_lt {g : Nat → Nat} : ∀ {k v : Nat}, pv g k = some v → v < 16 ^ k
  | 0, v, h => by simp [pv] at h; omega
  | k + 1, v, h => by
    simp only [pv, Option.bind_eq_some_iff, Option.map_eq_some_iff] at h
    obtain ⟨u, hu, d, hd, rfl⟩ := h
    have := pv_lt hu
    have := digV_lt hd
    rw [Nat.pow_succ]; omega

theorem digit_any (n : Nat) (hn : n < 256) (w : World) :
    Calls Tryd.prog 19 #[.int .u8 (n : Int)] w fun e w' => e = .returned (.tuple #[.int .u32 (((digV n).getD 0 : Nat) : Int), .bool (digV n).isSome]) ∧ w' = w := by
  unfold digV
  have hni : (n : Int) < 256 := by omega
  clear hn
  by_cases h1 : 48 ≤ n ∧ n ≤ 57
  · rw [if_pos h1]
    have a : (48 : Int) ≤ (n : Int) := by omega
    have b : (n : Int) ≤ 57 := by omega
    have e : ((((some (n - 48)).getD 0 : Nat)) : Int) = (n : Int) - 48 := by simp; omega
    rw [e]
    clear h1 e
    go_enter Tryd.func19, Tryd.ntmps19
    go_wp2
    go_ret2
    exact ⟨rfl, rfl⟩
  · rw [if_neg h1]
    by_cases h2 : 97 ≤ n ∧ n ≤ 102
    · rw [if_pos h2]
      have a0 : (48 : Int) ≤ (n : Int) := by omega
      have b0 : ¬ (n : Int) ≤ 57 := by omega
      have a : (97 : Int) ≤ (n : Int) := by omega
      have b : (n : Int) ≤ 102 := by omega
      have e : ((((some (n - 97 + 10)).getD 0 : Nat)) : Int) = (n : Int) - 97 + 10 := by simp; omega
      rw [e]
      clear h1 h2 e
      go_enter Tryd.func19, Tryd.ntmps19
      go_wp2
      go_ret2
      exact ⟨rfl, rfl⟩
    · rw [if_neg h2]
      by_cases h3 : 48 ≤ n
      · by_cases h4 : 97 ≤ n
        · have a0 : (48 : Int) ≤ (n : Int) := by omega
          have b0 : ¬ (n : Int) ≤ 57 := by omega
          have a1 : (97 : Int) ≤ (n : Int) := by omega
          have a : ¬ (n : Int) ≤ 102 := by omega
          clear h1 h2 h3 h4
          go_enter Tryd.func19, Tryd.ntmps19
          go_wp2
          go_ret2
          exact ⟨rfl, rfl⟩
        · have a0 : (48 : Int) ≤ (n : Int) := by omega
          have a : ¬ (n : Int) ≤ 57 := by omega
          have b : ¬ (97 : Int) ≤ (n : Int) := by omega
          clear h1 h2 h3 h4
          go_enter Tryd.func19, Tryd.ntmps19
          go_wp2
          go_ret2
          exact ⟨rfl, rfl⟩
      · have a : ¬ (48 : Int) ≤ (n : Int) := by omega
        have b : ¬ (97 : Int) ≤ (n : Int) := by omega
        clear h1 h2 h3
        go_enter Tryd.func19, Tryd.ntmps19
        go_wp2
        go_ret2
        exact ⟨rfl, rfl⟩

theorem or_digit {v d : Nat} (hv : v < 268435456) (hd : d < 16) : bits BinOp.or IntKind.u32 ((v : Int) * 16 % 4294967296) (d : Int) = ((16 * v + d : Nat) : Int) := by
  have e1 : (v : Int) * 16 % 4294967296 = ((16 * v : Nat) : Int) := by omega
  rw [e1]
  have h1 : (BitVec.ofInt 32 ((16 * v : Nat) : Int)).toNat = 16 * v := by
    rw [BitVec.ofInt_natCast, BitVec.toNat_ofNat]; exact Nat.mod_eq_of_lt (by omega)
  have h2 : (BitVec.ofInt 32 (d : Int)).toNat = d := by
    rw [BitVec.ofInt_natCast, BitVec.toNat_ofNat]; exact Nat.mod_eq_of_lt (by omega)
  show IntKind.u32.wrap ((BitVec.ofInt 32 ((16 * v : Nat) : Int) ||| BitVec.ofInt 32 (d : Int)).toNat : Int) = _
  rw [BitVec.toNat_or, h1, h2]
  have h3 : 16 * v ||| d = 16 * v + d := (Nat.two_pow_add_eq_or_of_lt (i := 4) (by omega) v).symm
  rw [h3]
  simp only [IntKind.wrap, IntKind.signed, IntKind.bits]
  simp
  omega

/-- What Read answers of eight bytes. -/
def rdW (g : Nat → Nat) : Nat := match pv g 8 with | some v => admW v | none => 0
def rdE (g : Nat → Nat) : Int := match pv g 8 with | some v => admE v | none => 10

set_option maxHeartbeats 1000000 in
theorem read_8 (s : ByteArray) (g : Nat → Nat) (hs : s.size = 8) (hg : ∀ k (h : k < s.size), (s[k]).toNat = g k) (w : World) :
    Calls Tryd.prog 8 #[.string s] w fun e w' => e = .returned (.tuple #[.float .f32 (rdW g), .int .i64 (rdE g)]) ∧ w' = w := by
  have HG := hide hg
  clear hg
  go_enter Tryd.func8, Tryd.ntmps8
  go_wp2
  go_loop [4, 11] (fun tb ti => ∃ k v : Nat, k ≤ 8 ∧ pv g k = some v ∧ tb = .int .u32 (v : Int) ∧ ti = .int .i64 (k : Int)) (fun _ ti => 8 - (intOf ti).toNat)
  case atStart => exact ⟨0, 0, by omega, rfl, rfl, rfl⟩
  case round =>
    obtain ⟨k, v, hk, hv, rfl, rfl⟩ := hrel
    by_cases hlt : k < 8
    · have hks : k < s.size := by omega
      have hgk := unhide HG k hks
      have hn : g k < 256 := by rw [← hgk]; exact (s[k]).toNat_lt
      have hgi : (((s[k]).toNat : Nat) : Int) = (g k : Int) := by rw [hgk]
      have HD := hide (digit_any (g k) hn)
      have HV := hide hv
      have HN : Hid (pv g (k + 1) = (digV (g k)).map fun d => 16 * v + d) := by show _ = _; unfold pv; rw [hv]; rfl
      generalize g k = n at hgi HD HN
      have hv16 : v < 268435456 := by
        have h1 := pv_lt hv
        have h2 := Nat.pow_le_pow_right (n := 16) (by omega) (show k ≤ 7 by omega)
        omega
      clear hgk hn hv
      cases hd : digV n with
      | some d =>
        rw [hd] at HD HN
        have hd16 := digV_lt hd
        clear hd
        go_wp2_with fail
        refine (unhide HD _).mono ?_
        rintro e w' ⟨rfl, rfl⟩
        have hor : bits BinOp.or IntKind.u32 ((v : Int) * 16 % 4294967296) (d : Int) = ((16 * v + d : Nat) : Int) := or_digit hv16 hd16
        have HO := hide hor
        clear hor hv16
        go_wp2
        go_round
        case rel => exact ⟨k + 1, 16 * v + d, by omega, unhide HN, by rw [unhide HO], by go_num⟩
        case measure => simp [intOf]; omega
      | none =>
        rw [hd] at HD HN
        clear hd
        go_wp2_with fail
        refine (unhide HD _).mono ?_
        rintro e w' ⟨rfl, rfl⟩
        go_wp2
        go_ret2
        have h8 : pv g 8 = none := by
          have := pv_none (unhide HN) (7 - k)
          rwa [show k + 1 + (7 - k) = 8 by omega] at this
        unfold rdW rdE
        rw [h8]
        exact ⟨rfl, rfl⟩
    · obtain rfl : k = 8 := by omega
      have HA := hide (admit_nat v)
      have HV := hide hv
      clear hv hlt hk
      go_wp2_with fail
      refine (unhide HA _).mono ?_
      rintro e w' ⟨rfl, rfl⟩
      go_wp2
      go_ret2
      unfold rdW rdE
      rw [unhide HV]
      exact ⟨rfl, rfl⟩
end Go.Proofs.YtjeplokphkcloabDoor

/- The walks of weight.Text and of the reference's Text. -/
import Derived.Test.YtjeplokphkcloabDoorAwake
import Derived.Test.YtjeplokphkcloabDoorShelf
import Derived.Lib.Repeat
namespace Go.Proofs.YtjeplokphkcloabDoor
open Go.RowKit

/-- The word that is written of a float of these bits. -/
def wordOf (b : Nat) : Nat := if M.nan b then 2143289344 else b
theorem wordOf_lt {b : Nat} (h : b < 4294967296) : wordOf b < 4294967296 := by unfold wordOf; split <;> omega
theorem bitsB_word {b : Nat} (h : b < 4294967296) : bitsB b = (wordOf b : Int) := by rw [bitsB_eq h]; unfold wordOf; split <;> rfl

theorem hexs_length (n u : Nat) : (hexs n u).length = n := by simp [hexs]
theorem hexs_succ (n u : Nat) : hexs (n + 1) u = hexDig (u / 16 ^ n % 16) :: hexs n u := by
  unfold hexs
  rw [List.range_succ_eq_map]
  simp only [List.map_cons, List.map_map, Nat.add_sub_cancel, Nat.sub_zero]
  congr 1
  apply List.map_congr_left
  intro j hj
  simp only [Function.comp]
  congr 4
  omega
theorem hexs_lead (n u c : Nat) (h : u < 16 ^ n) : hexs (c + n) u = Lib.repeatL [48] c ++ hexs n u := by
  induction c with
  | zero => simp [Lib.repeatL]
  | succ c ih =>
    rw [show c + 1 + n = (c + n) + 1 by omega, hexs_succ, ih]
    have hp := Nat.pow_le_pow_right (n := 16) (by omega) (show n ≤ c + n by omega)
    rw [Nat.div_eq_of_lt (by omega)]
    rfl

set_option maxHeartbeats 400000 in
theorem text_any (b : Nat) (hb : b < 4294967296) (w : World) (hc : w.cell? ⟨4, 15, none⟩ = some (.int .u8 4)) :
    Calls Tryd.prog 5 #[.float .f32 b] w fun e w' => e = .returned (.string ⟨(hexs 8 (wordOf b)).toArray⟩) ∧ Below w.heap.size w w' := by
  have h4 : 4 < w.heap.size := World.block_lt_of_cell? _ _ hc
  have hu := wordOf_lt hb
  have HB : Hid (∀ w, Calls Tryd.prog 14 #[.float .f32 b] w fun e w' => e = .returned (.int .u32 (wordOf b : Int)) ∧ w' = w) := fun w => by
    have := bits_any b w
    rwa [bitsB_word hb] at this
  generalize wordOf b = u at *
  have HF := hide (strconvFormatUint_16 u hu w hc h4)
  have hu2 : (u : Int) < 4294967296 := by omega
  clear hu hb
  go_enter Tryd.func5, Tryd.ntmps5
  go_wp2_with fail
  refine (unhide HB _).mono ?_
  rintro e w' ⟨rfl, rfl⟩
  go_wp2_with fail
  refine (unhide HF).mono ?_
  rintro e w' ⟨n, rfl, h1, h2, -, A, rfl⟩
  have HR : Hid (∀ w, Calls Tryd.prog 16 #[.string ⟨#[48]⟩, .int .i64 (8 - ((n : Int) + 1))] w fun e w' => e = .returned (.string ⟨(Lib.repeatL [48] (7 - n)).toArray⟩) ∧ Below w.heap.size w w') := fun w => by
    rw [show (8 - ((n : Int) + 1)) = ((7 - n : Nat) : Int) by omega]
    exact Tryd.strings_Repeat ⟨#[48]⟩ (7 - n) w (by omega) (by show 1 * (7 - n) ≤ _; omega)
  have hl := hexs_length (n + 1) u
  have hr : (Lib.repeatL [48] (7 - n)).length = 7 - n := by rw [Lib.repeatL_length]; simp
  have HH := hide (hexs_lead (n + 1) u (7 - n) h2)
  clear h2
  go_wp2_with fail
  refine (unhide HR _).mono ?_
  rintro e w1 ⟨rfl, hbel⟩
  go_wp2
  go_ret
  refine ⟨?_, ((Below.refl _ _).alloc (Nat.le_refl _) _).trans (hbel.mono (by simp))⟩
  rw [ByteArray.mk_append_mk, ← unhide HH, show 7 - n + (n + 1) = 8 by omega]
  rfl

/-- The letter of a digit, as the reference makes it. -/
theorem hexDig_lo {d : Nat} (h : d < 10) : ((hexDig d).toNat : Int) = 48 + (d : Int) := by
  unfold hexDig; rw [if_pos h]; simp; omega
theorem hexDig_hi {d : Nat} (h : ¬ d < 10) (h2 : d < 16) : ((hexDig d).toNat : Int) = 97 + (d : Int) - 10 := by
  unfold hexDig; rw [if_neg h]; simp; omega

theorem conv_byte (c : UInt8) (w : World) :
    (convert 42 9 (.slice (some ⟨w.heap.size, 0, none⟩) 1 1)).run Tryd.prog (w.alloc (.cells #[.int .u8 (c.toNat : Int)] 5)) = .ok (.string ⟨#[c]⟩) (w.alloc (.cells #[.int .u8 (c.toNat : Int)] 5)) :=
  run_convert_bytes_back (P := Tryd.prog) _ 42 9 5 ⟨w.heap.size, 0, none⟩ 1 [c] (by kernel_rfl) (by kernel_rfl) (by kernel_rfl) (fun j hj => by
    obtain rfl : j = 0 := by simpa using hj
    simp [Addr.add])

theorem wrap_small (z : Int) (h1 : 0 ≤ z) (h2 : z < 9223372036854775807) : wrap64 z = z := by unfold wrap64; omega

set_option maxHeartbeats 1000000 in
theorem refText_any (b : Nat) (hb : b < 4294967296) (w : World) :
    Calls Tryd.prog 7 #[.int .u32 (b : Int)] w fun e w' => e = .returned (.string ⟨(hexs 8 (wordOf b)).toArray⟩) ∧ Below w.heap.size w w' := by
  have hu := wordOf_lt hb
  have HB : Hid (∀ w, Calls Tryd.prog 18 #[.int .u32 (b : Int)] w fun e w' => e = .returned (.int .u32 (wordOf b : Int)) ∧ w' = w) := fun w => by
    have := refBits_nat b w
    rwa [show (if M.nan b then 2143289344 else (b : Int)) = (wordOf b : Int) by unfold wordOf; split <;> rfl] at this
  generalize wordOf b = u at *
  clear hb
  go_enter Tryd.func7, Tryd.ntmps7
  go_wp2_with fail
  refine (unhide HB _).mono ?_
  rintro e w' ⟨rfl, rfl⟩
  have hu2 : (u : Int) < 4294967296 := by omega
  go_wp2_with fail
  go_loopw [3, 4, 5] (fun ts tn ti wr => ∃ k : Nat, k ≤ 8 ∧ ts = .string ⟨(hexs k u).toArray⟩ ∧ tn = .int .i64 ((u / 16 ^ k : Nat) : Int) ∧ ti = .int .i64 (k : Int) ∧ Below w'.heap.size w' wr) (fun _ _ ti _ => 8 - (intOf ti).toNat)
  case atStart => exact ⟨0, by omega, rfl, by simp, rfl, Below.refl _ _⟩
  case round =>
    obtain ⟨k, hk, rfl, rfl, rfl, hbel⟩ := hrel
    have hxu : u / 16 ^ k < 4294967296 := Nat.lt_of_le_of_lt (Nat.div_le_self _ _) hu
    have HX := hide (show u / 16 ^ (k + 1) = u / 16 ^ k / 16 by rw [Nat.pow_succ, ← Nat.div_div_eq_div_mul])
    have HS := hide (hexs_succ k u)
    have hl : (hexs k u).length ≤ 8 := by rw [hexs_length]; exact hk
    generalize u / 16 ^ k = x at *
    by_cases hlt : k < 8
    · have hx2 : (x : Int) < 4294967296 := by omega
      have hm : ((x % 16 : Nat) : Int) = (x : Int) % 16 := by simp
      obtain ⟨d, hd⟩ : ∃ d, x % 16 = d := ⟨_, rfl⟩
      have hd16 : d < 16 := by omega
      have hmd : (x : Int) % 16 = (d : Int) := by rw [← hm, hd]
      rw [hd] at HS
      have HC := hide (conv_byte (hexDig d))
      clear hm hd
      by_cases h10 : d < 10
      · have hi10 : ¬ (9 : Int) < (d : Int) := by omega
        have hcv : ∀ w : World, (convert 42 9 (.slice (some ⟨w.heap.size, 0, none⟩) 1 1)).run Tryd.prog (w.alloc (.cells #[.int .u8 (48 + (d : Int))] 5)) = .ok (.string ⟨#[hexDig d]⟩) (w.alloc (.cells #[.int .u8 (48 + (d : Int))] 5)) := by
          rw [← hexDig_lo h10]; exact unhide HC
        have HXU := hide hxu
        clear hx2 hxu hu hu2
        go_wp2
        go_roundw
        case rel => exact ⟨k + 1, by omega, by rw [unhide HS]; exact congrArg Value.string (ByteArray.mk_append_mk [hexDig d] (hexs k u)), by rw [unhide HX, wrap_small _ (by have := unhide HXU; omega) (by have := unhide HXU; omega)]; go_num, by go_num, hbel.alloc hbel.size _⟩
        case measure => simp [intOf]; omega
      · have hi10 : (9 : Int) < (d : Int) := by omega
        have hcv : ∀ w : World, (convert 42 9 (.slice (some ⟨w.heap.size, 0, none⟩) 1 1)).run Tryd.prog (w.alloc (.cells #[.int .u8 (97 + (d : Int) - 10)] 5)) = .ok (.string ⟨#[hexDig d]⟩) (w.alloc (.cells #[.int .u8 (97 + (d : Int) - 10)] 5)) := by
          rw [← hexDig_hi h10 hd16]; exact unhide HC
        have HXU := hide hxu
        clear hx2 hxu hu hu2
        go_wp2
        go_roundw
        case rel => exact ⟨k + 1, by omega, by rw [unhide HS]; exact congrArg Value.string (ByteArray.mk_append_mk [hexDig d] (hexs k u)), by rw [unhide HX, wrap_small _ (by have := unhide HXU; omega) (by have := unhide HXU; omega)]; go_num, by go_num, hbel.alloc hbel.size _⟩
        case measure => simp [intOf]; omega
    · obtain rfl : k = 8 := by omega
      clear hlt hl hk HS HX
      go_wp2
      go_ret
      exact ⟨rfl, hbel⟩
end Go.Proofs.YtjeplokphkcloabDoor

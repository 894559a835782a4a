/- strconv.FormatUint at base 16. -/
import Derived.Test.YtjeplokphkcloabDoorLeaf
import Derived.Lib.LaidTab
namespace Go.Proofs.YtjeplokphkcloabDoor
open Go.RowKit

set_option maxHeartbeats 400000 in
theorem pow2_16 (w : World) : Calls Tryd.prog 44 #[.int .i64 16] w fun e w' => e = .returned (.bool true) ∧ w' = w := by
  go_enter Tryd.func44, Tryd.ntmps44
  go_wp2
  go_ret
  exact ⟨rfl, rfl⟩

theorem tz_key : IntKind.u64.wrap (bits BinOp.and IntKind.u64 16 (IntKind.u64.wrap (-16)) * 285870213051353865) / 288230376151711744 = 15 := by kernel_rfl
set_option maxHeartbeats 400000 in
theorem tz64_16 (w : World) (hc : w.cell? ⟨4, 15, none⟩ = some (.int .u8 4)) : Calls Tryd.prog 49 #[.int .u64 16] w fun e w' => e = .returned (.int .i64 4) ∧ w' = w := by
  have key := tz_key
  go_enter Tryd.func49, Tryd.ntmps49
  go_wp2_with (simp only [key])
  go_ret
  exact ⟨rfl, rfl⟩

set_option maxHeartbeats 400000 in
theorem tz_16 (w : World) (hc : w.cell? ⟨4, 15, none⟩ = some (.int .u8 4)) : Calls Tryd.prog 45 #[.int .u64 16] w fun e w' => e = .returned (.int .i64 4) ∧ w' = w := by
  go_enter Tryd.func45, Tryd.ntmps45
  go_wp2_with (go_at_call 49; refine (tz64_16 _ hc).mono ?_; rintro e w' ⟨rfl, rfl⟩)
  go_ret
  exact ⟨rfl, rfl⟩

/-- The letter of a hexadecimal digit. -/
def hexDig (d : Nat) : UInt8 := if d < 10 then UInt8.ofNat (48 + d) else UInt8.ofNat (87 + d)
/-- The n lowest digits of u, the highest first. -/
def hexs (n u : Nat) : List UInt8 := (List.range n).map fun j => hexDig (u / 16 ^ (n - 1 - j) % 16)

theorem and15 (x : Nat) (h : x < 4294967296) : bits BinOp.and IntKind.u64 (x : Int) 15 = ((x % 16 : Nat) : Int) := by
  have := bits_and_u64_nat x 15 (by omega) (by omega)
  rw [show ((15 : Nat) : Int) = 15 from rfl] at this
  rw [this]
  congr 1
  exact Nat.and_two_pow_sub_one_eq_mod x 4

def digs : ByteArray := { data := #[48, 49, 50, 51, 52, 53, 54, 55, 56, 57, 97, 98, 99, 100, 101, 102, 103, 104, 105, 106, 107, 108, 109, 110, 111, 112, 113, 114, 115, 116, 117, 118, 119, 120, 121, 122] }
theorem digs_nat : ∀ d : Fin 16, ∀ h : d.val < digs.size, digs[d.val].toNat = (hexDig d.val).toNat := by decide
theorem digs_at (n : Int) (d : Nat) (h : n = d) (hd : d < 16) (hlt : n.toNat < digs.size) : (digs[n.toNat].toNat : Int) = ((hexDig d).toNat : Int) := by
  subst h
  simp only [Int.toNat_natCast] at hlt ⊢
  exact congrArg _ (digs_nat ⟨d, hd⟩ hlt)

theorem underArr : Tryd.prog.underlying 77 = some (.array (Tryd.prog.arrayLen 77) (Tryd.prog.elem 77)) := by kernel_rfl
theorem lenArr : Tryd.prog.arrayLen 77 = 65 := by kernel_rfl
theorem sizeArr (w : World) : (sizeOf (Tryd.prog.elem 77)).run Tryd.prog w = .ok 1 w := by kernel_rfl
theorem sliceArr (b k : Nat) (hk : k ≤ 7) (w : World) : (Instr.sliceAt 77 (.pointer (some ⟨b, 0, none⟩)) (some (.int .i64 (((65 - k : Nat) : Int) - 1))) none none).run Tryd.prog w =
    .ok (.slice (some ⟨b, 64 - k, none⟩) (k + 1) (k + 1)) w := by
  rw [run_sliceAt_array_l w 77 _ underArr .i64 _ (by omega) (by rw [lenArr]; omega), sizeArr, lenArr]
  simp only [Result.andThen, slicedAt]
  rw [show (((65 - k : Nat) : Int) - 1).toNat = 64 - k by omega, if_neg (by omega), show 65 - (64 - k) = k + 1 by omega]
  simp [Addr.add]
  intro _; omega

theorem hexs_at (n u j : Nat) (h' : j < (hexs n u).length) : (hexs n u)[j] = hexDig (u / 16 ^ (n - 1 - j) % 16) := by
  simp [hexs]
theorem convArr (b k u : Nat) (w : World) (A : Array Value) (hb : b = w.heap.size)
    (h : ∀ j, j < k + 1 → A[64 - j]? = some (.int .u8 ((hexDig (u / 16 ^ j % 16)).toNat : Int))) (hk : k ≤ 7) :
    (convert 42 9 (.slice (some ⟨b, 64 - k, none⟩) (k + 1) (k + 1))).run Tryd.prog (w.alloc (.cells A 77)) = .ok (.string ⟨(hexs (k + 1) u).toArray⟩) (w.alloc (.cells A 77)) := by
  subst hb
  have := run_convert_bytes_back (P := Tryd.prog) (w.alloc (.cells A 77)) 42 9 5 ⟨w.heap.size, 64 - k, none⟩ (k + 1) (hexs (k + 1) u) (by kernel_rfl) (by kernel_rfl) (by kernel_rfl) (fun j hj => by
    have hj' : j < k + 1 := by simpa [hexs] using hj
    rw [hexs_at]
    have := h (k - j) (by omega)
    rw [show k + 1 - 1 - j = k - j by omega, ← this]
    simp only [Addr.add]
    split
    · rw [World.cell?_alloc_at _ _ _ _ rfl]
      congr 1
      omega
    · rw [World.cell?_alloc_at _ _ _ _ rfl]
      congr 1
      omega)
  rw [show (hexs (k + 1) u).length = k + 1 by simp [hexs]] at this
  exact this

/-- The zero value of [65]uint8 (the loaded program gives no fact on it). -/
def zero65 : Array Value := (List.replicate 65 (Value.int .u8 0)).toArray
theorem zero65_size : zero65.size = 65 := by simp [zero65]
theorem zero65_ne : zero65 ≠ #[] := by intro h; have := congrArg Array.size h; simp [zero65] at this
theorem zeroValue65 (w : World) : Sem.run Tryd.prog (zeroValue 77) w = Result.ok (Value.agg zero65) w := by kernel_rfl

set_option maxHeartbeats 400000 in
theorem formatBits_16 (u : Nat) (hu : u < 4294967296) (w : World) (hc : w.cell? ⟨4, 15, none⟩ = some (.int .u8 4)) (h4 : 4 < w.heap.size) :
    Calls Tryd.prog 35 #[.slice none 0 0, .int .u64 (u : Int), .int .i64 16, .bool false, .bool false] w fun e w' => ∃ n : Nat, e = .returned (.tuple #[.slice none 0 0, .string ⟨(hexs (n + 1) u).toArray⟩]) ∧ n ≤ 7 ∧ u < 16 ^ (n + 1) ∧ (n = 0 ∨ 16 ^ n ≤ u) ∧ ∃ A : Array Value, w' = w.alloc (.cells A 77) := by
  have hc2 : ∀ o, (w.alloc o).cell? ⟨4, 15, none⟩ = some (.int .u8 4) := fun o => by rw [World.cell?_alloc_past _ _ _ h4, hc]
  have hzv := zeroValue65
  have hzs := zero65_size
  have hzn := zero65_ne
  go_enter Tryd.func35, Tryd.ntmps35
  go_wp2_with (first | (go_at_call 44; refine (pow2_16 _).mono ?_; rintro e w' ⟨rfl, rfl⟩) | (go_at_call 45; refine (tz_16 _ (hc2 _)).mono ?_; rintro e w' ⟨rfl, rfl⟩))
  go_loopw [1, 13] (fun tu ti wr => ∃ k : Nat, ∃ A : Array Value, k ≤ 7 ∧ tu = .int .u64 ((u / 16 ^ k : Nat) : Int) ∧ ti = .int .i64 ((65 - k : Nat) : Int) ∧ wr = w.alloc (.cells A 77) ∧ A.size = 65 ∧ (k = 0 ∨ 16 ^ k ≤ u) ∧ ∀ j, j < k → A[64 - j]? = some (.int .u8 ((hexDig (u / 16 ^ j % 16)).toNat : Int)))
    (fun tu _ _ => (intOf tu).toNat)
  case atStart => exact ⟨0, zero65, by omega, by simp, rfl, rfl, zero65_size, Or.inl rfl, fun j hj => by omega⟩
  case round =>
    obtain ⟨k, A, hk, rfl, rfl, rfl, hA, hku, hcells⟩ := hrel
    have hxu : u / 16 ^ k < 4294967296 := Nat.lt_of_le_of_lt (Nat.div_le_self _ _) hu
    have hk7 : 16 ≤ u / 16 ^ k → k ≤ 6 := by
      intro h
      apply Nat.le_of_lt_succ
      apply Nat.lt_of_le_of_ne hk
      rintro rfl
      omega
    have hst : ∃ v0, A[65 - k - 1]? = some v0 := ⟨_, Array.getElem?_eq_getElem (by omega)⟩
    obtain ⟨v0, hv0⟩ := hst
    generalize hx : u / 16 ^ k = x at hxu hk7 ⊢
    have HX := hide hx
    have HC := hide hcells
    have HU := hide hku
    clear hx hcells hku
    by_cases h16 : 16 ≤ x
    · have g1 : (16 : Int) ≤ (x : Int) := by omega
      have a15 := and15 x hxu
      have b0 : 0 ≤ bits BinOp.and IntKind.u64 (x : Int) 15 := by rw [a15]; omega
      have b1 : bits BinOp.and IntKind.u64 (x : Int) 15 < 36 := by rw [a15]; omega
      have HA := hide a15
      clear a15
      go_wp2
      go_roundw
      case rel =>
        refine ⟨k + 1, A.setIfInBounds (65 - k - 1) (.int .u8 ((hexDig (x % 16)).toNat : Int)), hk7 h16 |> Nat.succ_le_succ, ?_, ?_, ?_, ?_, ?_, ?_⟩
        · have := unhide HX
          have e : u / 16 ^ (k + 1) = x / 16 := by rw [Nat.pow_succ, ← Nat.div_div_eq_div_mul, this]
          rw [e]; go_num
        · congr 1; omega
        · rw [← digs_at _ (x % 16) (unhide HA) (by omega) (by rw [unhide HA]; show (x % 16) < 36; omega)]; rfl
        · simp [hA]
        · right
          have := unhide HX
          have h3 : 16 * 16 ^ k ≤ u := by rw [← Nat.le_div_iff_mul_le (Nat.pow_pos (by omega)), this]; exact h16
          rw [Nat.pow_succ]; omega
        · intro j hj
          by_cases hjk : j = k
          · subst hjk
            rw [unhide HX, show 64 - j = 65 - j - 1 by omega, Array.getElem?_setIfInBounds_self]
            simp [hA]; omega
          · rw [Array.getElem?_setIfInBounds_ne (by omega)]
            exact unhide HC j (by omega)
      case measure => simp [intOf]; omega
    · have g1 : ¬ (16 : Int) ≤ (x : Int) := by omega
      have g2 : (x : Int) < 36 := by omega
      have hsl := sliceArr w.heap.size k hk
      have hx36 : x < 36 := by omega
      have hval : (((({ data := #[48, 49, 50, 51, 52, 53, 54, 55, 56, 57, 97, 98, 99, 100, 101, 102, 103, 104, 105, 106, 107, 108, 109, 110, 111, 112, 113, 114, 115, 116, 117, 118, 119, 120, 121, 122] } : ByteArray)[x]'hx36).toNat : Nat) : Int) = ((hexDig x).toNat : Int) :=
        digs_at (x : Int) x rfl (by omega) (by show x < 36; omega)
      have hcv := convArr w.heap.size k u w (A.setIfInBounds (65 - k - 1) (.int .u8 ((hexDig x).toNat : Int))) rfl (fun j hj => by
        by_cases hjk : j = k
        · subst hjk
          rw [unhide HX, Nat.mod_eq_of_lt (by omega), show 64 - j = 65 - j - 1 by omega, Array.getElem?_setIfInBounds_self]
          simp [hA]; omega
        · rw [Array.getElem?_setIfInBounds_ne (by omega)]
          exact unhide HC j (by omega)) hk
      go_wp2
      go_ret2
      refine ⟨k, rfl, hk, ?_, unhide HU, _, rfl⟩
      have h1 := unhide HX
      rw [Nat.pow_succ, Nat.mul_comm, ← Nat.div_lt_iff_lt_mul (Nat.pow_pos (by omega)), h1]
      omega

set_option maxHeartbeats 400000 in
theorem formatUint_16 (u : Nat) (hu : u < 4294967296) (w : World) (hc : w.cell? ⟨4, 15, none⟩ = some (.int .u8 4)) (h4 : 4 < w.heap.size) :
    Calls Tryd.prog 23 #[.int .u64 (u : Int), .int .i64 16] w fun e w' => ∃ n : Nat, e = .returned (.string ⟨(hexs (n + 1) u).toArray⟩) ∧ n ≤ 7 ∧ u < 16 ^ (n + 1) ∧ (n = 0 ∨ 16 ^ n ≤ u) ∧ ∃ A : Array Value, w' = w.alloc (.cells A 77) := by
  go_enter Tryd.func23, Tryd.ntmps23
  go_wp2_with (go_at_call 35; refine (formatBits_16 u hu _ hc h4).mono ?_; rintro e w' ⟨n, rfl, h1, h2, h3, A, rfl⟩)
  go_ret
  exact ⟨n, rfl, h1, h2, h3, A, rfl⟩

set_option maxHeartbeats 400000 in
theorem strconvFormatUint_16 (u : Nat) (hu : u < 4294967296) (w : World) (hc : w.cell? ⟨4, 15, none⟩ = some (.int .u8 4)) (h4 : 4 < w.heap.size) :
    Calls Tryd.prog 15 #[.int .u64 (u : Int), .int .i64 16] w fun e w' => ∃ n : Nat, e = .returned (.string ⟨(hexs (n + 1) u).toArray⟩) ∧ n ≤ 7 ∧ u < 16 ^ (n + 1) ∧ (n = 0 ∨ 16 ^ n ≤ u) ∧ ∃ A : Array Value, w' = w.alloc (.cells A 77) := by
  go_enter Tryd.func15, Tryd.ntmps15
  go_wp2_with (go_at_call 23; refine (formatUint_16 u hu _ hc h4).mono ?_; rintro e w' ⟨n, rfl, h1, h2, h3, A, rfl⟩)
  go_ret
  exact ⟨n, rfl, h1, h2, h3, A, rfl⟩
end Go.Proofs.YtjeplokphkcloabDoor

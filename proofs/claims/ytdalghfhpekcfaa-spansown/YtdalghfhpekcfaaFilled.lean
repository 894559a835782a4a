/- A set of uint8 behind any Adds and Cuts. -/
import Derived.Test.YtdalghfhpekcfaaLiveU
import Derived.Deep.RegionWith
namespace Go.Proofs.Ytdalghfhpekcfaa
open Go.RowKit Go.Shelf

theorem conv_u8 (z : Int) : 0 ≤ IntKind.wrap .u8 z ∧ IntKind.wrap .u8 z ≤ 255 := by
  simp only [IntKind.wrap, IntKind.bits, IntKind.signed, Bool.false_and, Bool.false_eq_true, if_false]
  omega

set_option maxHeartbeats 1000000 in
set_option maxRecDepth 100000 in
theorem filled_some (b off len cap : Nat) (kd la ha : Nat → Int) (w : World) (_hlen : len ≤ 4398046511104)
    (hcell : ∀ i, i < len → w.cell? ⟨b, off + i * 4, none⟩ = some (.int .i64 (kd i)) ∧ w.cell? ⟨b, off + i * 4 + 2, none⟩ = some (.int .i64 (la i)) ∧ w.cell? ⟨b, off + i * 4 + 3, none⟩ = some (.int .i64 (ha i))) :
    Calls Try.prog 13 #[.slice (some ⟨b, off, none⟩) len cap] w fun e w' => ∃ p rs, e = .returned (.pointer (some ⟨p, 0, none⟩)) ∧ rs.length ≤ 40 ∧ LiveU w.heap.size w p rs w' := by
  have HC := hide hcell
  clear hcell
  go_enter Try.func13, Try.ntmps13
  go_wp2_with fail
  refine (newLU w).mono ?_
  rintro e w1 ⟨rfl, L1⟩
  obtain ⟨p, hp⟩ : ∃ p, p = w.heap.size := ⟨_, rfl⟩
  have L2 : LiveU w.heap.size w p [] w1 := by rw [hp]; exact L1
  rw [← hp]
  clear hp L1
  have HL2 := hide L2
  clear L2
  go_wp2_with fail
  go_loopw [4] (fun i wr => ∃ (k : Nat) (rs : List (Int × Int)), k ≤ len ∧ k ≤ 40 ∧ i = .int .i64 k ∧ rs.length ≤ k ∧ LiveU w.heap.size w p rs wr) (fun i _ => 40 - (intOf i).toNat)
  case atStart => exact ⟨0, [], Nat.zero_le _, by omega, rfl, Nat.le_refl _, unhide HL2⟩
  case round =>
    obtain ⟨k, rs, hk, hk40, rfl, hrs, L⟩ := hrel
    by_cases hlt : k < len ∧ k < 40
    · obtain ⟨h1, h2⟩ := hlt
      have h1z : (k : Int) < (len : Int) := by omega
      have h2z : (k : Int) < 40 := by omega
      have hbw : b < w.heap.size := World.block_lt_of_cell? _ _ (unhide HC k h1).1
      have c1 : wr.cell? ⟨b, off + k * 4, none⟩ = some (.int .i64 (kd k)) := (L.below.cell (by exact hbw)).trans (unhide HC k h1).1
      have c2 : wr.cell? ⟨b, off + k * 4 + 2, none⟩ = some (.int .i64 (la k)) := (L.below.cell (by exact hbw)).trans (unhide HC k h1).2.1
      have c3 : wr.cell? ⟨b, off + k * 4 + 3, none⟩ = some (.int .i64 (ha k)) := (L.below.cell (by exact hbw)).trans (unhide HC k h1).2.2
      generalize kd k = q0 at c1
      generalize la k = x at c2
      generalize ha k = y at c3
      have CA : Hid (∀ q, Calls Try.prog 25 #[.pointer (some ⟨p, 0, none⟩), .int .u8 (IntKind.wrap .u8 x), .int .u8 (IntKind.wrap .u8 y)] (wr.drewN q) fun e w' => ∃ r, e = .returned (.bool r) ∧ Hid (∃ rs', rs'.length ≤ k + 1 ∧ LiveU w.heap.size w p rs' w')) := fun q => by
        refine (addLU _ _ (L.step (below_drewN (Below.refl _ _) q)) (by omega) ⟨conv_u8 x, conv_u8 y⟩).mono ?_
        rintro e w' ⟨rs', ⟨r, rfl, -⟩, -, h3, h4⟩
        exact ⟨r, rfl, rs', by omega, h4⟩
      have CC : Hid (∀ q, Calls Try.prog 22 #[.pointer (some ⟨p, 0, none⟩), .int .u8 (IntKind.wrap .u8 x), .int .u8 (IntKind.wrap .u8 y)] (wr.drewN q) fun e w' => ∃ r, e = .returned (.bool r) ∧ Hid (∃ rs', rs'.length ≤ k + 1 ∧ LiveU w.heap.size w p rs' w')) := fun q => by
        refine (cutLU _ _ (L.step (below_drewN (Below.refl _ _) q)) (by omega) ⟨conv_u8 x, conv_u8 y⟩).mono ?_
        rintro e w' ⟨rs', ⟨r, rfl, -⟩, -, h3, h4⟩
        exact ⟨r, rfl, rs', by omega, h4⟩
      clear L hrs hbw
      by_cases hq : q0 = 2
      · subst hq
        go_wp2_with fail
        go_region_with (go_at_call 22; refine (unhide CC _).mono ?_; rintro e w' ⟨r, rfl, hl⟩)
        all_goals
          obtain ⟨rs', hl1, hl2⟩ := unhide hl
          have HL := hide hl2
          clear hl hl2
          go_wp2_with fail
          go_roundw
          case rel => exact ⟨k + 1, rs', by omega, by omega, by go_num, hl1, unhide HL⟩
          case measure => simp [intOf]; omega
      · go_wp2_with fail
        go_region_with (go_at_call 25; refine (unhide CA _).mono ?_; rintro e w' ⟨r, rfl, hl⟩)
        all_goals
          obtain ⟨rs', hl1, hl2⟩ := unhide hl
          have HL := hide hl2
          clear hl hl2
          go_wp2_with fail
          go_roundw
          case rel => exact ⟨k + 1, rs', by omega, by omega, by go_num, hl1, unhide HL⟩
          case measure => simp [intOf]; omega
    · have HL := hide L
      have HR := hide hrs
      have HK := hide hk40
      clear L hrs
      by_cases h1 : k < len
      · have h1z : (k : Int) < (len : Int) := by omega
        obtain rfl : k = 40 := by omega
        go_wp2_with fail
        go_ret
        exact ⟨p, rs, rfl, unhide HR, unhide HL⟩
      · have h1z : ¬ (k : Int) < (len : Int) := by omega
        go_wp2_with fail
        go_ret
        exact ⟨p, rfl, rs, Nat.le_trans (unhide HR) (unhide HK), unhide HL⟩

set_option maxHeartbeats 1000000 in
set_option maxRecDepth 100000 in
theorem filled_zero (a : Option Addr) (cap : Nat) (w : World) :
    Calls Try.prog 13 #[.slice a 0 cap] w fun e w' => ∃ p rs, e = .returned (.pointer (some ⟨p, 0, none⟩)) ∧ rs.length ≤ 40 ∧ LiveU w.heap.size w p rs w' := by
  go_enter Try.func13, Try.ntmps13
  go_wp2_with fail
  refine (newLU w).mono ?_
  rintro e w1 ⟨rfl, L1⟩
  have HL := hide L1
  clear L1
  go_wp2_with fail
  refine wp_loop_rounds 1 ?_
  rw [rounds_succ]
  go_wp2_with fail
  go_ret
  exact ⟨_, [], rfl, by simp, unhide HL⟩
end Go.Proofs.Ytdalghfhpekcfaa

/- The walks of weight.Fold and of the reference's Fold. -/
import Derived.Test.YtjeplokphkcloaaDoorCost
namespace Go.Proofs.YtjeplokphkcloaaDoor
open Go.RowKit

namespace M
/-- Added from the left. -/
def foldN (bs : List Nat) : Nat := bs.foldl (fun c x => addC c (counts x)) 0
theorem foldN_snoc (bs : List Nat) (x : Nat) : foldN (bs ++ [x]) = addC (foldN bs) (counts x) := by simp [foldN]
theorem foldl_le (bs : List Nat) : ∀ c, c ≤ 2139095040 → bs.foldl (fun c x => addC c (counts x)) c ≤ 2139095040 := by
  induction bs with
  | nil => intro c h; exact h
  | cons x bs ih => intro c h; exact ih _ (addC_le h (counts_le x))
theorem foldN_le (bs : List Nat) : foldN bs ≤ 2139095040 := foldl_le bs 0 (by omega)
theorem foldN_take (bs : List Nat) (k : Nat) (h : k < bs.length) : foldN (bs.take (k + 1)) = addC (foldN (bs.take k)) (counts (bs.getD k 0)) := by
  rw [List.take_succ_eq_append_getElem h, foldN_snoc]; simp [h]
end M

theorem fold_step {c x : Nat} (hc : c ≤ 2139095040) (hx : x < 4294967296) (w : World) :
    Calls Tryd.prog 17 #[.float .f32 c, .float .f32 x] w fun e w' => e = .returned (.float .f32 (M.addC c (M.counts x))) ∧ w' = w := by
  have := add_nat c x (by omega) hx w
  rwa [counts_cost hc] at this

theorem fold_zero (a : Option Addr) (cap : Nat) (w : World) :
    Calls Tryd.prog 19 #[.slice a 0 cap] w fun e w' => e = .returned (.float .f32 0) ∧ w' = w := by
  go_enter Tryd.func19, Tryd.ntmps19
  go_wp2
  refine wp_loop_rounds 1 ?_
  rw [rounds_succ]
  go_wp2
  go_ret
  exact ⟨rfl, rfl⟩

set_option maxHeartbeats 400000 in
theorem fold_some (b off len cap : Nat) (bs : List Nat) (w : World) (hlen : bs.length = len) (hl : len ≤ 35184372088832)
    (hcell : ∀ k, k < len → w.cell? ⟨b, off + k, none⟩ = some (.float .f32 (bs.getD k 0))) (HB : Hid (∀ k, bs.getD k 0 < 4294967296)) :
    Calls Tryd.prog 19 #[.slice (some ⟨b, off, none⟩) len cap] w fun e w' => e = .returned (.float .f32 (M.foldN bs)) ∧ w' = w := by
  have HL := hide hlen
  have HC := hide hcell
  clear hlen hcell
  go_enter Tryd.func19, Tryd.ntmps19
  go_wp2
  go_loop [3, 8] (fun s i => ∃ k : Nat, k ≤ len ∧ i = .int .i64 (k : Int) ∧ s = .float .f32 (M.foldN (bs.take k))) (fun _ i => len - (intOf i).toNat)
  case atStart => exact ⟨0, Nat.zero_le _, rfl, rfl⟩
  case round =>
    obtain ⟨k, hk, rfl, rfl⟩ := hrel
    by_cases hlt : k < len
    · have hcx := unhide HC k hlt
      have hle := M.foldN_le (bs.take k)
      have HT := hide (M.foldN_take bs k (by rw [unhide HL]; exact hlt))
      have hx := unhide HB k
      generalize bs.getD k 0 = x at hcx HT hx
      generalize M.foldN (bs.take k) = c at hle HT ⊢
      have HS := hide (fold_step hle hx)
      clear hle hx
      go_wp2_with fail
      refine (unhide HS _).mono ?_
      rintro e w' ⟨rfl, rfl⟩
      go_wp2
      go_round
      case rel => exact ⟨k + 1, by omega, by go_num, by rw [unhide HT]⟩
      case measure => simp [intOf]; omega
    · go_wp2
      go_ret
      have e : k = bs.length := by rw [unhide HL]; omega
      exact ⟨by rw [e, List.take_length]; rfl, rfl⟩

theorem refFold_zero (a : Option Addr) (cap : Nat) (w : World) :
    Calls Tryd.prog 20 #[.slice a 0 cap] w fun e w' => e = .returned (.int .u32 0) ∧ ∃ nq, w' = w.drewN nq := by
  go_enter Tryd.func20, Tryd.ntmps20
  go_wp2
  refine wp_loop_rounds 1 ?_
  rw [rounds_succ]
  go_wp2
  go_ret
  exact ⟨rfl, 0, rfl⟩

theorem refFold_step {c : Nat} (x : Nat) (hc : c ≤ 2139095040) (w : World) :
    Calls Tryd.prog 18 #[.int .u32 (c : Int), .int .u32 (x : Int)] w fun e w' => e = .returned (.int .u32 (M.addC c (M.counts x) : Int)) ∧ ∃ nq, w' = w.drewN nq := by
  have := refAdd_nat c x w
  rwa [M.refAdd_eq (M.counts_le c) (M.counts_le x), counts_cost hc] at this

set_option maxHeartbeats 400000 in
theorem refFold_some (b off len cap : Nat) (bs : List Nat) (w : World) (hlen : bs.length = len) (hl : len ≤ 35184372088832)
    (hcell : ∀ k, k < len → w.cell? ⟨b, off + k, none⟩ = some (.int .u32 (bs.getD k 0 : Int))) :
    Calls Tryd.prog 20 #[.slice (some ⟨b, off, none⟩) len cap] w fun e w' => e = .returned (.int .u32 (M.foldN bs : Int)) ∧ ∃ nq, w' = w.drewN nq := by
  have HL := hide hlen
  have HC := hide hcell
  clear hlen hcell
  go_enter Tryd.func20, Tryd.ntmps20
  go_wp2
  go_loopw [3, 4] (fun s i wr => ∃ k : Nat, ∃ nq : Nat, k ≤ len ∧ i = .int .i64 (k : Int) ∧ s = .int .u32 (M.foldN (bs.take k) : Int) ∧ wr = w.drewN nq) (fun _ i _ => len - (intOf i).toNat)
  case atStart => exact ⟨0, 0, Nat.zero_le _, rfl, rfl, rfl⟩
  case round =>
    obtain ⟨k, nq, hk, rfl, rfl, rfl⟩ := hrel
    by_cases hlt : k < len
    · have hcx : (w.drewN nq).cell? ⟨b, off + k, none⟩ = some (.int .u32 (bs.getD k 0 : Int)) := unhide HC k hlt
      have hcy := unhide HC k hlt
      have hle := M.foldN_le (bs.take k)
      have HT := hide (M.foldN_take bs k (by rw [unhide HL]; exact hlt))
      generalize bs.getD k 0 = x at hcx hcy HT
      generalize M.foldN (bs.take k) = c at hle HT ⊢
      have HS := hide (refFold_step x hle)
      clear hle
      go_wp2_with fail
      refine (unhide HS _).mono ?_
      rintro e w' ⟨rfl, mq, rfl⟩
      go_wp2
      go_roundw
      case rel => exact ⟨k + 1, nq + mq, by omega, by go_num, by rw [unhide HT], by simp [World.drewN]⟩
      case measure => simp [intOf]; omega
    · go_wp2
      go_ret
      have e : k = bs.length := by rw [unhide HL]; omega
      exact ⟨by rw [e, List.take_length]; rfl, _, rfl⟩
end Go.Proofs.YtjeplokphkcloaaDoor

/- The walk of bramblelaw01.WeightFolds. -/
import Derived.Test.YtjeplokphkcloaaDoorFold
import Derived.OwnWalk
namespace Go.Proofs.YtjeplokphkcloaaDoor
open Go.RowKit

theorem info24 : (Tryd.prog.info? 24).map (fun i => (i.zero, i.size, i.bytes)) = some (some (.float .f32 0), 1, 4) := by kernel_rfl

/-- The floats of a list of words. -/
def flts (bs : List Nat) : List Value := bs.map (Value.float .f32)
theorem flts_length (bs : List Nat) : (flts bs).length = bs.length := by simp [flts]
theorem flts_take (bs : List Nat) (k : Nat) (h : k < bs.length) : flts (bs.take (k + 1)) = flts (bs.take k) ++ [.float .f32 (bs.getD k 0)] := by
  unfold flts
  rw [List.take_succ_eq_append_getElem h, List.map_append]
  congr 1
  simp [h]

/-- What an owned row of floats gives to who reads it. -/
theorem owned_cells {w : World} {B n : Nat} {v : Value} {bs : List Nat} (h : w.ownsRow B 24 1 v n (flts bs)) (hn : bs.length = n) (h0 : 0 < n) :
    ∃ g cap, v = .slice (some ⟨g, 0, none⟩) n cap ∧ ∀ k, k < n → w.cell? ⟨g, 0 + k, none⟩ = some (.float .f32 (bs.getD k 0)) := by
  have hc := @World.ownsRow.cells _ _ _ _ _ _ _ h
  obtain ⟨hl, ⟨-, hz⟩ | ⟨g, cap, cur, rfl, hB, hb, hnc, hcm, hcs, hcur⟩⟩ := h
  · omega
  · refine ⟨g, cap, rfl, fun k hk => ?_⟩
    have := hc rfl k (.float .f32 (bs.getD k 0)) (by
      unfold flts
      rw [List.getElem?_map, List.getElem?_eq_getElem (by omega)]
      simp [show k < bs.length by omega])
    simp only [Addr.add] at this
    split at this
    · rename_i h0; subst h0; exact this
    · exact this

theorem folds_zero (a : Option Addr) (cap : Nat) (w : World) (hc : w.cell? ⟨4, 15, none⟩ = some (.int .u8 4)) :
    Calls Tryd.prog 5 #[.slice a 0 cap] w fun e w' => e = .returned (.bool true) ∧ Below w.heap.size w w' := by
  have h4 : 4 < w.heap.size := World.block_lt_of_cell? _ _ hc
  have HI : Hid (∀ w, Calls Tryd.prog 12 #[.float .f32 0, .int .u32 0] w fun e w' => e = .returned (.bool true) ∧ w' = w) := fun w => is_same (r := 0) (by omega) w
  go_enter Tryd.func5, Tryd.ntmps5
  go_wp2_with fail
  refine (awake_any _ hc h4).mono ?_
  rintro e w' ⟨rfl, A, rfl⟩
  go_wp2_with fail
  refine wp_loop_rounds 1 ?_
  rw [rounds_succ]
  go_wp2_with fail
  refine (fold_zero _ _ _).mono ?_
  rintro e w' ⟨rfl, rfl⟩
  go_wp2_with fail
  refine (refFold_zero _ _ _).mono ?_
  rintro e w' ⟨rfl, nq, rfl⟩
  go_wp2_with fail
  refine (unhide HI _).mono ?_
  rintro e w' ⟨rfl, rfl⟩
  go_wp2
  go_ret
  exact ⟨rfl, below_drewN ((Below.refl _ _).alloc (Nat.le_refl _) _) nq⟩

set_option maxHeartbeats 1000000 in
theorem folds_some (b off len cap : Nat) (bs : List Nat) (w : World) (hc : w.cell? ⟨4, 15, none⟩ = some (.int .u8 4)) (h0 : 0 < len) (hlen : bs.length = len) (hl : len ≤ 35184372087808)
    (hcell : ∀ k, k < len → w.cell? ⟨b, off + k, none⟩ = some (.int .u32 (bs.getD k 0 : Int))) (HB : Hid (∀ k, bs.getD k 0 < 4294967296)) :
    Calls Tryd.prog 5 #[.slice (some ⟨b, off, none⟩) len cap] w fun e w' => e = .returned (.bool true) ∧ Below w.heap.size w w' := by
  have h4 : 4 < w.heap.size := World.block_lt_of_cell? _ _ hc
  have hbB : b < w.heap.size := World.block_lt_of_cell? _ _ (hcell 0 h0)
  have HL := hide hlen
  have HC := hide hcell
  have hfit := M.foldN_le bs
  have HI := hide (fun w => is_same hfit w)
  clear hlen hcell hfit
  obtain ⟨i0, hi, hz0, hz1, hz2⟩ := info_parts info24
  go_enter Tryd.func5, Tryd.ntmps5
  go_wp2_with fail
  refine (awake_any _ hc h4).mono ?_
  rintro e w' ⟨rfl, A, rfl⟩
  go_wp2_with fail
  go_loopw [3, 9] (fun v i wr => ∃ k : Nat, k ≤ len ∧ i = .int .i64 (k : Int) ∧ wr.ownsRow w.heap.size 24 1 v k (flts (bs.take k)) ∧ Below w.heap.size w wr) (fun _ i _ => len - (intOf i).toNat)
  case atStart => exact ⟨0, Nat.zero_le _, rfl, World.ownsRow_nil _ _ _ _, (Below.refl _ _).alloc (Nat.le_refl _) _⟩
  case round =>
    obtain ⟨k, hk, rfl, hown, hnx⟩ := hrel
    have hsz := hnx.size
    by_cases hlt : k < len
    · have hcx : wr.cell? ⟨b, off + k, none⟩ = some (.int .u32 (bs.getD k 0 : Int)) := (hnx.cell (by exact hbB)).trans (unhide HC k hlt)
      have HT := hide (flts_take bs k (by rw [unhide HL]; exact hlt))
      generalize bs.getD k 0 = x at hcx HT
      go_wp2_with fail
      refine (float_nat x _).mono ?_
      rintro e w' ⟨rfl, rfl⟩
      go_wp2_with (at_builtin; refine wpList_append_own _ rfl _ _ 40 rfl w.heap.size 24 i0 (.float .f32 0) 1 4 Tryd.underlying40 hi hz0 hz1 hz2 rfl (by decide) _ _ _ rfl (hown.alloc _) ⟨w'.heap.size, 0, none⟩ 1 1 [.float .f32 x] rfl rfl ?c1 ?c2 ?c3 ?c4 ?c5 ?_)
      case c1 =>
        intro j u hj
        match j, hj with
        | 0, hj => simp at hj; subst hj; simp [Addr.add]
      case c2 => intro u hu; simp at hu; subst hu; rfl
      case c3 => unfold maxLen; omega
      case c4 => omega
      case c5 => simp; omega
      intro v' w1 hown' hgrow _
      have hb1 : Below w.heap.size w w1 := (hnx.alloc hsz _).grown hgrow (by simp; omega) (fun k hk => (hown.lt k hk).1)
      rw [← unhide HT] at hown'
      clear hgrow hown hcx hnx hsz
      go_wp2
      go_roundw
      case rel => exact ⟨k + 1, by omega, by go_num, hown', hb1⟩
      case measure => simp [intOf]; omega
    · have e : k = len := by omega
      have e2 : bs.take k = bs := by rw [e, ← unhide HL, List.take_length]
      rw [e2, e] at hown
      clear e2
      obtain ⟨g, cap', hv, hcl⟩ := owned_cells hown (unhide HL) h0
      subst hv
      have HF := hide (fold_some g 0 len cap' bs wr (unhide HL) (by omega) hcl HB)
      have HR := hide (refFold_some b off len cap bs wr (unhide HL) (by omega) (fun k hk => (hnx.cell (by exact hbB)).trans (unhide HC k hk)))
      clear hown hcl e
      go_wp2_with fail
      refine (unhide HF).mono ?_
      rintro e w' ⟨rfl, rfl⟩
      go_wp2_with fail
      refine (unhide HR).mono ?_
      rintro e w' ⟨rfl, nq, rfl⟩
      go_wp2_with fail
      refine (unhide HI _).mono ?_
      rintro e w' ⟨rfl, rfl⟩
      go_wp2
      go_ret
      exact ⟨rfl, below_drewN hnx nq⟩
end Go.Proofs.YtjeplokphkcloaaDoor

/- The library's calls over rows of things: slices.Clone, BinarySearch, Delete, Sort. -/
import Derived.Test.YtfhidghjmookhaaEasyZ
import Derived.Test.YtfhidghjmookhaaShelf
import Derived.Lib.OwnBridge
import Derived.Sort.OwnSorted
import Derived.Sort.OwnSortedInts
import Derived.Sort.Walk0
namespace Go.Proofs.Ytfhidghjmookhaa
open Go.RowKit Go.Maps Go.Sort

def ba (k : List UInt8) : ByteArray := ⟨k.toArray⟩
theorem ba_getD (ks : List (List UInt8)) (j : Nat) : (ks.map ba).getD j ByteArray.empty = ba (ks.getD j []) := by
  unfold List.getD
  rw [List.getElem?_map]
  cases ks[j]? <;> rfl
theorem map_ba (ks : List (List UInt8)) : (ks.map ba).map Value.string = ks.map encStr := by rw [List.map_map]; rfl
theorem ba_toList (k : List UInt8) : (ba k).toList = k := by rw [ByteArray.toList_eq]; simp [ba]

theorem cloneZ (g c : Nat) (ks : List (List UInt8)) (w : World) (hb : ks.length < 1099511627776) (hc : ∀ j, j < ks.length → w.cell? ⟨g, j, none⟩ = some (encStr (ks.getD j []))) :
    Calls Try.prog 42 #[.slice (some ⟨g, 0, none⟩) ks.length c] w fun e w' => ∃ v', e = .returned v' ∧ w'.ownsRow w.heap.size 9 1 v' ks.length (ks.map encStr) ∧ Below w.heap.size w w' := by
  refine (Any.slices_Clone_string Try.laysNm216 g 0 ks.length c (ks.map ba) w (by simp) (by omega) (fun j hj => by rw [Nat.zero_add, ba_getD]; exact hc j (by simpa using hj))).mono ?_
  rintro e w' ⟨v', he, h1, -, h2⟩
  rw [List.take_of_length_le (by simp), map_ba] at h1
  exact ⟨v', he, h1, h2⟩

theorem bsZ (g c n : Nat) (ks : List (List UInt8)) (k : List UInt8) (w : World) (hn : n ≤ ks.length) (hb : n < 1099511627776) (hc : ∀ j, j < ks.length → w.cell? ⟨g, j, none⟩ = some (encStr (ks.getD j []))) (hs : Rising ltZ (ks.take n)) :
    Calls Try.prog 51 #[.slice (some ⟨g, 0, none⟩) n c, encStr k] w fun e w' => ∃ (f : Bool) (q : Nat), e = .returned (.tuple #[.int .i64 (cnt ltZ (ks.take n) k : Nat), .bool f]) ∧ w' = w.drewN q := by
  have hl : ∀ t, Op.bytesLess (if t < n then ba (ks.getD t []) else ba k).toList (ba k).toList = if t < n then ltZ (ks.getD t []) k else false := fun t => by
    split
    · rw [ba_toList, ba_toList, bytesLess_eq]; rfl
    · rw [ba_toList, bytesLess_eq]; simp [List.lt_irrefl]
  have hcp := cnt_parts linZ k hs
  have hcl : cnt ltZ (ks.take n) k ≤ n := Nat.le_trans (cnt_le _ _) (by simp; omega)
  have hgo : Lib.bsGo (fun t => Op.bytesLess (if t < n then ba (ks.getD t []) else ba k).toList (ba k).toList) n 0 n = cnt ltZ (ks.take n) k := by
    refine Lib.bsGo_spec _ _ (fun t ht => ?_) (fun t ht => ?_) _ _ _ (by omega) (Nat.zero_le _) hcl
    · have htn : t < n := by omega
      rw [hl, if_pos htn]
      refine hcp.1 _ ?_
      rw [List.mem_take_iff_getElem]
      exact ⟨t, by simp; omega, by simp [List.getD, show t < ks.length by omega]⟩
    · rw [hl]
      split
      · rename_i htn
        refine hcp.2 _ ?_
        rw [List.mem_drop_iff_getElem]
        exact ⟨t - cnt ltZ (ks.take n) k, by simp; omega, by simp [List.getD, show t < ks.length by omega, show cnt ltZ (ks.take n) k + (t - cnt ltZ (ks.take n) k) = t by omega]⟩
      · rfl
  refine (Any2.slices_BinarySearch_string Try.laysNm226 g 0 n c (fun t => if t < n then ba (ks.getD t []) else ba k) (ba k) w (by omega) (fun j hj => by rw [Nat.zero_add, if_pos hj]; exact hc j (by omega))).mono ?_
  rintro e w' ⟨he, q, hq⟩
  rw [hgo] at he
  exact ⟨_, q, he, hq⟩

theorem delZ (g c i : Nat) (ks : List (List UInt8)) (w : World) (hi : i < ks.length) (h : w.ownsRow 0 9 1 (.slice (some ⟨g, 0, none⟩) ks.length c) ks.length (ks.map encStr)) :
    Calls Try.prog 52 #[.slice (some ⟨g, 0, none⟩) ks.length c, .int .i64 i, .int .i64 ((i : Int) + 1)] w fun e w' => e = .returned (.slice (some ⟨g, 0, none⟩) (ks.length - 1) c) ∧ Hid (w'.ownsRow 0 9 1 (.slice (some ⟨g, 0, none⟩) (ks.length - 1) c) (ks.length - 1) ((ks.take i ++ ks.drop (i + 1)).map encStr) ∧ Turned (fun b => b = g) w w') := by
  obtain ⟨g', c', e, -, -, hcap, hm, -, hH⟩ := Lib.holds_of_ownsRow h (by simp)
  injection e with e1 e2 e3
  injection e1 with e1
  injection e1 with e1
  subst e1 e3
  have := Any.slices_Delete_string Try.laysNm224 g 0 c i (i + 1) ks w hH hcap (by unfold maxLen at hm; omega) (by omega) (by omega)
  rw [show (((i + 1 : Nat) : Int)) = (i : Int) + 1 by omega, show i + 1 - i = 1 by omega] at this
  refine this.mono ?_
  rintro e w' ⟨he, q, rfl⟩
  refine ⟨he, ?_, Turned.mk rfl rfl rfl (by simp [putRow, mapBlock, Sort.ahead]) (fun k _ hk => ?_)⟩
  · have hy := Lib.ownsRow_putRow (q := q) (k := ks.length - 1) (ys := ks.take i ++ ks.drop (i + 1) ++ List.replicate 1 []) h (by simp; omega) (by omega)
    have ht : (ks.take i ++ ks.drop (i + 1) ++ List.replicate 1 []).take (ks.length - 1) = ks.take i ++ ks.drop (i + 1) := by
      rw [List.take_append_of_le_length (by simp; omega)]
      exact List.take_of_length_le (by simp; omega)
    rwa [ht] at hy
  · simp [putRow, mapBlock, Sort.ahead, Array.getElem?_modify, show g ≠ k from fun e => hk e.symm]

theorem sortZ (B g c : Nat) (ks : List (List UInt8)) (w : World) (hb : ks.length < 1099511627776) (hn : ks.Nodup) (h : w.ownsRow B 9 1 (.slice (some ⟨g, 0, none⟩) ks.length c) ks.length (ks.map encStr)) :
    Calls Try.prog 41 #[.slice (some ⟨g, 0, none⟩) ks.length c] w fun e w' => e = .returned (.tuple #[]) ∧ Hid (∃ ys, ys.Perm ks ∧ Rising ltZ ys ∧ w'.ownsRow B 9 1 (.slice (some ⟨g, 0, none⟩) ks.length c) ks.length (ys.map encStr) ∧ w.grownBy w' (some g)) := by
  obtain ⟨g', c', e, -, hlt, hcap, hm, -, hH⟩ := Lib.holds_of_ownsRow h (by simp)
  injection e with e1 e2 e3
  injection e1 with e1
  injection e1 with e1
  subst e1 e3
  rcases h.2 with ⟨e0, -⟩ | ⟨g', cap', cur, e0, hb0, hg, hn0, hm0, hs0, -⟩
  · cases e0
  injection e0 with e1 _ e3
  injection e1 with e1
  injection e1 with e1
  subst e1 e3
  refine (Any.slices_Sort_string Try.lays190 g 0 c ks w hH hlt (by omega)).mono ?_
  rintro e w' ⟨he, n, os, rfl⟩
  have hp : (ks.mergeSort fun x y => decide (x ≤ y)).Perm ks := List.mergeSort_perm _ _
  refine ⟨he, _, hp, ?_, ownsRow_sorted hp.length_eq hb0 hg hn0 hm0 hs0, grownBy_sorted _⟩
  have h1 : (ks.mergeSort fun x y => decide (x ≤ y)).Pairwise (fun x y => decide (x ≤ y) = true) := List.pairwise_mergeSort (fun a b c h1 h2 => by simp only [decide_eq_true_eq] at *; exact List.le_trans h1 h2) (fun a b => by simp only [Bool.or_eq_true, decide_eq_true_eq]; exact List.le_total a b) _
  have h2 : (ks.mergeSort fun x y => decide (x ≤ y)).Nodup := hp.nodup_iff.2 hn
  refine (h1.and h2).imp (fun {a b} hab => ?_)
  obtain ⟨q1, q2⟩ := hab
  simp only [ltZ, decide_eq_true_eq] at *
  rcases Std.lt_trichotomy a b with e | e | e
  · exact e
  · exact absurd e q2
  · exact absurd e (List.not_lt.2 q1)
end Go.Proofs.Ytfhidghjmookhaa

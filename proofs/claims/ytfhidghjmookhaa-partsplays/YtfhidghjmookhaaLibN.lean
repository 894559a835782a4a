/- The library's calls over rows of things: slices.Clone, BinarySearch, Delete, Sort. -/
import Derived.Test.YtfhidghjmookhaaEasyN
import Derived.Test.YtfhidghjmookhaaShelf
import Derived.Lib.OwnBridge
import Derived.Sort.OwnSorted
import Derived.Sort.OwnSortedInts
import Derived.Sort.Walk0
namespace Go.Proofs.Ytfhidghjmookhaa
open Go.RowKit Go.Maps Go.Sort

theorem cloneN (g c : Nat) (ks : List Int) (w : World) (hb : ks.length < 1099511627776) (hc : ∀ j, j < ks.length → w.cell? ⟨g, j, none⟩ = some (.int .i64 (ks.getD j 0))) :
    Calls Try.prog 37 #[.slice (some ⟨g, 0, none⟩) ks.length c] w fun e w' => ∃ v', e = .returned v' ∧ w'.ownsRow w.heap.size 3 1 v' ks.length (ks.map (Value.int .i64)) ∧ Below w.heap.size w w' := by
  refine (Any.slices_Clone_int Try.laysNm215 g 0 ks.length c ks w (Nat.le_refl _) (by omega) (fun j hj => by rw [Nat.zero_add]; exact hc j hj)).mono ?_
  rintro e w' ⟨v', he, h1, -, h2⟩
  rw [List.take_length] at h1
  exact ⟨v', he, h1, h2⟩

theorem bsN (g c n : Nat) (ks : List Int) (k : Int) (w : World) (hn : n ≤ ks.length) (hb : n < 1099511627776) (hc : ∀ j, j < ks.length → w.cell? ⟨g, j, none⟩ = some (.int .i64 (ks.getD j 0))) (hs : Rising ltN (ks.take n)) :
    Calls Try.prog 47 #[.slice (some ⟨g, 0, none⟩) n c, .int .i64 k] w fun e w' => ∃ (f : Bool) (q : Nat), e = .returned (.tuple #[.int .i64 (cnt ltN (ks.take n) k : Nat), .bool f]) ∧ w' = w.drewN q := by
  refine (Any.slices_BinarySearch_int Try.laysNm225 g 0 n c ks k w hn (by omega) (fun j hj => by rw [Nat.zero_add]; exact hc j hj) (List.Pairwise.imp (fun {a b} hab => by simp [ltN] at hab; omega) hs)).mono ?_
  rintro e w' ⟨he, q, hq⟩
  exact ⟨_, q, he, hq⟩

theorem delN (g c i : Nat) (ks : List Int) (w : World) (hi : i < ks.length) (h : w.ownsRow 0 3 1 (.slice (some ⟨g, 0, none⟩) ks.length c) ks.length (ks.map (Value.int .i64))) :
    Calls Try.prog 48 #[.slice (some ⟨g, 0, none⟩) ks.length c, .int .i64 i, .int .i64 ((i : Int) + 1)] w fun e w' => e = .returned (.slice (some ⟨g, 0, none⟩) (ks.length - 1) c) ∧ Hid (w'.ownsRow 0 3 1 (.slice (some ⟨g, 0, none⟩) (ks.length - 1) c) (ks.length - 1) ((ks.take i ++ ks.drop (i + 1)).map (Value.int .i64)) ∧ Turned (fun b => b = g) w w') := by
  obtain ⟨g', c', e, -, -, hcap, hm, -, hH⟩ := Lib.holds_of_ownsRow h (by simp)
  injection e with e1 e2 e3
  injection e1 with e1
  injection e1 with e1
  subst e1 e3
  have := Any.slices_Delete_int Try.laysNm223 g 0 c i (i + 1) ks w hH hcap (by unfold maxLen at hm; omega) (by omega) (by omega)
  rw [show (((i + 1 : Nat) : Int)) = (i : Int) + 1 by omega, show i + 1 - i = 1 by omega] at this
  refine this.mono ?_
  rintro e w' ⟨he, q, rfl⟩
  refine ⟨he, ?_, Turned.mk rfl rfl rfl (by simp [putRow, mapBlock, Sort.ahead]) (fun k _ hk => ?_)⟩
  · have hy := Lib.ownsRow_putRow (q := q) (k := ks.length - 1) (ys := ks.take i ++ ks.drop (i + 1) ++ List.replicate 1 0) h (by simp; omega) (by omega)
    have ht : (ks.take i ++ ks.drop (i + 1) ++ List.replicate 1 0).take (ks.length - 1) = ks.take i ++ ks.drop (i + 1) := by
      rw [List.take_append_of_le_length (by simp; omega)]
      exact List.take_of_length_le (by simp; omega)
    rwa [ht] at hy
  · simp [putRow, mapBlock, Sort.ahead, Array.getElem?_modify, show g ≠ k from fun e => hk e.symm]

theorem sortN (B g c : Nat) (ks : List Int) (w : World) (hb : ks.length < 1099511627776) (hn : ks.Nodup) (h : w.ownsRow B 3 1 (.slice (some ⟨g, 0, none⟩) ks.length c) ks.length (ks.map (Value.int .i64))) :
    Calls Try.prog 38 #[.slice (some ⟨g, 0, none⟩) ks.length c] w fun e w' => e = .returned (.tuple #[]) ∧ Hid (∃ ys, ys.Perm ks ∧ Rising ltN ys ∧ w'.ownsRow B 3 1 (.slice (some ⟨g, 0, none⟩) ks.length c) ks.length (ys.map (Value.int .i64)) ∧ w.grownBy w' (some g)) := by
  obtain ⟨g', c', e, -, hlt, hcap, hm, -, hH⟩ := Lib.holds_of_ownsRow h (by simp)
  injection e with e1 e2 e3
  injection e1 with e1
  injection e1 with e1
  subst e1 e3
  rcases h.2 with ⟨e0, -⟩ | ⟨g', cap', cur, e0, hb0, hg, hn0, hm0, hs0, -⟩
  · cases e0
  injection e0 with e1 _ e3
  injection e1 with e1
  injection e1 with e1
  subst e1 e3
  refine (Any.slices_Sort_int Try.lays189 g 0 c ks w hH hlt (by omega)).mono ?_
  rintro e w' ⟨he, n, os, rfl⟩
  have hp : (ks.mergeSort fun x y => decide (x ≤ y)).Perm ks := List.mergeSort_perm _ _
  refine ⟨he, _, hp, ?_, ownsRow_sortedI hp.length_eq hb0 hg hn0 hm0 hs0, grownBy_sortedI _⟩
  have h1 : (ks.mergeSort fun x y => decide (x ≤ y)).Pairwise (fun x y => decide (x ≤ y) = true) := List.pairwise_mergeSort (fun a b c h1 h2 => by simp at *; omega) (fun a b => by simp; omega) _
  have h2 : (ks.mergeSort fun x y => decide (x ≤ y)).Nodup := hp.nodup_iff.2 hn
  exact (h1.and h2).imp (fun {a b} hab => by simp [ltN] at *; omega)
end Go.Proofs.Ytfhidghjmookhaa

/- The graph that StoreFull builds. -/
import Derived.Test.YtanbnipndkmnlaaAwake7
namespace Go.Proofs.Ytanbnipndkmnlaa
open Go.RowKit Go.Maps

/-- j edges that leave one vertex. -/
def En (fr l : Int) (j : Nat) : List (EdgeV × Bool) := (List.range j).map fun (i : Nat) => ((((i : Int) + 1, fr + l, fr + ((i : Int) + 1) * 7 % 256, 1) : EdgeV), true)
theorem En_length (fr l : Int) (j : Nat) : (En fr l j).length = j := by simp [En]
theorem En_at {fr l : Int} {j i : Nat} (h : i < j) : (En fr l j)[i]? = some ((((i : Int) + 1, fr + l, fr + ((i : Int) + 1) * 7 % 256, 1) : EdgeV), true) := by simp [En, h]
theorem En_succ (fr l : Int) (j : Nat) : En fr l (j + 1) = En fr l j ++ [((((j : Int) + 1, fr + l, fr + ((j : Int) + 1) * 7 % 256, 1) : EdgeV), true)] := by simp [En, List.range_succ]
theorem En_ins (fr l : Int) (j : Nat) : (groE (En fr l j) (j + 1)).set j ((((j : Int) + 1, fr + l, fr + ((j : Int) + 1) * 7 % 256, 1) : EdgeV), true) = En fr l (j + 1) := by
  have h := groE_end (En fr l j)
  rw [En_length] at h
  rw [h, En_succ, List.set_append_right _ _ (by rw [En_length]; exact Nat.le_refl _), En_length]
  simp
theorem En_least (fr l : Int) (j : Nat) : Least (En fr l j) j := ⟨fun i hi => ⟨_, En_at hi⟩, fun a h => by have := (List.getElem?_eq_some_iff.1 h).1; rw [En_length] at this; omega⟩

/-- The vertices from fr on, i of them. -/
def gV (fr : Int) (i : Nat) : Gr := ⟨fun k => decide (fr ≤ k) && decide (k < fr + i), i, [], 0, 0, 0⟩
theorem gr_ext {a b : Gr} (h1 : ∀ k, a.V k = b.V k) (h2 : a.N = b.N) (h3 : a.ps = b.ps) (h4 : a.rd = b.rd) (h5 : a.wr = b.wr) (h6 : a.nb = b.nb) : a = b := by
  cases a; cases b
  simp only [Gr.mk.injEq]
  exact ⟨funext h1, h2, h3, h4, h5, h6⟩
theorem gV_zero (fr : Int) : (⟨fun _ => false, 0, [], 0, 0, 0⟩ : Gr) = gV fr 0 := by
  refine gr_ext (fun k => ?_) rfl rfl rfl rfl rfl
  show false = (decide (fr ≤ k) && decide (k < fr + (0 : Nat)))
  by_cases h : fr ≤ k
  · rw [decide_eq_false (p := k < fr + (0 : Nat)) (by omega), Bool.and_false]
  · rw [decide_eq_false h, Bool.false_and]
theorem gV_succ (fr : Int) (i : Nat) : { gV fr i with V := fun k => decide (k = fr + i) || (gV fr i).V k, N := (gV fr i).N + 1 } = gV fr (i + 1) := by
  refine gr_ext (fun k => ?_) rfl rfl rfl rfl rfl
  show (decide (k = fr + i) || (decide (fr ≤ k) && decide (k < fr + i))) = (decide (fr ≤ k) && decide (k < fr + (i + 1 : Nat)))
  rw [Bool.eq_iff_iff]
  simp only [Bool.or_eq_true, Bool.and_eq_true, decide_eq_true_eq]
  omega
def gE (fr l : Int) (j : Nat) : Gr := ⟨fun k => decide (fr ≤ k) && decide (k < fr + (256 : Nat)), 256, En fr l j, 0, j, 65536 * j⟩
theorem gE_zero (fr l : Int) : gV fr 256 = gE fr l 0 := by
  exact gr_ext (fun k => rfl) rfl rfl rfl rfl rfl
theorem gE_succ (fr l : Int) (j : Nat) : (gE fr l j).ins j (fr + l) (fr + ((j : Int) + 1) * 7 % 256) 1 = gE fr l (j + 1) := by
  exact gr_ext (fun k => rfl) rfl (En_ins fr l j) rfl rfl rfl

theorem least_ex {ps : List (EdgeV × Bool)} : ∀ (i : Nat), (∀ a, ps[i]? ≠ some (a, true)) → ∃ i', i' ≤ i ∧ Least ps i' := by
  intro i
  induction i using Nat.strongRecOn with
  | ind i ih =>
    intro h
    by_cases hall : ∀ j, j < i → ∃ a, ps[j]? = some (a, true)
    · exact ⟨i, Nat.le_refl _, hall, h⟩
    · obtain ⟨j, hj⟩ := Classical.not_forall.1 hall
      obtain ⟨hji, hno⟩ := Classical.not_imp.1 hj
      obtain ⟨i', h1, h2⟩ := ih j hji (fun a e => hno ⟨a, e⟩)
      exact ⟨i', by omega, h2⟩
theorem kept_low : kept 1 = some 1 := by unfold kept; rw [if_neg (by omega), if_neg (by omega)]
theorem kept_inf : kept 2139095040 = none := by unfold kept; rw [if_neg (by omega), if_pos (by omega)]
end Go.Proofs.Ytanbnipndkmnlaa

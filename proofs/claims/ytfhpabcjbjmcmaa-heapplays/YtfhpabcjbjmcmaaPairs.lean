/- The heap's entries and the reference's items. -/
import Derived.Test.YtfhpabcjbjmcmaaRefLower
import Derived.Test.YtfhpabcjbjmcmaaTwo
namespace Go.Proofs.Ytfhpabcjbjmcmaa
open Go.RowKit Go.Maps

def pairs (ms : List EntI) : List (Int × Int) := ms.map fun e => (e.key, e.rank)
theorem pairs_length (ms : List EntI) : (pairs ms).length = ms.length := by simp [pairs]
theorem pairs_at [Inhabited EntI] {ms : List EntI} {i : Nat} (h : i < ms.length) : lo (pairs ms) i = (at_ ms i).key ∧ hi (pairs ms) i = (at_ ms i).rank := by
  unfold lo hi pairs at_
  simp [List.getD_eq_getElem?_getD, List.getElem?_eq_getElem h]
theorem pairs_snoc (ms : List EntI) (k r : Int) (n : Nat) : pairs (ms ++ [⟨k, r, n⟩]) = pairs ms ++ [(k, r)] := by simp [pairs]

theorem pairs_out [Inhabited EntI] {ms : List EntI} {k : Int} (h : ∀ x ∈ ms, x.key ≠ k) : ∀ i, i < (pairs ms).length → lo (pairs ms) i ≠ k := fun i hi1 => by
  rw [pairs_length] at hi1
  rw [(pairs_at hi1).1]
  exact h _ (at_mem ms i hi1)
theorem pairs_once [Inhabited EntI] {ms : List EntI} (h : KeysOnce ms) {i : Nat} (hi1 : i < ms.length) : ∀ j, j < (pairs ms).length → lo (pairs ms) j = lo (pairs ms) i → j = i := fun j hj e => by
  rw [pairs_length] at hj
  rw [(pairs_at hj).1, (pairs_at hi1).1] at e
  exact keysOnce_at h hj hi1 e

theorem without_at : ∀ {ms : List EntI} [Inhabited EntI] {i : Nat}, KeysOnce ms → i < ms.length → without (at_ ms i).key ms = ms.take i ++ ms.drop (i + 1)
  | [], _, i, _, h => by simp at h
  | y :: ms, _, 0, hk, _ => by
    have hk1 := (List.pairwise_cons.1 hk).1
    have e : at_ (y :: ms) 0 = y := by simp [at_]
    rw [e]
    unfold without
    rw [List.filter_cons, if_neg (by simp), List.filter_eq_self.2 (fun z hz => decide_eq_true (Ne.symm (hk1 z hz)))]
    simp
  | y :: ms, _, i + 1, hk, h => by
    have hk2 : KeysOnce ms := (List.pairwise_cons.1 hk).2
    have hk1 := (List.pairwise_cons.1 hk).1
    have hl : i < ms.length := by simpa using h
    have e : at_ (y :: ms) (i + 1) = at_ ms i := by simp [at_]
    have ih := without_at hk2 hl
    rw [e]
    unfold without at ih ⊢
    rw [List.filter_cons, if_pos (decide_eq_true (hk1 _ (at_mem ms i hl))), ih]
    simp
theorem pairs_without [Inhabited EntI] {ms : List EntI} {i : Nat} (hk : KeysOnce ms) (hi1 : i < ms.length) : pairs (without (at_ ms i).key ms) = (pairs ms).take i ++ (pairs ms).drop (i + 1) := by
  rw [without_at hk hi1]
  simp [pairs, List.map_take, List.map_drop]
theorem pairs_lowered [Inhabited EntI] {ms : List EntI} {i : Nat} {r : Int} (hk : KeysOnce ms) (hi1 : i < ms.length) : pairs (lowered (at_ ms i).key r ms) = (pairs ms).set i (lo (pairs ms) i, r) := by
  rw [← set_lowered hk hi1 r, (pairs_at hi1).1]
  unfold pairs
  rw [List.map_set]

theorem turn_lt [Inhabited EntI] {ms : List EntI} (h : ms.Pairwise (fun a b => a.turn < b.turn)) {i j : Nat} (hij : i < j) (hj : j < ms.length) : (at_ ms i).turn < (at_ ms j).turn := by
  have g : ∀ q (hq : q < ms.length), at_ ms q = ms[q] := fun q hq => by unfold at_; simp [List.getD_eq_getElem?_getD, List.getElem?_eq_getElem hq]
  rw [g i (by omega), g j hj]
  exact List.pairwise_iff_getElem.1 h i j (by omega) hj hij

/-- The least entry stands at the reference's first place. -/
theorem first_at [Inhabited EntI] {ms : List EntI} (ht : ms.Pairwise (fun a b => a.turn < b.turn)) {x : EntI} (hx : x ∈ ms) (hle : ∀ y ∈ ms, le (fun x => x) x y) {r : Int} (hr : FirstIs (pairs ms) r) : ∃ i : Nat, i < ms.length ∧ r = (i : Int) ∧ at_ ms i = x := by
  obtain ⟨j, hj, rfl⟩ := mem_at hx
  rcases hr with ⟨-, h0⟩ | ⟨i, hi1, rfl, h1, h2⟩
  · rw [pairs_length] at h0; omega
  · rw [pairs_length] at hi1
    refine ⟨i, hi1, rfl, ?_⟩
    have a : (at_ ms j).rank < (at_ ms i).rank ∨ (at_ ms j).rank = (at_ ms i).rank ∧ (at_ ms j).turn ≤ (at_ ms i).turn := hle _ (at_mem ms i hi1)
    have b := h2 j (by rw [pairs_length]; exact hj)
    rw [(pairs_at hi1).2, (pairs_at hj).2] at b
    rcases Nat.lt_trichotomy i j with h | h | h
    · have := turn_lt ht h hj; omega
    · rw [h]
    · have c := h1 j h
      rw [(pairs_at hi1).2, (pairs_at hj).2] at c
      omega
theorem first_none {ms : List EntI} (h : ms = []) {r : Int} (hr : FirstIs (pairs ms) r) : r = -1 := by
  subst h
  rcases hr with ⟨h0, -⟩ | ⟨i, hi1, -⟩
  · exact h0
  · simp [pairs] at hi1
end Go.Proofs.Ytfhpabcjbjmcmaa

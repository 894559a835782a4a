/- The heap's entries as a list in the order in which they came. -/
import Derived.Test.YtagibmgbjhemkaaGreatMath
namespace Go.Proofs.YtagibmgbjhemkaaGreat

structure Ent (α ρ : Type) where
  key : α
  rank : ρ
  turn : Nat



def le {α ρ : Type} (g : ρ → Int) (a b : Ent α ρ) : Prop := g a.rank < g b.rank ∨ g a.rank = g b.rank ∧ a.turn ≤ b.turn
def aheadB {α ρ : Type} (g : ρ → Int) (a b : Ent α ρ) : Bool := if a.turn < b.turn then !decide (g b.rank < g a.rank) else decide (g a.rank < g b.rank)

theorem le_trans {α ρ : Type} (g : ρ → Int) (a b c : Ent α ρ) (h : le g a b) (h2 : le g b c) : le g a c := by unfold le at *; omega
theorem le_refl {α ρ : Type} (g : ρ → Int) (a : Ent α ρ) : le g a a := by unfold le; omega
theorem le_of_ahead {α ρ : Type} (g : ρ → Int) {a b : Ent α ρ} (h : aheadB g a b = true) : le g a b := by
  unfold aheadB at h; unfold le
  split at h <;> simp at h <;> omega
theorem le_of_not_ahead {α ρ : Type} (g : ρ → Int) {a b : Ent α ρ} (h : aheadB g a b = false) : le g b a := by
  unfold aheadB at h; unfold le
  split at h <;> simp at h <;> omega

/-- Keys stand once. -/
def KeysOnce {α ρ : Type} (es : List (Ent α ρ)) : Prop := es.Pairwise (fun a b => a.key ≠ b.key)

theorem keysOnce_perm {α ρ : Type} {a b : List (Ent α ρ)} (h : a.Perm b) (hk : KeysOnce a) : KeysOnce b := (h.pairwise_iff (fun {_ _} h => h.symm)).1 hk

theorem keysOnce_at {α ρ : Type} [Inhabited (Ent α ρ)] {es : List (Ent α ρ)} (h : KeysOnce es) {i j : Nat} (hi : i < es.length) (hj : j < es.length) (e : (at_ es i).key = (at_ es j).key) : i = j := by
  have g : ∀ q (hq : q < es.length), at_ es q = es[q] := fun q hq => by unfold at_; simp [List.getD_eq_getElem?_getD, List.getElem?_eq_getElem hq]
  rw [g i hi, g j hj] at e
  rcases Nat.lt_trichotomy i j with h1 | h1 | h1
  · exact absurd e (List.pairwise_iff_getElem.1 h i j hi hj h1)
  · exact h1
  · exact absurd e.symm (List.pairwise_iff_getElem.1 h j i hj hi h1)

def without {α ρ : Type} [DecidableEq α] (k : α) (es : List (Ent α ρ)) : List (Ent α ρ) := es.filter (fun e => decide (e.key ≠ k))
theorem take_without {α ρ : Type} [DecidableEq α] [Inhabited (Ent α ρ)] {es : List (Ent α ρ)} (h : KeysOnce es) {i : Nat} (hi : i < es.length) : ((swapL es i (es.length - 1)).take (es.length - 1)).Perm (without (at_ es i).key es) := by
  have hp := swap_perm es i (es.length - 1) hi (by omega)
  have hk : KeysOnce (swapL es i (es.length - 1)) := keysOnce_perm hp.symm h
  have hl : (swapL es i (es.length - 1)).length = es.length := swapL_length _ _ _
  have e1 : swapL es i (es.length - 1) = (swapL es i (es.length - 1)).take (es.length - 1) ++ [at_ es i] := by
    apply ext_at
    · simp; omega
    · intro m hm
      rw [hl] at hm
      by_cases h1 : m = es.length - 1
      · rw [at_swap _ _ _ _ hi (by omega), if_pos h1]
        unfold at_
        rw [List.getD_eq_getElem?_getD (l := _ ++ _), List.getElem?_append_right (by simp; omega)]
        simp [h1, hl]
      · unfold at_
        rw [List.getD_eq_getElem?_getD, List.getD_eq_getElem?_getD, List.getElem?_append_left (by simp; omega), List.getElem?_take_of_lt (by omega)]
  have hs : ∀ x ∈ (swapL es i (es.length - 1)).take (es.length - 1), x.key ≠ (at_ es i).key := by
    rw [e1] at hk
    exact fun x hx => (List.pairwise_append.1 hk).2.2 x hx _ (by simp)
  have hw := hp.filter (fun e => decide (e.key ≠ (at_ es i).key))
  unfold without
  refine List.Perm.trans ?_ hw
  conv => rhs; rw [e1]
  rw [List.filter_append, List.filter_eq_self.2 (fun x hx => by simpa using hs x hx)]
  simp

theorem mem_without {α ρ : Type} [DecidableEq α] {k : α} {es : List (Ent α ρ)} {x : Ent α ρ} : x ∈ without k es ↔ x ∈ es ∧ x.key ≠ k := by simp [without]
theorem without_perm {α ρ : Type} [DecidableEq α] {k : α} {a b : List (Ent α ρ)} (h : a.Perm b) : (without k a).Perm (without k b) := h.filter _
/-- What a right heap is: its entries, in the order in which they came. -/
structure Is {α ρ : Type} [Inhabited (Ent α ρ)] (g : ρ → Int) (es ms : List (Ent α ρ)) (n : Nat) : Prop where
  perm : es.Perm ms
  turns : ms.Pairwise (fun a b => a.turn < b.turn)
  top : ∀ x ∈ ms, x.turn < n
  ord : HeapOrd (le g) es

theorem is_nil {α ρ : Type} [Inhabited (Ent α ρ)] (g : ρ → Int) : Is g ([] : List (Ent α ρ)) [] 0 := ⟨List.Perm.nil, List.Pairwise.nil, by simp, fun j _ h => by simp at h⟩

theorem Is.push {α ρ : Type} [Inhabited (Ent α ρ)] {g : ρ → Int} {es es' ms : List (Ent α ρ)} {n : Nat} {k : α} {p : ρ} (h : Is g es ms n) (hp : es'.Perm (es ++ [⟨k, p, n⟩])) (ho : HeapOrd (le g) es') : Is g es' (ms ++ [⟨k, p, n⟩]) (n + 1) := by
  refine ⟨hp.trans (h.perm.append_right _), ?_, ?_, ho⟩
  · rw [List.pairwise_append]
    refine ⟨h.turns, by simp, fun a ha b hb => ?_⟩
    simp at hb; subst hb; exact h.top a ha
  · intro x hx
    rcases List.mem_append.1 hx with hx | hx
    · have := h.top x hx; omega
    · simp at hx; subst hx; simp

theorem Is.without {α ρ : Type} [DecidableEq α] [Inhabited (Ent α ρ)] {g : ρ → Int} {es es' ms : List (Ent α ρ)} {n : Nat} {k : α} (h : Is g es ms n) (hp : es'.Perm (without k es)) (ho : HeapOrd (le g) es') : Is g es' (without k ms) n :=
  ⟨hp.trans (without_perm h.perm), h.turns.filter _, fun x hx => h.top x (mem_without.1 hx).1, ho⟩

theorem Is.first {α ρ : Type} [Inhabited (Ent α ρ)] {g : ρ → Int} {es ms : List (Ent α ρ)} {n : Nat} (h : Is g es ms n) (h0 : 0 < es.length) : at_ es 0 ∈ ms ∧ ∀ x ∈ ms, le g (at_ es 0) x := by
  refine ⟨h.perm.mem_iff.1 (at_mem _ _ h0), fun x hx => ?_⟩
  obtain ⟨j, hj, rfl⟩ := mem_at (h.perm.mem_iff.2 hx)
  exact root_least (le_trans g) (le_refl g) h.ord j hj
end Go.Proofs.YtagibmgbjhemkaaGreat

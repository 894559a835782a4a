/- An entry less: the map of places, the row, the order. -/
import Derived.Test.YtagibmgbjhemkaaGreatBase
namespace Go.Proofs.YtagibmgbjhemkaaGreat
open Go.RowKit Go.Maps

theorem at_take {X : Type} [Inhabited X] (es : List X) {k i : Nat} (h : i < k) : at_ (es.take k) i = at_ es i := by
  unfold at_; rw [List.getD_eq_getElem?_getD, List.getD_eq_getElem?_getD, List.getElem?_take_of_lt h]

theorem heapOrd_take {X : Type} [Inhabited X] {le : X → X → Prop} {es : List X} (h : HeapOrd le es) (k : Nat) : HeapOrd le (es.take k) := by
  intro j hj hjl
  have h1 : j < k ∧ j < es.length := by simp at hjl; omega
  have hp : par j < j := by unfold par; omega
  unfold Ok
  rw [at_take es h1.1, at_take es (by omega)]
  exact h j hj h1.2

theorem swapL_self {X : Type} [Inhabited X] (es : List X) (i : Nat) (hi : i < es.length) : swapL es i i = es := by
  apply ext_at (by simp)
  intro m hm
  rw [at_swap _ _ _ _ hi hi]
  split
  · rename_i e; rw [e]
  · rfl

theorem mapIs_drop {α ρ : Type} [Inhabited (Ent α ρ)] {kl : α → Lit} (inj : ∀ a b, kl a = kl b → a = b) {D : DataW Unit} {es : List (Ent α ρ)} (h : MapIs kl D es) {last : Nat} (hl : es.length = last + 1) :
    MapIs kl (D.del (kl (at_ es last).key)) (es.take last) := by
  have hlen : (es.take last).length = last := by simp; omega
  have h1 := (h.at_ last (by omega)).1
  have hne : ∀ i, i < last → kl (at_ es i).key ≠ kl (at_ es last).key := fun i hi e => by
    have := keysOnce_at h.once (by omega) (by omega) (inj _ _ e); omega
  refine ⟨h.tidy.del _, List.Pairwise.sublist (List.take_sublist _ _) h.once, ?_, ?_, ?_⟩
  · have := size_del (k := kl (at_ es last).key) h.tidy
    rw [if_pos h1] at this
    rw [hlen]; have := h.size; omega
  · intro i hi
    rw [hlen] at hi
    rw [at_take es hi, has_del_other (hne i hi), atKey_del_other (hne i hi)]
    exact h.at_ i (by omega)
  · intro k hk
    have e : kl k ≠ kl (at_ es last).key := fun e => by rw [e, has_del_same] at hk; cases hk
    rw [has_del_other e] at hk
    obtain ⟨i, hi, he⟩ := h.only k hk
    refine ⟨i, ?_, ?_⟩
    · rw [hlen]
      rcases Nat.lt_or_ge i last with h2 | h2
      · exact h2
      · have : i = last := by omega
        subst this; exact absurd (by rw [he]) e
    · rw [at_take es ?_]
      · exact he
      · rcases Nat.lt_or_ge i last with h2 | h2
        · exact h2
        · have : i = last := by omega
          subst this; exact absurd (by rw [he]) e

theorem mapIs_push {α ρ : Type} [Inhabited (Ent α ρ)] {kl : α → Lit} (inj : ∀ a b, kl a = kl b → a = b) (hkl : ∀ k, WideAt.IsKeyLit (kl k)) {D : DataW Unit} {es : List (Ent α ρ)} (h : MapIs kl D es) (x : Ent α ρ) (hx : Maps.has D (kl x.key) = false) :
    MapIs kl (D.put (kl x.key) (.lit (.int .i64 es.length))) (es ++ [x]) := by
  have hat : ∀ i, at_ (es ++ [x]) i = if i < es.length then at_ es i else if i = es.length then x else default := fun i => by
    unfold at_
    rw [List.getD_eq_getElem?_getD, List.getD_eq_getElem?_getD]
    split
    · rename_i h1; rw [List.getElem?_append_left h1]
    · rename_i h1
      rw [List.getElem?_append_right (by omega)]
      split
      · rename_i h2; subst h2; simp
      · rename_i h2
        rw [List.getElem?_eq_none (by simp; omega)]
        rfl
  have hne : ∀ i, i < es.length → kl (at_ es i).key ≠ kl x.key := fun i hi e => by
    have := (h.at_ i hi).1; rw [e, hx] at this; cases this
  refine ⟨h.tidy.put (hkl _) _, ?_, ?_, ?_, ?_⟩
  · refine List.pairwise_append.2 ⟨h.once, by simp, fun a ha b hb => ?_⟩
    simp at hb; subst hb
    obtain ⟨i, hi, rfl⟩ := mem_at ha
    exact fun e => hne i hi (by rw [e])
  · rw [size_put h.tidy, hx]; simp [h.size]
  · intro i hi
    rw [hat]
    simp at hi
    by_cases h1 : i < es.length
    · rw [if_pos h1, has_put_other (hne i h1), atKey_put_other (hne i h1)]; exact h.at_ i h1
    · have : i = es.length := by omega
      subst this
      rw [if_neg h1, if_pos rfl]
      exact ⟨has_put_same h.tidy.isMap (hkl _) _, atKey_put_same h.tidy.isMap (hkl _) _ _⟩
  · intro k hk
    by_cases e : kl k = kl x.key
    · exact ⟨es.length, by simp, by rw [hat, if_neg (by omega), if_pos rfl]; exact (inj _ _ e).symm⟩
    · rw [has_put_other e] at hk
      obtain ⟨i, hi, he⟩ := h.only k hk
      exact ⟨i, by simp; omega, by rw [hat, if_pos hi]; exact he⟩

/-- Of a row its first entries. -/
theorem row_cut {w : World} {e : TypeId} {s g c L K : Nat} {xs : List Value} (h : w.ownsRow 0 e s (.slice (some ⟨g, 0, none⟩) L c) L xs) (hK : K ≤ L) : w.ownsRow 0 e s (.slice (some ⟨g, 0, none⟩) K c) K (xs.take (K * s)) := by
  have hl := h.1
  have hm : K * s ≤ L * s := Nat.mul_le_mul_right s hK
  refine ⟨by rw [List.length_take]; omega, ?_⟩
  rcases h.2 with ⟨h', _⟩ | ⟨g', cap', cur, h', hb, hg, hnc, hcm, hcs, htake⟩
  · simp at h'
  · simp only [Value.slice.injEq, Option.some.injEq, Addr.mk.injEq, and_true, true_and] at h'
    obtain ⟨rfl, rfl⟩ := h'
    exact .inr ⟨g, c, cur, rfl, hb, hg, by omega, hcm, hcs, by rw [← htake, List.take_take, Nat.min_eq_left hm]⟩
end Go.Proofs.YtagibmgbjhemkaaGreat

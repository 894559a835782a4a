/- There is a number that Free gives, and one that Next gives. -/
import Derived.Test.YtkdlhnfagghppaaOne
namespace Go.Proofs.Ytkdlhnfagghppaa

theorem full_or {α : Type} (ps : List (α × Bool)) : ∀ n, n ≤ ps.length → Full ps n ∨ ∃ (i : Nat) (a : α), i < n ∧ ps[i]? = some (a, false) ∧ Full ps i
  | 0, _ => .inl (fun j hj => absurd hj (Nat.not_lt_zero _))
  | n + 1, h => by
    rcases full_or ps n (by omega) with hf | ⟨i, a, h1, h2, h3⟩
    · obtain ⟨a, b, hb⟩ := at_of_lt (ps := ps) (i := n) (by omega)
      cases b with
      | true =>
        refine .inl fun j hj => ?_
        rcases Nat.lt_or_ge j n with h | h
        · exact hf j h
        · obtain rfl : j = n := by omega
          exact ⟨a, hb⟩
      | false => exact .inr ⟨n, a, by omega, hb, hf⟩
    · exact .inr ⟨i, a, by omega, h2, h3⟩
theorem free_ex {α : Type} (ps : List (α × Bool)) (most : Int) : ∃ r, FreeIs ps most r := by
  rcases full_or ps ps.length (Nat.le_refl _) with hf | ⟨i, a, -, h2, h3⟩
  · by_cases h : (ps.length : Int) = most
    · exact ⟨0, .inr ⟨hf, .inl ⟨h, rfl⟩⟩⟩
    · exact ⟨_, .inr ⟨hf, .inr ⟨h, rfl⟩⟩⟩
  · exact ⟨_, .inl ⟨i, a, rfl, h2, h3⟩⟩
theorem free_one {α : Type} {ps : List (α × Bool)} {most r r' : Int} (h : FreeIs ps most r) (h' : FreeIs ps most r') : r' = r := by
  rcases h with ⟨i, a, rfl, h2, h3⟩ | ⟨hf, ⟨h, rfl⟩ | ⟨h, rfl⟩⟩
  · exact free_at h2 h3 h'
  · exact free_zero hf h h'
  · exact free_end hf h h'

theorem next_or {α : Type} (ps : List (α × Bool)) (k : Int) : ∀ n, (∀ (j : Nat) b, j < n → ps[j]? = some (b, true) → (j : Int) + 1 < k) ∨ ∃ (i : Nat) (a : α), i < n ∧ ps[i]? = some (a, true) ∧ k ≤ (i : Int) + 1 ∧ ∀ (j : Nat) b, j < i → ps[j]? = some (b, true) → (j : Int) + 1 < k
  | 0 => .inl (fun j _ hj => absurd hj (Nat.not_lt_zero _))
  | n + 1 => by
    rcases next_or ps k n with hf | ⟨i, a, h1, h2, h3, h4⟩
    · by_cases hc : ∃ a, ps[n]? = some (a, true) ∧ k ≤ (n : Int) + 1
      · obtain ⟨a, ha, hk⟩ := hc
        exact .inr ⟨n, a, by omega, ha, hk, hf⟩
      · refine .inl fun j b hj hb => ?_
        rcases Nat.lt_or_ge j n with h | h
        · exact hf j b h hb
        · obtain rfl : j = n := by omega
          rcases Int.lt_or_le ((j : Int) + 1) k with e | e
          · exact e
          · exact absurd ⟨b, hb, e⟩ hc
    · exact .inr ⟨i, a, by omega, h2, h3, h4⟩
theorem next_ex {α : Type} (ps : List (α × Bool)) (k : Int) : ∃ r, NextIs ps k r := by
  rcases next_or ps k ps.length with hf | ⟨i, a, -, h2, h3, h4⟩
  · exact ⟨0, .inl ⟨rfl, fun j b hb => hf j b (lt_of_at hb) hb⟩⟩
  · exact ⟨_, .inr ⟨i, a, rfl, h2, h3, h4⟩⟩
theorem next_one {α : Type} {ps : List (α × Bool)} {k r r' : Int} (h : NextIs ps k r) (h' : NextIs ps k r') : r' = r := by
  rcases h with ⟨rfl, hf⟩ | ⟨i, a, rfl, h2, h3, h4⟩
  · rcases h' with ⟨e, -⟩ | ⟨j, b, -, g2, g3, -⟩
    · exact e
    · have := hf j b g2; omega
  · exact next_at h2 h3 h4 h'
end Go.Proofs.Ytkdlhnfagghppaa

/- What Free and Next give is one number. -/
import Derived.Test.YtkdlhnfagghppaaFrees
namespace Go.Proofs.Ytkdlhnfagghppaa

theorem free_at {α : Type} {ps : List (α × Bool)} {most r : Int} {i : Nat} {a : α} (hi : ps[i]? = some (a, false)) (hf : Full ps i) (h : FreeIs ps most r) : r = (i : Int) + 1 := by
  rcases h with ⟨j, b, rfl, hj, hg⟩ | ⟨hg, -⟩
  · rcases Nat.lt_trichotomy i j with e | rfl | e
    · obtain ⟨c, hc⟩ := hg i e; rw [hi] at hc; cases hc
    · rfl
    · obtain ⟨c, hc⟩ := hf j e; rw [hj] at hc; cases hc
  · obtain ⟨c, hc⟩ := hg i (lt_of_at hi); rw [hi] at hc; cases hc
theorem free_end {α : Type} {ps : List (α × Bool)} {most r : Int} (hf : Full ps ps.length) (hm : (ps.length : Int) ≠ most) (h : FreeIs ps most r) : r = (ps.length : Int) + 1 := by
  rcases h with ⟨j, b, rfl, hj, hg⟩ | ⟨hg, ⟨e, -⟩ | ⟨-, e⟩⟩
  · obtain ⟨c, hc⟩ := hf j (lt_of_at hj); rw [hj] at hc; cases hc
  · exact absurd e hm
  · exact e
theorem free_zero {α : Type} {ps : List (α × Bool)} {most r : Int} (hf : Full ps ps.length) (hm : (ps.length : Int) = most) (h : FreeIs ps most r) : r = 0 := by
  rcases h with ⟨j, b, rfl, hj, hg⟩ | ⟨hg, ⟨-, e⟩ | ⟨e, -⟩⟩
  · obtain ⟨c, hc⟩ := hf j (lt_of_at hj); rw [hj] at hc; cases hc
  · exact e
  · exact absurd hm e
theorem next_at {α : Type} {ps : List (α × Bool)} {k r : Int} {i : Nat} {a : α} (hi : ps[i]? = some (a, true)) (hk : k ≤ (i : Int) + 1) (hf : ∀ (j : Nat) b, j < i → ps[j]? = some (b, true) → (j : Int) + 1 < k) (h : NextIs ps k r) : r = (i : Int) + 1 := by
  rcases h with ⟨-, hg⟩ | ⟨j, b, rfl, hj, hkj, hg⟩
  · have := hg i a hi; omega
  · rcases Nat.lt_trichotomy i j with e | rfl | e
    · have := hg i a e hi; omega
    · rfl
    · have := hf j b e hj; omega
end Go.Proofs.Ytkdlhnfagghppaa

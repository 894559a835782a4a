/- Lists copied into new memory. -/
import Derived.Test.YtagibmgbjhemkaaGreatEn16
namespace Go.Proofs.YtagibmgbjhemkaaGreat.W16
open Go.RowKit Go.Maps
theorem newB {W : World} {v : Value} {ys : List Nat} (h : Lies u8v W v ys) (hl : ys.length ≤ 140737488355328) :
    ∃ a' n' c' w', (∀ ty, (Builtin.append_ #[23, 23] ty #[.slice (some ⟨W.heap.size, 0, none⟩) 0 0, v]).run Tryz.prog (W.alloc (.cells #[] 5)) = .ok (.slice a' n' c') w') ∧ ByRow W.heap.size w' (.slice a' n' c') ys ∧ Below W.heap.size W w' := by
  have hb := below_new W (.cells #[] 5)
  have hr : ByRow W.heap.size (W.alloc (.cells #[] 5)) (.slice (some ⟨W.heap.size, 0, none⟩) 0 0) [] := ⟨rfl, .inr ⟨W.heap.size, 0, #[], rfl, Nat.le_refl _, heap_alloc_new _ _, Nat.le_refl _, by unfold maxLen; omega, rfl, rfl⟩⟩
  obtain ⟨a', n', c', w', r, g1, g2, -⟩ := run_appBs hr hb.size (lies_below h hb) (by simpa using hl)
  rw [List.nil_append] at g1
  exact ⟨a', n', c', w', r, g1, hb.trans (g2.below hb.size (fun k e => by have := own_eq e; omega))⟩
end Go.Proofs.YtagibmgbjhemkaaGreat.W16

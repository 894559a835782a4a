/- What a heap's call leaves of a call's box. -/
import Derived.Test.YtfhpabcjbjmcmaaStepMore
namespace Go.Proofs.Ytfhpabcjbjmcmaa
open Go.RowKit Go.Maps

theorem first_some [Inhabited EntI] {ms : List EntI} (h0 : 0 < ms.length) {r : Int} (hr : FirstIs (pairs ms) r) : ∃ i : Nat, i < ms.length ∧ r = (i : Int) := by
  rcases hr with ⟨-, h1⟩ | ⟨i, hi1, h2, -⟩
  · rw [pairs_length] at h1; omega
  · rw [pairs_length] at hi1; exact ⟨i, hi1, h2⟩

/-- Over a call's box: what a heap's call leaves of it. -/
theorem Game.boxed_on [Inhabited EntI] {B : Nat} {w0 w : World} {p n : Nat} {ms : List EntI} {v : Value} {its : List (Int × Int)} (h : Game B w0 p ms n v its w) (x y z : Value) (q : Nat) :
    ∃ F, OnI ((w.alloc (.cells #[x, y, z] 31)).drewN q) p F ms n ∧ ∀ w' F' ms' n', OnI w' p F' ms' n' → Turned F ((w.alloc (.cells #[x, y, z] 31)).drewN q) w' → (∀ j, F' j → F j ∨ ((w.alloc (.cells #[x, y, z] 31)).drewN q).heap.size ≤ j) → Game B w0 p ms' n' v its w' ∧ w'.cell? ⟨w.heap.size, 0, none⟩ = some x := by
  obtain ⟨F, ho, hF, hv⟩ := h.on
  have hb : Below w.heap.size w ((w.alloc (.cells #[x, y, z] 31)).drewN q) := below_drewN ((Below.refl _ _).alloc (Nat.le_refl _) _) q
  have hs : ((w.alloc (.cells #[x, y, z] 31)).drewN q).heap.size = w.heap.size + 1 := by show (w.alloc _).heap.size = _; simp
  refine ⟨F, ho.kept (fun k hk => hb.block k (ho.lt hk)), fun w' F' ms' n' g1 g2 g3 => ⟨⟨(h.below.trans (hb.mono h.room)).trans (g2.below (Nat.le_trans h.room hb.size) hF), Nat.le_trans (Nat.le_trans h.room hb.size) g2.size, items_kept h.row (fun k hk => ?_), F', g1, fun j hj => ?_, fun b hb1 hf => ?_⟩, ?_⟩⟩
  · have h1 := (h.row.lt k hk).2
    exact (g2.block k (by omega) (hv k hk)).trans (hb.block k h1)
  · rcases g3 j hj with e | e
    · exact hF j e
    · have := h.room; omega
  · rcases g3 b hf with e | e
    · exact hv b hb1 e
    · have := (h.row.lt b hb1).2; omega
  · have hnf : ¬ F w.heap.size := fun e => by have := ho.lt e; omega
    exact (cell_of_heap (x := ⟨w.heap.size, 0, none⟩) (g2.block _ (by show w.heap.size < _; omega) hnf)).trans (box_cells w x y z).1
end Go.Proofs.Ytfhpabcjbjmcmaa

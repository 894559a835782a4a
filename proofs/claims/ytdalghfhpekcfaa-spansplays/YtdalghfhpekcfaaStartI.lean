/- The play's beginning. -/
import Derived.Test.YtdalghfhpekcfaaMemI
import Derived.Deep.RegionHeld3
import Derived.Deep.CutRange
namespace Go.Proofs.Ytdalghfhpekcfaa
open Go.RowKit Go.Shelf

theorem fair_start (most : Int) : Fair most 0 (fun _ => []) (fun _ => []) :=
  ⟨[], Nat.le_refl _, fun _ _ => ⟨canon_nil, agree_nil, fun d hd => by simp at hd, by simp, edged_nil _⟩⟩

theorem mem_startI (most : Int) (w : World) : MemI w (w.heap.size + 2) (w.heap.size + 3) most (fun k => w.heap.size + k) (fun _ => []) (fun _ => .slice none 0 0) (fun _ => [])
    (SnapG (fun _ => none) (w.heap.size + 2) ((((w.alloc (.cells #[.slice none 0 0] 91)).alloc (.cells #[.slice none 0 0] 91)).alloc (.cells #[.pointer (some ⟨w.heap.size, 0, none⟩), .pointer (some ⟨w.heap.size + 1, 0, none⟩)] 52)).alloc (.cells #[.slice none 0 0, .int .i64 most, .slice none 0 0, .int .i64 most] 62)))
    ((((w.alloc (.cells #[.slice none 0 0] 91)).alloc (.cells #[.slice none 0 0] 91)).alloc (.cells #[.pointer (some ⟨w.heap.size, 0, none⟩), .pointer (some ⟨w.heap.size + 1, 0, none⟩)] 52)).alloc (.cells #[.slice none 0 0, .int .i64 most, .slice none 0 0, .int .i64 most] 62)) := by
  have s1 : (w.alloc (.cells #[.slice none 0 0] 91)).heap.size = w.heap.size + 1 := by simp
  have n1 := (herd_none w).new (p := w.heap.size) (rs := []) ((Below.refl _ _).alloc (Nat.le_refl _) _) (newSetI w) (Nat.le_refl _) (fun k hk => by simp [Value.ownBlock] at hk) canon_nil (fun i hi => by simp at hi)
  have n2 := n1.new (p := w.heap.size + 1) (rs := []) ((Below.refl _ _).alloc (Nat.le_refl _) (.cells #[.slice none 0 0] 91)) (by have := newSetI (w.alloc (.cells #[.slice none 0 0] 91)); rwa [s1] at this) (by rw [s1]; exact Nat.le_refl _) (fun k hk => by simp [Value.ownBlock] at hk) canon_nil (fun i hi => by simp at hi)
  have s2 : ((w.alloc (.cells #[.slice none 0 0] 91)).alloc (.cells #[.slice none 0 0] 91)).heap.size = w.heap.size + 2 := by simp
  have hb : Below ((w.alloc (.cells #[.slice none 0 0] 91)).alloc (.cells #[.slice none 0 0] 91)).heap.size ((w.alloc (.cells #[.slice none 0 0] 91)).alloc (.cells #[.slice none 0 0] 91)) ((((w.alloc (.cells #[.slice none 0 0] 91)).alloc (.cells #[.slice none 0 0] 91)).alloc (.cells #[.pointer (some ⟨w.heap.size, 0, none⟩), .pointer (some ⟨w.heap.size + 1, 0, none⟩)] 52)).alloc (.cells #[.slice none 0 0, .int .i64 most, .slice none 0 0, .int .i64 most] 62)) := ((Below.refl _ _).alloc (Nat.le_refl _) _).alloc (by simp) _
  have n3 := n2.snap hb
  rw [s2] at n3
  refine ⟨⟨_, n3, fun k hk => ?_⟩, by simp, fun k _ => ⟨by simp [encD], .inl ⟨rfl, rfl⟩⟩, by omega, by omega, ?_, ?_⟩
  · rcases two_of hk with rfl | rfl
    · rw [at_other _ _ (by show w.heap.size + 0 ≠ w.heap.size + 1; omega)]
      exact at_self _ _ _
    · exact at_self _ _ _
  · refine snapG_new (Nat.le_refl _) ((heap_alloc_old _ _ (by simp)).trans ?_)
    have := heap_alloc_new ((w.alloc (.cells #[.slice none 0 0] 91)).alloc (.cells #[.slice none 0 0] 91)) (.cells #[.pointer (some ⟨w.heap.size, 0, none⟩), .pointer (some ⟨w.heap.size + 1, 0, none⟩)] 52)
    rwa [s2] at this
  · refine snapG_new (Nat.le_succ _) ?_
    have := heap_alloc_new (((w.alloc (.cells #[.slice none 0 0] 91)).alloc (.cells #[.slice none 0 0] 91)).alloc (.cells #[.pointer (some ⟨w.heap.size, 0, none⟩), .pointer (some ⟨w.heap.size + 1, 0, none⟩)] 52)) (.cells #[.slice none 0 0, .int .i64 most, .slice none 0 0, .int .i64 most] 62)
    rwa [show (((w.alloc (.cells #[.slice none 0 0] 91)).alloc (.cells #[.slice none 0 0] 91)).alloc (.cells #[.pointer (some ⟨w.heap.size, 0, none⟩), .pointer (some ⟨w.heap.size + 1, 0, none⟩)] 52)).heap.size = w.heap.size + 3 by simp] at this
end Go.Proofs.Ytdalghfhpekcfaa

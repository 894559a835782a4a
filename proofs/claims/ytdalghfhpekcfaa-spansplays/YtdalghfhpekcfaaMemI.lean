/- Two sets, the array of their pointers, and the reference's. -/
import Derived.Test.YtdalghfhpekcfaaHerd2I
import Derived.Test.YtdalghfhpekcfaaSide
namespace Go.Proofs.Ytdalghfhpekcfaa
open Go.RowKit Go.Shelf

theorem HerdI.snap {B : Nat} {w0 w w' : World} {F : Nat → Option (List (Int × Int))} {G : Nat → Option Obj} (h : HerdI B w0 F G w) (hb : Below w.heap.size w w') : HerdI B w0 F (SnapG G w.heap.size w') w' := by
  have h' := h.step hb
  obtain ⟨V, h1, h2, h3⟩ := h.sets
  have h1' : ∀ p rs, F p = some rs → B ≤ p ∧ Canon rs ∧ Fits (-9223372036854775808) 9223372036854775807 rs ∧ SetI w' p (V p) rs ∧ ∀ k, (V p).ownBlock = some k → B ≤ k := fun p rs hp => by
    obtain ⟨k1, k2, k3, k4, k5⟩ := h1 p rs hp
    exact ⟨k1, k2, k3, k4.below hb, k5⟩
  refine ⟨h'.below, h'.room, fun k o hk => ?_, V, h1', h2, fun p rs k o hp hk => ?_⟩
  · unfold SnapG at hk
    split at hk
    · exact hk
    · exact h'.kept k o hk
  · unfold SnapG at hk
    split at hk
    · have l1 := h.lt hp
      exact ⟨by omega, fun e => by have := ((h1 p rs hp).2.2.2.1.row.lt k e).2; omega⟩
    · exact h3 p rs k o hp hk

/-- The play's memory. -/
structure MemI (w : World) (g5 g6 : Nat) (most : Int) (p : Nat → Nat) (rs : Nat → List (Int × Int)) (v : Nat → Value) (ds : Nat → List Deed) (G : Nat → Option Obj) (W : World) : Prop where
  herd : ∃ F, HerdI w.heap.size w F G W ∧ ∀ k, k < 2 → F (p k) = some (rs k)
  apart : p 0 ≠ p 1
  rows : ∀ k, k < 2 → RowG G 97 3 (v k) (ds k).length (encD (ds k))
  own5 : w.heap.size ≤ g5
  own6 : w.heap.size ≤ g6
  sets : G g5 = some (.cells #[.pointer (some ⟨p 0, 0, none⟩), .pointer (some ⟨p 1, 0, none⟩)] 52 (0, 0))
  refs : G g6 = some (.cells #[v 0, .int .i64 most, v 1, .int .i64 most] 62 (0, 0))

variable {w : World} {g5 g6 : Nat} {most : Int} {p : Nat → Nat} {rs : Nat → List (Int × Int)} {v : Nat → Value} {ds : Nat → List Deed} {G G' : Nat → Option Obj} {W W' : World}

theorem MemI.keep (h : MemI w g5 g6 most p rs v ds G W) : KeepG G W := by
  obtain ⟨F, h1, -⟩ := h.herd
  exact h1.kept
theorem MemI.below (h : MemI w g5 g6 most p rs v ds G W) : Below w.heap.size w W := by
  obtain ⟨F, h1, -⟩ := h.herd
  exact h1.below
theorem MemI.lt (h : MemI w g5 g6 most p rs v ds G W) {g : Nat} {o : Obj} (hg : G g = some o) : g < W.heap.size := by
  obtain ⟨F, h1, -⟩ := h.herd
  exact h1.ltG hg
theorem MemI.step (h : MemI w g5 g6 most p rs v ds G W) (hb : Below W.heap.size W W') : MemI w g5 g6 most p rs v ds G W' := by
  obtain ⟨F, h1, h2⟩ := h.herd
  exact ⟨⟨F, h1.step hb, h2⟩, h.apart, h.rows, h.own5, h.own6, h.sets, h.refs⟩
theorem MemI.snap (h : MemI w g5 g6 most p rs v ds G W) (hb : Below W.heap.size W W') : MemI w g5 g6 most p rs v ds (SnapG G W.heap.size W') W' ∧ ∀ g o, G g = some o → SnapG G W.heap.size W' g = some o := by
  have hs : ∀ g o, G g = some o → SnapG G W.heap.size W' g = some o := snapG_sub (fun g o hg => h.lt hg)
  obtain ⟨F, h1, h2⟩ := h.herd
  exact ⟨⟨⟨F, h1.snap hb, h2⟩, h.apart, fun k hk => (h.rows k hk).mono hs, h.own5, h.own6, hs _ _ h.sets, hs _ _ h.refs⟩, hs⟩
theorem MemI.get (h : MemI w g5 g6 most p rs v ds G W) {k : Nat} (hk : k < 2) : Canon (rs k) ∧ Fits (-9223372036854775808) 9223372036854775807 (rs k) := by
  obtain ⟨F, h1, h2⟩ := h.herd
  exact h1.get (h2 k hk)
theorem MemI.acts (h : MemI w g5 g6 most p rs v ds G W) {k : Nat} (hk : k < 2) : ActsAt W (v k) (ds k) := (h.rows k hk).row h.keep

theorem two_of {k : Nat} (hk : k < 2) : k = 0 ∨ k = 1 := by omega

theorem MemI.cells (h : MemI w g5 g6 most p rs v ds G W) {k : Nat} (hk : k < 2) :
    W.cell? ⟨g5, k, none⟩ = some (.pointer (some ⟨p k, 0, none⟩)) ∧ (W.cell? ⟨g6, k * 2, none⟩ = some (v k) ∧ W.cell? ⟨g6, k * 2 + 1, none⟩ = some (.int .i64 most)) ∧ (∀ o, W.frozen? ⟨g5, o, none⟩ = false) ∧ ∀ o, W.frozen? ⟨g6, o, none⟩ = false := by
  have e5 := h.keep _ _ h.sets
  have e6 := h.keep _ _ h.refs
  refine ⟨?_, ⟨?_, ?_⟩, fun o => frozen_of_row _ _ o _ _ e5, fun o => frozen_of_row _ _ o _ _ e6⟩
  · rw [cell_of_row _ _ _ _ _ _ e5]
    rcases two_of hk with rfl | rfl <;> rfl
  · rw [cell_of_row _ _ _ _ _ _ e6]
    rcases two_of hk with rfl | rfl <;> rfl
  · rw [cell_of_row _ _ _ _ _ _ e6]
    rcases two_of hk with rfl | rfl <;> rfl

/-- refs[k] is written. -/
theorem MemI.ref (h : MemI w g5 g6 most p rs v ds G W) {k : Nat} (hk : k < 2) {v' : Value} {ds' : List Deed} (hr : RowG G 97 3 v' ds'.length (encD ds')) :
    ∃ G', MemI w g5 g6 most p rs (put2 v k v') (put2 ds k ds') G' ((W.setCell ⟨g6, k * 2, none⟩ v').setCell ⟨g6, k * 2 + 1, none⟩ (.int .i64 most)) ∧ ∀ g o, g ≠ g6 → G g = some o → G' g = some o := by
  obtain ⟨F, h1, h2⟩ := h.herd
  have hp := h1.poke (i := k * 2) h.refs h.own6 v'
  have hp2 := hp.poke (g := g6) (i := k * 2 + 1) (if_pos rfl) h.own6 (.int .i64 most)
  have hs : ∀ g o, g ≠ g6 → G g = some o → (fun j => if j = g6 then some (Obj.cells ((#[v 0, .int .i64 most, v 1, .int .i64 most].setIfInBounds (k * 2) v').setIfInBounds (k * 2 + 1) (.int .i64 most)) 62 (0, 0)) else if j = g6 then some (Obj.cells (#[v 0, .int .i64 most, v 1, .int .i64 most].setIfInBounds (k * 2) v') 62 (0, 0)) else G j) g = some o := fun g o hg ho => by
    simp only [if_neg hg]
    exact ho
  have ne : ∀ g cs t, t ≠ 62 → G g = some (.cells cs t (0, 0)) → g ≠ g6 := fun g cs t ht hg e => by rw [e, h.refs] at hg; cases hg; exact ht rfl
  have mv : ∀ {v : Value} {n : Nat} {xs : List Value}, RowG G 97 3 v n xs → RowG _ 97 3 v n xs := fun hr => hr.move (fun g cs hg => hs g _ (ne g cs 97 (by decide) hg) hg)
  refine ⟨_, ⟨⟨F, hp2, h2⟩, h.apart, fun j hj => ?_, h.own5, h.own6, hs _ _ (ne _ _ _ (by decide) h.sets) h.sets, ?_⟩, hs⟩
  · by_cases e : j = k
    · subst e
      rw [put2_self, put2_self]
      exact mv hr
    · rw [put2_other _ _ e, put2_other _ _ e]
      exact mv (h.rows j hj)
  · simp only [if_true]
    rcases two_of hk with rfl | rfl <;> simp [put2]

/-- The set at p k has other runs. -/
theorem MemI.other (h : MemI w g5 g6 most p rs v ds G W) {k : Nat} (hk : k < 2) {F : Nat → Option (List (Int × Int))} {rs' : List (Int × Int)} (hF : ∀ k, k < 2 → F (p k) = some (rs k)) (hH : HerdI w.heap.size w (at' F (p k) rs') G W') : MemI w g5 g6 most p (put2 rs k rs') v ds G W' := by
  refine ⟨⟨_, hH, fun j hj => ?_⟩, h.apart, h.rows, h.own5, h.own6, h.sets, h.refs⟩
  by_cases e : j = k
  · subst e
    rw [put2_self]
    exact at_self _ _ _
  · rw [put2_other _ _ e, at_other _ _ (fun e2 => ?_)]
    · exact hF j hj
    · have := h.apart
      rcases two_of hj with rfl | rfl <;> rcases two_of hk with rfl | rfl <;> first | exact e rfl | exact this e2 | exact this e2.symm
end Go.Proofs.Ytdalghfhpekcfaa

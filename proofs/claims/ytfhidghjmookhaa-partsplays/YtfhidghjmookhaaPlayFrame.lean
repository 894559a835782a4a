/- A call of play: its boxes beside the parts and the items. -/
import Derived.Test.YtfhidghjmookhaaPlayOps
namespace Go.Proofs.Ytfhidghjmookhaa
open Go.RowKit Go.Maps

/-- A block that holds the reference's parts; one that holds a call. -/
def rM (M : Nat) (x y : Value) : Rw := ⟨.slice (some ⟨M, 0, none⟩) 1 1, 28, 2, 1, [x, y]⟩
def rO (M : Nat) (x y z : Value) : Rw := ⟨.slice (some ⟨M, 0, none⟩) 1 1, 32, 3, 1, [x, y, z]⟩

section
variable {w0 w u : World} {p M : Nat} {S : List (Part Int)} {rs : List Rw}

theorem SideN.cellM {x y : Value} (h : SideN w0 p S rs u) (hm : rM M x y ∈ rs) : u.cell? ⟨M, 0, none⟩ = some x ∧ u.cell? ⟨M, 1, none⟩ = some y ∧ ∀ o, u.frozen? ⟨M, o, none⟩ = false := by
  have h0 : u.ownsRow w0.heap.size 28 2 (.slice (some ⟨M, 0, none⟩) 1 1) 1 [x, y] := h.rows _ hm
  exact ⟨h0.cellAt 0 (by omega), h0.cellAt 1 (by omega), fun o => h0.frozenAt o⟩
theorem SideN.cellO {x y z : Value} (h : SideN w0 p S rs u) (hm : rO M x y z ∈ rs) : u.cell? ⟨M, 0, none⟩ = some x ∧ u.cell? ⟨M, 1, none⟩ = some y ∧ u.cell? ⟨M, 2, none⟩ = some z := by
  have h0 : u.ownsRow w0.heap.size 32 3 (.slice (some ⟨M, 0, none⟩) 1 1) 1 [x, y, z] := h.rows _ hm
  exact ⟨h0.cellAt 0 (by omega), h0.cellAt 1 (by omega), h0.cellAt 2 (by omega)⟩

/-- The first row, such a block, is written. -/
theorem SideN.put2 {x y : Value} (h : SideN w0 p S (rM M x y :: rs) u) (x' y' : Value) : SideN w0 p S (rM M x' y' :: rs) ((u.setCell ⟨M, 0, none⟩ x').setCell ⟨M, 1, none⟩ y') := by
  have h1 := SideN.stored (g := M) (n := 1) (c := 1) (t := 28) (sz := 2) (xs := [x, y]) h 0 x'
  exact SideN.stored (g := M) (n := 1) (c := 1) (t := 28) (sz := 2) (xs := [x', y]) h1 1 y'

theorem SideN.box (h : SideN w0 p S rs u) (x y : Value) : SideN w0 p S (rM u.heap.size x y :: rs) (u.alloc (.cells #[x, y] 28)) :=
  h.more ((Below.refl _ _).alloc (Nat.le_refl _) _) (World.ownsRow_lit u #[x, y] 1 (Nat.le_refl _) (by unfold maxLen; omega) rfl)
theorem SideN.boxO (h : SideN w0 p S rs u) (x y z : Value) : SideN w0 p S (rO u.heap.size x y z :: rs) (u.alloc (.cells #[x, y, z] 32)) :=
  h.more ((Below.refl _ _).alloc (Nat.le_refl _) _) (World.ownsRow_lit u #[x, y, z] 1 (Nat.le_refl _) (by unfold maxLen; omega) rfl)

/-- play's own blocks. -/
def three (w : World) (v y k a b : Value) : World := ((w.alloc (.cells #[v, y] 28)).alloc (.cells #[k, a, b] 32)).alloc (.cells #[.slice none 0 0, .int .i64 0] 28)

theorem begin3 {I : Rw} (h : SideN w0 p S (I :: rs) w) (v y k a b : Value) : SideN w0 p S (I :: rM w.heap.size v y :: rO (w.heap.size + 1) k a b :: rM (w.heap.size + 2) (.slice none 0 0) (.int .i64 0) :: rs) (three w v y k a b) := by
  have h1 := h.box v y
  have h2 := h1.boxO k a b
  have h3 := h2.box (.slice none 0 0) (.int .i64 0)
  have e1 : (w.alloc (.cells #[v, y] 28)).heap.size = w.heap.size + 1 := by simp
  have e2 : ((w.alloc (.cells #[v, y] 28)).alloc (.cells #[k, a, b] 32)).heap.size = w.heap.size + 2 := by simp
  rw [e1, e2] at h3
  refine SideN.perm h3 ?_
  refine (List.perm_middle (l₁ := [rM (w.heap.size + 2) (.slice none 0 0) (.int .i64 0), rO (w.heap.size + 1) k a b, rM w.heap.size v y]) (l₂ := rs) (a := I)).trans (List.Perm.cons _ ?_)
  refine (List.perm_middle (l₁ := [rM (w.heap.size + 2) (.slice none 0 0) (.int .i64 0), rO (w.heap.size + 1) k a b]) (l₂ := rs) (a := rM w.heap.size v y)).trans (List.Perm.cons _ ?_)
  exact List.Perm.swap _ _ _

/-- The reference's parts behind its call are laid into their box. -/
theorem mid3 {I A B : Rw} {x y : Value} (h : SideN w0 p S (I :: rM M x y :: A :: B :: rs) u) (x' y' : Value) : SideN w0 p S (I :: rM M x' y' :: A :: B :: rs) ((u.setCell ⟨M, 0, none⟩ x').setCell ⟨M, 1, none⟩ y') :=
  ((h.perm (List.Perm.swap _ _ _)).put2 x' y').perm (List.Perm.swap _ _ _)

/-- The answer is laid into the result's block; the boxes are forgotten. -/
theorem end3 {I A B : Rw} {x y : Value} (h : SideN w0 p S (I :: A :: B :: rM M x y :: rs) u) (x' y' : Value) : SideN w0 p S (I :: rs) ((u.setCell ⟨M, 0, none⟩ x').setCell ⟨M, 1, none⟩ y') ∧ ((u.setCell ⟨M, 0, none⟩ x').setCell ⟨M, 1, none⟩ y').cell? ⟨M, 0, none⟩ = some x' ∧ ((u.setCell ⟨M, 0, none⟩ x').setCell ⟨M, 1, none⟩ y').cell? ⟨M, 1, none⟩ = some y' ∧ SideN w0 p S (rM M x' y' :: I :: A :: B :: rs) ((u.setCell ⟨M, 0, none⟩ x').setCell ⟨M, 1, none⟩ y') := by
  have h1 := (h.perm (List.perm_middle (l₁ := [I, A, B]) (l₂ := rs) (a := rM M x y))).put2 x' y'
  have h2 := h1.cellM (List.mem_cons_self ..)
  exact ⟨h1.sub (List.Sublist.cons _ (List.Sublist.cons_cons _ (List.Sublist.cons _ (List.Sublist.cons _ (List.Sublist.refl _))))), h2.1, h2.2.1, h1⟩
end

/-- What a call of play leaves. -/
def Played (w0 : World) (p : Nat) (rs : List Rw) (n : Nat) (m : Int) (v' : Value) (nx' : Int) (w' : World) : Prop :=
  ∃ S' its', SideN w0 p S' (itm v' its' :: rs) w' ∧ Rel S' its' nx' ∧ its'.length ≤ n ∧ 0 ≤ nx' ∧ nx' ≤ m
end Go.Proofs.Ytfhidghjmookhaa

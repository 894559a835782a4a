/- CondOwn: writing into three of six lists, and growing them. -/
import Derived.Test.YtkmhcgmmbkchaaaGreatOwnM10
namespace Go.Proofs.YtkmhcgmmbkchaaaGreat
open Go.RowKit Go.Maps T9
/-- The first three have these lengths. -/
def QO (W0 : World) (lv hv av mv iv bv : Value) (ln hn an : Nat) (msl hsl : List Int) (asl : List (Int × Int)) (W : World) : Prop :=
  ∃ X Y Z L, X.length = ln ∧ Y.length = hn ∧ Z.length = an ∧ O6 W0 lv hv av mv iv bv X Y Z msl hsl asl L W
/-- Behind k pushes onto each. -/
def QA (W0 : World) (lv hv av mv iv bv : Value) (ln hn an k : Nat) (msl hsl : List Int) (asl : List (Int × Int)) (W : World) : Prop :=
  ∃ X Y Z L, X.length = ln ∧ Y.length = hn ∧ Z.length = an ∧ O6 W0 lv hv av mv iv bv (X ++ List.replicate k 7) (Y ++ List.replicate k 8) (Z ++ List.replicate k (0, 9)) msl hsl asl L W
section
variable {W0 W : World} {lv hv av mv iv bv : Value} {ln hn an k n c : Nat} {msl hsl : List Int} {asl : List (Int × Int)} {a : Option Addr}
theorem QO.setL (h : QO W0 (.slice a n c) hv av mv iv bv ln hn an msl hsl asl W) (hk : k < ln) (hn' : n = ln) (x : Int) : ∃ g y, a = some ⟨g, 0, none⟩ ∧ W.cell? ⟨g, k, none⟩ = some (.int .i64 y) ∧ (∀ o, W.frozen? ⟨g, o, none⟩ = false) ∧ QO W0 (.slice a n c) hv av mv iv bv ln hn an msl hsl asl (W.setCell ⟨g, k, none⟩ (.int .i64 x)) := by
  obtain ⟨X, Y, Z, L, h1, h2, h3, h4⟩ := h
  obtain ⟨g, hg⟩ := brow_some h4.l (by omega)
  subst hg
  obtain ⟨y, hy⟩ : ∃ y, X[k]? = some y := ⟨_, List.getElem?_eq_getElem (by omega)⟩
  obtain ⟨f1, f2⟩ := brow_set h4.l x (show k < n by omega)
  refine ⟨g, y, rfl, brow_at h4.l hy, f1, X.set k x, Y, Z, _, by rw [List.length_set]; exact h1, h2, h3, h4.chL (turned_setCell W ⟨g, k, none⟩ _ rfl) f2 (fun b e => .inl e)⟩
theorem QO.setH (h : QO W0 lv (.slice a n c) av mv iv bv ln hn an msl hsl asl W) (hk : k < hn) (hn' : n = hn) (x : Int) : ∃ g y, a = some ⟨g, 0, none⟩ ∧ W.cell? ⟨g, k, none⟩ = some (.int .i64 y) ∧ (∀ o, W.frozen? ⟨g, o, none⟩ = false) ∧ QO W0 lv (.slice a n c) av mv iv bv ln hn an msl hsl asl (W.setCell ⟨g, k, none⟩ (.int .i64 x)) := by
  obtain ⟨X, Y, Z, L, h1, h2, h3, h4⟩ := h
  obtain ⟨g, hg⟩ := brow_some h4.h (by omega)
  subst hg
  obtain ⟨y, hy⟩ : ∃ y, Y[k]? = some y := ⟨_, List.getElem?_eq_getElem (by omega)⟩
  obtain ⟨f1, f2⟩ := brow_set h4.h x (show k < n by omega)
  refine ⟨g, y, rfl, brow_at h4.h hy, f1, X, Y.set k x, Z, _, h1, by rw [List.length_set]; exact h2, h3, h4.chH (turned_setCell W ⟨g, k, none⟩ _ rfl) f2 (fun b e => .inl e)⟩
theorem QO.setA (h : QO W0 lv hv (.slice a n c) mv iv bv ln hn an msl hsl asl W) (hk : k < an) (hn' : n = an) (u x : Int) : ∃ g y z, a = some ⟨g, 0, none⟩ ∧ W.cell? ⟨g, k * 2, none⟩ = some (.int .i64 y) ∧ W.cell? ⟨g, k * 2 + 1, none⟩ = some (.int .i64 z) ∧ (∀ o, W.frozen? ⟨g, o, none⟩ = false) ∧ QO W0 lv hv (.slice a n c) mv iv bv ln hn an msl hsl asl ((W.setCell ⟨g, k * 2, none⟩ (.int .i64 u)).setCell ⟨g, k * 2 + 1, none⟩ (.int .i64 x)) := by
  obtain ⟨X, Y, Z, L, h1, h2, h3, h4⟩ := h
  obtain ⟨g, hg⟩ := abr_some h4.a (by omega)
  subst hg
  obtain ⟨-, q2, q3, q4, rest, R⟩ := rc_of h4.a
  obtain ⟨y, hy⟩ : ∃ y, Z[k]? = some y := ⟨_, List.getElem?_eq_getElem (by omega)⟩
  obtain ⟨f1, f2⟩ := R.at_ hy
  have R2 := R.set (show k < Z.length by omega) (u, x)
  have r2 := R2.owns W0.heap.size q4 (k := n) (by rw [List.length_set]; omega) q3
  rw [List.take_of_length_le (by rw [List.length_set]; omega)] at r2
  refine ⟨g, y.1, y.2, rfl, f1, f2, R.frozen, X, Y, Z.set k (u, x), _, h1, h2, by rw [List.length_set]; exact h3, h4.chA (R2.tur.mono (fun b _ e => ?_)) r2 (fun b e => .inl e)⟩
  rw [e]; rfl
theorem QO.start (h : QO W0 lv hv av mv iv bv ln hn an msl hsl asl W) : QA W0 lv hv av mv iv bv ln hn an 0 msl hsl asl W := by
  obtain ⟨X, Y, Z, L, h1, h2, h3, h4⟩ := h
  exact ⟨X, Y, Z, L, h1, h2, h3, by simpa using h4⟩
theorem QA.app (h : QA W0 lv hv av mv iv bv ln hn an k msl hsl asl W) (h1 : ln ≤ 900) (h2 : hn ≤ 900) (h3 : an ≤ 900) (hk : k ≤ 20) :
    ∃ a1 n1 c1 w1 a2 n2 c2 w2 a3 n3 c3 w3, (∀ ty, (Builtin.append_ #[25, 25] ty #[lv, .slice (some ⟨W.heap.size, 0, none⟩) 1 1]).run Tryz.prog (W.alloc (.cells #[.int .i64 7] 3)) = .ok (.slice a1 n1 c1) w1) ∧
      (∀ ty, (Builtin.append_ #[25, 25] ty #[hv, .slice (some ⟨w1.heap.size, 0, none⟩) 1 1]).run Tryz.prog (w1.alloc (.cells #[.int .i64 8] 3)) = .ok (.slice a2 n2 c2) w2) ∧
      (∀ ty, (Builtin.append_ #[50, 50] ty #[av, .slice (some ⟨w2.heap.size, 0, none⟩) 1 1]).run Tryz.prog (w2.alloc (oArc 0 9)) = .ok (.slice a3 n3 c3) w3) ∧
      QA W0 (.slice a1 n1 c1) (.slice a2 n2 c2) (.slice a3 n3 c3) mv iv bv ln hn an (k + 1) msl hsl asl w3 := by
  obtain ⟨X, Y, Z, L, q1, q2, q3, h4⟩ := h
  obtain ⟨a1, n1, c1, w1, r1, g1, t1, o1⟩ := run_app8 7 h4.l h4.bel.size (by simp; omega)
  have h5 := h4.chL t1 g1 o1
  obtain ⟨a2, n2, c2, w2, r2, g2, t2, o2⟩ := run_app8 8 h5.h h5.bel.size (by simp; omega)
  have h6 := h5.chH t2 g2 o2
  obtain ⟨a3, n3, c3, w3, r3, g3, t3, o3⟩ := run_app8A 0 9 h6.a h6.bel.size (by simp; omega)
  have h7 := h6.chA t3 g3 o3
  have e7 : X ++ List.replicate k (7 : Int) ++ [7] = X ++ List.replicate (k + 1) 7 := by rw [List.replicate_succ', List.append_assoc]
  have e8 : Y ++ List.replicate k (8 : Int) ++ [8] = Y ++ List.replicate (k + 1) 8 := by rw [List.replicate_succ', List.append_assoc]
  have e9 : Z ++ List.replicate k ((0 : Int), (9 : Int)) ++ [(0, 9)] = Z ++ List.replicate (k + 1) (0, 9) := by rw [List.replicate_succ', List.append_assoc]
  rw [e7, e8, e9] at h7
  exact ⟨a1, n1, c1, w1, a2, n2, c2, w2, a3, n3, c3, w3, r1, r2, r3, X, Y, Z, _, q1, q2, q3, h7⟩
theorem QA.last {a1 a2 a3 : Option Addr} {n1 c1 n2 c2 n3 c3 : Nat} (h : QA W0 (.slice a1 n1 c1) (.slice a2 n2 c2) (.slice a3 n3 c3) mv iv bv ln hn an 20 msl hsl asl W) :
    ∃ g1 g2 g3, a1 = some ⟨g1, 0, none⟩ ∧ a2 = some ⟨g2, 0, none⟩ ∧ a3 = some ⟨g3, 0, none⟩ ∧ ln < n1 ∧ hn < n2 ∧ an < n3 ∧ W.cell? ⟨g1, ln, none⟩ = some (.int .i64 7) ∧ W.cell? ⟨g2, hn, none⟩ = some (.int .i64 8) ∧ W.cell? ⟨g3, an * 2 + 1, none⟩ = some (.int .i64 9) := by
  obtain ⟨X, Y, Z, L, q1, q2, q3, h4⟩ := h
  have e1 := brow_len h4.l
  have e2 := brow_len h4.h
  have e3 := abrow_len h4.a
  obtain ⟨g1, hg1⟩ := brow_some h4.l (by simp)
  obtain ⟨g2, hg2⟩ := brow_some h4.h (by simp)
  obtain ⟨g3, hg3⟩ := abr_some h4.a (by simp)
  subst hg1 hg2 hg3
  have k1 : (X ++ List.replicate 20 (7 : Int))[ln]? = some 7 := by rw [← q1, List.getElem?_append_right (Nat.le_refl _)]; simp
  have k2 : (Y ++ List.replicate 20 (8 : Int))[hn]? = some 8 := by rw [← q2, List.getElem?_append_right (Nat.le_refl _)]; simp
  have k3 : (Z ++ List.replicate 20 ((0 : Int), (9 : Int)))[an]? = some (0, 9) := by rw [← q3, List.getElem?_append_right (Nat.le_refl _)]; simp
  simp only [List.length_append, List.length_replicate] at e1 e2 e3
  exact ⟨g1, g2, g3, rfl, rfl, rfl, by omega, by omega, by omega, brow_at h4.l k1, brow_at h4.h k2, (arow_at (abrow_low h4.a (Nat.zero_le _)) k3).2⟩
end
end Go.Proofs.YtkmhcgmmbkchaaaGreat

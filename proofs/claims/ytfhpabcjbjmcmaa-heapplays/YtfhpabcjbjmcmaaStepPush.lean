/- step: Push. -/
import Derived.Test.YtfhpabcjbjmcmaaGame
namespace Go.Proofs.Ytfhpabcjbjmcmaa
open Go.RowKit Go.Maps

/-- The call's box, and the state beside it. -/
theorem Game.boxed [Inhabited EntI] {B : Nat} {w0 w : World} {p n : Nat} {ms : List EntI} {v : Value} {its : List (Int × Int)} (h : Game B w0 p ms n v its w) (x y z : Value) : Game B w0 p ms n v its (w.alloc (.cells #[x, y, z] 31)) := h.step ((Below.refl _ _).alloc (Nat.le_refl _) _)
theorem box_cells (w : World) (x y z : Value) : (w.alloc (.cells #[x, y, z] 31)).cell? ⟨w.heap.size, 0, none⟩ = some x ∧ (w.alloc (.cells #[x, y, z] 31)).cell? ⟨w.heap.size, 1, none⟩ = some y ∧ (w.alloc (.cells #[x, y, z] 31)).cell? ⟨w.heap.size, 2, none⟩ = some z := by
  refine ⟨?_, ?_, ?_⟩ <;> rw [World.cell?_alloc_at _ _ _ _ (by simp)] <;> rfl

set_option maxHeartbeats 1000000 in
set_option maxRecDepth 100000 in
theorem stepPushNew [Inhabited EntI] {B : Nat} {w0 w : World} {p n : Nat} {ms : List EntI} {v : Value} (k r : Int) (h : Game B w0 p ms n v (pairs ms) w) (hk : KeyOkI k) (hnin : ∀ x ∈ ms, x.key ≠ k) (hn : ms.length < 1099511627776) (hnn : n < 1099511627776) :
    Calls Try.prog 11 #[.pointer (some ⟨p, 0, none⟩), v, .agg #[.int .i64 1, .int .i64 k, .int .i64 r]] w fun e w' => ∃ v', e = .returned (.tuple #[v', .bool true]) ∧ Hid (Game B w0 p (ms ++ [⟨k, r, n⟩]) (n + 1) v' (pairs (ms ++ [⟨k, r, n⟩])) w') := by
  have HG := hide (h.boxed (.int .i64 1) (.int .i64 k) (.int .i64 r))
  have CA := hide (refPushNew k r _ (unhide HG).row (by rw [pairs_length]; exact hn) (pairs_out hnin))
  obtain ⟨b0, b1, b2⟩ := box_cells w (.int .i64 1) (.int .i64 k) (.int .i64 r)
  have hbl : w.heap.size < (w.alloc (.cells #[.int .i64 1, .int .i64 k, .int .i64 r] 31)).heap.size := by simp
  obtain ⟨a, c, rfl⟩ := item_shape h.row
  have HNI := hide hnin
  clear h hnin
  go_enter Try.func11, Try.ntmps11
  go_wp2_with fail
  refine (unhide CA).mono ?_
  rintro e w2 ⟨v', rfl, h2⟩
  obtain ⟨a', c', rfl⟩ := item_shape (items_kept (unhide h2).1 (fun _ _ => rfl))
  have G2 := (unhide HG).row_step (its' := pairs ms ++ [(k, r)]) (by simpa using (unhide h2).1) (unhide h2).2
  have d1 := ((unhide h2).2.cell (p := ⟨w.heap.size, 1, none⟩) (by exact hbl)).trans b1
  have d2 := ((unhide h2).2.cell (p := ⟨w.heap.size, 2, none⟩) (by exact hbl)).trans b2
  have CB := hide (gPush k r G2 hk (unhide HNI) hn hnn)
  clear CA h2 G2 HG
  go_wp2_with fail
  refine (unhide CB).mono ?_
  rintro e w3 ⟨rfl, G3⟩
  have HG3 := hide G3
  clear CB G3
  go_wp2_with fail
  go_ret2
  exact ⟨_, rfl, by show Game _ _ _ _ _ _ _ _; rw [pairs_snoc]; exact unhide HG3⟩
end Go.Proofs.Ytfhpabcjbjmcmaa

/- The reference's Done. -/
import Derived.Test.YtdalghfhpekcfaaRefActs
import Derived.Laws.Rows
namespace Go.Proofs.Ytdalghfhpekcfaa
open Go.RowKit Go.Shelf

theorem info97 : (Try.prog.info? 97).map (fun i => (i.zero, i.size, i.bytes)) = some (some (.agg #[.bool false, .int .i64 0, .int .i64 0]), 3, 24) := by kernel_rfl

theorem acts_none {w : World} {B n : Nat} {v : Value} {xs : List Value} (h : w.ownsRow B 97 3 v n xs) : (Builtin.append_ #[60, 60] 60 #[v, .slice none 0 0]).run Try.prog w = .ok v w := by
  obtain ⟨i0, hi0, -⟩ := info_parts info97
  exact run_append_owned_none w B 60 60 97 i0 3 Try.underlying60 hi0 v n xs h

/-- All deeds, laid into a new list. -/
theorem copyD {W : World} {v : Value} {ds : List Deed} (h : ActsAt W v ds) (hn : ds.length ≤ 1000000) :
    ∃ a1 c1 w2, (Builtin.append_ #[60, 60] 60 #[.slice (some ⟨W.heap.size, 0, none⟩) 0 0, v]).run Try.prog (W.alloc (.cells #[] 97)) = .ok (.slice a1 ds.length c1) w2 ∧
      w2.ownsRow W.heap.size 97 3 (.slice a1 ds.length c1) ds.length (encD ds) ∧ Below W.heap.size W w2 := by
  have hmade : (W.alloc (.cells #[] 97)).ownsRow W.heap.size 97 3 (.slice (some ⟨W.heap.size, 0, none⟩) 0 0) 0 [] := World.ownsRow_made W #[] 0 (Nat.le_refl _) (by unfold maxLen; omega) rfl
  rcases h.2 with ⟨rfl, h0⟩ | ⟨g, cap, cur, rfl, -, hg, -⟩
  · obtain rfl : ds = [] := List.eq_nil_of_length_eq_zero h0
    exact ⟨_, _, _, acts_none hmade, hmade, (Below.refl _ _).alloc (Nat.le_refl _) _⟩
  · obtain ⟨i0, hi0, hz0, hzs, hzb⟩ := info_parts info97
    have hc := @World.ownsRow.cells _ _ _ _ _ _ _ h
    obtain ⟨v1, w2, hr1, hown1, hgr1, -⟩ := run_append_own (P := Try.prog) (W.alloc (.cells #[] 97)) W.heap.size 60 60 97 i0 _ 3 24 Try.underlying60 hi0 hz0 hzs hzb rfl (by omega) _ 0 [] hmade ⟨g, 0, none⟩ ds.length cap (encD ds) (encD_length _)
      (fun j u hj => cell_old _ (hc rfl j u hj)) (encD_one _) (by unfold maxLen; omega) (by omega) (by simp)
    rw [Nat.zero_add, List.nil_append] at hown1
    obtain ⟨a1, c1, rfl⟩ : ∃ a1 c1, v1 = .slice a1 ds.length c1 := by
      rcases hown1.2 with ⟨rfl, h3⟩ | ⟨g', cap', cur', rfl, -⟩
      · exact ⟨none, 0, by rw [h3]⟩
      · exact ⟨_, _, rfl⟩
    exact ⟨a1, c1, w2, hr1, hown1, ((Below.refl W.heap.size W).alloc (Nat.le_refl _) (.cells #[] 97)).grown hgr1 (by simp) (fun j hj => by simp [Value.ownBlock] at hj; omega)⟩

/-- One deed more. -/
theorem snocD {w2 : World} {B n : Nat} {v1 : Value} {ds : List Deed} (h : w2.ownsRow B 97 3 v1 n (encD ds)) (hn : n ≤ 1000000) (hB : B ≤ w2.heap.size) (d : Deed) :
    ∃ a2 c2 w4, (Builtin.append_ #[60, 60] 60 #[v1, .slice (some ⟨w2.heap.size, 0, none⟩) 1 1]).run Try.prog (w2.alloc (.cells #[.bool d.1, .int .i64 d.2.1, .int .i64 d.2.2] 97)) = .ok (.slice a2 (n + 1) c2) w4 ∧
      w4.ownsRow B 97 3 (.slice a2 (n + 1) c2) (n + 1) (encD (ds ++ [d])) ∧ Below B w2 w4 := by
  obtain ⟨i0, hi0, hz0, hzs, hzb⟩ := info_parts info97
  obtain ⟨v2, w4, hr2, hown2, hgr2, -⟩ := run_append_own (P := Try.prog) (w2.alloc (.cells #[.bool d.1, .int .i64 d.2.1, .int .i64 d.2.2] 97)) B 60 60 97 i0 _ 3 24 Try.underlying60 hi0 hz0 hzs hzb rfl (by omega) v1 n (encD ds) (h.alloc _) ⟨w2.heap.size, 0, none⟩ 1 1 (encD [d]) (by simp [encD])
    (fun j u hj => by
      rw [add_g, Nat.zero_add, World.cell?_alloc_at _ _ _ _ (by simp)]
      have h1 : j < 3 := by have := (List.getElem?_eq_some_iff.1 hj).1; simpa [encD] using this
      match j, h1 with
      | 0, _ => simpa [encD] using hj
      | 1, _ => simpa [encD] using hj
      | 2, _ => simpa [encD] using hj) (encD_one _) (by unfold maxLen; omega) (by omega) (by simp; omega)
  obtain ⟨a2, c2, rfl⟩ : ∃ a2 c2, v2 = .slice a2 (n + 1) c2 := by
    rcases hown2.2 with ⟨rfl, h3⟩ | ⟨g', cap', cur', rfl, -⟩
    · omega
    · exact ⟨_, _, rfl⟩
  exact ⟨a2, c2, w4, hr2, by rw [encD_append]; exact hown2, ((Below.refl B w2).alloc hB _).grown hgr2 (by simp; omega) (fun j hj => (h.lt j hj).1)⟩

set_option maxHeartbeats 1000000 in
set_option maxRecDepth 100000 in
theorem refDone {v : Value} {ds : List Deed} (most : Int) (b : Bool) (x y : Int) (w : World) (h : ActsAt w v ds) (hn : ds.length ≤ 1000000) :
    Calls Try.prog 34 #[.agg #[v, .int .i64 most], .bool b, .int .i64 x, .int .i64 y] w fun e w' => ∃ (a2 : Option Addr) (c2 : Nat), e = .returned (.agg #[.slice a2 (ds.length + 1) c2, .int .i64 most]) ∧ Hid (w'.ownsRow w.heap.size 97 3 (.slice a2 (ds.length + 1) c2) (ds.length + 1) (encD (ds ++ [(b, x, y)])) ∧ Below w.heap.size w w') := by
  obtain ⟨a, c, rfl⟩ := row_shape3 h
  have hN1 : ((w.alloc (.cells #[.slice a ds.length c, .int .i64 most] 62)).alloc (.cells #[.slice none 0 0, .int .i64 0] 62)).heap[w.heap.size]? = some (.cells #[.slice a ds.length c, .int .i64 most] 62 (0, 0)) := (heap_alloc_old _ _ (by simp)).trans (heap_alloc_new _ _)
  have hN2 : ((w.alloc (.cells #[.slice a ds.length c, .int .i64 most] 62)).alloc (.cells #[.slice none 0 0, .int .i64 0] 62)).heap[w.heap.size + 1]? = some (.cells #[.slice none 0 0, .int .i64 0] 62 (0, 0)) := by
    have := heap_alloc_new (w.alloc (.cells #[.slice a ds.length c, .int .i64 most] 62)) (.cells #[.slice none 0 0, .int .i64 0] 62)
    rwa [show (w.alloc (.cells #[.slice a ds.length c, .int .i64 most] 62)).heap.size = w.heap.size + 1 from Array.size_push ..] at this
  have hB : Below w.heap.size w ((w.alloc (.cells #[.slice a ds.length c, .int .i64 most] 62)).alloc (.cells #[.slice none 0 0, .int .i64 0] 62)) := ((Below.refl _ _).alloc (Nat.le_refl _) _).alloc (by simp) _
  have hrow := row_below h hB
  have hs2 : ((w.alloc (.cells #[.slice a ds.length c, .int .i64 most] 62)).alloc (.cells #[.slice none 0 0, .int .i64 0] 62)).heap.size = w.heap.size + 2 := by simp
  obtain ⟨W, hW⟩ : ∃ W, W = ((w.alloc (.cells #[.slice a ds.length c, .int .i64 most] 62)).alloc (.cells #[.slice none 0 0, .int .i64 0] 62)) := ⟨_, rfl⟩
  rw [← hW] at hN1 hN2 hB hrow hs2
  obtain ⟨a1, c1, w2, r1, o1, b1⟩ := copyD hrow hn
  obtain ⟨a2, c2, w4, r2, o2, b2⟩ := snocD o1 hn b1.size (b, x, y)
  have b3 : Below W.heap.size W w4 := b1.trans b2
  have k1 := (b3.block w.heap.size (by omega)).trans hN1
  have k2 := (b3.block (w.heap.size + 1) (by omega)).trans hN2
  have q0 : w2.cell? ⟨w.heap.size, 0, none⟩ = some (.slice a ds.length c) := (cell_of_row _ _ 0 _ 62 (0, 0) ((b1.block w.heap.size (by omega)).trans hN1)).trans rfl
  have d0 : w4.cell? ⟨w.heap.size, 0, none⟩ = some (.slice a ds.length c) := (cell_of_row _ _ 0 _ 62 (0, 0) k1).trans rfl
  have d1 : w4.cell? ⟨w.heap.size, 1, none⟩ = some (.int .i64 most) := (cell_of_row _ _ 1 _ 62 (0, 0) k1).trans rfl
  have e0 : w4.cell? ⟨w.heap.size + 1, 0, none⟩ = some (.slice none 0 0) := (cell_of_row _ _ 0 _ 62 (0, 0) k2).trans rfl
  have e1 : w4.cell? ⟨w.heap.size + 1, 1, none⟩ = some (.int .i64 0) := (cell_of_row _ _ 1 _ 62 (0, 0) k2).trans rfl
  have f0 : ∀ o, w4.frozen? ⟨w.heap.size, o, none⟩ = false := fun o => frozen_of_row _ _ o _ _ k1
  have f1 : ∀ o, w4.frozen? ⟨w.heap.size + 1, o, none⟩ = false := fun o => frozen_of_row _ _ o _ _ k2
  have a0 : W.cell? ⟨w.heap.size, 0, none⟩ = some (.slice a ds.length c) := (cell_of_row _ _ 0 _ 62 (0, 0) hN1).trans rfl
  have HE : Hid (∀ v2, v2 = Value.slice a2 (ds.length + 1) c2 → (((w4.setCell ⟨w.heap.size, 0, none⟩ v2).setCell ⟨w.heap.size + 1, 0, none⟩ v2).setCell ⟨w.heap.size + 1, 1, none⟩ (.int .i64 most)).heap[w.heap.size + 1]? = some (.cells #[v2, .int .i64 most] 62 (0, 0)) ∧
      (((w4.setCell ⟨w.heap.size, 0, none⟩ v2).setCell ⟨w.heap.size + 1, 0, none⟩ v2).setCell ⟨w.heap.size + 1, 1, none⟩ (.int .i64 most)).ownsRow w.heap.size 97 3 v2 (ds.length + 1) (encD (ds ++ [(b, x, y)])) ∧
      Below w.heap.size w (((w4.setCell ⟨w.heap.size, 0, none⟩ v2).setCell ⟨w.heap.size + 1, 0, none⟩ v2).setCell ⟨w.heap.size + 1, 1, none⟩ (.int .i64 most))) := fun v2 hv => by
    subst hv
    have k3 : (w4.setCell ⟨w.heap.size, 0, none⟩ (.slice a2 (ds.length + 1) c2)).heap[w.heap.size + 1]? = some (.cells #[.slice none 0 0, .int .i64 0] 62 (0, 0)) := (Below.heap_setCell _ _ _ _ (by show w.heap.size + 1 ≠ w.heap.size; omega)).trans k2
    have bb : Below w.heap.size w w4 := hB.trans (b3.mono hB.size)
    refine ⟨by simp [World.setCell, Array.getElem?_modify] at k3 ⊢; simp [k3], ?_, ((bb.setCell (p := ⟨w.heap.size, 0, none⟩) (Nat.le_refl _) _).setCell (p := ⟨w.heap.size + 1, 0, none⟩) (Nat.le_succ _) _).setCell (p := ⟨w.heap.size + 1, 1, none⟩) (Nat.le_succ _) _⟩
    refine ⟨o2.1, o2.2.imp id (fun ⟨g, cap, cur, e, hb, hg, rest⟩ => ⟨g, cap, cur, e, by omega, ?_, rest⟩)⟩
    rw [Below.heap_setCell _ _ _ _ (by show g ≠ w.heap.size + 1; omega), Below.heap_setCell _ _ _ _ (by show g ≠ w.heap.size + 1; omega), Below.heap_setCell _ _ _ _ (by show g ≠ w.heap.size; omega)]
    exact hg
  have a0' : (W.alloc (.cells #[] 97)).cell? ⟨w.heap.size, 0, none⟩ = some (.slice a ds.length c) := cell_old _ a0
  have R1 := hide r1
  have R2 := hide r2
  have HW := hide hW
  generalize ds.length = L at *
  clear h hn hN1 hN2 hB hrow hs2 o1 o2 b1 b2 b3 k1 k2 r1 r2 hW
  go_enter Try.func34, Try.ntmps34
  go_upto_region 1 with fail
  rw [← unhide HW]
  go_wp2_with (at_builtin; first | refine Lib.wpList_append_run _ rfl _ _ 60 60 rfl (.slice (some ⟨W.heap.size, 0, none⟩) 0 0) (.slice a L c) rfl rfl _ _ R1.out ?_ | refine Lib.wpList_append_run _ rfl _ _ 60 60 rfl (.slice a1 L c1) (.slice (some ⟨w2.heap.size, 0, none⟩) 1 1) rfl rfl _ _ R2.out ?_)
  refine bodyPost_ret (results_cell_row rfl _ _ (w.heap.size + 1) 62 _ _ _ rfl (unhide HE _ rfl).1 Try.underlying62 rfl (by kernel_rfl)) rfl ?_
  exact ⟨a2, c2, rfl, (unhide HE _ rfl).2⟩
end Go.Proofs.Ytdalghfhpekcfaa

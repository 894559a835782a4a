/- PutEdge. -/
import Derived.Test.YtagibmgbjhemkaaGreatStEdge
namespace Go.Proofs.YtagibmgbjhemkaaGreat
open Go.RowKit Go.Maps

theorem boxed_bits {w : World} {e u v n : Int} (kb : Int) : ((w.alloc (oE (e, u, v, n))).setCell ⟨w.heap.size, 3, none⟩ (.int .u32 kb)).heap[w.heap.size]? = some (oE (e, u, v, kb)) ∧ Below w.heap.size w ((w.alloc (oE (e, u, v, n))).setCell ⟨w.heap.size, 3, none⟩ (.int .u32 kb)) := by
  refine ⟨?_, ((Below.refl _ _).alloc (Nat.le_refl _) _).setCell (p := ⟨w.heap.size, 3, none⟩) (Nat.le_refl _) _⟩
  rw [heap_setCell_same _ _ _ _ _ _ (heap_alloc_new w (oE (e, u, v, n)))]; rfl

section
variable [Inhabited EntI] {w w' : World} {X : Sto}

set_option maxHeartbeats 1000000 in
set_option maxRecDepth 100000 in
theorem putERange (e u v n : Int) (_h : StAt w X) (he : e < 1 ∨ 1024 < e) : Calls Tryz.prog 32 #[.pointer (some ⟨X.s, 0, none⟩), .agg #[.int .i64 e, .int .i64 u, .int .i64 v, .int .u32 n]] w fun r w' => r = .returned (.int .i64 1) ∧ Below w.heap.size w w' := by
  have HB : Hid (Below w.heap.size w (w.alloc (oE (e, u, v, n)))) := (Below.refl _ _).alloc (Nat.le_refl _) _
  obtain ⟨x0, x1, x2, x3, -⟩ := box_cells (heap_alloc_new w (oE (e, u, v, n)))
  dsimp only at x0 x1 x2 x3
  by_cases h1 : e < 1
  · clear he
    go_enter Tryz.func32, Tryz.ntmps32
    go_upto_region 1 with fail
    change Code.wp _ _ _ _ (w.alloc (oE (e, u, v, n)))
    generalize w.alloc (oE (e, u, v, n)) = wb at *
    go_wp2_with fail
    go_ret
    exact ⟨rfl, unhide HB⟩
  · have h2 : 1024 < e := he.resolve_left h1
    clear he
    go_enter Tryz.func32, Tryz.ntmps32
    go_upto_region 1 with fail
    change Code.wp _ _ _ _ (w.alloc (oE (e, u, v, n)))
    generalize w.alloc (oE (e, u, v, n)) = wb at *
    go_wp2_with fail
    go_ret
    exact ⟨rfl, unhide HB⟩

set_option maxHeartbeats 1000000 in
set_option maxRecDepth 100000 in
theorem putENo (e u v n : Int) (h : StAt w X) (h1 : 1 ≤ e) (h2 : e ≤ 1024) (hu : okN u) (hv : okN v) (hno : X.f u = none ∨ X.f v = none) : Calls Tryz.prog 32 #[.pointer (some ⟨X.s, 0, none⟩), .agg #[.int .i64 e, .int .i64 u, .int .i64 v, .int .u32 n]] w fun r w' => r = .returned (.int .i64 5) ∧ Below w.heap.size w w' := by
  have hb : Below w.heap.size w (w.alloc (oE (e, u, v, n))) := (Below.refl _ _).alloc (Nat.le_refl _) _
  have HB := hide hb
  obtain ⟨x0, x1, x2, x3, -⟩ := box_cells (heap_alloc_new w (oE (e, u, v, n)))
  dsimp only at x0 x1 x2 x3
  have CA := hide (admitNoS u v n (h.below hb) hu hv hno)
  have h3 : ¬ e < 1 := by omega
  have h4 : ¬ 1024 < e := by omega
  clear h hu hv hno h1 h2 hb
  go_enter Tryz.func32, Tryz.ntmps32
  go_upto_region 1 with fail
  change Code.wp _ _ _ _ (w.alloc (oE (e, u, v, n)))
  generalize w.alloc (oE (e, u, v, n)) = wb at *
  go_wp2_with fail
  refine (unhide CA).mono ?_
  rintro r w1 ⟨rfl, rfl⟩
  clear CA
  go_wp2_with fail
  go_ret
  exact ⟨rfl, unhide HB⟩

set_option maxHeartbeats 1000000 in
set_option maxRecDepth 100000 in
theorem putEBad (e u v n : Int) (h : StAt w X) (h1 : 1 ≤ e) (h2 : e ≤ 1024) (hu : X.f u ≠ none) (hv : X.f v ≠ none) (h0 : 0 ≤ n) (hk : kept n = none) : Calls Tryz.prog 32 #[.pointer (some ⟨X.s, 0, none⟩), .agg #[.int .i64 e, .int .i64 u, .int .i64 v, .int .u32 n]] w fun r w' => r = .returned (.int .i64 7) ∧ Below w.heap.size w w' := by
  have hb : Below w.heap.size w (w.alloc (oE (e, u, v, n))) := (Below.refl _ _).alloc (Nat.le_refl _) _
  have HB := hide hb
  obtain ⟨x0, x1, x2, x3, -⟩ := box_cells (heap_alloc_new w (oE (e, u, v, n)))
  dsimp only at x0 x1 x2 x3
  have CA := hide (admitS u v n (h.below hb) hu hv h0)
  rw [hk] at CA
  simp only [ansK] at CA
  have h3 : ¬ e < 1 := by omega
  have h4 : ¬ 1024 < e := by omega
  clear h hu hv h0 h1 h2 hb hk
  go_enter Tryz.func32, Tryz.ntmps32
  go_upto_region 1 with fail
  change Code.wp _ _ _ _ (w.alloc (oE (e, u, v, n)))
  generalize w.alloc (oE (e, u, v, n)) = wb at *
  go_wp2_with fail
  refine (unhide CA).mono ?_
  rintro r w1 ⟨rfl, rfl⟩
  clear CA
  go_wp2_with fail
  go_ret
  exact ⟨rfl, unhide HB⟩

set_option maxHeartbeats 1000000 in
set_option maxRecDepth 100000 in
theorem putETwice {kb : Int} {a : EdgeV} (i : Nat) (u v n : Int) (h : StAt w X) (hi : X.ps[i]? = some (a, true)) (hu : X.f u ≠ none) (hv : X.f v ≠ none) (h0 : 0 ≤ n) (hk : kept n = some kb) : Calls Tryz.prog 32 #[.pointer (some ⟨X.s, 0, none⟩), .agg #[.int .i64 ((i : Int) + 1), .int .i64 u, .int .i64 v, .int .u32 n]] w fun r w' => r = .returned (.int .i64 2) ∧ Below w.heap.size w w' := by
  have hb : Below w.heap.size w (w.alloc (oE ((i : Int) + 1, u, v, n))) := (Below.refl _ _).alloc (Nat.le_refl _) _
  obtain ⟨x0, x1, x2, x3, xf⟩ := box_cells (heap_alloc_new w (oE ((i : Int) + 1, u, v, n)))
  dsimp only at x0 x1 x2 x3
  have CA := hide (admitS u v n (h.below hb) hu hv h0)
  rw [hk] at CA
  simp only [ansK] at CA
  have hil := lt_of_at hi
  have hlen := h.tab.len
  have h3 : ¬ (i : Int) + 1 < 1 := by omega
  have h4 : ¬ 1024 < (i : Int) + 1 := by omega
  obtain ⟨b1, b2⟩ := boxed_bits (w := w) (e := (i : Int) + 1) (u := u) (v := v) (n := n) kb
  have HBX := hide b1
  have CI := hide (insertNoS (w := (w.alloc (oE ((i : Int) + 1, u, v, n))).setCell ⟨w.heap.size, 3, none⟩ (.int .u32 kb)) (X := X) ((i : Int) + 1, u, v, kb) (h.below b2) (.inr (.inr ⟨i, a, rfl, hi⟩)))
  dsimp only at CI
  have HB2 := hide b2
  generalize X.s = s at *
  clear h hu hv h0 hb hk hi hil hlen b1 b2
  go_enter Tryz.func32, Tryz.ntmps32
  go_upto_region 1 with fail
  change Code.wp _ _ _ _ (w.alloc (oE ((i : Int) + 1, u, v, n)))
  generalize w.alloc (oE ((i : Int) + 1, u, v, n)) = wb at *
  generalize hbb : w.heap.size = bb at *
  go_wp2_with fail
  refine (unhide CA).mono ?_
  rintro r w1 ⟨rfl, rfl⟩
  clear CA
  go_upto_region 7 with fail
  generalize w1.setCell ⟨bb, 3, none⟩ (.int .u32 kb) = w2 at *
  clear x0 x1 x2 x3 xf
  obtain ⟨x0, x1, x2, x3, xf⟩ := box_cells (unhide HBX)
  dsimp only at x0 x1 x2 x3
  go_wp2_with fail
  refine (unhide CI).mono ?_
  rintro r w3 ⟨rfl, h3⟩
  have H3 : Hid (Below bb w w3) := (unhide HB2).trans (h3.mono (by have := (unhide HB2).size; omega))
  clear CI h3 HB2
  go_wp2_with fail
  go_ret
  exact ⟨rfl, by rw [hbb]; exact unhide H3⟩

set_option maxHeartbeats 1000000 in
set_option maxRecDepth 100000 in
theorem putES {kb : Int} (i : Nat) (u v n : Int) (h : StAt w X) (hi : i < 1024) (hfree : ∀ a, X.ps[i]? ≠ some (a, true)) (hu : X.f u ≠ none) (hv : X.f v ≠ none) (h0 : 0 ≤ n) (hk : kept n = some kb) (hn : X.n ≤ 900000000) (hw0 : 0 ≤ X.wr) (hw1 : X.wr ≤ 1000000000) : Calls Tryz.prog 32 #[.pointer (some ⟨X.s, 0, none⟩), .agg #[.int .i64 ((i : Int) + 1), .int .i64 u, .int .i64 v, .int .u32 n]] w fun r w' => r = .returned (.int .i64 0) ∧ Hid (∃ X', Insd w X i ((i : Int) + 1, u, v, kb) w' X') := by
  have hb : Below w.heap.size w (w.alloc (oE ((i : Int) + 1, u, v, n))) := (Below.refl _ _).alloc (Nat.le_refl _) _
  obtain ⟨x0, x1, x2, x3, xf⟩ := box_cells (heap_alloc_new w (oE ((i : Int) + 1, u, v, n)))
  dsimp only at x0 x1 x2 x3
  have CA := hide (admitS u v n (h.below hb) hu hv h0)
  rw [hk] at CA
  simp only [ansK] at CA
  have h3 : ¬ (i : Int) + 1 < 1 := by omega
  have h4 : ¬ 1024 < (i : Int) + 1 := by omega
  obtain ⟨b1, b2⟩ := boxed_bits (w := w) (e := (i : Int) + 1) (u := u) (v := v) (n := n) kb
  have HBX := hide b1
  have CI : Hid (Calls Tryz.prog 76 #[.pointer (some ⟨X.s, 0, none⟩), .agg #[.int .i64 ((i : Int) + 1), .int .i64 u, .int .i64 v, .int .u32 kb]] ((w.alloc (oE ((i : Int) + 1, u, v, n))).setCell ⟨w.heap.size, 3, none⟩ (.int .u32 kb)) fun e w' => e = .returned (.bool true) ∧ Hid (∃ X', Insd w X i ((i : Int) + 1, u, v, kb) w' X')) := by
    refine (insertS (X := X) i u v kb (h.below b2) hi hfree hu hv hn hw0 hw1).mono ?_
    rintro e w' ⟨rfl, g⟩
    obtain ⟨X', g'⟩ := unhide g
    exact ⟨rfl, X', g'.first b2⟩
  generalize X.s = s at *
  clear h hu hv h0 hb hk hi b1 b2 hfree hn hw0 hw1
  go_enter Tryz.func32, Tryz.ntmps32
  go_upto_region 1 with fail
  change Code.wp _ _ _ _ (w.alloc (oE ((i : Int) + 1, u, v, n)))
  generalize w.alloc (oE ((i : Int) + 1, u, v, n)) = wb at *
  generalize hbb : w.heap.size = bb at *
  go_wp2_with fail
  refine (unhide CA).mono ?_
  rintro r w1 ⟨rfl, rfl⟩
  clear CA
  go_upto_region 7 with fail
  generalize w1.setCell ⟨bb, 3, none⟩ (.int .u32 kb) = w2 at *
  clear x0 x1 x2 x3 xf
  obtain ⟨x0, x1, x2, x3, xf⟩ := box_cells (unhide HBX)
  dsimp only at x0 x1 x2 x3
  go_wp2_with fail
  refine (unhide CI).mono ?_
  rintro r w3 ⟨rfl, h3⟩
  clear CI
  go_wp2_with fail
  go_ret
  exact ⟨rfl, unhide h3⟩
end
end Go.Proofs.YtagibmgbjhemkaaGreat

/- The law's fixed fact; the law's own. -/
import Derived.Test.YtffdpfkcfohbiaaEn16
import Derived.Test.YtffdpfkcfohbiaaSt16
namespace Go.Proofs.Ytffdpfkcfohbiaa
open Go.RowKit Go.Maps
theorem nb_5 : nb 5 = [5] := nb_lt (by omega)
theorem nb_300 : nb 300 = [172, 2] := by rw [nb_ge (by omega), show 300 / 128 = 2 from rfl, nb_lt (by omega)]
theorem nb_2 : nb 2 = [2] := nb_lt (by omega)
theorem nb_1 : nb 1 = [1] := nb_lt (by omega)
theorem nb_200 : nb 200 = [200, 1] := by rw [nb_ge (by omega), show 200 / 128 = 1 from rfl, nb_lt (by omega)]
theorem awake_err : errC (5, 300, 1065353216, [1, 200]) = 0 := by decide
theorem awake_enc : encV (5, 300, 1065353216, [1, 200]) = [183, 5, 172, 2, 0, 0, 128, 63, 2, 1, 200, 1] := by
  unfold encV
  rw [if_pos awake_err]
  show 183 :: (nb 5 ++ (nb 300 ++ (bb 1065353216 ++ (nb 2 ++ ([1, 200] : List Int).flatMap (fun e => nb e.toNat))))) = _
  rw [nb_5, nb_300, nb_2]
  have e : ([1, 200] : List Int).flatMap (fun e => nb e.toNat) = nb 1 ++ nb 200 := by simp
  rw [e, nb_1, nb_200]
  rfl
theorem awake_str : strB [183, 5, 172, 2, 0, 0, 128, 63, 2, 1, 200, 1] = { data := #[183, 5, 172, 2, 0, 0, 128, 63, 2, 1, 200, 1] } := by rfl
set_option maxHeartbeats 4000000 in
set_option maxRecDepth 100000 in
theorem awakeS (w : World) : Calls Try.prog 7 #[] w fun e w' => e = .returned (.bool true) ∧ Hid (Below w.heap.size w w') := by
  have hb := below_new w (.cells #[.int .i64 1, .int .i64 200] 3)
  have hl : Lies i64v (w.alloc (.cells #[.int .i64 1, .int .i64 200] 3)) (.slice (some ⟨w.heap.size, 0, none⟩) 2 2) [1, 200] := ⟨_, 2, rfl, by simp, fun e => (by cases e), .inr ⟨w.heap.size, 0, rfl, fun i x hx => by
    rw [cell_of_row _ _ _ _ _ (0, 0) (heap_alloc_new w (.cells #[.int .i64 1, .int .i64 200] 3)), Nat.zero_add]
    match i, hx with
    | 0, hx => injection hx with hx; subst hx; rfl
    | 1, hx => injection hx with hx; subst hx; rfl⟩⟩
  have CE := hide (encodeS 5 300 1065353216 hl (by omega))
  have HB := hide hb
  clear hb hl
  go_enter Try.func7, Try.ntmps7
  go_wp2_with fail
  refine (unhide CE).mono ?_
  intro e w1 HA
  obtain ⟨bv, rfl, h1, h2⟩ := unhide HA
  rw [awake_err]
  rw [awake_enc] at h1
  have hcv := convB (byrow_lies h1) (by simp)
  rw [awake_str] at hcv
  have HB2 : Hid (Below w.heap.size w w1) := (unhide HB).trans (h2.mono (unhide HB).size)
  clear CE HB HA h1 h2
  go_wp2_with fail
  go_ret
  exact ⟨rfl, HB2⟩
/-- A list copied into new memory. -/
theorem newN {W : World} {v : Value} {ys : List Int} (h : Lies i64v W v ys) (hl : ys.length * 8 ≤ 140737488355328) :
    ∃ a' n' c' w', (∀ ty, (Builtin.append_ #[23, 23] ty #[.slice (some ⟨W.heap.size, 0, none⟩) 0 0, v]).run Try.prog (W.alloc (.cells #[] 3)) = .ok (.slice a' n' c') w') ∧ NRow W.heap.size w' (.slice a' n' c') ys ∧ Below W.heap.size W w' := by
  have hb := below_new W (.cells #[] 3)
  have hr : NRow W.heap.size (W.alloc (.cells #[] 3)) (.slice (some ⟨W.heap.size, 0, none⟩) 0 0) [] := ⟨rfl, .inr ⟨W.heap.size, 0, #[], rfl, Nat.le_refl _, heap_alloc_new _ _, Nat.le_refl _, by unfold maxLen; omega, rfl, rfl⟩⟩
  obtain ⟨a', n', c', w', r, g1, g2, -⟩ := run_appNs hr hb.size (lies_below h hb) (by simpa using hl)
  rw [List.nil_append] at g1
  exact ⟨a', n', c', w', r, g1, hb.trans (g2.below hb.size (fun k e => by have := own_eq e; omega))⟩
theorem newB {W : World} {v : Value} {ys : List Nat} (h : Lies u8v W v ys) (hl : ys.length ≤ 140737488355328) :
    ∃ a' n' c' w', (∀ ty, (Builtin.append_ #[27, 27] ty #[.slice (some ⟨W.heap.size, 0, none⟩) 0 0, v]).run Try.prog (W.alloc (.cells #[] 5)) = .ok (.slice a' n' c') w') ∧ ByRow W.heap.size w' (.slice a' n' c') ys ∧ Below W.heap.size W w' := by
  have hb := below_new W (.cells #[] 5)
  have hr : ByRow W.heap.size (W.alloc (.cells #[] 5)) (.slice (some ⟨W.heap.size, 0, none⟩) 0 0) [] := ⟨rfl, .inr ⟨W.heap.size, 0, #[], rfl, Nat.le_refl _, heap_alloc_new _ _, Nat.le_refl _, by unfold maxLen; omega, rfl, rfl⟩⟩
  obtain ⟨a', n', c', w', r, g1, g2, -⟩ := run_appBs hr hb.size (lies_below h hb) (by simpa using hl)
  rw [List.nil_append] at g1
  exact ⟨a', n', c', w', r, g1, hb.trans (g2.below hb.size (fun k e => by have := own_eq e; omega))⟩
set_option maxHeartbeats 4000000 in
set_option maxRecDepth 100000 in
theorem ownS {w : World} {ev : Value} (F T : Int) (u : Nat) {es : List Int} (h : Lies i64v w ev es) (hl : es.length * 8 ≤ 140737488355328) :
    Calls Try.prog 9 #[.agg #[.int .i64 F, .int .i64 T, .int .u32 (u : Nat), ev]] w fun e w' => ∃ ev', e = .returned (.agg #[.int .i64 F, .int .i64 T, .int .u32 (u : Nat), ev']) ∧ Hid (NRow w.heap.size w' ev' es ∧ Below w.heap.size w w') := by
  obtain ⟨a, c, hv⟩ := lies_shape h
  obtain ⟨n, hn⟩ : ∃ n, n = es.length := ⟨_, rfl⟩
  rw [← hn] at hv
  subst hv
  have s1 : (w.alloc (oV F T u (.slice a n c))).heap.size = w.heap.size + 1 := by simp
  have s2 : ((w.alloc (oV F T u (.slice a n c))).alloc (oV 0 0 0 (.slice none 0 0))).heap.size = w.heap.size + 1 + 1 := by simp
  have b1 := below_new w (oV F T u (.slice a n c))
  have b2 := below_new (w.alloc (oV F T u (.slice a n c))) (oV 0 0 0 (.slice none 0 0))
  have hb : Below w.heap.size w ((w.alloc (oV F T u (.slice a n c))).alloc (oV 0 0 0 (.slice none 0 0))) := b1.trans (b2.mono (by omega))
  have t1 := (b2.block w.heap.size (by omega)).trans (heap_alloc_new w (oV F T u (.slice a n c)))
  have t2 := heap_alloc_new (w.alloc (oV F T u (.slice a n c))) (oV 0 0 0 (.slice none 0 0))
  rw [s1] at t2
  obtain ⟨a', n', c', w2, hr, g1, g2⟩ := newN (lies_below h hb) hl
  rw [s2] at hr g1 g2
  have HR := hide hr
  obtain ⟨c0, c1, c2, c3⟩ := oV_cells t1
  have k1 := (g2.block _ (by omega)).trans t1
  have k2 := (g2.block _ (by omega)).trans t2
  obtain ⟨d0, d1, d2, d3⟩ := oV_cells k1
  obtain ⟨e0, e1, e2, e3⟩ := oV_cells k2
  have f3 := frozen_of_row _ _ 3 _ _ k1
  have f4 := frozen_of_row _ _ 0 _ _ k2
  have f5 := frozen_of_row _ _ 1 _ _ k2
  have f6 := frozen_of_row _ _ 2 _ _ k2
  have f7 := frozen_of_row _ _ 3 _ _ k2
  have HZ : Hid ((loadVar 25 ⟨w.heap.size + 1, 0, none⟩).run Try.prog (set4 (w2.setCell ⟨w.heap.size, 3, none⟩ (.slice a' n' c')) (w.heap.size + 1) (.int .i64 F) (.int .i64 T) (.int .u32 (u : Nat)) (.slice a' n' c')) = .ok (.agg #[.int .i64 F, .int .i64 T, .int .u32 (u : Nat), .slice a' n' c']) (set4 (w2.setCell ⟨w.heap.size, 3, none⟩ (.slice a' n' c')) (w.heap.size + 1) (.int .i64 F) (.int .i64 T) (.int .u32 (u : Nat)) (.slice a' n' c')) ∧
      NRow w.heap.size (set4 (w2.setCell ⟨w.heap.size, 3, none⟩ (.slice a' n' c')) (w.heap.size + 1) (.int .i64 F) (.int .i64 T) (.int .u32 (u : Nat)) (.slice a' n' c')) (.slice a' n' c') es ∧ Below w.heap.size w (set4 (w2.setCell ⟨w.heap.size, 3, none⟩ (.slice a' n' c')) (w.heap.size + 1) (.int .i64 F) (.int .i64 T) (.int .u32 (u : Nat)) (.slice a' n' c'))) := by
    have k3 : (w2.setCell ⟨w.heap.size, 3, none⟩ (.slice a' n' c')).heap[w.heap.size + 1]? = some (oV 0 0 0 (.slice none 0 0)) := (heap_setCell_other _ _ _ _ (by show w.heap.size + 1 ≠ w.heap.size; omega)).trans k2
    have hw2 : Below w.heap.size w w2 := hb.trans (g2.mono (by omega))
    have hw3 : Below w.heap.size w (w2.setCell ⟨w.heap.size, 3, none⟩ (.slice a' n' c')) := hw2.setCell (by exact Nat.le_refl _) _
    refine ⟨loadW _ _ _ _ _ _ (set4_at k3 _ _ _ _), rrow_low (rrow_kept g1 (fun b e => ?_)) (by omega), hw3.trans ((set4_turned (S := fun b => b = w.heap.size + 1) _ rfl _ _ _ _).below hw3.size (fun k e => by omega))⟩
    have := (g1.lt b e).1
    exact (set4_other (by omega) _ _ _ _).trans (heap_setCell_other _ _ _ _ (by show b ≠ w.heap.size; omega))
  clear h hl hn s1 s2 b1 b2 hb t1 t2 hr g1 g2 k1 k2
  unfold oV set4 at *
  go_enter Try.func9, Try.ntmps9
  go_upto_region 2 with (at_builtin; refine Lib.wpList_append_run _ rfl _ _ 23 23 rfl _ _ rfl rfl _ _ (unhide HR _) ?_)
  go_wp2_with fail
  refine bodyPost_ret (results_cell1 rfl _ _ _ ⟨w.heap.size + 1, 0, none⟩ _ rfl (unhide HZ).1) rfl ?_
  exact ⟨_, rfl, (unhide HZ).2⟩
end Go.Proofs.Ytffdpfkcfohbiaa

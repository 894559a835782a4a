/- The reference's Push. -/
import Derived.Test.YtfhpabcjbjmcmaaItems
import Derived.Lib.AppendZeros
namespace Go.Proofs.Ytfhpabcjbjmcmaa
open Go.RowKit Go.Maps

theorem info69 : (Try.prog.info? 69).map (fun i => (i.zero, i.size, i.bytes)) = some (some (.agg #[.int .i64 0, .int .i64 0]), 2, 16) := by kernel_rfl

set_option maxHeartbeats 1000000 in
set_option maxRecDepth 100000 in
theorem refPushIn {v : Value} {its : List (Int × Int)} (k r : Int) (w : World) (h : w.ownsRow 0 69 2 v its.length (enc .i64 its)) (hn : its.length ≤ 1099511627776) (i : Nat) (hi1 : i < its.length) (hk : lo its i = k) :
    Calls Try.prog 34 #[v, .int .i64 k, .int .i64 r] w fun e w' => e = .returned (.tuple #[v, .bool false]) ∧ w' = w := by
  have CA := hide (refAt k w h hn)
  have HNX : Hid (∀ r0, AtIs its k r0 → 0 ≤ r0) := fun r0 h0 => by
    rcases h0 with ⟨-, h2⟩ | ⟨j, -, h2, -⟩
    · exact absurd hk (h2 i hi1)
    · omega
  obtain ⟨a, c, rfl⟩ := item_shape h
  clear h hk hi1
  go_enter Try.func34, Try.ntmps34
  go_wp2_with fail
  refine (unhide CA).mono ?_
  rintro e w' ⟨r0, rfl, hr, rfl⟩
  have h0 := unhide HNX r0 hr
  clear CA hr
  go_wp2_with fail
  go_ret2
  exact ⟨rfl, rfl⟩

set_option maxHeartbeats 1000000 in
set_option maxRecDepth 100000 in
theorem refPushNew {v : Value} {its : List (Int × Int)} (k r : Int) (w : World) (h : w.ownsRow 0 69 2 v its.length (enc .i64 its)) (hn : its.length < 1099511627776) (hnin : ∀ i, i < its.length → lo its i ≠ k) :
    Calls Try.prog 34 #[v, .int .i64 k, .int .i64 r] w fun e w' => ∃ v', e = .returned (.tuple #[v', .bool true]) ∧ Hid (w'.ownsRow w.heap.size 69 2 v' (its.length + 1) (enc .i64 (its ++ [(k, r)])) ∧ Below w.heap.size w w') := by
  have CA := hide (refAt k w h (by omega))
  have HNX : Hid (∀ r0, AtIs its k r0 → r0 = -1) := fun r0 h0 => by
    rcases h0 with ⟨h2, -⟩ | ⟨j, h1, -, h3, -⟩
    · exact h2
    · exact absurd h3 (hnin j h1)
  obtain ⟨i0, hi0, hz0, hzs, hzb⟩ := info_parts info69
  have hmade : (w.alloc (.cells #[] 69)).ownsRow w.heap.size 69 2 (.slice (some ⟨w.heap.size, 0, none⟩) 0 0) 0 [] := World.ownsRow_made w #[] 0 (Nat.le_refl _) (by unfold maxLen; omega) rfl
  rcases h.2 with ⟨rfl, h0⟩ | ⟨g, cap, cur, rfl, -, hg, -⟩
  · have e0 : its = [] := List.eq_nil_of_length_eq_zero h0
    subst e0
    have hown1' : ((w.alloc (.cells #[] 69)).alloc (.cells #[.int .i64 k, .int .i64 r] 69)).ownsRow w.heap.size 69 2 (.slice (some ⟨w.heap.size, 0, none⟩) 0 0) 0 [] := by
      refine ⟨hmade.1, ?_⟩
      rcases hmade.2 with ⟨hq, -⟩ | ⟨g', cap', cur', e1, hb1, hgg, rest⟩
      · cases hq
      · exact .inr ⟨g', cap', cur', e1, hb1, (((Below.refl _ (w.alloc (.cells #[] 69))).alloc (Nat.le_refl _) _).block g' (Array.getElem?_eq_some_iff.1 hgg).1).trans hgg, rest⟩
    have hs1 : (w.alloc (.cells #[] 69)).heap.size = w.heap.size + 1 := by simp
    obtain ⟨v2, w4, hr2, hown2, hgr2, -⟩ := run_append_own (P := Try.prog) ((w.alloc (.cells #[] 69)).alloc (.cells #[.int .i64 k, .int .i64 r] 69)) w.heap.size 27 27 69 i0 _ 2 16 Try.underlying27 hi0 hz0 hzs hzb rfl (by omega) _ 0 [] hown1' ⟨w.heap.size + 1, 0, none⟩ 1 1 [.int .i64 k, .int .i64 r] rfl
      (fun j u hj => by
        have add : (⟨w.heap.size + 1, 0, none⟩ : Addr).add j = ⟨(w.alloc (.cells #[] 69)).heap.size, j, none⟩ := by rw [hs1]; unfold Addr.add; split <;> simp_all
        have h1 : j < 2 := by
          have := (List.getElem?_eq_some_iff.1 hj).1
          simpa using this
        rw [add, World.cell?_alloc_at _ _ _ _ (by simp)]
        match j, h1 with
        | 0, _ => simpa using hj
        | 1, _ => simpa using hj) (by intro u hu; simp at hu; rcases hu with rfl | rfl <;> rfl) (by unfold maxLen; omega) (by omega) (by simp; omega)
    have HF : Hid (w4.ownsRow w.heap.size 69 2 v2 (0 + 1) (enc .i64 ([] ++ [(k, r)])) ∧ Below w.heap.size w w4) := by
      refine ⟨hown2, ?_⟩
      exact (((Below.refl w.heap.size w).alloc (Nat.le_refl _) (.cells #[] 69)).alloc (by simp) _).grown hgr2 (by simp; omega) (fun j hj => by simp [Value.ownBlock] at hj; omega)
    have HR2 := hide hr2
    clear h hnin hn hr2 hown1' hown2 hgr2 hi0 hmade hs1 h0
    go_enter Try.func34, Try.ntmps34
    go_wp2_with fail
    refine (unhide CA).mono ?_
    rintro e w' ⟨r0, rfl, hr, rfl⟩
    obtain rfl := unhide HNX r0 hr
    clear CA hr
    go_wp2_with (at_builtin; refine Lib.wpList_append_run _ rfl _ _ 27 27 rfl (.slice (some ⟨w'.heap.size, 0, none⟩) 0 0) (.slice (some ⟨w'.heap.size + 1, 0, none⟩) 1 1) rfl rfl _ _ HR2.out ?_)
    go_ret2
    exact ⟨v2, rfl, unhide HF⟩
  · have hc := @World.ownsRow.cells _ _ _ _ _ _ _ h
    obtain ⟨v1, w2, hr1, hown1, hgr1, -⟩ := run_append_own (P := Try.prog) (w.alloc (.cells #[] 69)) w.heap.size 27 27 69 i0 _ 2 16 Try.underlying27 hi0 hz0 hzs hzb rfl (by omega) _ 0 [] hmade ⟨g, 0, none⟩ its.length cap (enc .i64 its) (enc_length _ _)
      (fun j u hj => by
        have := hc rfl j u hj
        exact (((Below.refl w.heap.size w).alloc (Nat.le_refl _) (.cells #[] 69)).cell (World.block_lt_of_cell? _ _ this)).trans this) (enc_one _ _) (by unfold maxLen; omega) (by omega) (by simp)
    rw [Nat.zero_add, List.nil_append] at hown1
    have hs2 : w.heap.size + 1 ≤ w2.heap.size := by have := hgr1.size; simp at this; omega
    have hown1' : (w2.alloc (.cells #[.int .i64 k, .int .i64 r] 69)).ownsRow w.heap.size 69 2 v1 its.length (enc .i64 its) := by
      refine ⟨hown1.1, ?_⟩
      rcases hown1.2 with hq | ⟨g', cap', cur', e1, hb1, hgg, rest⟩
      · exact .inl hq
      · exact .inr ⟨g', cap', cur', e1, hb1, (((Below.refl w2.heap.size w2).alloc (Nat.le_refl _) _).block g' (Array.getElem?_eq_some_iff.1 hgg).1).trans hgg, rest⟩
    obtain ⟨v2, w4, hr2, hown2, hgr2, -⟩ := run_append_own (P := Try.prog) (w2.alloc (.cells #[.int .i64 k, .int .i64 r] 69)) w.heap.size 27 27 69 i0 _ 2 16 Try.underlying27 hi0 hz0 hzs hzb rfl (by omega) v1 its.length (enc .i64 its) hown1' ⟨w2.heap.size, 0, none⟩ 1 1 [.int .i64 k, .int .i64 r] rfl
      (fun j u hj => by
        have add : (⟨w2.heap.size, 0, none⟩ : Addr).add j = ⟨w2.heap.size, j, none⟩ := by unfold Addr.add; split <;> simp_all
        have h1 : j < 2 := by
          have := (List.getElem?_eq_some_iff.1 hj).1
          simpa using this
        rw [add, World.cell?_alloc_at _ _ _ _ (by simp)]
        match j, h1 with
        | 0, _ => simpa using hj
        | 1, _ => simpa using hj) (by intro u hu; simp at hu; rcases hu with rfl | rfl <;> rfl) (by unfold maxLen; omega) (by omega) (by simp; omega)
    have HF : Hid (w4.ownsRow w.heap.size 69 2 v2 (its.length + 1) (enc .i64 (its ++ [(k, r)])) ∧ Below w.heap.size w w4) := by
      refine ⟨by rw [enc_append]; exact hown2, ?_⟩
      have b1 := ((Below.refl w.heap.size w).alloc (Nat.le_refl _) (.cells #[] 69)).grown hgr1 (by simp) (fun j hj => by simp [Value.ownBlock] at hj; omega)
      exact (b1.alloc (by omega) _).grown hgr2 (by simp; omega) (fun j hj => (hown1.lt j hj).1)
    obtain ⟨a1, c1, rfl⟩ : ∃ a1 c1, v1 = .slice a1 its.length c1 := by
      rcases hown1.2 with ⟨rfl, h3⟩ | ⟨g', cap', cur', rfl, -⟩
      · exact ⟨none, 0, by rw [h3]⟩
      · exact ⟨_, _, rfl⟩
    have HR1 := hide hr1
    have HR2 := hide hr2
    generalize its.length = L at *
    clear h hc hr1 hr2 hown1 hown1' hown2 hgr1 hgr2 hnin hi0 hmade hg
    go_enter Try.func34, Try.ntmps34
    go_wp2_with fail
    refine (unhide CA).mono ?_
    rintro e w' ⟨r0, rfl, hr, rfl⟩
    obtain rfl := unhide HNX r0 hr
    clear CA hr
    go_wp2_with (at_builtin; first | (refine Lib.wpList_append_run _ rfl _ _ 27 27 rfl (.slice (some ⟨w'.heap.size, 0, none⟩) 0 0) (.slice (some ⟨g, 0, none⟩) L cap) rfl rfl _ _ HR1.out ?_) | (refine Lib.wpList_append_run _ rfl _ _ 27 27 rfl (.slice a1 L c1) (.slice (some ⟨w2.heap.size, 0, none⟩) 1 1) rfl rfl _ _ HR2.out ?_))
    go_ret2
    exact ⟨v2, rfl, unhide HF⟩
end Go.Proofs.Ytfhpabcjbjmcmaa

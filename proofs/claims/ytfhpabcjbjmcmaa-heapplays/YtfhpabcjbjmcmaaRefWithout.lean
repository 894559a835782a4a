/- The reference's Without. -/
import Derived.Test.YtfhpabcjbjmcmaaRefPush
namespace Go.Proofs.Ytfhpabcjbjmcmaa
open Go.RowKit Go.Maps

set_option maxHeartbeats 1000000 in
set_option maxRecDepth 100000 in
theorem refWithout {v : Value} {its : List (Int × Int)} (i : Nat) (w : World) (h : w.ownsRow 0 69 2 v its.length (enc .i64 its)) (hn : its.length < 1099511627776) (hi1 : i < its.length) :
    Calls Try.prog 38 #[v, .int .i64 i] w fun e w' => ∃ v', e = .returned v' ∧ Hid (w'.ownsRow w.heap.size 69 2 v' (its.length - 1) (enc .i64 (its.take i ++ its.drop (i + 1))) ∧ Below w.heap.size w w') := by
  obtain ⟨i0, hi0, hz0, hzs, hzb⟩ := info_parts info69
  have hmade : (w.alloc (.cells #[] 69)).ownsRow w.heap.size 69 2 (.slice (some ⟨w.heap.size, 0, none⟩) 0 0) 0 [] := World.ownsRow_made w #[] 0 (Nat.le_refl _) (by unfold maxLen; omega) rfl
  rcases h.2 with ⟨rfl, h0⟩ | ⟨g, cap, cur, rfl, -, hg, hLc, hcm, -⟩
  · omega
  · have hc := @World.ownsRow.cells _ _ _ _ _ _ _ h
    have add : ∀ o j, (⟨g, o, none⟩ : Addr).add j = ⟨g, o + j, none⟩ := fun o j => by unfold Addr.add; split <;> simp_all
    have hcell : ∀ j u, (enc .i64 its)[j]? = some u → w.cell? ⟨g, j, none⟩ = some u := fun j u hj => by have := hc rfl j u hj; rw [add] at this; simpa using this
    have hgl : g < w.heap.size := (Array.getElem?_eq_some_iff.1 hg).1
    have hlt : (its.take i).length = i := by simp; omega
    have hld : (its.drop (i + 1)).length = its.length - (i + 1) := by simp
    obtain ⟨v1, w2, hr1, hown1, hgr1, -⟩ := run_append_own (P := Try.prog) (w.alloc (.cells #[] 69)) w.heap.size 27 27 69 i0 _ 2 16 Try.underlying27 hi0 hz0 hzs hzb rfl (by omega) _ 0 [] hmade ⟨g, 0, none⟩ i cap (enc .i64 (its.take i)) (by rw [enc_length, hlt])
      (fun j u hj => by
        rw [← enc_take, List.getElem?_take] at hj
        split at hj
        · rw [add, Nat.zero_add]
          exact (((Below.refl w.heap.size w).alloc (Nat.le_refl _) (.cells #[] 69)).cell (by exact hgl)).trans (hcell j u hj)
        · cases hj) (enc_one _ _) (by unfold maxLen; omega) (by omega) (by simp)
    rw [Nat.zero_add, List.nil_append] at hown1
    have b1 := ((Below.refl w.heap.size w).alloc (Nat.le_refl _) (.cells #[] 69)).grown hgr1 (by simp) (fun j hj => by simp [Value.ownBlock] at hj; omega)
    obtain ⟨src, hsrc, hsc⟩ : ∃ src : Addr, (if cap = i + 1 then (⟨g, 0, none⟩ : Addr) else ⟨g, (i + 1) * 2, none⟩) = src ∧ ∀ j u, (enc .i64 (its.drop (i + 1)))[j]? = some u → w2.cell? (src.add j) = some u := by
      refine ⟨_, rfl, fun j u hj => ?_⟩
      split
      · have e : its.drop (i + 1) = [] := by rw [List.drop_eq_nil_iff]; omega
        rw [e] at hj
        simp [enc] at hj
      · rw [add]
        refine (b1.cell (by exact hgl)).trans (hcell _ u ?_)
        rw [← enc_drop, List.getElem?_drop] at hj
        exact hj
    obtain ⟨v2, w4, hr2, hown2, hgr2, -⟩ := run_append_own (P := Try.prog) w2 w.heap.size 27 27 69 i0 _ 2 16 Try.underlying27 hi0 hz0 hzs hzb rfl (by omega) v1 i (enc .i64 (its.take i)) hown1 src (its.length - (i + 1)) (cap - (i + 1)) (enc .i64 (its.drop (i + 1))) (by rw [enc_length, hld]) hsc (enc_one _ _) (by unfold maxLen; omega) (by omega) b1.size
    have HF : Hid (w4.ownsRow w.heap.size 69 2 v2 (its.length - 1) (enc .i64 (its.take i ++ its.drop (i + 1))) ∧ Below w.heap.size w w4) := by
      refine ⟨by rw [enc_append, show its.length - 1 = i + (its.length - (i + 1)) by omega]; exact hown2, ?_⟩
      exact b1.grown hgr2 b1.size (fun j hj => (hown1.lt j hj).1)
    obtain ⟨a1, c1, rfl⟩ : ∃ a1 c1, v1 = .slice a1 i c1 := by
      rcases hown1.2 with ⟨rfl, h3⟩ | ⟨g', cap', cur', rfl, -⟩
      · exact ⟨none, 0, by rw [h3]⟩
      · exact ⟨_, _, rfl⟩
    have HR1 := hide hr1
    have HR2 := hide hr2
    unfold maxLen at hcm
    have hcz : (i : Int) ≤ (cap : Int) := by omega
    have hiL : (i : Int) + 1 ≤ (its.length : Int) := by omega
    generalize its.length = L at *
    clear h hc hr1 hr2 hown1 hown2 hgr1 hgr2 hi0 hmade hg hcell hsc b1 hlt hld
    by_cases hcap : cap = i + 1
    · rw [if_pos hcap] at hsrc
      subst hsrc
      subst hcap
      obtain rfl : L = i + 1 := by omega
      rw [Nat.sub_self] at HR2
      go_enter Try.func38, Try.ntmps38
      go_wp2_with (at_builtin; first | (refine Lib.wpList_append_run _ rfl _ _ 27 27 rfl (.slice (some ⟨w.heap.size, 0, none⟩) 0 0) (.slice (some ⟨g, 0, none⟩) i (i + 1)) rfl rfl _ _ HR1.out ?_) | (refine Lib.wpList_append_run _ rfl _ _ 27 27 rfl (.slice a1 i c1) (.slice (some ⟨g, 0, none⟩) 0 0) rfl rfl _ _ HR2.out ?_))
      go_ret
      exact ⟨v2, rfl, unhide HF⟩
    · rw [if_neg hcap] at hsrc
      subst hsrc
      go_enter Try.func38, Try.ntmps38
      go_wp2_with (at_builtin; first | (refine Lib.wpList_append_run _ rfl _ _ 27 27 rfl (.slice (some ⟨w.heap.size, 0, none⟩) 0 0) (.slice (some ⟨g, 0, none⟩) i cap) rfl rfl _ _ HR1.out ?_) | (refine Lib.wpList_append_run _ rfl _ _ 27 27 rfl (.slice a1 i c1) (.slice (some ⟨g, (i + 1) * 2, none⟩) (L - (i + 1)) (cap - (i + 1))) rfl rfl _ _ HR2.out ?_))
      go_ret
      exact ⟨v2, rfl, unhide HF⟩
end Go.Proofs.Ytfhpabcjbjmcmaa

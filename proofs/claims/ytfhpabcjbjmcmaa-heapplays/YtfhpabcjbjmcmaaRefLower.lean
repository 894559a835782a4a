/- The reference's Lower. -/
import Derived.Test.YtfhpabcjbjmcmaaRefWithout
namespace Go.Proofs.Ytfhpabcjbjmcmaa
open Go.RowKit Go.Maps

theorem atIs_out {its : List (Int × Int)} {k : Int} (h : ∀ i, i < its.length → lo its i ≠ k) {r : Int} (hr : AtIs its k r) : r = -1 := by
  rcases hr with ⟨h2, -⟩ | ⟨j, h1, -, h3, -⟩
  · exact h2
  · exact absurd h3 (h j h1)
theorem atIs_in {its : List (Int × Int)} {k : Int} {i : Nat} (hi1 : i < its.length) (hk : lo its i = k) (hu : ∀ j, j < its.length → lo its j = k → j = i) {r : Int} (hr : AtIs its k r) : r = (i : Int) := by
  rcases hr with ⟨-, h2⟩ | ⟨j, h1, h2, h3, -⟩
  · exact absurd hk (h2 i hi1)
  · rw [h2, hu j h1 h3]
theorem enc_set (k : IntKind) : ∀ (its : List (Int × Int)) (i : Nat) (x : Int × Int), enc k (its.set i x) = ((enc k its).set (i * 2) (.int k x.1)).set (i * 2 + 1) (.int k x.2)
  | [], i, x => by simp [enc]
  | r :: rs, 0, x => by simp [enc]
  | r :: rs, i + 1, x => by
    rw [List.set_cons_succ, enc_cons, enc_set k rs i x, enc_cons, show (i + 1) * 2 = i * 2 + 1 + 1 by omega, show i * 2 + 1 + 1 + 1 = (i * 2 + 1) + 1 + 1 by omega]
    simp only [List.set_cons_succ]

set_option maxHeartbeats 1000000 in
set_option maxRecDepth 100000 in
theorem refLowerOut {v : Value} {its : List (Int × Int)} (k r : Int) (w : World) (h : w.ownsRow 0 69 2 v its.length (enc .i64 its)) (hn : its.length ≤ 1099511627776) (hnin : ∀ i, i < its.length → lo its i ≠ k) :
    Calls Try.prog 35 #[v, .int .i64 k, .int .i64 r] w fun e w' => e = .returned (.tuple #[v, .bool false]) ∧ w' = w := by
  have CA := hide (refAt k w h hn)
  have HNX : Hid (∀ r0, AtIs its k r0 → r0 = -1) := fun r0 h0 => atIs_out hnin h0
  obtain ⟨a, c, rfl⟩ := item_shape h
  clear h hnin
  go_enter Try.func35, Try.ntmps35
  go_wp2_with fail
  refine (unhide CA).mono ?_
  rintro e w' ⟨r0, rfl, hr, rfl⟩
  obtain rfl := unhide HNX r0 hr
  clear CA hr
  go_wp2_with fail
  go_ret2
  exact ⟨rfl, rfl⟩

set_option maxHeartbeats 1000000 in
set_option maxRecDepth 100000 in
theorem refLowerNot {v : Value} {its : List (Int × Int)} (i : Nat) (r : Int) (w : World) (h : w.ownsRow 0 69 2 v its.length (enc .i64 its)) (hn : its.length ≤ 1099511627776) (hi1 : i < its.length) (hu : ∀ j, j < its.length → lo its j = lo its i → j = i) (hr : hi its i ≤ r) :
    Calls Try.prog 35 #[v, .int .i64 (lo its i), .int .i64 r] w fun e w' => e = .returned (.tuple #[v, .bool false]) ∧ w' = w := by
  have CA := hide (refAt (lo its i) w h hn)
  have HNX : Hid (∀ r0, AtIs its (lo its i) r0 → r0 = (i : Int)) := fun r0 h0 => atIs_in hi1 rfl hu h0
  obtain ⟨g, c, rfl⟩ := item_block h (by omega)
  have c2 := (owns_cells h i hi1).2
  have hiz : (i : Int) < (its.length : Int) := by omega
  generalize hkk : lo its i = k at *
  generalize hi its i = rr at *
  clear h hu hkk
  go_enter Try.func35, Try.ntmps35
  go_wp2_with fail
  refine (unhide CA).mono ?_
  rintro e w' ⟨r0, rfl, hr0, rfl⟩
  obtain rfl := unhide HNX r0 hr0
  clear CA hr0
  go_wp2_with fail
  go_ret2
  exact ⟨rfl, rfl⟩

set_option maxHeartbeats 1000000 in
set_option maxRecDepth 100000 in
theorem refLowerYes {v : Value} {its : List (Int × Int)} (i : Nat) (r : Int) (w : World) (h : w.ownsRow 0 69 2 v its.length (enc .i64 its)) (hn : its.length < 1099511627776) (hi1 : i < its.length) (hu : ∀ j, j < its.length → lo its j = lo its i → j = i) (hr : r < hi its i) :
    Calls Try.prog 35 #[v, .int .i64 (lo its i), .int .i64 r] w fun e w' => ∃ v', e = .returned (.tuple #[v', .bool true]) ∧ Hid (w'.ownsRow w.heap.size 69 2 v' its.length (enc .i64 (its.set i (lo its i, r))) ∧ Below w.heap.size w w') := by
  have CA := hide (refAt (lo its i) w h (by omega))
  have HNX : Hid (∀ r0, AtIs its (lo its i) r0 → r0 = (i : Int)) := fun r0 h0 => atIs_in hi1 rfl hu h0
  obtain ⟨i0, hi0, hz0, hzs, hzb⟩ := info_parts info69
  have hmade : (w.alloc (.cells #[] 69)).ownsRow w.heap.size 69 2 (.slice (some ⟨w.heap.size, 0, none⟩) 0 0) 0 [] := World.ownsRow_made w #[] 0 (Nat.le_refl _) (by unfold maxLen; omega) rfl
  obtain ⟨g, cap, rfl⟩ := item_block h (by omega)
  have hc := @World.ownsRow.cells _ _ _ _ _ _ _ h
  have c2 := (owns_cells h i hi1).2
  obtain ⟨v1, w2, hr1, hown1, hgr1, -⟩ := run_append_own (P := Try.prog) (w.alloc (.cells #[] 69)) w.heap.size 27 27 69 i0 _ 2 16 Try.underlying27 hi0 hz0 hzs hzb rfl (by omega) _ 0 [] hmade ⟨g, 0, none⟩ its.length cap (enc .i64 its) (enc_length _ _)
    (fun j u hj => by
      have := hc rfl j u hj
      exact (((Below.refl w.heap.size w).alloc (Nat.le_refl _) (.cells #[] 69)).cell (World.block_lt_of_cell? _ _ this)).trans this) (enc_one _ _) (by unfold maxLen; omega) (by omega) (by simp)
  rw [Nat.zero_add, List.nil_append] at hown1
  have b1 := ((Below.refl w.heap.size w).alloc (Nat.le_refl _) (.cells #[] 69)).grown hgr1 (by simp) (fun j hj => by simp [Value.ownBlock] at hj; omega)
  obtain ⟨g1, c1, rfl⟩ : ∃ g1 c1, v1 = .slice (some ⟨g1, 0, none⟩) its.length c1 := by
    rcases hown1.2 with ⟨-, h3⟩ | ⟨g', cap', cur', rfl, -⟩
    · omega
    · exact ⟨_, _, rfl⟩
  have hg1 : w.heap.size ≤ g1 := (hown1.lt g1 rfl).1
  have hown1z : w2.ownsRow 0 69 2 (.slice (some ⟨g1, 0, none⟩) its.length c1) its.length (enc .i64 its) := by
    refine ⟨hown1.1, ?_⟩
    rcases hown1.2 with hq | ⟨g', cap', cur', e1, -, rest⟩
    · exact .inl hq
    · exact .inr ⟨g', cap', cur', e1, Nat.zero_le _, rest⟩
  have d2 := (owns_cells hown1z i hi1).2
  have dl := (owns_cells hown1z i hi1).1
  have df : w2.frozen? ⟨g1, i * 2 + 1, none⟩ = false := hown1.frozenAt _
  have HF : Hid ((w2.setCell ⟨g1, i * 2 + 1, none⟩ (.int .i64 r)).ownsRow w.heap.size 69 2 (.slice (some ⟨g1, 0, none⟩) its.length c1) its.length (enc .i64 (its.set i (lo its i, r))) ∧ Below w.heap.size w (w2.setCell ⟨g1, i * 2 + 1, none⟩ (.int .i64 r))) := by
    refine ⟨?_, b1.setCell (by exact hg1) _⟩
    rw [enc_set]
    have e1 := enc_lo .i64 its i hi1
    have s1 : (enc .i64 its).set (i * 2) (.int .i64 (lo its i)) = enc .i64 its := by
      obtain ⟨h1, h2⟩ := List.getElem?_eq_some_iff.1 e1
      rw [← h2]; exact List.set_getElem_self h1
    rw [s1]
    exact (hown1.stored _ _).1
  have HR1 := hide hr1
  have hiz : (i : Int) < (its.length : Int) := by omega
  generalize hkk : lo its i = k at *
  generalize hi its i = rr at *
  have hrr : ¬ rr ≤ r := by omega
  generalize its.length = L at *
  clear h hc hr1 hown1 hown1z hgr1 hi0 hmade b1 hu hkk dl
  go_enter Try.func35, Try.ntmps35
  go_wp2_with fail
  refine (unhide CA).mono ?_
  rintro e w' ⟨r0, rfl, hr0, rfl⟩
  obtain rfl := unhide HNX r0 hr0
  clear CA hr0
  go_wp2_with (at_builtin; refine Lib.wpList_append_run _ rfl _ _ 27 27 rfl (.slice (some ⟨w'.heap.size, 0, none⟩) 0 0) (.slice (some ⟨g, 0, none⟩) L cap) rfl rfl _ _ HR1.out ?_)
  go_ret2
  exact ⟨_, rfl, unhide HF⟩
end Go.Proofs.Ytfhpabcjbjmcmaa

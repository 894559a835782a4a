/- step: the other calls. -/
import Derived.Test.YtfhpabcjbjmcmaaStepPush
namespace Go.Proofs.Ytfhpabcjbjmcmaa
open Go.RowKit Go.Maps

set_option maxHeartbeats 1000000 in
set_option maxRecDepth 100000 in
theorem stepPushIn [Inhabited EntI] {B : Nat} {w0 w : World} {p n : Nat} {ms : List EntI} {v : Value} (i : Nat) (r : Int) (h : Game B w0 p ms n v (pairs ms) w) (hi1 : i < ms.length) (hk : KeyOkI (at_ ms i).key) (hn : ms.length ≤ 1099511627776) :
    Calls Try.prog 11 #[.pointer (some ⟨p, 0, none⟩), v, .agg #[.int .i64 1, .int .i64 (at_ ms i).key, .int .i64 r]] w fun e w' => e = .returned (.tuple #[v, .bool true]) ∧ Hid (Game B w0 p ms n v (pairs ms) w') := by
  have HG := hide (h.boxed (.int .i64 1) (.int .i64 (at_ ms i).key) (.int .i64 r))
  have CA := hide (refPushIn (at_ ms i).key r _ (unhide HG).row (by rw [pairs_length]; exact hn) i (by rw [pairs_length]; exact hi1) (pairs_at hi1).1)
  have CB := hide (gPushIn (at_ ms i).key r (unhide HG) hk ⟨_, at_mem ms i hi1, rfl⟩)
  obtain ⟨b0, b1, b2⟩ := box_cells w (.int .i64 1) (.int .i64 (at_ ms i).key) (.int .i64 r)
  obtain ⟨a, c, rfl⟩ := item_shape h.row
  generalize (at_ ms i).key = k at *
  clear h HG
  go_enter Try.func11, Try.ntmps11
  go_wp2_with fail
  refine (unhide CA).mono ?_
  rintro e w2 ⟨rfl, rfl⟩
  clear CA
  go_wp2_with fail
  refine (unhide CB).mono ?_
  rintro e w3 ⟨rfl, G3⟩
  have HG3 := hide G3
  clear CB G3
  go_wp2_with fail
  go_ret2
  exact ⟨rfl, unhide HG3⟩

set_option maxHeartbeats 1000000 in
set_option maxRecDepth 100000 in
theorem stepLowerOut [Inhabited EntI] {B : Nat} {w0 w : World} {p n : Nat} {ms : List EntI} {v : Value} (k r : Int) (h : Game B w0 p ms n v (pairs ms) w) (hk : KeyOkI k) (hnin : ∀ x ∈ ms, x.key ≠ k) (hn : ms.length ≤ 1099511627776) :
    Calls Try.prog 11 #[.pointer (some ⟨p, 0, none⟩), v, .agg #[.int .i64 2, .int .i64 k, .int .i64 r]] w fun e w' => e = .returned (.tuple #[v, .bool true]) ∧ Hid (Game B w0 p ms n v (pairs ms) w') := by
  have HG := hide (h.boxed (.int .i64 2) (.int .i64 k) (.int .i64 r))
  have CA := hide (refLowerOut k r _ (unhide HG).row (by rw [pairs_length]; exact hn) (pairs_out hnin))
  have CB := hide (gLowerOut k r (unhide HG) hk hnin)
  obtain ⟨b0, b1, b2⟩ := box_cells w (.int .i64 2) (.int .i64 k) (.int .i64 r)
  obtain ⟨a, c, rfl⟩ := item_shape h.row
  clear h HG hnin
  go_enter Try.func11, Try.ntmps11
  go_wp2_with fail
  refine (unhide CA).mono ?_
  rintro e w2 ⟨rfl, rfl⟩
  clear CA
  go_wp2_with fail
  refine (unhide CB).mono ?_
  rintro e w3 ⟨rfl, G3⟩
  have HG3 := hide G3
  clear CB G3
  go_wp2_with fail
  go_ret2
  exact ⟨rfl, unhide HG3⟩

set_option maxHeartbeats 1000000 in
set_option maxRecDepth 100000 in
theorem stepLowerNot [Inhabited EntI] {B : Nat} {w0 w : World} {p n : Nat} {ms : List EntI} {v : Value} (i : Nat) (r : Int) (h : Game B w0 p ms n v (pairs ms) w) (hi1 : i < ms.length) (hr : (at_ ms i).rank ≤ r) (hn : ms.length ≤ 1099511627776) :
    Calls Try.prog 11 #[.pointer (some ⟨p, 0, none⟩), v, .agg #[.int .i64 2, .int .i64 (at_ ms i).key, .int .i64 r]] w fun e w' => e = .returned (.tuple #[v, .bool true]) ∧ Hid (Game B w0 p ms n v (pairs ms) w') := by
  have HG := hide (h.boxed (.int .i64 2) (.int .i64 (at_ ms i).key) (.int .i64 r))
  have CA := refLowerNot i r _ (unhide HG).row (by rw [pairs_length]; exact hn) (by rw [pairs_length]; exact hi1) (pairs_once h.facts.1 hi1) (by rw [(pairs_at hi1).2]; exact hr)
  rw [(pairs_at hi1).1] at CA
  have HCA := hide CA
  have CB := gLower (unhide HG) (at_mem ms i hi1) r hn
  rw [decide_eq_false (by omega), if_neg (by omega)] at CB
  have HCB := hide CB
  obtain ⟨b0, b1, b2⟩ := box_cells w (.int .i64 2) (.int .i64 (at_ ms i).key) (.int .i64 r)
  obtain ⟨a, c, rfl⟩ := item_shape h.row
  generalize (at_ ms i).key = k at *
  clear h HG CA CB hr
  go_enter Try.func11, Try.ntmps11
  go_wp2_with fail
  refine (unhide HCA).mono ?_
  rintro e w2 ⟨rfl, rfl⟩
  clear HCA
  go_wp2_with fail
  refine (unhide HCB).mono ?_
  rintro e w3 ⟨rfl, G3⟩
  have HG3 := hide G3
  clear HCB G3
  go_wp2_with fail
  go_ret2
  exact ⟨rfl, unhide HG3⟩

set_option maxHeartbeats 1000000 in
set_option maxRecDepth 100000 in
theorem stepLowerYes [Inhabited EntI] {B : Nat} {w0 w : World} {p n : Nat} {ms : List EntI} {v : Value} (i : Nat) (r : Int) (h : Game B w0 p ms n v (pairs ms) w) (hi1 : i < ms.length) (hr : r < (at_ ms i).rank) (hn : ms.length < 1099511627776) :
    Calls Try.prog 11 #[.pointer (some ⟨p, 0, none⟩), v, .agg #[.int .i64 2, .int .i64 (at_ ms i).key, .int .i64 r]] w fun e w' => ∃ v', e = .returned (.tuple #[v', .bool true]) ∧ Hid (Game B w0 p (lowered (at_ ms i).key r ms) n v' (pairs (lowered (at_ ms i).key r ms)) w') := by
  have HG := hide (h.boxed (.int .i64 2) (.int .i64 (at_ ms i).key) (.int .i64 r))
  have CA := refLowerYes i r _ (unhide HG).row (by rw [pairs_length]; exact hn) (by rw [pairs_length]; exact hi1) (pairs_once h.facts.1 hi1) (by rw [(pairs_at hi1).2]; exact hr)
  rw [← pairs_lowered h.facts.1 hi1, (pairs_at hi1).1] at CA
  have HCA := hide CA
  have HLEN : Hid ((pairs (lowered (at_ ms i).key r ms)).length = (pairs ms).length) := by show _ = _; simp [pairs_length, lowered]
  have CB : Hid (∀ v' w2, Game B w0 p ms n v' (pairs (lowered (at_ ms i).key r ms)) w2 → Calls Try.prog 17 #[.pointer (some ⟨p, 0, none⟩), .int .i64 (at_ ms i).key, .int .i64 r] w2 fun e w' => e = .returned (.bool true) ∧ Game B w0 p (lowered (at_ ms i).key r ms) n v' (pairs (lowered (at_ ms i).key r ms)) w') := fun v' w2 G2 => by
    have := gLower G2 (at_mem ms i hi1) r (by omega)
    rw [decide_eq_true hr, if_pos hr] at this
    exact this
  obtain ⟨b0, b1, b2⟩ := box_cells w (.int .i64 2) (.int .i64 (at_ ms i).key) (.int .i64 r)
  have hbl : w.heap.size < (w.alloc (.cells #[.int .i64 2, .int .i64 (at_ ms i).key, .int .i64 r] 31)).heap.size := by simp
  obtain ⟨a, c, rfl⟩ := item_shape h.row
  generalize hms : lowered (at_ ms i).key r ms = ms' at *
  generalize (at_ ms i).key = k at *
  clear h CA hr hms
  go_enter Try.func11, Try.ntmps11
  go_wp2_with fail
  refine (unhide HCA).mono ?_
  rintro e w2 ⟨v', rfl, h2⟩
  obtain ⟨a', c', rfl⟩ := item_shape (items_kept (unhide h2).1 (fun _ _ => rfl))
  have G2 := (unhide HG).row_step (its' := pairs ms') (by rw [unhide HLEN]; exact (unhide h2).1) (unhide h2).2
  have d1 := ((unhide h2).2.cell (p := ⟨w.heap.size, 1, none⟩) (by exact hbl)).trans b1
  have d2 := ((unhide h2).2.cell (p := ⟨w.heap.size, 2, none⟩) (by exact hbl)).trans b2
  have HCB := hide (unhide CB _ _ G2)
  clear HCA h2 G2 HG CB
  go_wp2_with fail
  refine (unhide HCB).mono ?_
  rintro e w3 ⟨rfl, G3⟩
  have HG3 := hide G3
  clear HCB G3
  go_wp2_with fail
  go_ret2
  exact ⟨_, rfl, unhide HG3⟩
end Go.Proofs.Ytfhpabcjbjmcmaa

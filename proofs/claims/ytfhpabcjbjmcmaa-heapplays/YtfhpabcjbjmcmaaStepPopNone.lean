/- step: PopNone. -/
import Derived.Test.YtfhpabcjbjmcmaaStepBox
namespace Go.Proofs.Ytfhpabcjbjmcmaa
open Go.RowKit Go.Maps

set_option maxHeartbeats 1000000 in
set_option maxRecDepth 100000 in
theorem stepPopNone [Inhabited EntI] {B : Nat} {w0 w : World} {p n : Nat} {v : Value} (k r : Int) (h : Game B w0 p [] n v (pairs []) w) :
    Calls Try.prog 11 #[.pointer (some ⟨p, 0, none⟩), v, .agg #[.int .i64 3, .int .i64 k, .int .i64 r]] w fun e w' => e = .returned (.tuple #[v, .bool true]) ∧ Hid (Game B w0 p [] n v (pairs []) w') := by
  have HG := hide (h.boxed (.int .i64 3) (.int .i64 k) (.int .i64 r))
  have CA := hide (refFirst _ (unhide HG).row (by simp [pairs]))
  have HNX : Hid (∀ r0, FirstIs (pairs []) r0 → r0 = -1) := fun r0 h0 => first_none rfl h0
  have CB : Hid (∀ q, Calls Try.prog 15 #[.pointer (some ⟨p, 0, none⟩)] ((w.alloc (.cells #[.int .i64 3, .int .i64 k, .int .i64 r] 31)).drewN q) fun e w' => e = .returned (.tuple #[.int .i64 0, .int .i64 0, .bool false]) ∧ Hid (Game B w0 p [] n v (pairs []) w')) := fun q =>
    (gPopNone ((unhide HG).step (below_drewN (Below.refl _ _) q))).mono fun e w' ⟨he, hw⟩ => ⟨he, hw ▸ (unhide HG).step (below_drewN (Below.refl _ _) q)⟩
  obtain ⟨b0, b1, b2⟩ := box_cells w (.int .i64 3) (.int .i64 k) (.int .i64 r)
  obtain ⟨a, c, rfl⟩ := item_shape h.row
  clear h HG
  go_enter Try.func11, Try.ntmps11
  go_wp2_with fail
  refine (unhide CA).mono ?_
  rintro e w3 ⟨r0, rfl, hr0, q, rfl⟩
  obtain rfl := unhide HNX r0 hr0
  clear CA hr0
  go_wp2_with fail
  refine (unhide CB _).mono ?_
  rintro e w4 ⟨rfl, G4⟩
  clear CB
  go_wp2_with fail
  go_ret2
  exact ⟨rfl, unhide G4⟩
end Go.Proofs.Ytfhpabcjbjmcmaa

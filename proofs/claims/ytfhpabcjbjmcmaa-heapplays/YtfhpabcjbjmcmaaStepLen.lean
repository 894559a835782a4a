/- step: Len. -/
import Derived.Test.YtfhpabcjbjmcmaaStepBox
namespace Go.Proofs.Ytfhpabcjbjmcmaa
open Go.RowKit Go.Maps

set_option maxHeartbeats 1000000 in
set_option maxRecDepth 100000 in
theorem stepLen [Inhabited EntI] {B : Nat} {w0 w : World} {p n : Nat} {ms : List EntI} {v : Value} (kd k r : Int) (h : Game B w0 p ms n v (pairs ms) w) (h1 : (kd == 1) = false) (h2 : (kd == 2) = false) (h3 : (kd == 3) = false) (h4 : (kd == 4) = false) (h5 : (kd == 5) = false) (h6 : (kd == 6) = false) (hn : ms.length ≤ 1099511627776) :
    Calls Try.prog 11 #[.pointer (some ⟨p, 0, none⟩), v, .agg #[.int .i64 kd, .int .i64 k, .int .i64 r]] w fun e w' => e = .returned (.tuple #[v, .bool true]) ∧ Hid (Game B w0 p ms n v (pairs ms) w') := by
  have HG := hide (h.boxed (.int .i64 kd) (.int .i64 k) (.int .i64 r))
  have CA := hide (refFirst _ (unhide HG).row (by rw [pairs_length]; exact hn))
  have CB : Hid (∀ q, Calls Try.prog 12 #[.pointer (some ⟨p, 0, none⟩)] ((w.alloc (.cells #[.int .i64 kd, .int .i64 k, .int .i64 r] 31)).drewN q) fun e w' => e = .returned (.int .i64 ms.length) ∧ Hid (Game B w0 p ms n v (pairs ms) w')) := fun q =>
    (gLen ((unhide HG).step (below_drewN (Below.refl _ _) q))).mono fun e w' ⟨he, hw⟩ => ⟨he, hw ▸ (unhide HG).step (below_drewN (Below.refl _ _) q)⟩
  obtain ⟨b0, b1, b2⟩ := box_cells w (.int .i64 kd) (.int .i64 k) (.int .i64 r)
  obtain ⟨a, c, rfl⟩ := item_shape h.row
  rw [← pairs_length ms] at CB
  generalize (pairs ms).length = L at *
  clear h HG
  go_enter Try.func11, Try.ntmps11
  go_wp2_with fail
  refine (unhide CA).mono ?_
  rintro e w3 ⟨r0, rfl, hr0, q, rfl⟩
  clear CA hr0
  by_cases hr1 : 0 ≤ r0
  all_goals
    go_wp2_with fail
    refine (unhide CB _).mono ?_
    rintro e w4 ⟨rfl, G4⟩
    go_wp2_with fail
    go_ret2
    exact ⟨rfl, unhide G4⟩
end Go.Proofs.Ytfhpabcjbjmcmaa

/- step: Get, Drop, Pop, Peek, Len. -/
import Derived.Test.YtfhpabcjbjmcmaaStepRest
namespace Go.Proofs.Ytfhpabcjbjmcmaa
open Go.RowKit Go.Maps

theorem gGetOut [Inhabited EntI] {B : Nat} {w0 w : World} {p n : Nat} {ms : List EntI} {v : Value} {its : List (Int × Int)} (h : Game B w0 p ms n v its w) (k : Int) (hk : KeyOkI k) (hnin : ∀ x ∈ ms, x.key ≠ k) :
    Calls Try.prog 36 #[.pointer (some ⟨p, 0, none⟩), .int .i64 k] w fun e w' => e = .returned (.tuple #[.int .i64 0, .bool false]) ∧ w' = w := by
  obtain ⟨F, ho, -⟩ := h.on
  exact ho.getOut k hk hnin
theorem gGet [Inhabited EntI] {B : Nat} {w0 w : World} {p n : Nat} {ms : List EntI} {v : Value} {its : List (Int × Int)} (h : Game B w0 p ms n v its w) {x : EntI} (hx : x ∈ ms) :
    Calls Try.prog 36 #[.pointer (some ⟨p, 0, none⟩), .int .i64 x.key] w fun e w' => e = .returned (.tuple #[.int .i64 x.rank, .bool true]) ∧ w' = w := by
  obtain ⟨F, ho, -⟩ := h.on
  exact ho.get hx
theorem gDropOut [Inhabited EntI] {B : Nat} {w0 w : World} {p n : Nat} {ms : List EntI} {v : Value} {its : List (Int × Int)} (h : Game B w0 p ms n v its w) (k : Int) (hk : KeyOkI k) (hnin : ∀ x ∈ ms, x.key ≠ k) :
    Calls Try.prog 25 #[.pointer (some ⟨p, 0, none⟩), .int .i64 k] w fun e w' => e = .returned (.bool false) ∧ w' = w := by
  obtain ⟨F, ho, -⟩ := h.on
  exact ho.dropOut k hk hnin
theorem gPopNone [Inhabited EntI] {B : Nat} {w0 w : World} {p n : Nat} {v : Value} {its : List (Int × Int)} (h : Game B w0 p [] n v its w) :
    Calls Try.prog 15 #[.pointer (some ⟨p, 0, none⟩)] w fun e w' => e = .returned (.tuple #[.int .i64 0, .int .i64 0, .bool false]) ∧ w' = w := by
  obtain ⟨F, ho, -⟩ := h.on
  exact ho.popNone
theorem gPeekNone [Inhabited EntI] {B : Nat} {w0 w : World} {p n : Nat} {v : Value} {its : List (Int × Int)} (h : Game B w0 p [] n v its w) :
    Calls Try.prog 40 #[.pointer (some ⟨p, 0, none⟩)] w fun e w' => e = .returned (.tuple #[.int .i64 0, .int .i64 0, .bool false]) ∧ w' = w := by
  obtain ⟨F, ho, -⟩ := h.on
  exact ho.peekNone
theorem gPeek [Inhabited EntI] {B : Nat} {w0 w : World} {p n : Nat} {ms : List EntI} {v : Value} {its : List (Int × Int)} (h : Game B w0 p ms n v its w) (h0 : 0 < ms.length) :
    Calls Try.prog 40 #[.pointer (some ⟨p, 0, none⟩)] w fun e w' => ∃ x ∈ ms, e = .returned (.tuple #[.int .i64 x.key, .int .i64 x.rank, .bool true]) ∧ (∀ y ∈ ms, le (fun x => x) x y) ∧ Game B w0 p ms n v its w' := by
  obtain ⟨F, ho, -⟩ := h.on
  exact (ho.peek h0).mono fun e w' ⟨x, hx, he, hle, q, hw⟩ => ⟨x, hx, he, hle, hw ▸ h.step (below_drewN (Below.refl _ _) q)⟩
theorem gLen [Inhabited EntI] {B : Nat} {w0 w : World} {p n : Nat} {ms : List EntI} {v : Value} {its : List (Int × Int)} (h : Game B w0 p ms n v its w) :
    Calls Try.prog 12 #[.pointer (some ⟨p, 0, none⟩)] w fun e w' => e = .returned (.int .i64 ms.length) ∧ w' = w := by
  obtain ⟨F, ho, -⟩ := h.on
  exact ho.len

set_option maxHeartbeats 1000000 in
set_option maxRecDepth 100000 in
theorem stepGetOut [Inhabited EntI] {B : Nat} {w0 w : World} {p n : Nat} {ms : List EntI} {v : Value} (k r : Int) (h : Game B w0 p ms n v (pairs ms) w) (hk : KeyOkI k) (hnin : ∀ x ∈ ms, x.key ≠ k) (hn : ms.length ≤ 1099511627776) :
    Calls Try.prog 11 #[.pointer (some ⟨p, 0, none⟩), v, .agg #[.int .i64 5, .int .i64 k, .int .i64 r]] w fun e w' => e = .returned (.tuple #[v, .bool true]) ∧ Hid (Game B w0 p ms n v (pairs ms) w') := by
  have HG := hide (h.boxed (.int .i64 5) (.int .i64 k) (.int .i64 r))
  have CA := hide (refAt k _ (unhide HG).row (by rw [pairs_length]; exact hn))
  have HNX : Hid (∀ r0, AtIs (pairs ms) k r0 → r0 = -1) := fun r0 h0 => atIs_out (pairs_out hnin) h0
  have CB := hide (gGetOut (unhide HG) k hk hnin)
  obtain ⟨b0, b1, b2⟩ := box_cells w (.int .i64 5) (.int .i64 k) (.int .i64 r)
  obtain ⟨a, c, rfl⟩ := item_shape h.row
  clear h hnin
  go_enter Try.func11, Try.ntmps11
  go_wp2_with fail
  refine (unhide CB).mono ?_
  rintro e w2 ⟨rfl, rfl⟩
  clear CB
  go_wp2_with fail
  refine (unhide CA).mono ?_
  rintro e w3 ⟨r0, rfl, hr0, rfl⟩
  obtain rfl := unhide HNX r0 hr0
  clear CA hr0
  go_wp2_with fail
  go_ret2
  exact ⟨rfl, unhide HG⟩

set_option maxHeartbeats 1000000 in
set_option maxRecDepth 100000 in
theorem stepGet [Inhabited EntI] {B : Nat} {w0 w : World} {p n : Nat} {ms : List EntI} {v : Value} (i : Nat) (r : Int) (h : Game B w0 p ms n v (pairs ms) w) (hi1 : i < ms.length) (hn : ms.length ≤ 1099511627776) :
    Calls Try.prog 11 #[.pointer (some ⟨p, 0, none⟩), v, .agg #[.int .i64 5, .int .i64 (at_ ms i).key, .int .i64 r]] w fun e w' => e = .returned (.tuple #[v, .bool true]) ∧ Hid (Game B w0 p ms n v (pairs ms) w') := by
  have HG := hide (h.boxed (.int .i64 5) (.int .i64 (at_ ms i).key) (.int .i64 r))
  have hpl := pairs_length ms
  have CA := hide (refAt (at_ ms i).key _ (unhide HG).row (by rw [pairs_length]; exact hn))
  have HNX : Hid (∀ r0, AtIs (pairs ms) (at_ ms i).key r0 → r0 = (i : Int)) := fun r0 h0 => atIs_in (by rw [pairs_length]; exact hi1) (pairs_at hi1).1 (by
    have := pairs_once h.facts.1 hi1
    rw [(pairs_at hi1).1] at this
    exact this) h0
  have CB := hide (gGet (unhide HG) (at_mem ms i hi1))
  obtain ⟨b0, b1, b2⟩ := box_cells w (.int .i64 5) (.int .i64 (at_ ms i).key) (.int .i64 r)
  obtain ⟨g, c, rfl⟩ := item_block h.row (by rw [pairs_length]; omega)
  have c2 := (owns_cells (unhide HG).row i (by rw [pairs_length]; exact hi1)).2
  rw [(pairs_at hi1).2] at c2
  have hiz : (i : Int) < ((pairs ms).length : Int) := by rw [pairs_length]; omega
  generalize (pairs ms).length = L at *
  generalize (at_ ms i).key = k at *
  generalize (at_ ms i).rank = rr at *
  clear h hpl
  go_enter Try.func11, Try.ntmps11
  go_wp2_with fail
  refine (unhide CB).mono ?_
  rintro e w2 ⟨rfl, rfl⟩
  clear CB
  go_wp2_with fail
  refine (unhide CA).mono ?_
  rintro e w3 ⟨r0, rfl, hr0, rfl⟩
  obtain rfl := unhide HNX r0 hr0
  clear CA hr0
  go_wp2_with fail
  go_ret2
  exact ⟨rfl, unhide HG⟩

set_option maxHeartbeats 1000000 in
set_option maxRecDepth 100000 in
theorem stepDropOut [Inhabited EntI] {B : Nat} {w0 w : World} {p n : Nat} {ms : List EntI} {v : Value} (k r : Int) (h : Game B w0 p ms n v (pairs ms) w) (hk : KeyOkI k) (hnin : ∀ x ∈ ms, x.key ≠ k) (hn : ms.length ≤ 1099511627776) :
    Calls Try.prog 11 #[.pointer (some ⟨p, 0, none⟩), v, .agg #[.int .i64 6, .int .i64 k, .int .i64 r]] w fun e w' => e = .returned (.tuple #[v, .bool true]) ∧ Hid (Game B w0 p ms n v (pairs ms) w') := by
  have HG := hide (h.boxed (.int .i64 6) (.int .i64 k) (.int .i64 r))
  have CA := hide (refAt k _ (unhide HG).row (by rw [pairs_length]; exact hn))
  have HNX : Hid (∀ r0, AtIs (pairs ms) k r0 → r0 = -1) := fun r0 h0 => atIs_out (pairs_out hnin) h0
  have CB := hide (gDropOut (unhide HG) k hk hnin)
  obtain ⟨b0, b1, b2⟩ := box_cells w (.int .i64 6) (.int .i64 k) (.int .i64 r)
  obtain ⟨a, c, rfl⟩ := item_shape h.row
  clear h hnin
  go_enter Try.func11, Try.ntmps11
  go_wp2_with fail
  refine (unhide CA).mono ?_
  rintro e w3 ⟨r0, rfl, hr0, rfl⟩
  obtain rfl := unhide HNX r0 hr0
  clear CA hr0
  go_wp2_with fail
  refine (unhide CB).mono ?_
  rintro e w2 ⟨rfl, rfl⟩
  clear CB
  go_wp2_with fail
  go_ret2
  exact ⟨rfl, unhide HG⟩

set_option maxHeartbeats 1000000 in
set_option maxRecDepth 100000 in
theorem stepDrop [Inhabited EntI] {B : Nat} {w0 w : World} {p n : Nat} {ms : List EntI} {v : Value} (i : Nat) (r : Int) (h : Game B w0 p ms n v (pairs ms) w) (hi1 : i < ms.length) (hn : ms.length < 1099511627776) :
    Calls Try.prog 11 #[.pointer (some ⟨p, 0, none⟩), v, .agg #[.int .i64 6, .int .i64 (at_ ms i).key, .int .i64 r]] w fun e w' => ∃ v', e = .returned (.tuple #[v', .bool true]) ∧ Hid (Game B w0 p (without (at_ ms i).key ms) n v' (pairs (without (at_ ms i).key ms)) w') := by
  have HG := hide (h.boxed (.int .i64 6) (.int .i64 (at_ ms i).key) (.int .i64 r))
  have CA := hide (refAt (at_ ms i).key _ (unhide HG).row (by rw [pairs_length]; omega))
  have HNX : Hid (∀ r0, AtIs (pairs ms) (at_ ms i).key r0 → r0 = (i : Int)) := fun r0 h0 => atIs_in (by rw [pairs_length]; exact hi1) (pairs_at hi1).1 (by
    have := pairs_once h.facts.1 hi1
    rw [(pairs_at hi1).1] at this
    exact this) h0
  have CB := hide (gDrop (unhide HG) (at_mem ms i hi1) (by omega))
  have CW : Hid (∀ w3, Game B w0 p (without (at_ ms i).key ms) n v (pairs ms) w3 → Calls Try.prog 38 #[v, .int .i64 i] w3 fun e w' => ∃ v', e = .returned v' ∧ Hid (Game B w0 p (without (at_ ms i).key ms) n v' (pairs (without (at_ ms i).key ms)) w')) := fun w3 G3 => by
    refine (refWithout i w3 G3.row (by rw [pairs_length]; exact hn) (by rw [pairs_length]; exact hi1)).mono ?_
    rintro e w' ⟨v', he, h2⟩
    rw [← pairs_without h.facts.1 hi1] at h2
    refine ⟨v', he, G3.row_step ?_ (unhide h2).2⟩
    have hl : (pairs (without (at_ ms i).key ms)).length = (pairs ms).length - 1 := by
      have := length_without h.facts.1 (at_mem ms i hi1)
      rw [pairs_length, pairs_length]; omega
    rw [hl]; exact (unhide h2).1
  obtain ⟨b0, b1, b2⟩ := box_cells w (.int .i64 6) (.int .i64 (at_ ms i).key) (.int .i64 r)
  obtain ⟨a, c, rfl⟩ := item_shape h.row
  generalize hms : without (at_ ms i).key ms = ms' at *
  generalize (at_ ms i).key = k at *
  have hi0 : (0 : Int) ≤ (i : Int) := by omega
  clear h hms
  go_enter Try.func11, Try.ntmps11
  go_wp2_with fail
  refine (unhide CA).mono ?_
  rintro e w3 ⟨r0, rfl, hr0, rfl⟩
  obtain rfl := unhide HNX r0 hr0
  clear CA hr0
  go_wp2_with fail
  refine (unhide CB).mono ?_
  rintro e w4 ⟨rfl, G4⟩
  have HCW := hide (unhide CW w4 G4)
  clear CB CW G4 HG
  go_wp2_with fail
  refine (unhide HCW).mono ?_
  rintro e w5 ⟨v', rfl, h5⟩
  obtain ⟨a', c', rfl⟩ := item_shape (unhide h5).row
  clear HCW
  go_wp2_with fail
  go_ret2
  exact ⟨_, rfl, unhide h5⟩
end Go.Proofs.Ytfhpabcjbjmcmaa

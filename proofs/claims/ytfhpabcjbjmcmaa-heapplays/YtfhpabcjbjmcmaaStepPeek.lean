/- step: Peek. -/
import Derived.Test.YtfhpabcjbjmcmaaStepBox
namespace Go.Proofs.Ytfhpabcjbjmcmaa
open Go.RowKit Go.Maps

set_option maxHeartbeats 1000000 in
set_option maxRecDepth 100000 in
theorem stepPeek [Inhabited EntI] {B : Nat} {w0 w : World} {p n : Nat} {ms : List EntI} {v : Value} (k r : Int) (h : Game B w0 p ms n v (pairs ms) w) (h0 : 0 < ms.length) (hn : ms.length ≤ 1099511627776) :
    Calls Try.prog 11 #[.pointer (some ⟨p, 0, none⟩), v, .agg #[.int .i64 4, .int .i64 k, .int .i64 r]] w fun e w' => e = .returned (.tuple #[v, .bool true]) ∧ Hid (Game B w0 p ms n v (pairs ms) w') := by
  have HG := hide (h.boxed (.int .i64 4) (.int .i64 k) (.int .i64 r))
  have CA := hide (refFirst _ (unhide HG).row (by rw [pairs_length]; exact hn))
  have HT := hide h.facts.2
  have hL : (pairs ms).length = ms.length := pairs_length ms
  have CB : Hid (∀ q, Calls Try.prog 40 #[.pointer (some ⟨p, 0, none⟩)] ((w.alloc (.cells #[.int .i64 4, .int .i64 k, .int .i64 r] 31)).drewN q) fun e w' => ∃ x ∈ ms, e = .returned (.tuple #[.int .i64 x.key, .int .i64 x.rank, .bool true]) ∧ (∀ y ∈ ms, le (fun x => x) x y) ∧ Game B w0 p ms n v (pairs ms) w' ∧ w'.cell? ⟨w.heap.size, 0, none⟩ = some (.int .i64 4)) := fun q => by
    obtain ⟨F, ho, ht⟩ := h.boxed_on (.int .i64 4) (.int .i64 k) (.int .i64 r) q
    exact (ho.peek h0).mono fun e w' ⟨x, hx, he, hle, q2, hw⟩ => ⟨x, hx, he, hle, ht _ F ms n (hw ▸ ho.kept (fun _ _ => rfl)) (hw ▸ (Turned.refl _ _).drewN q2) (fun _ => .inl)⟩
  obtain ⟨b0, b1, b2⟩ := box_cells w (.int .i64 4) (.int .i64 k) (.int .i64 r)
  obtain ⟨g, c, rfl⟩ := item_block h.row (by omega)
  have H0 := hide h0
  have HL := hide hL
  clear h HG h0 hL hn
  go_enter Try.func11, Try.ntmps11
  go_wp2_with fail
  refine (unhide CA).mono ?_
  rintro e w3 ⟨r0, rfl, hr0, q, rfl⟩
  obtain ⟨i, hi1, rfl⟩ := first_some (unhide H0) hr0
  have HF := hide hr0
  have hi0 : (0 : Int) ≤ (i : Int) := by omega
  have hin : ¬ (i : Int) < 0 := by omega
  clear CA hr0
  go_wp2_with fail
  refine (unhide CB _).mono ?_
  rintro e w4 ⟨x, hx, rfl, hle, G4, d0⟩
  obtain ⟨i', hi', e1, hxe⟩ := first_at (unhide HT) hx hle (unhide HF)
  obtain rfl : i' = i := by omega
  have hL := unhide HL
  have c1 := (owns_cells G4.row i' (by omega)).1
  have c2 := (owns_cells G4.row i' (by omega)).2
  rw [(pairs_at hi').1, hxe] at c1
  rw [(pairs_at hi').2, hxe] at c2
  have hiz : (i' : Int) < ((pairs ms).length : Int) := by omega
  have HG4 := hide G4
  clear CB G4 hx hle e1 hxe hL HL
  generalize hLL : (pairs ms).length = L at *
  generalize x.key = kk at *
  generalize x.rank = rr at *
  go_wp2_with fail
  go_ret2
  subst hLL
  exact ⟨rfl, unhide HG4⟩
end Go.Proofs.Ytfhpabcjbjmcmaa

/- sink: an entry goes away from the root. -/
import Derived.Test.YtfhpabcjbjmcmaaSwapWT
import Derived.Test.YtfhpabcjbjmcmaaAheadT
namespace Go.Proofs.Ytfhpabcjbjmcmaa
open Go.RowKit Go.Maps

theorem child_casesT {k c : Nat} (hc : 0 < c) (h : par c = k) : c = 2 * k + 1 ∨ c = 2 * k + 2 := by unfold par at h; omega

set_option maxHeartbeats 2000000 in
set_option maxRecDepth 100000 in
theorem sinkT [Inhabited EntT] {p m : Nat} {lv v : Value} {es : List EntT} {n : Nat} (i : Nat) (w : World) (h : HAtT w p m lv v es n) (hl : LessF lv) (hi : i < es.length) (hn : es.length ≤ 1099511627776) :
    Calls Try.prog 56 #[.pointer (some ⟨p, 0, none⟩), .int .i64 i] w fun e w' => e = .returned (.tuple #[]) ∧ Hid (∃ es', es'.Perm es ∧ HAtT w' p m lv v es' n ∧ Turned (Foot p m v) w w' ∧ (SinkAt (le g0) i es → HeapOrd (le g0) es')) := by
  obtain ⟨b, c, rfl, -, -, -, -, -, -⟩ := h.some_ (by omega)
  have HL := hide hl
  have H0 := hide h
  obtain ⟨L, hLe⟩ : ∃ L, L = es.length := ⟨_, rfl⟩
  have HLE := hide hLe
  rw [← hLe] at hi hn H0 ⊢
  clear hl h hLe
  go_enter Try.func56, Try.ntmps56
  go_wp2_with fail
  go_loopw [1] (fun s1 wr => ∃ (k : Nat) (es' : List EntT), s1 = .int .i64 k ∧ k < L ∧ Hid (es'.Perm es ∧ HAtT wr p m lv (.slice (some ⟨b, 0, none⟩) L c) es' n ∧ Turned (Foot p m (.slice (some ⟨b, 0, none⟩) L c)) w wr ∧ (SinkAt (le g0) i es → SinkAt (le g0) k es'))) (fun s1 _ => L - (intOf s1).toNat)
  case atStart => exact ⟨i, es, rfl, hi, List.Perm.refl _, unhide H0, Turned.refl _ _, fun h => h⟩
  case round =>
    obtain ⟨k, es', rfl, hk, hS⟩ := hrel
    have hLl : Hid (es'.length = L) := (unhide hS).1.length_eq.trans (unhide HLE).symm
    have c1 := (unhide hS).2.1.cells.2.1
    by_cases h1 : 2 * k + 1 < L
    · have h1z : 2 * (k : Int) + 1 < (L : Int) := by omega
      have CA : Hid (∀ (wq : World), Below wr.heap.size wr wq → ∀ (x y : Nat), x < L → y < L → Calls Try.prog 54 #[.pointer (some ⟨p, 0, none⟩), .int .i64 x, .int .i64 y] wq fun e w' => e = .returned (.bool (aheadB g0 (at_ es' x) (at_ es' y))) ∧ Below wr.heap.size wr w') := fun wq hq x y hx hy =>
        (aheadT x y wq ((unhide hS).2.1.below hq) (unhide HL) (by rw [unhide hLl]; exact hx) (by rw [unhide hLl]; exact hy)).mono fun _ _ hh => ⟨hh.1, hq.trans (hh.2.mono hq.size)⟩
      have CS : Hid (∀ (wq : World), Below wr.heap.size wr wq → ∀ (x y : Nat), x < L → y < L → Calls Try.prog 55 #[.pointer (some ⟨p, 0, none⟩), .int .i64 x, .int .i64 y] wq fun e w' => e = .returned (.tuple #[]) ∧ Hid (HAtT w' p m lv (.slice (some ⟨b, 0, none⟩) L c) (swapL es' x y) n ∧ Turned (Foot p m (.slice (some ⟨b, 0, none⟩) L c)) wq w')) := fun wq hq x y hx hy =>
        swapT x y wq ((unhide hS).2.1.below hq) (by rw [unhide hLl]; exact hx) (by rw [unhide hLl]; exact hy) (by rw [unhide hLl]; exact hn)
      by_cases h2 : 2 * k + 2 < L
      · have h2z : 2 * (k : Int) + 1 + 1 < (L : Int) := by omega
        have h2y : 2 * (k : Int) + 2 < (L : Int) := by omega
        have C1 := unhide CA wr (Below.refl _ _) (2 * k + 2) (2 * k + 1) h2 h1
        rw [show ((2 * k + 2 : Nat) : Int) = 2 * (k : Int) + 1 + 1 by omega, show ((2 * k + 1 : Nat) : Int) = 2 * (k : Int) + 1 by omega] at C1
        cases ha : aheadB g0 (at_ es' (2 * k + 2)) (at_ es' (2 * k + 1)) with
        | true =>
          rw [ha] at C1
          have HMIN : Hid (∀ c, 0 < c → c < es'.length → par c = k → le g0 (at_ es' (2 * k + 2)) (at_ es' c)) := fun c hc _ hpc => by
            rcases child_casesT hc hpc with rfl | rfl
            · exact le_of_ahead g0 ha
            · exact le_refl g0 _
          have HC1 := hide C1
          clear ha C1
          go_wp2_with fail
          refine (unhide HC1).mono ?_
          rintro e wq ⟨rfl, hq⟩
          have HQ := hide hq
          clear hq
          clear HC1
          have CB := unhide CA wq (unhide HQ) (2 * k + 2) k (by omega) hk
          have CT := unhide CS
          rw [show (((2 * k + 2) : Nat) : Int) = 2 * (k : Int) + 1 + 1 by omega] at CB
          cases hb : aheadB g0 (at_ es' (2 * k + 2)) (at_ es' k) with
          | false =>
            rw [hb] at CB
            have HBB := hide hb
            have HCB := hide CB
            clear hb CB CT CA CS
            go_wp2_with fail
            refine (unhide HCB).mono ?_
            rintro e wq2 ⟨rfl, hq2⟩
            have HQ2 := hide hq2
            clear hq2
            clear HCB
            go_wp2_with fail
            refine bodyPost_ret (results_none rfl _ _ _) rfl ?_
            obtain ⟨g1, g2, g3, g4⟩ := unhide hS
            exact ⟨rfl, es', g1, g2.below (unhide HQ2), g3.trans (turned_of_below (unhide HQ2)), fun hf => sink_end (g4 hf) (fun c hc hcl hpc => le_trans g0 _ _ _ (le_of_not_ahead g0 (unhide HBB)) (unhide HMIN c hc hcl hpc))⟩
          | true =>
            rw [hb] at CB
            have HBB := hide hb
            have HCB := hide CB
            have HCT : Hid (∀ wq2, Below wr.heap.size wr wq2 → Calls Try.prog 55 #[.pointer (some ⟨p, 0, none⟩), .int .i64 k, .int .i64 (2 * (k : Int) + 1 + 1)] wq2 fun e w' => e = .returned (.tuple #[]) ∧ Hid (HAtT w' p m lv (.slice (some ⟨b, 0, none⟩) L c) (swapL es' k (2 * k + 2)) n ∧ Turned (Foot p m (.slice (some ⟨b, 0, none⟩) L c)) wr w')) := fun wq2 hq2 => by
              have := CT wq2 hq2 k (2 * k + 2) hk (by omega)
              rw [show (((2 * k + 2) : Nat) : Int) = 2 * (k : Int) + 1 + 1 by omega] at this
              refine this.mono ?_
              exact fun e w' hh => ⟨hh.1, hh.2.out.1, (turned_of_below hq2).trans hh.2.out.2⟩
            clear hb CB CT CA CS
            go_wp2_with fail
            refine (unhide HCB).mono ?_
            rintro e wq2 ⟨rfl, hq2⟩
            have HQ2 := hide hq2
            clear hq2
            clear HCB
            go_wp2_with fail
            refine (unhide HCT _ (unhide HQ2)).mono ?_
            rintro e w' ⟨rfl, hs2⟩
            clear HCT
            go_wp2_with fail
            go_roundw
            case rel =>
              obtain ⟨g1, g2, g3, g4⟩ := unhide hS
              obtain ⟨f1, f2⟩ := unhide hs2
              have hkl : k < es'.length := by rw [unhide hLl]; exact hk
              have hcl : 2 * k + 2 < es'.length := by rw [unhide hLl]; omega
              exact ⟨2 * k + 2, swapL es' k (2 * k + 2), by go_num, by omega, (swap_perm es' k (2 * k + 2) hkl hcl).trans g1, f1, g3.trans f2, fun hf => sink_step (g4 hf) hcl (by omega) (by unfold par; omega) (unhide HMIN) (le_of_ahead g0 (unhide HBB))⟩
            case measure => simp [intOf]; omega
        | false =>
          rw [ha] at C1
          have HMIN : Hid (∀ c, 0 < c → c < es'.length → par c = k → le g0 (at_ es' (2 * k + 1)) (at_ es' c)) := fun c hc _ hpc => by
            rcases child_casesT hc hpc with rfl | rfl
            · exact le_refl g0 _
            · exact le_of_not_ahead g0 ha
          have HC1 := hide C1
          clear ha C1
          go_wp2_with fail
          refine (unhide HC1).mono ?_
          rintro e wq ⟨rfl, hq⟩
          have HQ := hide hq
          clear hq
          clear HC1
          have CB := unhide CA wq (unhide HQ) (2 * k + 1) k (by omega) hk
          have CT := unhide CS
          rw [show (((2 * k + 1) : Nat) : Int) = 2 * (k : Int) + 1 by omega] at CB
          cases hb : aheadB g0 (at_ es' (2 * k + 1)) (at_ es' k) with
          | false =>
            rw [hb] at CB
            have HBB := hide hb
            have HCB := hide CB
            clear hb CB CT CA CS
            go_wp2_with fail
            refine (unhide HCB).mono ?_
            rintro e wq2 ⟨rfl, hq2⟩
            have HQ2 := hide hq2
            clear hq2
            clear HCB
            go_wp2_with fail
            refine bodyPost_ret (results_none rfl _ _ _) rfl ?_
            obtain ⟨g1, g2, g3, g4⟩ := unhide hS
            exact ⟨rfl, es', g1, g2.below (unhide HQ2), g3.trans (turned_of_below (unhide HQ2)), fun hf => sink_end (g4 hf) (fun c hc hcl hpc => le_trans g0 _ _ _ (le_of_not_ahead g0 (unhide HBB)) (unhide HMIN c hc hcl hpc))⟩
          | true =>
            rw [hb] at CB
            have HBB := hide hb
            have HCB := hide CB
            have HCT : Hid (∀ wq2, Below wr.heap.size wr wq2 → Calls Try.prog 55 #[.pointer (some ⟨p, 0, none⟩), .int .i64 k, .int .i64 (2 * (k : Int) + 1)] wq2 fun e w' => e = .returned (.tuple #[]) ∧ Hid (HAtT w' p m lv (.slice (some ⟨b, 0, none⟩) L c) (swapL es' k (2 * k + 1)) n ∧ Turned (Foot p m (.slice (some ⟨b, 0, none⟩) L c)) wr w')) := fun wq2 hq2 => by
              have := CT wq2 hq2 k (2 * k + 1) hk (by omega)
              rw [show (((2 * k + 1) : Nat) : Int) = 2 * (k : Int) + 1 by omega] at this
              refine this.mono ?_
              exact fun e w' hh => ⟨hh.1, hh.2.out.1, (turned_of_below hq2).trans hh.2.out.2⟩
            clear hb CB CT CA CS
            go_wp2_with fail
            refine (unhide HCB).mono ?_
            rintro e wq2 ⟨rfl, hq2⟩
            have HQ2 := hide hq2
            clear hq2
            clear HCB
            go_wp2_with fail
            refine (unhide HCT _ (unhide HQ2)).mono ?_
            rintro e w' ⟨rfl, hs2⟩
            clear HCT
            go_wp2_with fail
            go_roundw
            case rel =>
              obtain ⟨g1, g2, g3, g4⟩ := unhide hS
              obtain ⟨f1, f2⟩ := unhide hs2
              have hkl : k < es'.length := by rw [unhide hLl]; exact hk
              have hcl : 2 * k + 1 < es'.length := by rw [unhide hLl]; omega
              exact ⟨2 * k + 1, swapL es' k (2 * k + 1), by go_num, by omega, (swap_perm es' k (2 * k + 1) hkl hcl).trans g1, f1, g3.trans f2, fun hf => sink_step (g4 hf) hcl (by omega) (by unfold par; omega) (unhide HMIN) (le_of_ahead g0 (unhide HBB))⟩
            case measure => simp [intOf]; omega
      · have h2z : ¬ 2 * (k : Int) + 1 + 1 < (L : Int) := by omega
        have h2y : ¬ 2 * (k : Int) + 2 < (L : Int) := by omega
        have HMIN : Hid (∀ c, 0 < c → c < es'.length → par c = k → le g0 (at_ es' (2 * k + 1)) (at_ es' c)) := fun c hc hcl hpc => by
          rw [unhide hLl] at hcl
          rcases child_casesT hc hpc with rfl | rfl
          · exact le_refl g0 _
          · omega
        have CB := unhide CA wr (Below.refl _ _) (2 * k + 1) k (by omega) hk
        have CT := unhide CS
        rw [show (((2 * k + 1) : Nat) : Int) = 2 * (k : Int) + 1 by omega] at CB
        cases hb : aheadB g0 (at_ es' (2 * k + 1)) (at_ es' k) with
        | false =>
          rw [hb] at CB
          have HBB := hide hb
          have HCB := hide CB
          clear hb CB CT CA CS
          go_wp2_with fail
          refine (unhide HCB).mono ?_
          rintro e wq2 ⟨rfl, hq2⟩
          have HQ2 := hide hq2
          clear hq2
          clear HCB
          go_wp2_with fail
          refine bodyPost_ret (results_none rfl _ _ _) rfl ?_
          obtain ⟨g1, g2, g3, g4⟩ := unhide hS
          exact ⟨rfl, es', g1, g2.below (unhide HQ2), g3.trans (turned_of_below (unhide HQ2)), fun hf => sink_end (g4 hf) (fun c hc hcl hpc => le_trans g0 _ _ _ (le_of_not_ahead g0 (unhide HBB)) (unhide HMIN c hc hcl hpc))⟩
        | true =>
          rw [hb] at CB
          have HBB := hide hb
          have HCB := hide CB
          have HCT : Hid (∀ wq2, Below wr.heap.size wr wq2 → Calls Try.prog 55 #[.pointer (some ⟨p, 0, none⟩), .int .i64 k, .int .i64 (2 * (k : Int) + 1)] wq2 fun e w' => e = .returned (.tuple #[]) ∧ Hid (HAtT w' p m lv (.slice (some ⟨b, 0, none⟩) L c) (swapL es' k (2 * k + 1)) n ∧ Turned (Foot p m (.slice (some ⟨b, 0, none⟩) L c)) wr w')) := fun wq2 hq2 => by
            have := CT wq2 hq2 k (2 * k + 1) hk (by omega)
            rw [show (((2 * k + 1) : Nat) : Int) = 2 * (k : Int) + 1 by omega] at this
            refine this.mono ?_
            exact fun e w' hh => ⟨hh.1, hh.2.out.1, (turned_of_below hq2).trans hh.2.out.2⟩
          clear hb CB CT CA CS
          go_wp2_with fail
          refine (unhide HCB).mono ?_
          rintro e wq2 ⟨rfl, hq2⟩
          have HQ2 := hide hq2
          clear hq2
          clear HCB
          go_wp2_with fail
          refine (unhide HCT _ (unhide HQ2)).mono ?_
          rintro e w' ⟨rfl, hs2⟩
          clear HCT
          go_wp2_with fail
          go_roundw
          case rel =>
            obtain ⟨g1, g2, g3, g4⟩ := unhide hS
            obtain ⟨f1, f2⟩ := unhide hs2
            have hkl : k < es'.length := by rw [unhide hLl]; exact hk
            have hcl : 2 * k + 1 < es'.length := by rw [unhide hLl]; omega
            exact ⟨2 * k + 1, swapL es' k (2 * k + 1), by go_num, by omega, (swap_perm es' k (2 * k + 1) hkl hcl).trans g1, f1, g3.trans f2, fun hf => sink_step (g4 hf) hcl (by omega) (by unfold par; omega) (unhide HMIN) (le_of_ahead g0 (unhide HBB))⟩
          case measure => simp [intOf]; omega
    · have h1z : ¬ 2 * (k : Int) + 1 < (L : Int) := by omega
      go_wp2_with fail
      go_end0
      obtain ⟨g1, g2, g3, g4⟩ := unhide hS
      exact ⟨rfl, es', g1, g2, g3, fun hf => sink_end (g4 hf) (fun c hc hcl hpc => by
        rw [unhide hLl] at hcl
        rcases child_casesT hc hpc with rfl | rfl <;> omega)⟩
end Go.Proofs.Ytfhpabcjbjmcmaa

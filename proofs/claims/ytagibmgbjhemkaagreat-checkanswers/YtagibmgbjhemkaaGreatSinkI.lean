/- sink: an entry goes away from the root. -/
import Derived.Test.YtagibmgbjhemkaaGreatSwapWI
import Derived.Test.YtagibmgbjhemkaaGreatAheadI
namespace Go.Proofs.YtagibmgbjhemkaaGreat
open Go.RowKit Go.Maps

theorem child_cases {k c : Nat} (hc : 0 < c) (h : par c = k) : c = 2 * k + 1 ∨ c = 2 * k + 2 := by unfold par at h; omega

set_option maxHeartbeats 2000000 in
set_option maxRecDepth 100000 in
theorem sinkI [Inhabited EntI] {p m : Nat} {lv v : Value} {es : List EntI} {n : Nat} {gg : Int → Int} (i : Nat) (w : World) (h : HAtI w p m lv v es n) (hl : Less lv gg) (hi : i < es.length) (hn : es.length ≤ 1099511627776) :
    Calls Tryz.prog 146 #[.pointer (some ⟨p, 0, none⟩), .int .i64 i] w fun e w' => e = .returned (.tuple #[]) ∧ Hid (∃ es', es'.Perm es ∧ HAtI w' p m lv v es' n ∧ Turned (Foot p m v) w w' ∧ (SinkAt (le gg) i es → HeapOrd (le gg) es')) := by
  obtain ⟨b, c, rfl, -, -, -, -, -, -⟩ := h.some_ (by omega)
  have HL := hide hl
  have H0 := hide h
  obtain ⟨L, hLe⟩ : ∃ L, L = es.length := ⟨_, rfl⟩
  have HLE := hide hLe
  rw [← hLe] at hi hn H0 ⊢
  clear hl h hLe
  go_enter Tryz.func146, Tryz.ntmps146
  go_wp2_with fail
  go_loopw [1] (fun s1 wr => ∃ (k : Nat) (es' : List EntI), s1 = .int .i64 k ∧ k < L ∧ Hid (es'.Perm es ∧ HAtI wr p m lv (.slice (some ⟨b, 0, none⟩) L c) es' n ∧ Turned (Foot p m (.slice (some ⟨b, 0, none⟩) L c)) w wr ∧ (SinkAt (le gg) i es → SinkAt (le gg) k es'))) (fun s1 _ => L - (intOf s1).toNat)
  case atStart => exact ⟨i, es, rfl, hi, List.Perm.refl _, unhide H0, Turned.refl _ _, fun h => h⟩
  case round =>
    obtain ⟨k, es', rfl, hk, hS⟩ := hrel
    have hLl : Hid (es'.length = L) := (unhide hS).1.length_eq.trans (unhide HLE).symm
    have c1 := (unhide hS).2.1.cells.2.1
    by_cases h1 : 2 * k + 1 < L
    · have h1z : 2 * (k : Int) + 1 < (L : Int) := by omega
      have CA : Hid (∀ (q x y : Nat), x < L → y < L → Calls Tryz.prog 133 #[.pointer (some ⟨p, 0, none⟩), .int .i64 x, .int .i64 y] (wr.drewN q) fun e w' => e = .returned (.bool (aheadB gg (at_ es' x) (at_ es' y))) ∧ ∃ q', w' = (wr.drewN q).drewN q') := fun q x y hx hy =>
        aheadI x y (wr.drewN q) ((unhide hS).2.1.drewN q) (unhide HL) (by rw [unhide hLl]; exact hx) (by rw [unhide hLl]; exact hy)
      have CS : Hid (∀ (q x y : Nat), x < L → y < L → Calls Tryz.prog 134 #[.pointer (some ⟨p, 0, none⟩), .int .i64 x, .int .i64 y] (wr.drewN q) fun e w' => e = .returned (.tuple #[]) ∧ Hid (HAtI w' p m lv (.slice (some ⟨b, 0, none⟩) L c) (swapL es' x y) n ∧ Turned (Foot p m (.slice (some ⟨b, 0, none⟩) L c)) (wr.drewN q) w')) := fun q x y hx hy =>
        swapI x y (wr.drewN q) ((unhide hS).2.1.drewN q) (by rw [unhide hLl]; exact hx) (by rw [unhide hLl]; exact hy) (by rw [unhide hLl]; exact hn)
      by_cases h2 : 2 * k + 2 < L
      · have h2z : 2 * (k : Int) + 1 + 1 < (L : Int) := by omega
        have h2y : 2 * (k : Int) + 2 < (L : Int) := by omega
        have C1 := unhide CA 0 (2 * k + 2) (2 * k + 1) h2 h1
        rw [show ((2 * k + 2 : Nat) : Int) = 2 * (k : Int) + 1 + 1 by omega, show ((2 * k + 1 : Nat) : Int) = 2 * (k : Int) + 1 by omega] at C1
        cases ha : aheadB gg (at_ es' (2 * k + 2)) (at_ es' (2 * k + 1)) with
        | true =>
          rw [ha] at C1
          have HMIN : Hid (∀ c, 0 < c → c < es'.length → par c = k → le gg (at_ es' (2 * k + 2)) (at_ es' c)) := fun c hc _ hpc => by
            rcases child_cases hc hpc with rfl | rfl
            · exact le_of_ahead gg ha
            · exact le_refl gg _
          have HC1 := hide C1
          clear ha C1
          go_wp2_with fail
          refine (unhide HC1).mono ?_
          rintro e w' ⟨rfl, q, rfl⟩
          clear HC1
          have CB := unhide CA q (2 * k + 2) k (by omega) hk
          have CT := unhide CS
          rw [show (((2 * k + 2) : Nat) : Int) = 2 * (k : Int) + 1 + 1 by omega] at CB
          cases hb : aheadB gg (at_ es' (2 * k + 2)) (at_ es' k) with
          | false =>
            rw [hb] at CB
            have HBB := hide hb
            have HCB := hide CB
            clear hb CB CT CA CS
            go_wp2_with fail
            refine (unhide HCB).mono ?_
            rintro e w' ⟨rfl, q2, rfl⟩
            clear HCB
            go_wp2_with fail
            refine bodyPost_ret (results_none rfl _ _ _) rfl ?_
            obtain ⟨g1, g2, g3, g4⟩ := unhide hS
            exact ⟨rfl, es', g1, g2.drewN _, g3.drewN _, fun hf => sink_end (g4 hf) (fun c hc hcl hpc => le_trans gg _ _ _ (le_of_not_ahead gg (unhide HBB)) (unhide HMIN c hc hcl hpc))⟩
          | true =>
            rw [hb] at CB
            have HBB := hide hb
            have HCB := hide CB
            have HCT : Hid (∀ q2, Calls Tryz.prog 134 #[.pointer (some ⟨p, 0, none⟩), .int .i64 k, .int .i64 (2 * (k : Int) + 1 + 1)] (wr.drewN q2) fun e w' => e = .returned (.tuple #[]) ∧ Hid (HAtI w' p m lv (.slice (some ⟨b, 0, none⟩) L c) (swapL es' k (2 * k + 2)) n ∧ Turned (Foot p m (.slice (some ⟨b, 0, none⟩) L c)) wr w')) := fun q2 => by
              have := CT q2 k (2 * k + 2) hk (by omega)
              rw [show (((2 * k + 2) : Nat) : Int) = 2 * (k : Int) + 1 + 1 by omega] at this
              refine this.mono ?_
              exact fun e w' hh => ⟨hh.1, hh.2.out.1, ((Turned.refl _ wr).drewN _).trans hh.2.out.2⟩
            clear hb CB CT CA CS
            go_wp2_with fail
            refine (unhide HCB).mono ?_
            rintro e w' ⟨rfl, q2, rfl⟩
            clear HCB
            go_wp2_with fail
            refine (unhide HCT _).mono ?_
            rintro e w' ⟨rfl, hs2⟩
            clear HCT
            go_wp2_with fail
            go_roundw
            case rel =>
              obtain ⟨g1, g2, g3, g4⟩ := unhide hS
              obtain ⟨f1, f2⟩ := unhide hs2
              have hkl : k < es'.length := by rw [unhide hLl]; exact hk
              have hcl : 2 * k + 2 < es'.length := by rw [unhide hLl]; omega
              exact ⟨2 * k + 2, swapL es' k (2 * k + 2), by go_num, by omega, (swap_perm es' k (2 * k + 2) hkl hcl).trans g1, f1, g3.trans f2, fun hf => sink_step (g4 hf) hcl (by omega) (by unfold par; omega) (unhide HMIN) (le_of_ahead gg (unhide HBB))⟩
            case measure => simp [intOf]; omega
        | false =>
          rw [ha] at C1
          have HMIN : Hid (∀ c, 0 < c → c < es'.length → par c = k → le gg (at_ es' (2 * k + 1)) (at_ es' c)) := fun c hc _ hpc => by
            rcases child_cases hc hpc with rfl | rfl
            · exact le_refl gg _
            · exact le_of_not_ahead gg ha
          have HC1 := hide C1
          clear ha C1
          go_wp2_with fail
          refine (unhide HC1).mono ?_
          rintro e w' ⟨rfl, q, rfl⟩
          clear HC1
          have CB := unhide CA q (2 * k + 1) k (by omega) hk
          have CT := unhide CS
          rw [show (((2 * k + 1) : Nat) : Int) = 2 * (k : Int) + 1 by omega] at CB
          cases hb : aheadB gg (at_ es' (2 * k + 1)) (at_ es' k) with
          | false =>
            rw [hb] at CB
            have HBB := hide hb
            have HCB := hide CB
            clear hb CB CT CA CS
            go_wp2_with fail
            refine (unhide HCB).mono ?_
            rintro e w' ⟨rfl, q2, rfl⟩
            clear HCB
            go_wp2_with fail
            refine bodyPost_ret (results_none rfl _ _ _) rfl ?_
            obtain ⟨g1, g2, g3, g4⟩ := unhide hS
            exact ⟨rfl, es', g1, g2.drewN _, g3.drewN _, fun hf => sink_end (g4 hf) (fun c hc hcl hpc => le_trans gg _ _ _ (le_of_not_ahead gg (unhide HBB)) (unhide HMIN c hc hcl hpc))⟩
          | true =>
            rw [hb] at CB
            have HBB := hide hb
            have HCB := hide CB
            have HCT : Hid (∀ q2, Calls Tryz.prog 134 #[.pointer (some ⟨p, 0, none⟩), .int .i64 k, .int .i64 (2 * (k : Int) + 1)] (wr.drewN q2) fun e w' => e = .returned (.tuple #[]) ∧ Hid (HAtI w' p m lv (.slice (some ⟨b, 0, none⟩) L c) (swapL es' k (2 * k + 1)) n ∧ Turned (Foot p m (.slice (some ⟨b, 0, none⟩) L c)) wr w')) := fun q2 => by
              have := CT q2 k (2 * k + 1) hk (by omega)
              rw [show (((2 * k + 1) : Nat) : Int) = 2 * (k : Int) + 1 by omega] at this
              refine this.mono ?_
              exact fun e w' hh => ⟨hh.1, hh.2.out.1, ((Turned.refl _ wr).drewN _).trans hh.2.out.2⟩
            clear hb CB CT CA CS
            go_wp2_with fail
            refine (unhide HCB).mono ?_
            rintro e w' ⟨rfl, q2, rfl⟩
            clear HCB
            go_wp2_with fail
            refine (unhide HCT _).mono ?_
            rintro e w' ⟨rfl, hs2⟩
            clear HCT
            go_wp2_with fail
            go_roundw
            case rel =>
              obtain ⟨g1, g2, g3, g4⟩ := unhide hS
              obtain ⟨f1, f2⟩ := unhide hs2
              have hkl : k < es'.length := by rw [unhide hLl]; exact hk
              have hcl : 2 * k + 1 < es'.length := by rw [unhide hLl]; omega
              exact ⟨2 * k + 1, swapL es' k (2 * k + 1), by go_num, by omega, (swap_perm es' k (2 * k + 1) hkl hcl).trans g1, f1, g3.trans f2, fun hf => sink_step (g4 hf) hcl (by omega) (by unfold par; omega) (unhide HMIN) (le_of_ahead gg (unhide HBB))⟩
            case measure => simp [intOf]; omega
      · have h2z : ¬ 2 * (k : Int) + 1 + 1 < (L : Int) := by omega
        have h2y : ¬ 2 * (k : Int) + 2 < (L : Int) := by omega
        have HMIN : Hid (∀ c, 0 < c → c < es'.length → par c = k → le gg (at_ es' (2 * k + 1)) (at_ es' c)) := fun c hc hcl hpc => by
          rw [unhide hLl] at hcl
          rcases child_cases hc hpc with rfl | rfl
          · exact le_refl gg _
          · omega
        have CB := unhide CA 0 (2 * k + 1) k (by omega) hk
        have CT := unhide CS
        rw [show (((2 * k + 1) : Nat) : Int) = 2 * (k : Int) + 1 by omega] at CB
        cases hb : aheadB gg (at_ es' (2 * k + 1)) (at_ es' k) with
        | false =>
          rw [hb] at CB
          have HBB := hide hb
          have HCB := hide CB
          clear hb CB CT CA CS
          go_wp2_with fail
          refine (unhide HCB).mono ?_
          rintro e w' ⟨rfl, q2, rfl⟩
          clear HCB
          go_wp2_with fail
          refine bodyPost_ret (results_none rfl _ _ _) rfl ?_
          obtain ⟨g1, g2, g3, g4⟩ := unhide hS
          exact ⟨rfl, es', g1, g2.drewN _, g3.drewN _, fun hf => sink_end (g4 hf) (fun c hc hcl hpc => le_trans gg _ _ _ (le_of_not_ahead gg (unhide HBB)) (unhide HMIN c hc hcl hpc))⟩
        | true =>
          rw [hb] at CB
          have HBB := hide hb
          have HCB := hide CB
          have HCT : Hid (∀ q2, Calls Tryz.prog 134 #[.pointer (some ⟨p, 0, none⟩), .int .i64 k, .int .i64 (2 * (k : Int) + 1)] (wr.drewN q2) fun e w' => e = .returned (.tuple #[]) ∧ Hid (HAtI w' p m lv (.slice (some ⟨b, 0, none⟩) L c) (swapL es' k (2 * k + 1)) n ∧ Turned (Foot p m (.slice (some ⟨b, 0, none⟩) L c)) wr w')) := fun q2 => by
            have := CT q2 k (2 * k + 1) hk (by omega)
            rw [show (((2 * k + 1) : Nat) : Int) = 2 * (k : Int) + 1 by omega] at this
            refine this.mono ?_
            exact fun e w' hh => ⟨hh.1, hh.2.out.1, ((Turned.refl _ wr).drewN _).trans hh.2.out.2⟩
          clear hb CB CT CA CS
          go_wp2_with fail
          refine (unhide HCB).mono ?_
          rintro e w' ⟨rfl, q2, rfl⟩
          clear HCB
          go_wp2_with fail
          refine (unhide HCT _).mono ?_
          rintro e w' ⟨rfl, hs2⟩
          clear HCT
          go_wp2_with fail
          go_roundw
          case rel =>
            obtain ⟨g1, g2, g3, g4⟩ := unhide hS
            obtain ⟨f1, f2⟩ := unhide hs2
            have hkl : k < es'.length := by rw [unhide hLl]; exact hk
            have hcl : 2 * k + 1 < es'.length := by rw [unhide hLl]; omega
            exact ⟨2 * k + 1, swapL es' k (2 * k + 1), by go_num, by omega, (swap_perm es' k (2 * k + 1) hkl hcl).trans g1, f1, g3.trans f2, fun hf => sink_step (g4 hf) hcl (by omega) (by unfold par; omega) (unhide HMIN) (le_of_ahead gg (unhide HBB))⟩
          case measure => simp [intOf]; omega
    · have h1z : ¬ 2 * (k : Int) + 1 < (L : Int) := by omega
      go_wp2_with fail
      go_end0
      obtain ⟨g1, g2, g3, g4⟩ := unhide hS
      exact ⟨rfl, es', g1, g2, g3, fun hf => sink_end (g4 hf) (fun c hc hcl hpc => by
        rw [unhide hLl] at hcl
        rcases child_cases hc hpc with rfl | rfl <;> omega)⟩
end Go.Proofs.YtagibmgbjhemkaaGreat

/- rise: an entry goes towards the root. -/
import Derived.Test.YtfhpabcjbjmcmaaSwapWT
import Derived.Test.YtfhpabcjbjmcmaaAheadT
namespace Go.Proofs.Ytfhpabcjbjmcmaa
open Go.RowKit Go.Maps

set_option maxHeartbeats 1000000 in
set_option maxRecDepth 100000 in
theorem riseT [Inhabited EntT] {p m : Nat} {lv v : Value} {es : List EntT} {n : Nat} (i : Nat) (w : World) (h : HAtT w p m lv v es n) (hl : LessF lv) (hi : i < es.length) (hn : es.length ≤ 1099511627776) :
    Calls Try.prog 44 #[.pointer (some ⟨p, 0, none⟩), .int .i64 i] w fun e w' => e = .returned (.tuple #[]) ∧ Hid (∃ es', es'.Perm es ∧ HAtT w' p m lv v es' n ∧ Turned (Foot p m v) w w' ∧
      ∀ full, RiseAt (le g0) full i i es → (full → HeapOrd (le g0) es') ∧ SinkAt (le g0) i es') := by
  have HL := hide hl
  have H0 := hide h
  have hlen : i < 1099511627776 := by omega
  have HI := hide hi
  have HN := hide hn
  clear hl h hi hn
  go_enter Try.func44, Try.ntmps44
  go_wp2_with fail
  go_loopw [1] (fun s1 wr => ∃ (k : Nat) (es' : List EntT), s1 = .int .i64 k ∧ k ≤ i ∧ Hid (es'.Perm es ∧ HAtT wr p m lv v es' n ∧ Turned (Foot p m v) w wr ∧ ∀ full, RiseAt (le g0) full i i es → RiseAt (le g0) full i k es')) (fun s1 _ => (intOf s1).toNat)
  case atStart => exact ⟨i, es, rfl, Nat.le_refl _, List.Perm.refl _, unhide H0, Turned.refl _ _, fun _ h => h⟩
  case round =>
    obtain ⟨k, es', rfl, hki, hS⟩ := hrel
    by_cases hk : k = 0
    · subst hk
      go_wp2_with fail
      go_end0
      obtain ⟨h1, h2, h3, h4⟩ := unhide hS
      exact ⟨rfl, es', h1, h2, h3, fun full hf => rise_end (le_trans g0) (h4 full hf) (.inl rfl)⟩
    · have hkp : 0 < k := by omega
      have hkz : (0 : Int) < (k : Int) := by omega
      have hk2 : k < es'.length := by rw [(unhide hS).1.length_eq]; have := unhide HI; omega
      have hpk : par k < es'.length := by unfold par; omega
      have CA := hide (aheadT k (par k) wr (unhide hS).2.1 (unhide HL) hk2 hpk)
      rw [par_int hkp] at CA
      have CS : Hid (∀ wq, Below wr.heap.size wr wq → Calls Try.prog 55 #[.pointer (some ⟨p, 0, none⟩), .int .i64 k, .int .i64 (par k)] wq fun e w' => e = .returned (.tuple #[]) ∧ Hid (HAtT w' p m lv v (swapL es' k (par k)) n ∧ Turned (Foot p m v) wq w')) := fun wq hq =>
        swapT k (par k) wq ((unhide hS).2.1.below hq) hk2 hpk (by rw [(unhide hS).1.length_eq]; exact unhide HN)
      rw [par_int hkp] at CS
      cases ha : aheadB g0 (at_ es' k) (at_ es' (par k)) with
      | false =>
        rw [ha] at CA
        have HA := hide ha
        clear ha CS
        go_wp2_with fail
        refine (unhide CA).mono ?_
        rintro e wq ⟨rfl, hq⟩
        have HQ := hide hq
        clear hq
        clear CA
        go_wp2_with fail
        go_end0
        obtain ⟨h1, h2, h3, h4⟩ := unhide hS
        exact ⟨rfl, es', h1, h2.below (unhide HQ), h3.trans (turned_of_below (unhide HQ)), fun full hf => rise_end (le_trans g0) (h4 full hf) (.inr (le_of_not_ahead g0 (unhide HA)))⟩
      | true =>
        rw [ha] at CA
        have HA := hide ha
        clear ha
        go_wp2_with fail
        refine (unhide CA).mono ?_
        rintro e wq ⟨rfl, hq⟩
        have HQ := hide hq
        clear hq
        clear CA
        go_wp2_with fail
        refine (unhide CS wq (unhide HQ)).mono ?_
        rintro e w' ⟨rfl, hs2⟩
        clear CS
        go_wp2_with fail
        go_roundw
        case rel =>
          obtain ⟨h1, h2, h3, h4⟩ := unhide hS
          obtain ⟨g1, g2⟩ := unhide hs2
          refine ⟨par k, swapL es' k (par k), by rw [par_int hkp], by unfold par; omega, (swap_perm es' k (par k) hk2 hpk).trans h1, g1, (h3.trans (turned_of_below (unhide HQ))).trans g2, fun full hf => rise_step (le_trans g0) (h4 full hf) hkp (le_of_ahead g0 (unhide HA))⟩
        case measure => simp [intOf]; omega
end Go.Proofs.Ytfhpabcjbjmcmaa

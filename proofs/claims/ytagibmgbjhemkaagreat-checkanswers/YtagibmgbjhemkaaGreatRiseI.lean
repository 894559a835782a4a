/- rise: an entry goes towards the root. -/
import Derived.Test.YtagibmgbjhemkaaGreatSwapWI
import Derived.Test.YtagibmgbjhemkaaGreatAheadI
namespace Go.Proofs.YtagibmgbjhemkaaGreat
open Go.RowKit Go.Maps

set_option maxHeartbeats 1000000 in
set_option maxRecDepth 100000 in
theorem riseI [Inhabited EntI] {p m : Nat} {lv v : Value} {es : List EntI} {n : Nat} {gg : Int → Int} (i : Nat) (w : World) (h : HAtI w p m lv v es n) (hl : Less lv gg) (hi : i < es.length) (hn : es.length ≤ 1099511627776) :
    Calls Tryz.prog 123 #[.pointer (some ⟨p, 0, none⟩), .int .i64 i] w fun e w' => e = .returned (.tuple #[]) ∧ Hid (∃ es', es'.Perm es ∧ HAtI w' p m lv v es' n ∧ Turned (Foot p m v) w w' ∧
      ∀ full, RiseAt (le gg) full i i es → (full → HeapOrd (le gg) es') ∧ SinkAt (le gg) i es') := by
  have HL := hide hl
  have H0 := hide h
  have hlen : i < 1099511627776 := by omega
  have HI := hide hi
  have HN := hide hn
  clear hl h hi hn
  go_enter Tryz.func123, Tryz.ntmps123
  go_wp2_with fail
  go_loopw [1] (fun s1 wr => ∃ (k : Nat) (es' : List EntI), s1 = .int .i64 k ∧ k ≤ i ∧ Hid (es'.Perm es ∧ HAtI wr p m lv v es' n ∧ Turned (Foot p m v) w wr ∧ ∀ full, RiseAt (le gg) full i i es → RiseAt (le gg) full i k es')) (fun s1 _ => (intOf s1).toNat)
  case atStart => exact ⟨i, es, rfl, Nat.le_refl _, List.Perm.refl _, unhide H0, Turned.refl _ _, fun _ h => h⟩
  case round =>
    obtain ⟨k, es', rfl, hki, hS⟩ := hrel
    by_cases hk : k = 0
    · subst hk
      go_wp2_with fail
      go_end0
      obtain ⟨h1, h2, h3, h4⟩ := unhide hS
      exact ⟨rfl, es', h1, h2, h3, fun full hf => rise_end (le_trans gg) (h4 full hf) (.inl rfl)⟩
    · have hkp : 0 < k := by omega
      have hkz : (0 : Int) < (k : Int) := by omega
      have hk2 : k < es'.length := by rw [(unhide hS).1.length_eq]; have := unhide HI; omega
      have hpk : par k < es'.length := by unfold par; omega
      have CA := hide (aheadI k (par k) wr (unhide hS).2.1 (unhide HL) hk2 hpk)
      rw [par_int hkp] at CA
      have CS : Hid (∀ q, Calls Tryz.prog 134 #[.pointer (some ⟨p, 0, none⟩), .int .i64 k, .int .i64 (par k)] (wr.drewN q) fun e w' => e = .returned (.tuple #[]) ∧ Hid (HAtI w' p m lv v (swapL es' k (par k)) n ∧ Turned (Foot p m v) (wr.drewN q) w')) := fun q =>
        swapI k (par k) (wr.drewN q) ((unhide hS).2.1.drewN q) hk2 hpk (by rw [(unhide hS).1.length_eq]; exact unhide HN)
      rw [par_int hkp] at CS
      cases ha : aheadB gg (at_ es' k) (at_ es' (par k)) with
      | false =>
        rw [ha] at CA
        have HA := hide ha
        clear ha CS
        go_wp2_with fail
        refine (unhide CA).mono ?_
        rintro e w' ⟨rfl, q, rfl⟩
        clear CA
        go_wp2_with fail
        go_end0
        obtain ⟨h1, h2, h3, h4⟩ := unhide hS
        exact ⟨rfl, es', h1, h2.drewN q, h3.drewN q, fun full hf => rise_end (le_trans gg) (h4 full hf) (.inr (le_of_not_ahead gg (unhide HA)))⟩
      | true =>
        rw [ha] at CA
        have HA := hide ha
        clear ha
        go_wp2_with fail
        refine (unhide CA).mono ?_
        rintro e w' ⟨rfl, q, rfl⟩
        clear CA
        go_wp2_with fail
        refine (unhide CS q).mono ?_
        rintro e w' ⟨rfl, hs2⟩
        clear CS
        go_wp2_with fail
        go_roundw
        case rel =>
          obtain ⟨h1, h2, h3, h4⟩ := unhide hS
          obtain ⟨g1, g2⟩ := unhide hs2
          refine ⟨par k, swapL es' k (par k), by rw [par_int hkp], by unfold par; omega, (swap_perm es' k (par k) hk2 hpk).trans h1, g1, (h3.drewN q).trans g2, fun full hf => rise_step (le_trans gg) (h4 full hf) hkp (le_of_ahead gg (unhide HA))⟩
        case measure => simp [intOf]; omega
end Go.Proofs.YtagibmgbjhemkaaGreat

/- step: any call at all. -/
import Derived.Test.YtfhpabcjbjmcmaaStepPopNone
import Derived.Test.YtfhpabcjbjmcmaaStepPeekNone
import Derived.Test.YtfhpabcjbjmcmaaStepPeek
import Derived.Test.YtfhpabcjbjmcmaaStepPop
import Derived.Test.YtfhpabcjbjmcmaaStepLen
namespace Go.Proofs.Ytfhpabcjbjmcmaa
open Go.RowKit Go.Maps

theorem in_or_out [Inhabited EntI] (ms : List EntI) (k : Int) : (∃ i, i < ms.length ∧ (at_ ms i).key = k) ∨ ∀ x ∈ ms, x.key ≠ k := by
  by_cases h : ∃ x ∈ ms, x.key = k
  · obtain ⟨x, hx, e⟩ := h
    obtain ⟨i, hi1, e2⟩ := List.getElem_of_mem hx
    refine .inl ⟨i, hi1, ?_⟩
    have : at_ ms i = x := by unfold at_; rw [List.getD_eq_getElem?_getD, List.getElem?_eq_getElem hi1, e2]; rfl
    rw [this, e]
  · exact .inr fun x hx e => h ⟨x, hx, e⟩

theorem step_any [Inhabited EntI] {B : Nat} {w0 w : World} {p n : Nat} {ms : List EntI} {v : Value} (kd k r : Int) (h : Game B w0 p ms n v (pairs ms) w) (hk : KeyOkI k) (hn : ms.length ≤ 1000) (hnn : n ≤ 1000) :
    Calls Try.prog 11 #[.pointer (some ⟨p, 0, none⟩), v, .agg #[.int .i64 kd, .int .i64 k, .int .i64 r]] w fun e w' => ∃ v' ms' n', e = .returned (.tuple #[v', .bool true]) ∧ ms'.length ≤ ms.length + 1 ∧ n' ≤ n + 1 ∧ Hid (Game B w0 p ms' n' v' (pairs ms') w') := by
  by_cases h1 : kd = 1
  · subst h1
    rcases in_or_out ms k with ⟨i, hi1, rfl⟩ | ho
    · exact (stepPushIn i r h hi1 hk (by omega)).mono fun e w' ⟨he, hg⟩ => ⟨v, ms, n, he, by omega, by omega, hg⟩
    · exact (stepPushNew k r h hk ho (by omega) (by omega)).mono fun e w' ⟨v', he, hg⟩ => ⟨v', _, _, he, by simp, by omega, hg⟩
  by_cases h2 : kd = 2
  · subst h2
    rcases in_or_out ms k with ⟨i, hi1, rfl⟩ | ho
    · by_cases hr : (at_ ms i).rank ≤ r
      · exact (stepLowerNot i r h hi1 hr (by omega)).mono fun e w' ⟨he, hg⟩ => ⟨v, ms, n, he, by omega, by omega, hg⟩
      · exact (stepLowerYes i r h hi1 (by omega) (by omega)).mono fun e w' ⟨v', he, hg⟩ => ⟨v', _, n, he, by simp [lowered], by omega, hg⟩
    · exact (stepLowerOut k r h hk ho (by omega)).mono fun e w' ⟨he, hg⟩ => ⟨v, ms, n, he, by omega, by omega, hg⟩
  by_cases h3 : kd = 3
  · subst h3
    rcases Nat.eq_zero_or_pos ms.length with h0 | h0
    · obtain rfl : ms = [] := List.length_eq_zero_iff.1 h0
      exact (stepPopNone k r h).mono fun e w' ⟨he, hg⟩ => ⟨v, [], n, he, by simp, by omega, hg⟩
    · exact (stepPop k r h h0 (by omega)).mono fun e w' ⟨x, hx, v', he, hg⟩ => ⟨v', _, n, he, by have := length_without h.facts.1 hx; omega, by omega, hg⟩
  by_cases h4 : kd = 4
  · subst h4
    rcases Nat.eq_zero_or_pos ms.length with h0 | h0
    · obtain rfl : ms = [] := List.length_eq_zero_iff.1 h0
      exact (stepPeekNone k r h).mono fun e w' ⟨he, hg⟩ => ⟨v, [], n, he, by simp, by omega, hg⟩
    · exact (stepPeek k r h h0 (by omega)).mono fun e w' ⟨he, hg⟩ => ⟨v, ms, n, he, by omega, by omega, hg⟩
  by_cases h5 : kd = 5
  · subst h5
    rcases in_or_out ms k with ⟨i, hi1, rfl⟩ | ho
    · exact (stepGet i r h hi1 (by omega)).mono fun e w' ⟨he, hg⟩ => ⟨v, ms, n, he, by omega, by omega, hg⟩
    · exact (stepGetOut k r h hk ho (by omega)).mono fun e w' ⟨he, hg⟩ => ⟨v, ms, n, he, by omega, by omega, hg⟩
  by_cases h6 : kd = 6
  · subst h6
    rcases in_or_out ms k with ⟨i, hi1, rfl⟩ | ho
    · exact (stepDrop i r h hi1 (by omega)).mono fun e w' ⟨v', he, hg⟩ => ⟨v', _, n, he, by have := length_without h.facts.1 (at_mem ms i hi1); omega, by omega, hg⟩
    · exact (stepDropOut k r h hk ho (by omega)).mono fun e w' ⟨he, hg⟩ => ⟨v, ms, n, he, by omega, by omega, hg⟩
  · exact (stepLen kd k r h (by simpa using h1) (by simpa using h2) (by simpa using h3) (by simpa using h4) (by simpa using h5) (by simpa using h6) (by omega)).mono fun e w' ⟨he, hg⟩ => ⟨v, ms, n, he, by omega, by omega, hg⟩
end Go.Proofs.Ytfhpabcjbjmcmaa

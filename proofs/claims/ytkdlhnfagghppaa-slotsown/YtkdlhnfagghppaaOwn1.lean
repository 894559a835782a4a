/- Whatever is dropped, put or set: a table stands there behind it. -/
import Derived.Test.YtkdlhnfagghppaaDuo
import Derived.Test.YtkdlhnfagghppaaEx
namespace Go.Proofs.Ytkdlhnfagghppaa
open Go.RowKit Go.Maps

/-- Some table. -/
def Some_ [Inhabited EntI] (X : Nat → Prop) (B : Nat) (w0 : World) (t : Nat) (most : Int) (n : Nat) (w w' : World) : Prop := ∃ ps' n', n' ≤ n + 65536 ∧ Duo X B w0 t most ps' n' w' ∧ KX X w w'

theorem stands_at (ps : List (Int × Bool)) (k : Int) : (∃ (i : Nat) (a : Int), k = (i : Int) + 1 ∧ ps[i]? = some (a, true)) ∨ ∀ (i : Nat) a, k = (i : Int) + 1 → ps[i]? ≠ some (a, true) := by
  by_cases h : ∃ (i : Nat) (a : Int), k = (i : Int) + 1 ∧ ps[i]? = some (a, true)
  · exact .inl h
  · exact .inr fun i a e g => h ⟨i, a, e, g⟩

section
variable [Inhabited EntI] {X : Nat → Prop} {B : Nat} {w0 w : World} {t n : Nat} {most : Int} {ps : List (Int × Bool)}
theorem anyDrop (k : Int) (h : Duo X B w0 t most ps n w) (hn : n ≤ 1000000000) : Calls Try.prog 14 #[.pointer (some ⟨t, 0, none⟩), .int .i64 k] w fun e w' => ∃ x ok, e = .returned (.tuple #[.int .i64 x, .bool ok]) ∧ Hid (Some_ X B w0 t most n w w') := by
  rcases stands_at ps k with ⟨i, a, rfl, g⟩ | hno
  · exact (dDrop i h g hn).mono fun e w' ⟨he, hh⟩ => ⟨a, true, he, _, hh.out⟩
  · exact (dropNoLN k h.live hno).mono fun e w' ⟨he, hw⟩ => ⟨0, false, he, ps, n, by omega, hw ▸ h, hw ▸ KX.refl _ _⟩
theorem anySet (k x : Int) (h : Duo X B w0 t most ps n w) : Calls Try.prog 20 #[.pointer (some ⟨t, 0, none⟩), .int .i64 k, .int .i64 x] w fun e w' => ∃ ok, e = .returned (.bool ok) ∧ Hid (Some_ X B w0 t most n w w') := by
  rcases stands_at ps k with ⟨i, a, rfl, g⟩ | hno
  · exact (dSet i x h g).mono fun e w' ⟨he, hh⟩ => ⟨true, he, _, hh.out⟩
  · exact (setNoLN k x h.live hno).mono fun e w' ⟨he, hw⟩ => ⟨false, he, ps, n, by omega, hw ▸ h, hw ▸ KX.refl _ _⟩
theorem anyPut (x : Int) (h : Duo X B w0 t most ps n w) (hn : n ≤ 1000000000) : Calls Try.prog 13 #[.pointer (some ⟨t, 0, none⟩), .int .i64 x] w fun e w' => ∃ i ok, e = .returned (.tuple #[.int .i64 i, .bool ok]) ∧ Hid (Some_ X B w0 t most n w w') := by
  have hm := h.live.fits
  obtain ⟨r, hr⟩ := free_ex ps most
  have hr0 := hr
  rcases hr with ⟨i, a, rfl, h2, h3⟩ | ⟨hf, ⟨hq, rfl⟩ | ⟨hq, rfl⟩⟩
  · exact (dPut i x h (fun r hr => free_one hr0 hr) (by have := lt_of_at h2; omega) (fun b e => by rw [h2] at e; cases e) hn).mono fun e w' ⟨he, hh⟩ => ⟨_, true, he, _, hh.out⟩
  · exact (putNoLN x h.live (fun r hr => free_one hr0 hr)).mono fun e w' ⟨he, q, hw⟩ => ⟨0, false, he, ps, n, by omega, hw ▸ h.draw q, hw ▸ fun _ _ => rfl⟩
  · exact (dPut ps.length x h (fun r hr => free_one hr0 hr) (by omega) (fun b e => by have := lt_of_at e; omega) hn).mono fun e w' ⟨he, hh⟩ => ⟨_, true, he, _, hh.out⟩
end
end Go.Proofs.Ytkdlhnfagghppaa

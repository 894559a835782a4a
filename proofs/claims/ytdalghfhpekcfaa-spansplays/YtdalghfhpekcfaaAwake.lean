/- The fixed fact that the statements ask first: the document's examples over int. -/
import Derived.Test.YtdalghfhpekcfaaLiveI
namespace Go.Proofs.Ytdalghfhpekcfaa
open Go.RowKit Go.Shelf

theorem canon_two {a b c d : Int} (h1 : a ≤ b) (h2 : b + 1 < c) (h3 : c ≤ d) : Canon [(a, b), (c, d)] := by
  refine ⟨fun i hi1 => ?_, fun i j g1 g2 => ?_⟩
  · match i, hi1 with
    | 0, _ => simpa [lo, hi] using h1
    | 1, _ => simpa [lo, hi] using h3
  · have g3 : i = 0 ∧ j = 1 := by simp at g2; omega
    obtain ⟨rfl, rfl⟩ := g3
    simpa [lo, hi] using h2
theorem in_two (a b c d x : Int) : In [(a, b), (c, d)] x ↔ (a ≤ x ∧ x ≤ b) ∨ (c ≤ x ∧ x ≤ d) := by rw [in_cons, in_one]
theorem in_nil (x : Int) : In [] x ↔ False := by simp [In]

theorem says_true {e : Ending} {φ : Prop} (h : Says e φ) (hφ : φ) : e = .returned (.bool true) := by
  obtain ⟨r, rfl, hr⟩ := h; rw [hr.2 hφ]
theorem says_false {e : Ending} {φ : Prop} (h : Says e φ) (hφ : ¬ φ) : e = .returned (.bool false) := by
  obtain ⟨r, rfl, hr⟩ := h
  cases r with
  | true => exact absurd (hr.1 rfl) hφ
  | false => rfl

set_option maxHeartbeats 1000000 in
set_option maxRecDepth 100000 in
theorem awake_any (w : World) : Calls Try.prog 9 #[] w fun e w' => e = .returned (.bool true) ∧ Below w.heap.size w w' := by
  have HA : ∀ a b : Int, 0 ≤ a → a ≤ 10 → 0 ≤ b → b ≤ 10 → Hid (((-9223372036854775808) ≤ a ∧ a ≤ 9223372036854775807) ∧ (-9223372036854775808) ≤ b ∧ b ≤ 9223372036854775807) := fun a b _ _ _ _ => ⟨⟨by omega, by omega⟩, by omega, by omega⟩
  have HAA := hide HA
  clear HA
  go_enter Try.func9, Try.ntmps9
  go_wp2_with fail
  refine (newLI w).mono ?_
  rintro e w1 ⟨rfl, L1⟩
  obtain ⟨p, hp⟩ : ∃ p, p = w.heap.size := ⟨_, rfl⟩
  have HP := hide hp
  have L2 : LiveI w.heap.size w p [] w1 := by rw [hp]; exact L1
  rw [← hp]
  have C1 := hide (addLI 3 5 L2 (by simp) (unhide HAA 3 5 (by omega) (by omega) (by omega) (by omega)))
  clear hp L1 L2
  go_wp2_with fail
  refine (unhide C1).mono ?_
  rintro e w2 ⟨rs, hs, hI, -, L3⟩
  have e1 : rs = [(3, 5)] := canon_ext _ _ L3.canon (canon_one (by omega)) (fun x => by rw [unhide hI x, in_one, in_nil]; simp)
  subst e1
  obtain rfl := says_true hs (by simp)
  have C2 := hide (addLI 6 6 L3 (by simp) (unhide HAA 6 6 (by omega) (by omega) (by omega) (by omega)))
  clear hs hI L3 C1
  go_wp2_with fail
  refine (unhide C2).mono ?_
  rintro e w3 ⟨rs, hs, hI, -, L4⟩
  have e1 : rs = [(3, 6)] := canon_ext _ _ L4.canon (canon_one (by omega)) (fun x => by rw [unhide hI x, in_one, in_one]; omega)
  subst e1
  obtain rfl := says_true hs (by simp)
  have C3 := hide (addLI 4 6 L4 (by simp) (unhide HAA 4 6 (by omega) (by omega) (by omega) (by omega)))
  clear hs hI L4 C2
  go_wp2_with fail
  refine (unhide C3).mono ?_
  rintro e w4 ⟨rs, hs, hI, -, L5⟩
  have e1 : rs = [(3, 6)] := canon_ext _ _ L5.canon (canon_one (by omega)) (fun x => by rw [unhide hI x, in_one]; omega)
  subst e1
  obtain rfl := says_false hs (by simp)
  have C4 := hide (lenLI L5)
  have C5 := hide (cutLI 4 4 L5 (by simp) (unhide HAA 4 4 (by omega) (by omega) (by omega) (by omega)))
  clear hs hI L5 C3
  go_wp2_with fail
  refine (unhide C4).mono ?_
  rintro e w' ⟨rfl, rfl⟩
  clear C4
  go_wp2_with fail
  refine (unhide C5).mono ?_
  rintro e w5 ⟨rs, hs, hI, -, L6⟩
  have e1 : rs = [(3, 3), (5, 6)] := canon_ext _ _ L6.canon (canon_two (by omega) (by omega) (by omega)) (fun x => by rw [unhide hI x, in_one, in_two]; omega)
  subst e1
  obtain rfl := says_true hs (by simp)
  have C6 := hide (nextLI 4 L6 (by simp))
  clear hs hI L6 C5
  go_wp2_with fail
  refine (unhide C6).mono ?_
  rintro e w6 ⟨⟨y, ok, rfl, hn⟩, L7, -⟩
  have hyok : y = 5 ∧ ok = true := by
    rcases hn with ⟨-, -, h⟩ | ⟨h, r, h1, h2, h3, h4⟩
    · have := h 1 (by simp); simp [hi] at this
    · refine ⟨?_, h⟩
      match r, h1 with
      | 0, _ => simp [hi] at h3
      | 1, _ => simp [lo] at h4; omega
  obtain ⟨rfl, rfl⟩ := hyok
  have C7 := hide (lenLI L7)
  have C8 := hide (hasLI 3 L7 (by simp))
  clear hn L7 C6
  go_wp2_with fail
  refine (unhide C7).mono ?_
  rintro e w' ⟨rfl, rfl⟩
  clear C7
  go_wp2_with fail
  refine (unhide C8).mono ?_
  rintro e w7 ⟨hs, L8, -⟩
  obtain rfl := says_true hs ((in_two _ _ _ _ _).2 (by omega))
  have C9 := hide (hasLI 4 L8 (by simp))
  clear hs L8 C8
  go_wp2_with fail
  refine (unhide C9).mono ?_
  rintro e w8 ⟨hs, L9, -⟩
  obtain rfl := says_false hs (by rw [in_two]; omega)
  have HB := hide L9.below
  clear hs L9 C9
  go_wp2_with fail
  go_ret
  exact ⟨rfl, unhide HB⟩
end Go.Proofs.Ytdalghfhpekcfaa

/- What is asked of a set: Holds, Has, Next, Meets, Len; and whether two runs touch. -/
import Derived.Test.YtdalghfhpekcfaaNBI
namespace Go.Proofs.Ytdalghfhpekcfaa
open Go.RowKit Go.Shelf

set_option maxHeartbeats 400000 in
theorem touchI (h l : Int) (w : World) (H : Hid ((-9223372036854775808) ≤ h ∧ h ≤ 9223372036854775807 ∧ l ≤ 9223372036854775807)) :
    Calls Try.prog 69 #[.int .i64 h, .int .i64 l] w fun e w' => e = .returned (.bool (decide (l ≤ h + 1))) ∧ w' = w := by
  by_cases h1 : l ≤ h
  · have h2 : decide (l ≤ h + 1) = true := by simp; omega
    rw [h2]
    clear h2
    go_enter Try.func69, Try.ntmps69
    go_wp2
    go_ret
    exact ⟨rfl, rfl⟩
  · have h2 : (IntKind.wrap .i64 (h + 1)) = h + 1 := by
      have := unhide H
      exact wrap_i64 (by omega) (by omega)
    have h4 : decide (l ≤ h + 1) = (h + 1 == l) := by
      by_cases h3 : h + 1 = l
      · simp [h3]
      · rw [beq_eq_false_iff_ne.2 h3]; simp; omega
    rw [h4]
    clear h4 H
    go_enter Try.func69, Try.ntmps69
    go_wp2
    go_ret
    exact ⟨rfl, rfl⟩

set_option maxHeartbeats 400000 in
theorem holdsI {p : Nat} {v : Value} {rs : List (Int × Int)} (a b : Int) (w : World) (hS : SetI w p v rs) (hC : Canon rs) (hn : rs.length ≤ 1099511627776) :
    Calls Try.prog 37 #[.pointer (some ⟨p, 0, none⟩), .int .i64 a, .int .i64 b] w fun e w' => Says e (b < a ∨ ∃ i, i < rs.length ∧ lo rs i ≤ a ∧ b ≤ hi rs i) ∧ Below w.heap.size w w' := by
  have HC := hide hC
  have HS := hide hS
  have HN := hide (notBelowI a w hS hC hn)
  by_cases hab : b < a
  · clear hS hC
    go_enter Try.func37, Try.ntmps37
    go_wp2_with fail
    go_ret
    exact ⟨⟨true, rfl, by simp [hab]⟩, Below.refl _ _⟩
  · rcases hS.two with ⟨rfl, rfl⟩ | ⟨g, c, rfl, hlc, -, hgl, hcl⟩
    · clear hS hC
      go_enter Try.func37, Try.ntmps37
      go_wp2_with fail
      refine (unhide HN).mono ?_
      rintro e w' ⟨r, rfl, hr, h1, h2, hb⟩
      have hp := ((unhide HS).below hb).cell
      have HB := hide hb
      simp only [List.length_nil, Nat.le_zero_eq] at hr
      subst hr
      clear h1 h2 hb
      go_wp2_with fail
      go_ret
      exact ⟨⟨false, rfl, by simp; omega⟩, unhide HB⟩
    · have HL := hide hcl
      clear hS hC hcl
      go_enter Try.func37, Try.ntmps37
      go_wp2_with fail
      refine (unhide HN).mono ?_
      rintro e w' ⟨r, rfl, hr, h1, h2, hb⟩
      have hp := ((unhide HS).below hb).cell
      have HB := hide hb
      have H1 := hide h1
      have H2 := hide h2
      clear h1 h2
      by_cases hlt : r < rs.length
      · have c1 : w'.cell? ⟨g, r * 2, none⟩ = some (.int .i64 (lo rs r)) := (hb.cell (by exact hgl)).trans (unhide HL r hlt).1
        have c2 : w'.cell? ⟨g, r * 2 + 1, none⟩ = some (.int .i64 (hi rs r)) := (hb.cell (by exact hgl)).trans (unhide HL r hlt).2
        have hlz : (r : Int) < (rs.length : Int) := by omega
        have K : Hid (b < a ∨ (∃ i, i < rs.length ∧ lo rs i ≤ a ∧ b ≤ hi rs i) ↔ lo rs r ≤ a ∧ b ≤ hi rs r) := by
          constructor
          · rintro (h | ⟨i, hi1, hi2, hi3⟩)
            · omega
            · rcases Nat.lt_trichotomy i r with h | rfl | h
              · have := unhide H1 i h; omega
              · exact ⟨hi2, hi3⟩
              · have := (unhide HC).gap r i h hi1; have := unhide H2 r (Nat.le_refl _) hlt; omega
          · rintro ⟨h3, h4⟩; exact .inr ⟨r, hlt, h3, h4⟩
        clear hb
        generalize lo rs r = y at c1 K
        generalize hi rs r = z at c2 K
        by_cases h3 : y ≤ a
        · go_wp2_with fail
          go_ret
          exact ⟨⟨decide (b ≤ z), rfl, by rw [unhide K]; simp; omega⟩, unhide HB⟩
        · go_wp2_with fail
          go_ret
          exact ⟨⟨false, rfl, by rw [unhide K]; simp; omega⟩, unhide HB⟩
      · have hlz : ¬ ((r : Int) < (rs.length : Int)) := by omega
        clear hb
        go_wp2_with fail
        go_ret
        refine ⟨⟨false, rfl, ?_⟩, unhide HB⟩
        simp only [Bool.false_eq_true, false_iff]
        rintro (h | ⟨i, hi1, hi2, hi3⟩)
        · omega
        · have := unhide H1 i (by omega); omega

set_option maxHeartbeats 400000 in
theorem hasI {p : Nat} {v : Value} {rs : List (Int × Int)} (x : Int) (w : World) (hS : SetI w p v rs) (hC : Canon rs) (hn : rs.length ≤ 1099511627776) :
    Calls Try.prog 32 #[.pointer (some ⟨p, 0, none⟩), .int .i64 x] w fun e w' => Says e (∃ i, i < rs.length ∧ lo rs i ≤ x ∧ x ≤ hi rs i) ∧ Below w.heap.size w w' := by
  have HN := hide (holdsI x x w hS hC hn)
  clear hS hC hn
  go_enter Try.func32, Try.ntmps32
  go_wp2_with fail
  refine (unhide HN).mono ?_
  rintro e w' ⟨⟨r, rfl, hr⟩, hb⟩
  have HR := hide hr
  have HB := hide hb
  clear hr hb HN
  go_wp2_with fail
  go_ret
  exact ⟨⟨r, rfl, by rw [unhide HR]; simp⟩, unhide HB⟩

set_option maxHeartbeats 400000 in
theorem nextI {p : Nat} {v : Value} {rs : List (Int × Int)} (x : Int) (w : World) (hS : SetI w p v rs) (hC : Canon rs) (hn : rs.length ≤ 1099511627776) :
    Calls Try.prog 31 #[.pointer (some ⟨p, 0, none⟩), .int .i64 x] w fun e w' => SaysNext .i64 e rs x ∧ Below w.heap.size w w' := by
  have HC := hide hC
  have HS := hide hS
  have HN := hide (notBelowI x w hS hC hn)
  rcases hS.two with ⟨rfl, rfl⟩ | ⟨g, c, rfl, hlc, -, hgl, hcl⟩
  · clear hS hC
    go_enter Try.func31, Try.ntmps31
    go_wp2_with fail
    refine (unhide HN).mono ?_
    rintro e w' ⟨r, rfl, hr, h1, h2, hb⟩
    have hp := ((unhide HS).below hb).cell
    have HB := hide hb
    simp only [List.length_nil, Nat.le_zero_eq] at hr
    subst hr
    clear h1 h2 hb
    go_wp2_with fail
    go_ret2
    exact ⟨⟨0, false, rfl, .inl ⟨rfl, rfl, fun t ht => by simp at ht⟩⟩, unhide HB⟩
  · have HL := hide hcl
    clear hS hC hcl
    go_enter Try.func31, Try.ntmps31
    go_wp2_with fail
    refine (unhide HN).mono ?_
    rintro e w' ⟨r, rfl, hr, h1, h2, hb⟩
    have hp := ((unhide HS).below hb).cell
    have HB := hide hb
    have H1 := hide h1
    have H2 := hide h2
    clear h1 h2
    by_cases hlt : r < rs.length
    · have c1 : w'.cell? ⟨g, r * 2, none⟩ = some (.int .i64 (lo rs r)) := (hb.cell (by exact hgl)).trans (unhide HL r hlt).1
      have hlz : (r : Int) < (rs.length : Int) := by omega
      have hlq : ¬ ((r : Int) = (rs.length : Int)) := by omega
      have K : Hid (∃ y, y = lo rs r ∧ x ≤ hi rs r) := ⟨_, rfl, unhide H2 r (Nat.le_refl _) hlt⟩
      clear hb
      have KY : Hid (lo rs r = lo rs r) := rfl
      generalize hy : lo rs r = y at c1
      have HY := hide hy
      clear hy
      go_wp2_with fail
      all_goals go_ret2
      · exact ⟨⟨_, true, rfl, .inr ⟨rfl, r, hlt, unhide H1, unhide H2 r (Nat.le_refl _) hlt, by rw [unhide HY]; omega⟩⟩, unhide HB⟩
      · exact ⟨⟨_, true, rfl, .inr ⟨rfl, r, hlt, unhide H1, unhide H2 r (Nat.le_refl _) hlt, by rw [unhide HY]; omega⟩⟩, unhide HB⟩
    · obtain rfl : r = rs.length := by omega
      clear hb
      go_wp2_with fail
      go_ret2
      exact ⟨⟨0, false, rfl, .inl ⟨rfl, rfl, unhide H1⟩⟩, unhide HB⟩

set_option maxHeartbeats 400000 in
theorem meetsI {p : Nat} {v : Value} {rs : List (Int × Int)} (a b : Int) (w : World) (hS : SetI w p v rs) (hC : Canon rs) (hn : rs.length ≤ 1099511627776) :
    Calls Try.prog 39 #[.pointer (some ⟨p, 0, none⟩), .int .i64 a, .int .i64 b] w fun e w' => Says e (a ≤ b ∧ ∃ i, i < rs.length ∧ lo rs i ≤ b ∧ a ≤ hi rs i) ∧ Below w.heap.size w w' := by
  have HC := hide hC
  have HN := hide (nextI a w hS hC hn)
  clear hS hC
  by_cases hab : b < a
  · go_enter Try.func39, Try.ntmps39
    go_wp2_with fail
    go_ret
    exact ⟨⟨false, rfl, by simp; omega⟩, Below.refl _ _⟩
  · go_enter Try.func39, Try.ntmps39
    go_wp2_with fail
    refine (unhide HN).mono ?_
    rintro e w' ⟨⟨y, ok, rfl, hr⟩, hb⟩
    have HB := hide hb
    have HR := hide hr
    clear hr hb HN
    cases ok with
    | false =>
      go_wp2_with fail
      go_ret
      refine ⟨⟨false, rfl, ?_⟩, unhide HB⟩
      simp only [Bool.false_eq_true, false_iff]
      rintro ⟨-, i, h1, h2, h3⟩
      rcases unhide HR with ⟨-, -, h⟩ | ⟨h, -⟩
      · have := h i h1; omega
      · cases h
    | true =>
      have K : Hid (y ≤ b ↔ a ≤ b ∧ ∃ i, i < rs.length ∧ lo rs i ≤ b ∧ a ≤ hi rs i) := by
        rcases unhide HR with ⟨h, -⟩ | ⟨-, r, h1, h2, h3, h4⟩
        · cases h
        · constructor
          · intro h; exact ⟨by omega, r, h1, by omega, h3⟩
          · rintro ⟨-, i, g1, g2, g3⟩
            rcases Nat.lt_trichotomy i r with h | rfl | h
            · have := h2 i h; omega
            · omega
            · have := (unhide HC).gap r i h g1; have := (unhide HC).run r h1; omega
      go_wp2_with fail
      go_ret
      exact ⟨⟨decide (y ≤ b), rfl, by rw [← unhide K]; simp⟩, unhide HB⟩

set_option maxHeartbeats 400000 in
theorem lenI {p : Nat} {v : Value} {rs : List (Int × Int)} (w : World) (hS : SetI w p v rs) :
    Calls Try.prog 29 #[.pointer (some ⟨p, 0, none⟩)] w fun e w' => e = .returned (.int .i64 rs.length) ∧ w' = w := by
  have hp := hS.cell
  rcases hS.two with ⟨rfl, rfl⟩ | ⟨g, c, rfl, -⟩
  · clear hS
    go_enter Try.func29, Try.ntmps29
    go_wp2_with fail
    go_ret
    exact ⟨rfl, rfl⟩
  · clear hS
    go_enter Try.func29, Try.ntmps29
    go_wp2_with fail
    go_ret
    exact ⟨rfl, rfl⟩

end Go.Proofs.Ytdalghfhpekcfaa

/- The reference's Free and Next. -/
import Derived.Test.YtkdlhnfagghppaaItems
namespace Go.Proofs.Ytkdlhnfagghppaa
open Go.RowKit Go.Maps

/-- Nothing stands at k. -/
def Out (its : List (Int × Int)) (k : Int) : Prop := ∀ j, j < its.length → lo its j ≠ k
theorem out_of {its : List (Int × Int)} {k r : Int} (h : AtIs its k r) (hr : r < 0) : Out its k := by
  rcases h with ⟨-, h⟩ | ⟨i, -, h, -⟩
  · exact h
  · omega
theorem in_of {its : List (Int × Int)} {k r : Int} (h : AtIs its k r) (hr : ¬ r < 0) : ¬ Out its k := by
  rcases h with ⟨h, -⟩ | ⟨i, h1, -, h2, -⟩
  · omega
  · exact fun ho => ho i h1 h2

def FreeR (its : List (Int × Int)) (most r : Int) : Prop :=
  (1 ≤ r ∧ r ≤ most ∧ Out its r ∧ ∀ j, 1 ≤ j → j < r → ¬ Out its j) ∨ (r = 0 ∧ ∀ j, 1 ≤ j → j ≤ most → ¬ Out its j)

set_option maxHeartbeats 1000000 in
set_option maxRecDepth 100000 in
theorem refFree {v : Value} {its : List (Int × Int)} (most : Int) (w : World) (h : w.ownsRow 0 47 2 v its.length (enc .i64 its)) (hn : its.length ≤ 1000000) (hm : 0 ≤ most ∧ most ≤ 65536) :
    Calls Try.prog 31 #[.agg #[.int .i64 most, v]] w fun e w' => ∃ r : Int, e = .returned (.int .i64 r) ∧ Hid (FreeR its most r ∧ Below w.heap.size w w') := by
  have hb : Below w.heap.size w (w.alloc (.cells #[.int .i64 most, v] 27)) := (Below.refl _ _).alloc (Nat.le_refl _) _
  have HB := hide hb
  obtain ⟨b0, b1, -⟩ := box2 w (.int .i64 most) v 27
  have H2 := hide (items_below h hb)
  have hs : w.heap.size < (w.alloc (.cells #[.int .i64 most, v] 27)).heap.size := by simp
  obtain ⟨a, c, rfl⟩ := item_shape h
  obtain ⟨hm0, hm1⟩ := hm
  have HN := hide hn
  clear h hb hn
  go_enter Try.func31, Try.ntmps31
  go_wp2_with fail
  generalize (w.alloc (.cells #[.int .i64 most, .slice a its.length c] 27)) = w1 at *
  go_loopw [3] (fun s3 wr => ∃ i : Int, s3 = .int .i64 i ∧ 1 ≤ i ∧ i ≤ most + 1 ∧ Hid (Below w1.heap.size w1 wr ∧ ∀ j, 1 ≤ j → j < i → ¬ Out its j)) (fun s3 _ => (most + 1).toNat - (intOf s3).toNat)
  case atStart => exact ⟨1, rfl, by omega, by omega, Below.refl _ _, fun j _ _ => by omega⟩
  case round =>
    obtain ⟨i, rfl, hi1, hi2, hh⟩ := hrel
    have c0 := ((unhide hh).1.cell (p := ⟨w.heap.size, 0, none⟩) (by exact hs)).trans b0
    have c1 := ((unhide hh).1.cell (p := ⟨w.heap.size, 1, none⟩) (by exact hs)).trans b1
    by_cases hle : i ≤ most
    · have CF := hide (refFind most i wr (items_below (unhide H2) (unhide hh).1) (unhide HN))
      generalize its.length = L at *
      go_wp2_with fail
      refine (unhide CF).mono ?_
      rintro e w3 ⟨r, rfl, h3⟩
      clear CF
      by_cases hr : r < 0
      · go_wp2_with fail
        go_ret
        exact ⟨i, rfl, .inl ⟨hi1, hle, out_of (unhide h3).1 hr, (unhide hh).2⟩, (unhide HB).trans (((unhide hh).1.trans ((unhide h3).2.mono (unhide hh).1.size)).mono (Nat.le_of_lt hs))⟩
      · go_wp2_with fail
        go_roundw
        case rel => exact ⟨i + 1, rfl, by omega, by omega, (unhide hh).1.trans ((unhide h3).2.mono (unhide hh).1.size), fun j h1 h2 => by
          by_cases e : j = i
          · subst e; exact in_of (unhide h3).1 (by omega)
          · exact (unhide hh).2 j h1 (by omega)⟩
        case measure => simp [intOf]; omega
    · generalize its.length = L at *
      go_wp2_with fail
      go_ret
      exact ⟨0, rfl, .inr ⟨rfl, fun j h1 h2 => (unhide hh).2 j h1 (by omega)⟩, (unhide HB).trans ((unhide hh).1.mono (Nat.le_of_lt hs))⟩

/-- The least number from i on among the first k. -/
def NextR (its : List (Int × Int)) (k : Nat) (i r : Int) : Prop :=
  (r = 0 ∧ ∀ j, j < k → lo its j < i) ∨ ∃ j, j < k ∧ r = lo its j ∧ i ≤ r ∧ ∀ m, m < k → i ≤ lo its m → r ≤ lo its m

set_option maxHeartbeats 1000000 in
set_option maxRecDepth 100000 in
theorem refNext {v : Value} {its : List (Int × Int)} (most i : Int) (w : World) (h : w.ownsRow 0 47 2 v its.length (enc .i64 its)) (hn : its.length ≤ 1000000) (hp : ∀ j, j < its.length → 1 ≤ lo its j) :
    Calls Try.prog 37 #[.agg #[.int .i64 most, v], .int .i64 i] w fun e w' => ∃ r : Int, e = .returned (.int .i64 r) ∧ Hid (NextR its its.length i r ∧ Below w.heap.size w w') := by
  have hb : Below w.heap.size w (w.alloc (.cells #[.int .i64 most, v] 27)) := (Below.refl _ _).alloc (Nat.le_refl _) _
  have HB := hide hb
  obtain ⟨-, b1, -⟩ := box2 w (.int .i64 most) v 27
  have h2 := items_below h hb
  rcases Nat.eq_zero_or_pos its.length with h0 | h0
  · obtain ⟨a, c, rfl⟩ := item_shape h
    have HE : Hid (NextR its its.length i 0) := .inl ⟨rfl, fun j hj => by omega⟩
    rw [h0] at b1 HB HE ⊢
    clear h hn h0 hb h2 hp
    go_enter Try.func37, Try.ntmps37
    go_wp2_with fail
    refine wp_loop_rounds 1 ?_
    rw [rounds_succ]
    go_wp2_with fail
    go_ret
    exact ⟨0, rfl, unhide HE, unhide HB⟩
  · obtain ⟨g, c, rfl⟩ := item_block h h0
    have HC := hide (owns_cells h2)
    have HP := hide hp
    generalize hL : its.length = L at *
    clear h hL hb h2 hp
    go_enter Try.func37, Try.ntmps37
    go_wp2_with fail
    generalize (w.alloc (.cells #[.int .i64 most, .slice (some ⟨g, 0, none⟩) L c] 27)) = w1 at *
    go_loopw [5, 6] (fun s5 s6 wr => ∃ (k : Nat) (r : Int), k ≤ L ∧ s6 = .int .i64 k ∧ s5 = .int .i64 r ∧ wr = w1 ∧ Hid (NextR its k i r)) (fun _ s6 _ => L - (intOf s6).toNat)
    case atStart => exact ⟨0, 0, Nat.zero_le _, rfl, rfl, rfl, .inl ⟨rfl, fun j hj => absurd hj (Nat.not_lt_zero _)⟩⟩
    case round =>
      obtain ⟨k, r, hk, rfl, rfl, rfl, HE⟩ := hrel
      by_cases hlt : k < L
      · have hltz : (k : Int) < (L : Int) := by omega
        have c1 := (unhide HC k hlt).1
        have hp1 := unhide HP k hlt
        obtain ⟨a1, e1⟩ : ∃ x, lo its k = x := ⟨_, rfl⟩
        rw [e1] at c1 hp1
        have HE1 := hide e1
        clear e1
        by_cases h1 : i ≤ a1
        · by_cases h2 : r = 0
          · subst h2
            have HF : Hid (NextR its (k + 1) i a1) := by
              refine .inr ⟨k, by omega, (unhide HE1).symm, h1, fun m hm hm2 => ?_⟩
              rcases Nat.lt_or_ge m k with hmk | hmk
              · rcases unhide HE with ⟨-, h⟩ | ⟨j, hj, h, hi0, -⟩
                · have := h m hmk; omega
                · have := unhide HP j (by omega); omega
              · obtain rfl : m = k := by omega
                rw [unhide HE1]; exact Int.le_refl _
            go_wp2_with fail
            go_roundw
            case rel => exact ⟨k + 1, a1, by omega, by go_num, rfl, trivial, unhide HF⟩
            case measure => simp [intOf]; omega
          · have h3 : (r == 0) = false := by simpa using h2
            have HR2 := hide h2
            clear h2
            by_cases h4 : a1 < r
            · have HF : Hid (NextR its (k + 1) i a1) := by
                refine .inr ⟨k, by omega, (unhide HE1).symm, h1, fun m hm hm2 => ?_⟩
                rcases Nat.lt_or_ge m k with hmk | hmk
                · rcases unhide HE with ⟨h, -⟩ | ⟨j, hj, h, hi0, hl⟩
                  · exact absurd h (unhide HR2)
                  · have := hl m hmk hm2; omega
                · obtain rfl : m = k := by omega
                  rw [unhide HE1]; exact Int.le_refl _
              go_wp2_with fail
              go_roundw
              case rel => exact ⟨k + 1, a1, by omega, by go_num, rfl, trivial, unhide HF⟩
              case measure => simp [intOf]; omega
            · have HF : Hid (NextR its (k + 1) i r) := by
                rcases unhide HE with ⟨h, -⟩ | ⟨j, hj, h, hi0, hl⟩
                · exact absurd h (unhide HR2)
                · refine .inr ⟨j, by omega, h, hi0, fun m hm hm2 => ?_⟩
                  rcases Nat.lt_or_ge m k with hmk | hmk
                  · exact hl m hmk hm2
                  · obtain rfl : m = k := by omega
                    rw [unhide HE1]; omega
              go_wp2_with fail
              go_roundw
              case rel => exact ⟨k + 1, r, by omega, by go_num, rfl, trivial, unhide HF⟩
              case measure => simp [intOf]; omega
        · have HF : Hid (NextR its (k + 1) i r) := by
            rcases unhide HE with ⟨h, hl⟩ | ⟨j, hj, h, hi0, hl⟩
            · refine .inl ⟨h, fun m hm => ?_⟩
              rcases Nat.lt_or_ge m k with hmk | hmk
              · exact hl m hmk
              · obtain rfl : m = k := by omega
                rw [unhide HE1]; omega
            · refine .inr ⟨j, by omega, h, hi0, fun m hm hm2 => ?_⟩
              rcases Nat.lt_or_ge m k with hmk | hmk
              · exact hl m hmk hm2
              · obtain rfl : m = k := by omega
                rw [unhide HE1] at hm2; exact absurd hm2 h1
          go_wp2_with fail
          go_roundw
          case rel => exact ⟨k + 1, r, by omega, by go_num, rfl, trivial, unhide HF⟩
          case measure => simp [intOf]; omega
      · have hltz : ¬ (k : Int) < (L : Int) := by omega
        obtain rfl : k = L := by omega
        go_wp2_with fail
        go_ret
        exact ⟨r, rfl, unhide HE, unhide HB⟩
end Go.Proofs.Ytkdlhnfagghppaa

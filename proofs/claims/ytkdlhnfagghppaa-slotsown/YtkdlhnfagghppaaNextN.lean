/- A table's Next. -/
import Derived.Test.YtkdlhnfagghppaaAct2N
namespace Go.Proofs.Ytkdlhnfagghppaa
open Go.RowKit Go.Maps

set_option maxHeartbeats 1000000 in
set_option maxRecDepth 100000 in
theorem nextN [Inhabited EntI] {t hp : Nat} {v : Value} {most : Int} {ps : List (Int × Bool)} {ms : List EntI} {n : Nat} {G : Nat → Prop} (k : Int) (w : World) (h : TAtN w t hp v most ps ms n G) :
    Calls Try.prog 36 #[.pointer (some ⟨t, 0, none⟩), .int .i64 k] w fun e w' => ∃ r, e = .returned (.int .i64 r) ∧ NextIs ps k r ∧ w' = w := by
  have CT : Hid (∀ (i : Nat) a b, ps[i]? = some (a, b) → Calls Try.prog 40 #[.pointer (some ⟨t, 0, none⟩), .int .i64 ((i : Int) + 1)] w fun e w' => e = .returned (.bool b) ∧ w' = w) := fun i a b hi => takenAtN i w h hi
  obtain ⟨-, c1, -, -⟩ := h.cells
  obtain ⟨a, c, rfl⟩ := h.shape
  have hl : (ps.length : Int) ≤ 65536 := by have := h.len; have := h.top; omega
  clear h
  go_enter Try.func36, Try.ntmps36
  rcases Int.lt_trichotomy k 1 with h1 | h1 | h1
  · go_wp2_with fail
    go_loopw [1] (fun s1 wr => ∃ m : Int, s1 = .int .i64 m ∧ 1 ≤ m ∧ wr = w ∧ Hid (k ≤ m ∧ ∀ (j : Nat) b, ps[j]? = some (b, true) → (j : Int) + 1 < m → (j : Int) + 1 < k)) (fun s1 _ => (ps.length + 1) - (intOf s1).toNat)
    case atStart => exact ⟨1, rfl, by omega, rfl, by omega, fun j b _ h => by omega⟩
    case round =>
      obtain ⟨m, rfl, hm1, rfl, hm⟩ := hrel
      by_cases hle : m ≤ (ps.length : Int)
      · obtain ⟨i, rfl⟩ : ∃ i : Nat, m = (i : Int) + 1 := ⟨(m - 1).toNat, by omega⟩
        obtain ⟨x, b, hi⟩ := at_of_lt (ps := ps) (i := i) (by omega)
        have CI := hide (unhide CT i x b hi)
        have HI := hide hi
        have hi6 : (i : Int) < 65536 := by omega
        clear hi
        cases b with
        | true =>
          go_wp2_with fail
          refine (unhide CI).mono ?_
          rintro e w2 ⟨rfl, rfl⟩
          clear CI CT
          go_wp2_with fail
          go_ret
          exact ⟨_, rfl, .inr ⟨i, x, rfl, unhide HI, (unhide hm).1, fun j b hj hb => (unhide hm).2 j b hb (by omega)⟩, rfl⟩
        | false =>
          go_wp2_with fail
          refine (unhide CI).mono ?_
          rintro e w2 ⟨rfl, rfl⟩
          clear CI
          go_wp2_with fail
          go_roundw
          case rel => exact ⟨(i : Int) + 1 + 1, rfl, by omega, trivial, by have := (unhide hm).1; omega, fun j b hb hj => by
            rcases Nat.lt_or_ge j i with h | h
            · exact (unhide hm).2 j b hb (by omega)
            · obtain rfl : j = i := by omega
              rw [unhide HI] at hb; cases hb⟩
          case measure => simp [intOf]; omega
      · go_wp2_with fail
        go_ret
        exact ⟨0, rfl, .inl ⟨rfl, fun j b hb => (unhide hm).2 j b hb (by have := lt_of_at hb; omega)⟩, rfl⟩
  · subst h1
    go_wp2_with fail
    go_loopw [1] (fun s1 wr => ∃ m : Int, s1 = .int .i64 m ∧ 1 ≤ m ∧ wr = w ∧ Hid (1 ≤ m ∧ ∀ (j : Nat) b, ps[j]? = some (b, true) → (j : Int) + 1 < m → (j : Int) + 1 < 1)) (fun s1 _ => (ps.length + 1) - (intOf s1).toNat)
    case atStart => exact ⟨1, rfl, by omega, rfl, by omega, fun j b _ h => by omega⟩
    case round =>
      obtain ⟨m, rfl, hm1, rfl, hm⟩ := hrel
      by_cases hle : m ≤ (ps.length : Int)
      · obtain ⟨i, rfl⟩ : ∃ i : Nat, m = (i : Int) + 1 := ⟨(m - 1).toNat, by omega⟩
        obtain ⟨x, b, hi⟩ := at_of_lt (ps := ps) (i := i) (by omega)
        have CI := hide (unhide CT i x b hi)
        have HI := hide hi
        have hi6 : (i : Int) < 65536 := by omega
        clear hi
        cases b with
        | true =>
          go_wp2_with fail
          refine (unhide CI).mono ?_
          rintro e w2 ⟨rfl, rfl⟩
          clear CI CT
          go_wp2_with fail
          go_ret
          exact ⟨_, rfl, .inr ⟨i, x, rfl, unhide HI, (unhide hm).1, fun j b hj hb => (unhide hm).2 j b hb (by omega)⟩, rfl⟩
        | false =>
          go_wp2_with fail
          refine (unhide CI).mono ?_
          rintro e w2 ⟨rfl, rfl⟩
          clear CI
          go_wp2_with fail
          go_roundw
          case rel => exact ⟨(i : Int) + 1 + 1, rfl, by omega, trivial, by have := (unhide hm).1; omega, fun j b hb hj => by
            rcases Nat.lt_or_ge j i with h | h
            · exact (unhide hm).2 j b hb (by omega)
            · obtain rfl : j = i := by omega
              rw [unhide HI] at hb; cases hb⟩
          case measure => simp [intOf]; omega
      · go_wp2_with fail
        go_ret
        exact ⟨0, rfl, .inl ⟨rfl, fun j b hb => (unhide hm).2 j b hb (by have := lt_of_at hb; omega)⟩, rfl⟩
  · go_wp2_with fail
    go_loopw [1] (fun s1 wr => ∃ m : Int, s1 = .int .i64 m ∧ 1 ≤ m ∧ wr = w ∧ Hid (k ≤ m ∧ ∀ (j : Nat) b, ps[j]? = some (b, true) → (j : Int) + 1 < m → (j : Int) + 1 < k)) (fun s1 _ => (ps.length + 1) - (intOf s1).toNat)
    case atStart => exact ⟨k, rfl, by omega, rfl, by omega, fun j b _ h => by omega⟩
    case round =>
      obtain ⟨m, rfl, hm1, rfl, hm⟩ := hrel
      by_cases hle : m ≤ (ps.length : Int)
      · obtain ⟨i, rfl⟩ : ∃ i : Nat, m = (i : Int) + 1 := ⟨(m - 1).toNat, by omega⟩
        obtain ⟨x, b, hi⟩ := at_of_lt (ps := ps) (i := i) (by omega)
        have CI := hide (unhide CT i x b hi)
        have HI := hide hi
        have hi6 : (i : Int) < 65536 := by omega
        clear hi
        cases b with
        | true =>
          go_wp2_with fail
          refine (unhide CI).mono ?_
          rintro e w2 ⟨rfl, rfl⟩
          clear CI CT
          go_wp2_with fail
          go_ret
          exact ⟨_, rfl, .inr ⟨i, x, rfl, unhide HI, (unhide hm).1, fun j b hj hb => (unhide hm).2 j b hb (by omega)⟩, rfl⟩
        | false =>
          go_wp2_with fail
          refine (unhide CI).mono ?_
          rintro e w2 ⟨rfl, rfl⟩
          clear CI
          go_wp2_with fail
          go_roundw
          case rel => exact ⟨(i : Int) + 1 + 1, rfl, by omega, trivial, by have := (unhide hm).1; omega, fun j b hb hj => by
            rcases Nat.lt_or_ge j i with h | h
            · exact (unhide hm).2 j b hb (by omega)
            · obtain rfl : j = i := by omega
              rw [unhide HI] at hb; cases hb⟩
          case measure => simp [intOf]; omega
      · go_wp2_with fail
        go_ret
        exact ⟨0, rfl, .inl ⟨rfl, fun j b hb => (unhide hm).2 j b hb (by have := lt_of_at hb; omega)⟩, rfl⟩
end Go.Proofs.Ytkdlhnfagghppaa

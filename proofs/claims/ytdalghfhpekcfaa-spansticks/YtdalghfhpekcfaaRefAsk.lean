/- The reference's Holds, Meets and Next. -/
import Derived.Test.YtdalghfhpekcfaaRefRuns
import Derived.BigQuiet
namespace Go.Proofs.Ytdalghfhpekcfaa
open Go.RowKit Go.Shelf

/-- Runs as cells that stay. -/
theorem newR_cells {B : Nat} {w0 w : World} {a : Option Addr} {n c : Nat} {rs : List (Int × Int)} (h : NewR B w0 w (.slice a n c) rs) : rs.length = n ∧ ∀ i, i < n → ∃ g, a = some ⟨g, 0, none⟩ ∧ w.cell? ⟨g, i * 2, none⟩ = some (.int .i64 (lo rs i)) ∧ w.cell? ⟨g, i * 2 + 1, none⟩ = some (.int .i64 (hi rs i)) := by
  obtain ⟨a9, c9, e9⟩ := h.shape
  have hn : rs.length = n := by cases e9; rfl
  refine ⟨hn, fun i hi1 => ?_⟩
  have hr := h.row
  rw [hn] at hr
  rcases hr.2 with ⟨-, h0⟩ | ⟨g, cap, cur, e, -⟩
  · omega
  · cases e
    exact ⟨g, rfl, owns_cells hr i hi1⟩

abbrev RunsC (v : Value) (most : Int) (ss : List (Int × Int)) (w : World) : Prop := ∀ u, Below w.heap.size w u → Calls Try.prog 33 #[.agg #[v, .int .i64 most]] u fun e w' => ∃ v', e = .returned v' ∧ Hid (NewR u.heap.size u w' v' ss)

set_option maxHeartbeats 1000000 in
set_option maxRecDepth 100000 in
theorem refHolds {a : Option Addr} {L c : Nat} {ss : List (Int × Int)} (most x y : Int) (w : World) (HR : Hid (RunsC (.slice a L c) most ss w)) (hn : ss.length ≤ 1000000) :
    Calls Try.prog 38 #[.agg #[.slice a L c, .int .i64 most], .int .i64 x, .int .i64 y] w fun e w' => Says e (y < x ∨ ∃ i, i < ss.length ∧ lo ss i ≤ x ∧ y ≤ hi ss i) ∧ Below w.heap.size w w' := by
  have hB : Below w.heap.size w (w.alloc (.cells #[.slice a L c, .int .i64 most] 62)) := (Below.refl _ _).alloc (Nat.le_refl _) _
  have C1 := hide (unhide HR _ hB)
  have HB := hide hB
  obtain ⟨b0, b1⟩ := box62 w (.slice a L c) (.int .i64 most) 62
  have hL6 : (ss.length : Int) ≤ 1000000 := by omega
  clear HR hB hn
  obtain ⟨S, hS⟩ : ∃ S, ss.length = S := ⟨_, rfl⟩
  rw [hS] at hL6 ⊢
  have HS := hide hS
  clear hS
  go_enter Try.func38, Try.ntmps38
  go_upto_region 1 with fail
  generalize (w.alloc (.cells #[.slice a L c, .int .i64 most] 62)) = W at *
  go_wp2_with fail
  refine (unhide C1).mono ?_
  rintro e w1 ⟨v1, rfl, h1⟩
  have HBB : Hid (Below w.heap.size w w1) := (unhide HB).trans ((unhide h1).below.mono (unhide HB).size)
  obtain ⟨a1, c1, hv⟩ := (unhide h1).shape
  rw [unhide HS] at hv
  subst hv
  have HC := hide (newR_cells (unhide h1)).2
  clear h1 C1 b0 b1
  go_wp2_with fail
  go_loopw [8] (fun s8 wr => ∃ k : Nat, k ≤ S ∧ s8 = .int .i64 k ∧ wr = w1 ∧ Hid (∀ j, j < k → ¬ (lo ss j ≤ x ∧ y ≤ hi ss j))) (fun s8 _ => S - (intOf s8).toNat)
  case atStart => exact ⟨0, Nat.zero_le _, rfl, rfl, fun j hj => absurd hj (Nat.not_lt_zero _)⟩
  case round =>
    obtain ⟨k, hk, rfl, rfl, HI⟩ := hrel
    by_cases hlt : k < S
    · have hltz : (k : Int) < (S : Int) := by omega
      obtain ⟨g, rfl, q0, q1⟩ := unhide HC k hlt
      have HZ : Hid (¬ (lo ss k ≤ x ∧ y ≤ hi ss k) → ∀ j, j < k + 1 → ¬ (lo ss j ≤ x ∧ y ≤ hi ss j)) := fun h j hj => by
        rcases Nat.lt_or_ge j k with h2 | h2
        · exact unhide HI j h2
        · rw [show j = k by omega]; exact h
      have HY : Hid (lo ss k ≤ x → y ≤ hi ss k → y < x ∨ ∃ i, i < S ∧ lo ss i ≤ x ∧ y ≤ hi ss i) := fun h1 h2 => .inr ⟨k, hlt, h1, h2⟩
      generalize hz1 : lo ss k = z1 at *
      generalize hz2 : hi ss k = z2 at *
      clear HI hz1 hz2
      by_cases e1 : z1 ≤ x
      · by_cases e2 : y ≤ z2
        · have HE := hide (unhide HY e1 e2)
          clear HZ HY
          go_wp2_with fail
          go_ret
          exact ⟨⟨true, rfl, ⟨fun _ => unhide HE, fun _ => rfl⟩⟩, unhide HBB⟩
        · have HE := hide (unhide HZ (fun h => e2 h.2))
          clear HZ HY
          go_wp2_with fail
          go_roundw
          case rel => exact ⟨k + 1, by omega, by go_num, by first | exact rfl | exact trivial, HE⟩
          case measure => first | (simp [intOf]; done) | (simp [intOf]; omega)
      · have HE := hide (unhide HZ (fun h => e1 h.1))
        clear HZ HY
        go_wp2_with fail
        go_roundw
        case rel => exact ⟨k + 1, by omega, by go_num, by first | exact rfl | exact trivial, HE⟩
        case measure => first | (simp [intOf]; done) | (simp [intOf]; omega)
    · obtain rfl : k = S := by omega
      have HE : Hid ((y < x ∨ ∃ i, i < k ∧ lo ss i ≤ x ∧ y ≤ hi ss i) ↔ y < x) := ⟨fun h => h.elim id (fun ⟨i, h1, h2⟩ => absurd h2 (unhide HI i h1)), .inl⟩
      clear HI HC
      by_cases hyx : y < x
      · go_wp2_with fail
        go_ret
        exact ⟨⟨true, rfl, ⟨fun _ => (unhide HE).2 hyx, fun _ => rfl⟩⟩, unhide HBB⟩
      · have HYX := hide hyx
        go_wp2_with fail
        go_ret
        refine ⟨⟨false, rfl, ?_⟩, unhide HBB⟩
        constructor
        · intro h
          exact absurd h (by simp)
        · intro h
          have h1 := (unhide HE).1 h
          have h2 := unhide HYX
          omega

set_option maxHeartbeats 1000000 in
set_option maxRecDepth 100000 in
theorem refNext {a : Option Addr} {L c : Nat} {ss : List (Int × Int)} (most x : Int) (w : World) (HR : Hid (RunsC (.slice a L c) most ss w)) (hn : ss.length ≤ 1000000) :
    Calls Try.prog 41 #[.agg #[.slice a L c, .int .i64 most], .int .i64 x] w fun e w' => SaysNext .i64 e ss x ∧ Below w.heap.size w w' := by
  have hB : Below w.heap.size w (w.alloc (.cells #[.slice a L c, .int .i64 most] 62)) := (Below.refl _ _).alloc (Nat.le_refl _) _
  have C1 := hide (unhide HR _ hB)
  have HB := hide hB
  obtain ⟨b0, b1⟩ := box62 w (.slice a L c) (.int .i64 most) 62
  have hL6 : (ss.length : Int) ≤ 1000000 := by omega
  clear HR hB hn
  obtain ⟨S, hS⟩ : ∃ S, ss.length = S := ⟨_, rfl⟩
  rw [hS] at hL6
  have HS := hide hS
  clear hS
  go_enter Try.func41, Try.ntmps41
  go_upto_region 1 with fail
  generalize (w.alloc (.cells #[.slice a L c, .int .i64 most] 62)) = W at *
  go_wp2_with fail
  refine (unhide C1).mono ?_
  rintro e w1 ⟨v1, rfl, h1⟩
  have HBB : Hid (Below w.heap.size w w1) := (unhide HB).trans ((unhide h1).below.mono (unhide HB).size)
  obtain ⟨a1, c1, hv⟩ := (unhide h1).shape
  rw [unhide HS] at hv
  subst hv
  have HC := hide (newR_cells (unhide h1)).2
  clear h1 C1 b0 b1
  go_wp2_with fail
  go_loopw [7] (fun s7 wr => ∃ k : Nat, k ≤ S ∧ s7 = .int .i64 k ∧ wr = w1 ∧ Hid (∀ j, j < k → hi ss j < x)) (fun s7 _ => S - (intOf s7).toNat)
  case atStart => exact ⟨0, Nat.zero_le _, rfl, rfl, fun j hj => absurd hj (Nat.not_lt_zero _)⟩
  case round =>
    obtain ⟨k, hk, rfl, rfl, HI⟩ := hrel
    by_cases hlt : k < S
    · have hltz : (k : Int) < (S : Int) := by omega
      obtain ⟨g, rfl, q0, q1⟩ := unhide HC k hlt
      have HZ : Hid (hi ss k < x → ∀ j, j < k + 1 → hi ss j < x) := fun h j hj => by
        rcases Nat.lt_or_ge j k with h2 | h2
        · exact unhide HI j h2
        · rw [show j = k by omega]; exact h
      have HY : Hid (x ≤ hi ss k → ∃ r, r < ss.length ∧ (∀ t, t < r → hi ss t < x) ∧ x ≤ hi ss r ∧ max x (lo ss k) = max x (lo ss r)) := fun h => ⟨k, by have := unhide HS; omega, unhide HI, h, rfl⟩
      generalize hz1 : lo ss k = z1 at *
      generalize hz2 : hi ss k = z2 at *
      clear HI hz1 hz2
      by_cases e1 : x ≤ z2
      · have HE := hide (unhide HY e1)
        have e2 : ¬ z2 < x := by omega
        clear HZ HY
        go_wp2_with fail
        all_goals
          (try go_ret)
          (try go_ret2)
          refine ⟨⟨_, true, rfl, .inr ⟨rfl, ?_⟩⟩, unhide HBB⟩
          obtain ⟨r, h1, h2, h3, h4⟩ := unhide HE
          exact ⟨r, h1, h2, h3, by first | exact h4 | (rw [← h4]; omega)⟩
      · have HE := hide (unhide HZ (by omega))
        have e2 : z2 < x := by omega
        clear HZ HY
        go_wp2_with fail
        go_roundw
        case rel => exact ⟨k + 1, by omega, by go_num, by first | exact rfl | exact trivial, HE⟩
        case measure => first | (simp [intOf]; done) | (simp [intOf]; omega)
    · obtain rfl : k = S := by omega
      have HE : Hid (∀ t, t < ss.length → hi ss t < x) := fun t ht => unhide HI t (by have := unhide HS; omega)
      clear HI HC
      go_wp2_with fail
      (try go_ret)
      (try go_ret2)
      exact ⟨⟨_, false, rfl, .inl ⟨rfl, rfl, unhide HE⟩⟩, unhide HBB⟩
set_option maxHeartbeats 1000000 in
set_option maxRecDepth 100000 in
theorem refMeets {a : Option Addr} {L c : Nat} {ss : List (Int × Int)} (most x y : Int) (w : World) (HR : Hid (RunsC (.slice a L c) most ss w)) (hn : ss.length ≤ 1000000) :
    Calls Try.prog 40 #[.agg #[.slice a L c, .int .i64 most], .int .i64 x, .int .i64 y] w fun e w' => Says e (∃ i, i < ss.length ∧ (lo ss i ≤ hi ss i ∧ x ≤ y) ∧ lo ss i ≤ y ∧ x ≤ hi ss i) ∧ Below w.heap.size w w' := by
  have hB : Below w.heap.size w (w.alloc (.cells #[.slice a L c, .int .i64 most] 62)) := (Below.refl _ _).alloc (Nat.le_refl _) _
  have C1 := hide (unhide HR _ hB)
  have HB := hide hB
  obtain ⟨b0, b1⟩ := box62 w (.slice a L c) (.int .i64 most) 62
  have hL6 : (ss.length : Int) ≤ 1000000 := by omega
  clear HR hB hn
  obtain ⟨S, hS⟩ : ∃ S, ss.length = S := ⟨_, rfl⟩
  rw [hS] at hL6 ⊢
  have HS := hide hS
  clear hS
  go_enter Try.func40, Try.ntmps40
  go_upto_region 1 with fail
  generalize (w.alloc (.cells #[.slice a L c, .int .i64 most] 62)) = W at *
  go_wp2_with fail
  refine (unhide C1).mono ?_
  rintro e w1 ⟨v1, rfl, h1⟩
  have HBB : Hid (Below w.heap.size w w1) := (unhide HB).trans ((unhide h1).below.mono (unhide HB).size)
  obtain ⟨a1, c1, hv⟩ := (unhide h1).shape
  rw [unhide HS] at hv
  subst hv
  have HC := hide (newR_cells (unhide h1)).2
  clear h1 C1 b0 b1
  go_wp2_with fail
  go_loopw [8] (fun s8 wr => ∃ k q : Nat, k ≤ S ∧ s8 = .int .i64 k ∧ wr = w1.drewN q ∧ Hid (∀ j, j < k → ¬ ((lo ss j ≤ hi ss j ∧ x ≤ y) ∧ lo ss j ≤ y ∧ x ≤ hi ss j))) (fun s8 _ => S - (intOf s8).toNat)
  case atStart => exact ⟨0, 0, Nat.zero_le _, rfl, rfl, fun j hj => absurd hj (Nat.not_lt_zero _)⟩
  case round =>
    obtain ⟨k, q, hk, rfl, rfl, HI⟩ := hrel
    by_cases hlt : k < S
    · have hltz : (k : Int) < (S : Int) := by omega
      obtain ⟨g, rfl, p0, p1⟩ := unhide HC k hlt
      have q0 : (w1.drewN q).cell? ⟨g, k * 2, none⟩ = some (.int .i64 (lo ss k)) := p0
      have q1 : (w1.drewN q).cell? ⟨g, k * 2 + 1, none⟩ = some (.int .i64 (hi ss k)) := p1
      have HZ : Hid (¬ ((lo ss k ≤ hi ss k ∧ x ≤ y) ∧ lo ss k ≤ y ∧ x ≤ hi ss k) → ∀ j, j < k + 1 → ¬ ((lo ss j ≤ hi ss j ∧ x ≤ y) ∧ lo ss j ≤ y ∧ x ≤ hi ss j)) := fun h j hj => by
        rcases Nat.lt_or_ge j k with h2 | h2
        · exact unhide HI j h2
        · rw [show j = k by omega]; exact h
      have HY : Hid ((lo ss k ≤ hi ss k ∧ x ≤ y) ∧ lo ss k ≤ y ∧ x ≤ hi ss k → ∃ i, i < S ∧ (lo ss i ≤ hi ss i ∧ x ≤ y) ∧ lo ss i ≤ y ∧ x ≤ hi ss i) := fun h1 => ⟨k, hlt, h1⟩
      generalize hz1 : lo ss k = z1 at *
      generalize hz2 : hi ss k = z2 at *
      clear HI hz1 hz2
      obtain ⟨M, hM⟩ : ∃ M, M = max z1 x := ⟨_, rfl⟩
      obtain ⟨m, hm⟩ : ∃ m, m = min z2 y := ⟨_, rfl⟩
      have HMm := hide (And.intro hM hm)
      clear hM hm
      by_cases hMm : max z1 x ≤ min z2 y
      · have HE := hide (unhide HY (by omega))
        have HM2 := hide hMm
        clear HZ HY hMm HMm
        rcases Int.lt_trichotomy z1 x with h1 | h1 | h1 <;> rcases Int.lt_trichotomy z2 y with h2 | h2 | h2
        all_goals
          (try subst h1)
          (try subst h2)
          (try have h3 : ¬ x < z1 := by omega)
          (try have h4 : ¬ z1 < x := by omega)
          (try have h5 : ¬ y < z2 := by omega)
          (try have h6 : ¬ z2 < y := by omega)
          (try have h7 : x ≤ z2 := by have := unhide HM2; omega)
          (try have h8 : x ≤ y := by have := unhide HM2; omega)
          (try have h9 : z1 ≤ z2 := by have := unhide HM2; omega)
          (try have hA : z1 ≤ y := by have := unhide HM2; omega)
          clear HM2
          go_wp2_with fail
          go_quiet (fail)
          go_wp2_with fail
          go_ret
          exact ⟨⟨true, rfl, ⟨fun _ => unhide HE, fun _ => rfl⟩⟩, below_drewN (below_drewN (unhide HBB) _) _⟩
      · have HE := hide (unhide HZ (fun h => hMm (by omega)))
        have HM2 := hide hMm
        clear HZ HY hMm HMm
        rcases Int.lt_trichotomy z1 x with h1 | h1 | h1 <;> rcases Int.lt_trichotomy z2 y with h2 | h2 | h2
        all_goals
          (try subst h1)
          (try subst h2)
          (try have h3 : ¬ x < z1 := by omega)
          (try have h4 : ¬ z1 < x := by omega)
          (try have h5 : ¬ y < z2 := by omega)
          (try have h6 : ¬ z2 < y := by omega)
          (try have h7 : ¬ x ≤ z2 := by have := unhide HM2; omega)
          (try have h8 : ¬ x ≤ y := by have := unhide HM2; omega)
          (try have h9 : ¬ z1 ≤ z2 := by have := unhide HM2; omega)
          (try have hA : ¬ z1 ≤ y := by have := unhide HM2; omega)
          clear HM2
          go_wp2_with fail
          go_quiet (fail)
          go_wp2_with fail
          go_roundw
          case rel => exact ⟨k + 1, q + nq, by omega, by go_num, by first | exact rfl | exact trivial | (simp [World.drewN]; omega) | (simp [World.drewN, Nat.add_assoc]), HE⟩
          case measure => first | (simp [intOf]; done) | (simp [intOf]; omega)
    · obtain rfl : k = S := by omega
      have HE : Hid (¬ ∃ i, i < k ∧ (lo ss i ≤ hi ss i ∧ x ≤ y) ∧ lo ss i ≤ y ∧ x ≤ hi ss i) := fun ⟨i, h1, h2⟩ => unhide HI i h1 h2
      clear HI HC
      go_wp2_with fail
      go_ret
      refine ⟨⟨false, rfl, ?_⟩, below_drewN (unhide HBB) _⟩
      constructor
      · intro h
        exact absurd h (by simp)
      · intro h
        exact absurd h (unhide HE)
end Go.Proofs.Ytdalghfhpekcfaa

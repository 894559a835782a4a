/- The reference's list of items: At, First. -/
import Derived.Test.YtfhpabcjbjmcmaaLaws2
namespace Go.Proofs.Ytfhpabcjbjmcmaa
open Go.RowKit Go.Maps

/-- The cells of a list of items. -/
def enc (k : IntKind) (rs : List (Int × Int)) : List Value := rs.flatMap fun r => [.int k r.1, .int k r.2]
def lo (rs : List (Int × Int)) (i : Nat) : Int := (rs.getD i (0, 0)).1
def hi (rs : List (Int × Int)) (i : Nat) : Int := (rs.getD i (0, 0)).2

theorem enc_length (k : IntKind) (rs : List (Int × Int)) : (enc k rs).length = rs.length * 2 := by
  induction rs with
  | nil => rfl
  | cons r rs ih => simp [enc] at ih ⊢; omega
theorem enc_append (k : IntKind) (a b : List (Int × Int)) : enc k (a ++ b) = enc k a ++ enc k b := by simp [enc]
theorem enc_cons (k : IntKind) (r : Int × Int) (b : List (Int × Int)) : enc k (r :: b) = .int k r.1 :: .int k r.2 :: enc k b := by simp [enc]
theorem enc_take (k : IntKind) : ∀ (rs : List (Int × Int)) (i : Nat), (enc k rs).take (i * 2) = enc k (rs.take i)
  | [], i => by simp [enc]
  | r :: rs, 0 => by simp [enc]
  | r :: rs, i + 1 => by
    rw [show (i + 1) * 2 = i * 2 + 1 + 1 by omega, enc_cons, List.take_succ_cons, List.take_succ_cons, enc_take k rs i, List.take_succ_cons, enc_cons]
theorem enc_drop (k : IntKind) : ∀ (rs : List (Int × Int)) (i : Nat), (enc k rs).drop (i * 2) = enc k (rs.drop i)
  | [], i => by simp [enc]
  | r :: rs, 0 => by simp [enc]
  | r :: rs, i + 1 => by
    rw [show (i + 1) * 2 = i * 2 + 1 + 1 by omega, enc_cons, List.drop_succ_cons, List.drop_succ_cons, enc_drop k rs i, List.drop_succ_cons]
theorem enc_lo (k : IntKind) : ∀ (rs : List (Int × Int)) (i : Nat), i < rs.length → (enc k rs)[i * 2]? = some (.int k (lo rs i))
  | [], i, h => by simp at h
  | r :: rs, 0, _ => by simp [enc, lo]
  | r :: rs, i + 1, h => by
    rw [show (i + 1) * 2 = i * 2 + 1 + 1 by omega, enc_cons, List.getElem?_cons_succ, List.getElem?_cons_succ, enc_lo k rs i (by simpa using h)]
    simp [lo]
theorem enc_hi (k : IntKind) : ∀ (rs : List (Int × Int)) (i : Nat), i < rs.length → (enc k rs)[i * 2 + 1]? = some (.int k (hi rs i))
  | [], i, h => by simp at h
  | r :: rs, 0, _ => by simp [enc, hi]
  | r :: rs, i + 1, h => by
    rw [show (i + 1) * 2 + 1 = i * 2 + 1 + 1 + 1 by omega, enc_cons, List.getElem?_cons_succ, List.getElem?_cons_succ, enc_hi k rs i (by simpa using h)]
    simp [hi]
theorem enc_one (k : IntKind) (rs : List (Int × Int)) : ∀ u ∈ enc k rs, u.oneCell' = true := by
  intro u hu
  simp only [enc, List.mem_flatMap, List.mem_cons, List.not_mem_nil, or_false] at hu
  obtain ⟨r, -, rfl | rfl⟩ := hu <;> rfl

/-- What an owned row of items gives to who reads it. -/
theorem owns_cells {w : World} {B : Nat} {e : TypeId} {k : IntKind} {g n c : Nat} {rs : List (Int × Int)} (h : w.ownsRow B e 2 (.slice (some ⟨g, 0, none⟩) n c) n (enc k rs)) :
    ∀ i, i < n → w.cell? ⟨g, i * 2, none⟩ = some (.int k (lo rs i)) ∧ w.cell? ⟨g, i * 2 + 1, none⟩ = some (.int k (hi rs i)) := by
  intro i hi
  have hl : rs.length = n := by have := h.1; rw [enc_length] at this; omega
  have hc := h.cells (g := g) rfl
  have add : ∀ j, (⟨g, 0, none⟩ : Addr).add j = ⟨g, j, none⟩ := fun j => by unfold Addr.add; split <;> simp_all
  have h1 := hc (i * 2) _ (enc_lo k rs i (by omega))
  have h2 := hc (i * 2 + 1) _ (enc_hi k rs i (by omega))
  rw [add] at h1 h2
  exact ⟨h1, h2⟩


theorem item_shape {w : World} {v : Value} {e : TypeId} {s n : Nat} {xs : List Value} (h : w.ownsRow 0 e s v n xs) : ∃ a c, v = .slice a n c := by
  rcases h.2 with ⟨rfl, h3⟩ | ⟨g, cap, cur, rfl, -⟩
  · exact ⟨none, 0, by rw [h3]⟩
  · exact ⟨_, _, rfl⟩
theorem item_block {w : World} {v : Value} {e : TypeId} {s n : Nat} {xs : List Value} (h : w.ownsRow 0 e s v n xs) (h0 : 0 < n) : ∃ g c, v = .slice (some ⟨g, 0, none⟩) n c := by
  rcases h.2 with ⟨-, h3⟩ | ⟨g, cap, cur, rfl, -⟩
  · omega
  · exact ⟨_, _, rfl⟩

/-- Where a key stands. -/
def AtIs (its : List (Int × Int)) (k r : Int) : Prop := (r = -1 ∧ ∀ i, i < its.length → lo its i ≠ k) ∨ ∃ i : Nat, i < its.length ∧ r = (i : Int) ∧ lo its i = k ∧ ∀ j, j < i → lo its j ≠ k
/-- Where the first one stands. -/
def FirstIs (its : List (Int × Int)) (r : Int) : Prop := (r = -1 ∧ its.length = 0) ∨ ∃ i : Nat, i < its.length ∧ r = (i : Int) ∧ (∀ j, j < i → hi its i < hi its j) ∧ ∀ j, j < its.length → hi its i ≤ hi its j

set_option maxHeartbeats 1000000 in
set_option maxRecDepth 100000 in
theorem refAt {v : Value} {its : List (Int × Int)} (k : Int) (w : World) (h : w.ownsRow 0 69 2 v its.length (enc .i64 its)) (hn : its.length ≤ 1099511627776) :
    Calls Try.prog 37 #[v, .int .i64 k] w fun e w' => ∃ r : Int, e = .returned (.int .i64 r) ∧ AtIs its k r ∧ w' = w := by
  rcases Nat.eq_zero_or_pos its.length with h0 | h0
  · obtain ⟨a, c, rfl⟩ := item_shape h
    have HE : Hid (AtIs its k (-1)) := .inl ⟨rfl, fun i hi1 => by omega⟩
    rw [h0]
    clear h hn h0
    go_enter Try.func37, Try.ntmps37
    go_wp2_with fail
    refine wp_loop_rounds 1 ?_
    rw [rounds_succ]
    go_wp2_with fail
    go_ret
    exact ⟨-1, rfl, unhide HE, rfl⟩
  · obtain ⟨g, c, rfl⟩ := item_block h h0
    have HC := hide (owns_cells h)
    generalize hL : its.length = L at *
    have HL := hide hL
    clear h hL
    go_enter Try.func37, Try.ntmps37
    go_wp2_with fail
    go_loopw [5] (fun s5 wr => ∃ i : Nat, i ≤ L ∧ s5 = .int .i64 i ∧ wr = w ∧ Hid (∀ j, j < i → lo its j ≠ k)) (fun s5 _ => L - (intOf s5).toNat)
    case atStart => exact ⟨0, Nat.zero_le _, rfl, rfl, fun j hj => absurd hj (Nat.not_lt_zero _)⟩
    case round =>
      obtain ⟨i, hi1, rfl, rfl, HE⟩ := hrel
      by_cases hlt : i < L
      · have hltz : (i : Int) < (L : Int) := by omega
        have c1 := (unhide HC i hlt).1
        obtain ⟨a1, e1⟩ : ∃ x, lo its i = x := ⟨_, rfl⟩
        rw [e1] at c1
        have HE1 := hide e1
        clear e1
        by_cases h1 : a1 = k
        · subst h1
          go_wp2_with fail
          go_ret
          exact ⟨i, rfl, .inr ⟨i, by rw [unhide HL]; exact hlt, rfl, unhide HE1, unhide HE⟩, rfl⟩
        · have h2 : (a1 == k) = false := by simpa using h1
          have HN := hide h1
          clear h1
          go_wp2_with fail
          go_roundw
          case rel => exact ⟨i + 1, by omega, by go_num, trivial, fun j hj => by
            rcases Nat.lt_or_ge j i with h | h
            · exact unhide HE j h
            · have : j = i := by omega
              subst this; rw [unhide HE1]; exact unhide HN⟩
          case measure => simp [intOf]; omega
      · have hltz : ¬ (i : Int) < (L : Int) := by omega
        obtain rfl : i = L := by omega
        go_wp2_with fail
        go_ret
        exact ⟨-1, rfl, .inl ⟨rfl, fun j hj => unhide HE j (by rw [unhide HL] at hj; exact hj)⟩, rfl⟩

set_option maxHeartbeats 1000000 in
set_option maxRecDepth 100000 in
theorem refFirst {v : Value} {its : List (Int × Int)} (w : World) (h : w.ownsRow 0 69 2 v its.length (enc .i64 its)) (hn : its.length ≤ 1099511627776) :
    Calls Try.prog 39 #[v] w fun e w' => ∃ r : Int, e = .returned (.int .i64 r) ∧ FirstIs its r ∧ ∃ q, w' = w.drewN q := by
  rcases Nat.eq_zero_or_pos its.length with h0 | h0
  · obtain ⟨a, c, rfl⟩ := item_shape h
    have HE : Hid (FirstIs its (-1)) := .inl ⟨rfl, h0⟩
    rw [h0]
    clear h hn h0
    go_enter Try.func39, Try.ntmps39
    go_wp2_with fail
    refine wp_loop_rounds 1 ?_
    rw [rounds_succ]
    go_wp2_with fail
    go_ret
    exact ⟨-1, rfl, unhide HE, 0, rfl⟩
  · obtain ⟨g, c, rfl⟩ := item_block h h0
    have HC := hide (owns_cells h)
    generalize hL : its.length = L at *
    have HL := hide hL
    clear h hL
    go_enter Try.func39, Try.ntmps39
    go_wp2_with fail
    go_loopw [3, 4] (fun s3 s4 wr => ∃ i q : Nat, i ≤ L ∧ s4 = .int .i64 i ∧ wr = w.drewN q ∧ ((s3 = .int .i64 (-1) ∧ Hid (i = 0)) ∨ ∃ b : Nat, s3 = .int .i64 b ∧ b < L ∧ Hid (b < i ∧ (∀ j, j < b → hi its b < hi its j) ∧ ∀ j, j < i → hi its b ≤ hi its j))) (fun _ s4 _ => L - (intOf s4).toNat)
    case atStart => exact ⟨0, 0, Nat.zero_le _, rfl, rfl, .inl ⟨rfl, rfl⟩⟩
    case round =>
      obtain ⟨i, q, hi1, rfl, rfl, hb⟩ := hrel
      by_cases hlt : i < L
      · have hltz : (i : Int) < (L : Int) := by omega
        have c1 := (unhide HC i hlt).2
        obtain ⟨a1, e1⟩ : ∃ x, hi its i = x := ⟨_, rfl⟩
        rw [e1] at c1
        have HE1 := hide e1
        clear e1
        rcases hb with ⟨rfl, h0i⟩ | ⟨b, rfl, hbL, HB⟩
        · go_wp2_with fail
          go_quiet (fail)
          go_wp2_with fail
          go_roundw
          case rel => exact ⟨i + 1, _, by omega, by go_num, rfl, .inr ⟨i, rfl, hlt, by have := unhide h0i; omega, fun j hj => by have := unhide h0i; omega, fun j hj => by
            have h2 := unhide h0i
            have : j = i := by omega
            subst this; exact Int.le_refl _⟩⟩
          case measure => simp [intOf]; omega
        · have hbz : (b : Int) < (L : Int) := by omega
          have hb0 : ¬ (b : Int) < 0 := by omega
          have hbd : decide ((b : Int) < 0) = false := by simp
          have c2 := (unhide HC b hbL).2
          obtain ⟨a2, e2⟩ : ∃ x, hi its b = x := ⟨_, rfl⟩
          rw [e2] at c2
          have HE2 := hide e2
          clear e2
          by_cases h1 : a1 < a2
          · go_wp2_with fail
            go_quiet (fail)
            go_wp2_with fail
            go_roundw
            case rel => exact ⟨i + 1, _, by omega, by go_num, rfl, .inr ⟨i, rfl, hlt, by omega, fun j hj => by
              have := (unhide HB).2.2 j hj
              rw [unhide HE2] at this
              rw [unhide HE1]; omega, fun j hj => by
              rcases Nat.lt_or_ge j i with h | h
              · have := (unhide HB).2.2 j h
                rw [unhide HE2] at this
                rw [unhide HE1]; omega
              · have : j = i := by omega
                subst this; exact Int.le_refl _⟩⟩
            case measure => simp [intOf]; omega
          · have h1b : ¬ a1 < a2 := h1
            go_wp2_with fail
            go_quiet (fail)
            go_wp2_with fail
            go_roundw
            case rel => exact ⟨i + 1, _, by omega, by go_num, rfl, .inr ⟨b, rfl, hbL, by have := (unhide HB).1; omega, (unhide HB).2.1, fun j hj => by
              rcases Nat.lt_or_ge j i with h | h
              · exact (unhide HB).2.2 j h
              · have : j = i := by omega
                subst this; rw [unhide HE1, unhide HE2]; omega⟩⟩
            case measure => simp [intOf]; omega
      · have hltz : ¬ (i : Int) < (L : Int) := by omega
        obtain rfl : i = L := by omega
        rcases hb with ⟨rfl, h0i⟩ | ⟨b, rfl, hbL, HB⟩
        · exact absurd (unhide h0i) (by omega)
        · go_wp2_with fail
          go_ret
          exact ⟨b, rfl, .inr ⟨b, by rw [unhide HL]; exact hbL, rfl, (unhide HB).2.1, fun j hj => (unhide HB).2.2 j (by rw [unhide HL] at hj; exact hj)⟩, q, rfl⟩
end Go.Proofs.Ytfhpabcjbjmcmaa

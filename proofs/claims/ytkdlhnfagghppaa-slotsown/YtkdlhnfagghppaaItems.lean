/- The reference's list of items: Find, Free, Next. -/
import Derived.Test.YtkdlhnfagghppaaPlaces
namespace Go.Proofs.Ytkdlhnfagghppaa
open Go.RowKit Go.Maps

/-- The cells of a list of items. -/
def enc (k : IntKind) (rs : List (Int × Int)) : List Value := rs.flatMap fun r => [.int k r.1, .int k r.2]
def lo (rs : List (Int × Int)) (i : Nat) : Int := (rs.getD i (0, 0)).1
def hi (rs : List (Int × Int)) (i : Nat) : Int := (rs.getD i (0, 0)).2

theorem enc_length (k : IntKind) (rs : List (Int × Int)) : (enc k rs).length = rs.length * 2 := by
  induction rs with
  | nil => rfl
  | cons r rs ih => simp [enc] at ih ⊢; omega
theorem enc_append (k : IntKind) (a b : List (Int × Int)) : enc k (a ++ b) = enc k a ++ enc k b := by simp [enc]
theorem enc_cons (k : IntKind) (r : Int × Int) (b : List (Int × Int)) : enc k (r :: b) = .int k r.1 :: .int k r.2 :: enc k b := by simp [enc]
theorem enc_take (k : IntKind) : ∀ (rs : List (Int × Int)) (i : Nat), (enc k rs).take (i * 2) = enc k (rs.take i)
  | [], i => by simp [enc]
  | r :: rs, 0 => by simp [enc]
  | r :: rs, i + 1 => by
    rw [show (i + 1) * 2 = i * 2 + 1 + 1 by omega, enc_cons, List.take_succ_cons, List.take_succ_cons, enc_take k rs i, List.take_succ_cons, enc_cons]
theorem enc_drop (k : IntKind) : ∀ (rs : List (Int × Int)) (i : Nat), (enc k rs).drop (i * 2) = enc k (rs.drop i)
  | [], i => by simp [enc]
  | r :: rs, 0 => by simp [enc]
  | r :: rs, i + 1 => by
    rw [show (i + 1) * 2 = i * 2 + 1 + 1 by omega, enc_cons, List.drop_succ_cons, List.drop_succ_cons, enc_drop k rs i, List.drop_succ_cons]
theorem enc_lo (k : IntKind) : ∀ (rs : List (Int × Int)) (i : Nat), i < rs.length → (enc k rs)[i * 2]? = some (.int k (lo rs i))
  | [], i, h => by simp at h
  | r :: rs, 0, _ => by simp [enc, lo]
  | r :: rs, i + 1, h => by
    rw [show (i + 1) * 2 = i * 2 + 1 + 1 by omega, enc_cons, List.getElem?_cons_succ, List.getElem?_cons_succ, enc_lo k rs i (by simpa using h)]
    simp [lo]
theorem enc_hi (k : IntKind) : ∀ (rs : List (Int × Int)) (i : Nat), i < rs.length → (enc k rs)[i * 2 + 1]? = some (.int k (hi rs i))
  | [], i, h => by simp at h
  | r :: rs, 0, _ => by simp [enc, hi]
  | r :: rs, i + 1, h => by
    rw [show (i + 1) * 2 + 1 = i * 2 + 1 + 1 + 1 by omega, enc_cons, List.getElem?_cons_succ, List.getElem?_cons_succ, enc_hi k rs i (by simpa using h)]
    simp [hi]
theorem enc_one (k : IntKind) (rs : List (Int × Int)) : ∀ u ∈ enc k rs, u.oneCell' = true := by
  intro u hu
  simp only [enc, List.mem_flatMap, List.mem_cons, List.not_mem_nil, or_false] at hu
  obtain ⟨r, -, rfl | rfl⟩ := hu <;> rfl

/-- What an owned row of items gives to who reads it. -/
theorem owns_cells {w : World} {B : Nat} {e : TypeId} {k : IntKind} {g n c : Nat} {rs : List (Int × Int)} (h : w.ownsRow B e 2 (.slice (some ⟨g, 0, none⟩) n c) n (enc k rs)) :
    ∀ i, i < n → w.cell? ⟨g, i * 2, none⟩ = some (.int k (lo rs i)) ∧ w.cell? ⟨g, i * 2 + 1, none⟩ = some (.int k (hi rs i)) := by
  intro i hi
  have hl : rs.length = n := by have := h.1; rw [enc_length] at this; omega
  have hc := h.cells (g := g) rfl
  have add : ∀ j, (⟨g, 0, none⟩ : Addr).add j = ⟨g, j, none⟩ := fun j => by unfold Addr.add; split <;> simp_all
  have h1 := hc (i * 2) _ (enc_lo k rs i (by omega))
  have h2 := hc (i * 2 + 1) _ (enc_hi k rs i (by omega))
  rw [add] at h1 h2
  exact ⟨h1, h2⟩


theorem item_shape {w : World} {v : Value} {e : TypeId} {s n : Nat} {xs : List Value} (h : w.ownsRow 0 e s v n xs) : ∃ a c, v = .slice a n c := by
  rcases h.2 with ⟨rfl, h3⟩ | ⟨g, cap, cur, rfl, -⟩
  · exact ⟨none, 0, by rw [h3]⟩
  · exact ⟨_, _, rfl⟩
theorem item_block {w : World} {v : Value} {e : TypeId} {s n : Nat} {xs : List Value} (h : w.ownsRow 0 e s v n xs) (h0 : 0 < n) : ∃ g c, v = .slice (some ⟨g, 0, none⟩) n c := by
  rcases h.2 with ⟨-, h3⟩ | ⟨g, cap, cur, rfl, -⟩
  · omega
  · exact ⟨_, _, rfl⟩

/-- Where a key stands. -/
def AtIs (its : List (Int × Int)) (k r : Int) : Prop := (r = -1 ∧ ∀ i, i < its.length → lo its i ≠ k) ∨ ∃ i : Nat, i < its.length ∧ r = (i : Int) ∧ lo its i = k ∧ ∀ j, j < i → lo its j ≠ k

theorem items_kept {w w' : World} {v : Value} {B L : Nat} {xs : List Value} (h : w.ownsRow B 47 2 v L xs) (hk : ∀ k, v.ownBlock = some k → w'.heap[k]? = w.heap[k]?) : w'.ownsRow 0 47 2 v L xs := by
  refine ⟨h.1, ?_⟩
  rcases h.2 with hn | ⟨g, cap, cur, rfl, -, hgg, rest⟩
  · exact .inl hn
  · exact .inr ⟨g, cap, cur, rfl, Nat.zero_le _, (hk g rfl).trans hgg, rest⟩
theorem items_below {w w' : World} {v : Value} {L : Nat} {xs : List Value} (h : w.ownsRow 0 47 2 v L xs) (hb : Below w.heap.size w w') : w'.ownsRow 0 47 2 v L xs := items_kept h (fun k hk => hb.block k (h.lt k hk).2)

/-- The box of a table that came by value. -/
theorem box2 (w : World) (x y : Value) (t : TypeId) : (w.alloc (.cells #[x, y] t)).cell? ⟨w.heap.size, 0, none⟩ = some x ∧ (w.alloc (.cells #[x, y] t)).cell? ⟨w.heap.size, 1, none⟩ = some y ∧ ∀ o, (w.alloc (.cells #[x, y] t)).frozen? ⟨w.heap.size, o, none⟩ = false := by
  refine ⟨?_, ?_, fun o => frozen_of_row _ _ o _ _ (heap_alloc_new _ _)⟩ <;> rw [World.cell?_alloc_at _ _ _ _ (by simp)] <;> rfl

set_option maxHeartbeats 1000000 in
set_option maxRecDepth 100000 in
theorem refFind {v : Value} {its : List (Int × Int)} (most k : Int) (w : World) (h : w.ownsRow 0 47 2 v its.length (enc .i64 its)) (hn : its.length ≤ 1000000) :
    Calls Try.prog 33 #[.agg #[.int .i64 most, v], .int .i64 k] w fun e w' => ∃ r : Int, e = .returned (.int .i64 r) ∧ Hid (AtIs its k r ∧ Below w.heap.size w w') := by
  have hb : Below w.heap.size w (w.alloc (.cells #[.int .i64 most, v] 27)) := (Below.refl _ _).alloc (Nat.le_refl _) _
  have HB := hide hb
  obtain ⟨-, b1, -⟩ := box2 w (.int .i64 most) v 27
  have h2 := items_below h hb
  rcases Nat.eq_zero_or_pos its.length with h0 | h0
  · obtain ⟨a, c, rfl⟩ := item_shape h
    have HE : Hid (AtIs its k (-1)) := .inl ⟨rfl, fun i hi1 => by omega⟩
    rw [h0] at b1 HB ⊢
    clear h hn h0 hb h2
    go_enter Try.func33, Try.ntmps33
    go_wp2_with fail
    refine wp_loop_rounds 1 ?_
    rw [rounds_succ]
    go_wp2_with fail
    go_ret
    exact ⟨-1, rfl, unhide HE, unhide HB⟩
  · obtain ⟨g, c, rfl⟩ := item_block h h0
    have HC := hide (owns_cells h2)
    generalize hL : its.length = L at *
    have HL := hide hL
    clear h hL hb h2
    go_enter Try.func33, Try.ntmps33
    go_wp2_with fail
    generalize (w.alloc (.cells #[.int .i64 most, .slice (some ⟨g, 0, none⟩) L c] 27)) = w1 at *
    go_loopw [5] (fun s5 wr => ∃ i : Nat, i ≤ L ∧ s5 = .int .i64 i ∧ wr = w1 ∧ Hid (∀ j, j < i → lo its j ≠ k)) (fun s5 _ => L - (intOf s5).toNat)
    case atStart => exact ⟨0, Nat.zero_le _, rfl, rfl, fun j hj => absurd hj (Nat.not_lt_zero _)⟩
    case round =>
      obtain ⟨i, hi1, rfl, rfl, HE⟩ := hrel
      by_cases hlt : i < L
      · have hltz : (i : Int) < (L : Int) := by omega
        have c1 := (unhide HC i hlt).1
        obtain ⟨a1, e1⟩ : ∃ x, lo its i = x := ⟨_, rfl⟩
        rw [e1] at c1
        have HE1 := hide e1
        clear e1
        by_cases h1 : a1 = k
        · subst h1
          go_wp2_with fail
          go_ret
          exact ⟨i, rfl, .inr ⟨i, by rw [unhide HL]; exact hlt, rfl, unhide HE1, unhide HE⟩, unhide HB⟩
        · have h2 : (a1 == k) = false := by simpa using h1
          have HN := hide h1
          clear h1
          go_wp2_with fail
          go_roundw
          case rel => exact ⟨i + 1, by omega, by go_num, trivial, fun j hj => by
            rcases Nat.lt_or_ge j i with h | h
            · exact unhide HE j h
            · have : j = i := by omega
              subst this; rw [unhide HE1]; exact unhide HN⟩
          case measure => simp [intOf]; omega
      · have hltz : ¬ (i : Int) < (L : Int) := by omega
        obtain rfl : i = L := by omega
        go_wp2_with fail
        go_ret
        exact ⟨-1, rfl, .inl ⟨rfl, fun j hj => unhide HE j (by rw [unhide HL] at hj; exact hj)⟩, unhide HB⟩
end Go.Proofs.Ytkdlhnfagghppaa

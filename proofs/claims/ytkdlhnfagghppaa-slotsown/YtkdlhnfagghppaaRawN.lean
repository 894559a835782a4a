/- A table while a call works on it: its places and its heap need not agree. -/
import Derived.Test.YtkdlhnfagghppaaGrowToN
import Derived.Test.YtkdlhnfagghppaaLookN
namespace Go.Proofs.Ytkdlhnfagghppaa
open Go.RowKit Go.Maps

structure TRawN [Inhabited EntI] (w : World) (t hp : Nat) (v : Value) (most : Int) (ps : List (Int × Bool)) (ms : List EntI) (n : Nat) (G : Nat → Prop) : Prop where
  box : w.heap[t]? = some (.cells #[.int .i64 most, v, .pointer (some ⟨hp, 0, none⟩)] 58 (0, 0))
  row : w.ownsRow 0 67 2 v ps.length (encN ps)
  on : OnI w hp G ms n
  nt : ¬ G t
  nv : v.ownBlock ≠ some t
  ng : ∀ b, v.ownBlock = some b → ¬ G b
  len : (ps.length : Int) ≤ most
  top : most ≤ 65536

section
variable [Inhabited EntI] {w w' : World} {t hp : Nat} {v : Value} {most : Int} {ps : List (Int × Bool)} {ms ms' : List EntI} {n n' : Nat} {G G' : Nat → Prop}

theorem TAtN.raw (h : TAtN w t hp v most ps ms n G) : TRawN w t hp v most ps ms n G := ⟨h.box, h.row, h.on, h.nt, h.nv, h.ng, h.len, h.top⟩
theorem TRawN.full (h : TRawN w t hp v most ps ms n G) (hf : Frees ps ms) : TAtN w t hp v most ps ms n G := ⟨h.box, h.row, h.on, hf, h.nt, h.nv, h.ng, h.len, h.top⟩
theorem TRawN.cells (h : TRawN w t hp v most ps ms n G) : w.cell? ⟨t, 0, none⟩ = some (.int .i64 most) ∧ w.cell? ⟨t, 1, none⟩ = some v ∧ w.cell? ⟨t, 2, none⟩ = some (.pointer (some ⟨hp, 0, none⟩)) := by
  refine ⟨?_, ?_, ?_⟩ <;> rw [cell_of_row w t _ _ _ _ h.box] <;> rfl

/-- The heap is turned. -/
theorem TRawN.heap (h : TRawN w t hp v most ps ms n G) (on : OnI w' hp G' ms' n') (ht : Turned G w w') (hG : ∀ j, G' j → G j ∨ w.heap.size ≤ j) : TRawN w' t hp v most ps ms' n' G' ∧ Turned (Feet t v G) w w' ∧ ∀ j, Feet t v G' j → Feet t v G j ∨ w.heap.size ≤ j := by
  have htl := (Array.getElem?_eq_some_iff.1 h.box).1
  refine ⟨⟨(ht.block t htl h.nt).trans h.box, row_kept2 h.row (fun b hb => ht.block b (h.row.lt b hb).2 (h.ng b hb)), on, fun e => ?_, h.nv, fun b hb e => ?_, h.len, h.top⟩, ht.mono (fun k _ hk => .inr (.inr hk)), fun j hj => ?_⟩
  · rcases hG t e with e | e
    · exact h.nt e
    · omega
  · rcases hG b e with e | e
    · exact h.ng b hb e
    · have := (h.row.lt b hb).2; omega
  · rcases hj with hj | hj | hj
    · exact .inl (.inl hj)
    · exact .inl (.inr (.inl hj))
    · exact (hG j hj).imp (fun e => .inr (.inr e)) id

/-- A place is written. -/
theorem TRawN.store {g L c : Nat} (h : TRawN w t hp (.slice (some ⟨g, 0, none⟩) L c) most ps ms n G) (i : Nat) (x : Int) (b : Bool) :
    TRawN ((w.setCell ⟨g, i * 2, none⟩ (.int .i64 (x))).setCell ⟨g, i * 2 + 1, none⟩ (.bool b)) t hp (.slice (some ⟨g, 0, none⟩) L c) most (ps.set i (x, b)) ms n G ∧ Turned (Feet t (.slice (some ⟨g, 0, none⟩) L c) G) w ((w.setCell ⟨g, i * 2, none⟩ (.int .i64 (x))).setCell ⟨g, i * 2 + 1, none⟩ (.bool b)) := by
  have hgt : t ≠ g := fun e => h.nv (by simp [Value.ownBlock, e])
  have hgG := h.ng g rfl
  have hL : L = ps.length := by
    rcases h.row.2 with ⟨e, -⟩ | ⟨g', cap, cur, e, -⟩
    · cases e
    · cases e; rfl
  subst hL
  refine ⟨⟨?_, ?_, h.on.kept (fun k hk => ?_), h.nt, h.nv, h.ng, by simpa using h.len, h.top⟩, (turned_setCell _ _ _ (.inr (.inl rfl))).trans (turned_setCell _ _ _ (.inr (.inl rfl)))⟩
  · rw [heap_setCell_other _ _ _ _ hgt, heap_setCell_other _ _ _ _ hgt]; exact h.box
  · unfold encN
    rw [encP_set, List.length_set]
    exact ((h.row.stored _ _).1.stored _ _).1
  · have hk2 : k ≠ g := fun e => hgG (by rw [← e]; exact hk)
    rw [heap_setCell_other _ _ _ _ hk2, heap_setCell_other _ _ _ _ hk2]
/-- A thing is written. -/
theorem TRawN.storeThing {g L c : Nat} (h : TRawN w t hp (.slice (some ⟨g, 0, none⟩) L c) most ps ms n G) (i : Nat) (x a : Int) (b : Bool) (hi : ps[i]? = some (a, b)) :
    TRawN (w.setCell ⟨g, i * 2, none⟩ (.int .i64 (x))) t hp (.slice (some ⟨g, 0, none⟩) L c) most (ps.set i (x, b)) ms n G ∧ Turned (Feet t (.slice (some ⟨g, 0, none⟩) L c) G) w (w.setCell ⟨g, i * 2, none⟩ (.int .i64 (x))) := by
  have hgt : t ≠ g := fun e => h.nv (by simp [Value.ownBlock, e])
  have hgG := h.ng g rfl
  have hL : L = ps.length := by
    rcases h.row.2 with ⟨e, -⟩ | ⟨g', cap, cur, e, -⟩
    · cases e
    · cases e; rfl
  subst hL
  refine ⟨⟨?_, ?_, h.on.kept (fun k hk => ?_), h.nt, h.nv, h.ng, by simpa using h.len, h.top⟩, turned_setCell _ _ _ (.inr (.inl rfl))⟩
  · rw [heap_setCell_other _ _ _ _ hgt]; exact h.box
  · unfold encN
    rw [encP_set, List.length_set]
    have e2 := (encP_at (fun a => .int .i64 (a)) ps i a b hi).2
    have hrow := (h.row.stored (i * 2) (.int .i64 (x))).1
    have hsame : (((encP (fun a => .int .i64 (a)) ps).set (i * 2) (.int .i64 (x))).set (i * 2 + 1) (.bool b)) = (encP (fun a => .int .i64 (a)) ps).set (i * 2) (.int .i64 (x)) := by
      apply List.ext_getElem?
      intro j
      by_cases hj : i * 2 + 1 = j
      · subst hj
        have hlt := lt_of_at e2
        rw [List.getElem?_set_self (by simpa using hlt), List.getElem?_set_ne (by omega), e2]
      · rw [List.getElem?_set_ne hj]
    rw [hsame]
    exact hrow
  · have hk2 : k ≠ g := fun e => hgG (by rw [← e]; exact hk)
    rw [heap_setCell_other _ _ _ _ hk2]
end

/-- The places up to k. -/
def groN (ps : List (Int × Bool)) (k : Nat) : List (Int × Bool) := ps ++ List.replicate (k - ps.length) ((0 : Int), false)
theorem groN_at {ps : List (Int × Bool)} {i : Nat} (hk : ∀ a, ps[i]? ≠ some (a, true)) : ∃ a, (groN ps (i + 1))[i]? = some (a, false) := by
  unfold groN
  rcases Nat.lt_or_ge i ps.length with h | h
  · obtain ⟨a, b, e⟩ := at_of_lt h
    rw [List.getElem?_append_left h, e]
    cases b with
    | true => exact absurd e (hk a)
    | false => exact ⟨a, rfl⟩
  · refine ⟨(0 : Int), ?_⟩
    rw [List.getElem?_append_right h, List.getElem?_replicate, if_pos (by omega)]
theorem groN_in {ps : List (Int × Bool)} {k : Nat} (h : k ≤ ps.length) : groN ps k = ps := by
  unfold groN
  rw [show k - ps.length = 0 by omega]; simp
theorem groN_end (ps : List (Int × Bool)) : groN ps (ps.length + 1) = ps ++ [((0 : Int), false)] := by
  unfold groN
  rw [show ps.length + 1 - ps.length = 1 by omega]; rfl
theorem groN_length (ps : List (Int × Bool)) (k : Nat) : (groN ps k).length = max ps.length k := by
  unfold groN
  simp; omega
end Go.Proofs.Ytkdlhnfagghppaa

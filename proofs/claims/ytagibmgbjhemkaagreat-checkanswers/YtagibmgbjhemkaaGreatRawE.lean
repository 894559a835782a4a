/- A table while a call works on it: its places and its heap need not agree. -/
import Derived.Test.YtagibmgbjhemkaaGreatGrowToE
import Derived.Test.YtagibmgbjhemkaaGreatLookE
namespace Go.Proofs.YtagibmgbjhemkaaGreat
open Go.RowKit Go.Maps

/-- The five cells of the place i of the row g, written. -/
def setP (w : World) (g i : Nat) (x : EdgeV) (b : Bool) : World := ((((w.setCell ⟨g, i * 5, none⟩ (.int .i64 x.1)).setCell ⟨g, i * 5 + 1, none⟩ (.int .i64 x.2.1)).setCell ⟨g, i * 5 + 2, none⟩ (.int .i64 x.2.2.1)).setCell ⟨g, i * 5 + 3, none⟩ (.int .u32 x.2.2.2)).setCell ⟨g, i * 5 + 4, none⟩ (.bool b)

structure TRawE [Inhabited EntI] (w : World) (t hp : Nat) (v : Value) (most : Int) (ps : List (EdgeV × Bool)) (ms : List EntI) (n : Nat) (G : Nat → Prop) : Prop where
  box : w.heap[t]? = some (.cells #[.int .i64 most, v, .pointer (some ⟨hp, 0, none⟩)] 166 (0, 0))
  row : w.ownsRow 0 172 5 v ps.length (encE ps)
  on : OnI w hp G ms n
  nt : ¬ G t
  nv : v.ownBlock ≠ some t
  ng : ∀ b, v.ownBlock = some b → ¬ G b
  len : (ps.length : Int) ≤ most
  top : most ≤ 65536

section
variable [Inhabited EntI] {w w' : World} {t hp : Nat} {v : Value} {most : Int} {ps : List (EdgeV × Bool)} {ms ms' : List EntI} {n n' : Nat} {G G' : Nat → Prop}

theorem TAtE.raw (h : TAtE w t hp v most ps ms n G) : TRawE w t hp v most ps ms n G := ⟨h.box, h.row, h.on, h.nt, h.nv, h.ng, h.len, h.top⟩
theorem TRawE.full (h : TRawE w t hp v most ps ms n G) (hf : Frees ps ms) : TAtE w t hp v most ps ms n G := ⟨h.box, h.row, h.on, hf, h.nt, h.nv, h.ng, h.len, h.top⟩
theorem TRawE.cells (h : TRawE w t hp v most ps ms n G) : w.cell? ⟨t, 0, none⟩ = some (.int .i64 most) ∧ w.cell? ⟨t, 1, none⟩ = some v ∧ w.cell? ⟨t, 2, none⟩ = some (.pointer (some ⟨hp, 0, none⟩)) := by
  refine ⟨?_, ?_, ?_⟩ <;> rw [cell_of_row w t _ _ _ _ h.box] <;> rfl

/-- The heap is turned. -/
theorem TRawE.heap (h : TRawE w t hp v most ps ms n G) (on : OnI w' hp G' ms' n') (ht : Turned G w w') (hG : ∀ j, G' j → G j ∨ w.heap.size ≤ j) : TRawE w' t hp v most ps ms' n' G' ∧ Turned (Feet t v G) w w' ∧ ∀ j, Feet t v G' j → Feet t v G j ∨ w.heap.size ≤ j := by
  have htl := (Array.getElem?_eq_some_iff.1 h.box).1
  refine ⟨⟨(ht.block t htl h.nt).trans h.box, row_kept5 h.row (fun b hb => ht.block b (h.row.lt b hb).2 (h.ng b hb)), on, fun e => ?_, h.nv, fun b hb e => ?_, h.len, h.top⟩, ht.mono (fun k _ hk => .inr (.inr hk)), fun j hj => ?_⟩
  · rcases hG t e with e | e
    · exact h.nt e
    · omega
  · rcases hG b e with e | e
    · exact h.ng b hb e
    · have := (h.row.lt b hb).2; omega
  · rcases hj with hj | hj | hj
    · exact .inl (.inl hj)
    · exact .inl (.inr (.inl hj))
    · exact (hG j hj).imp (fun e => .inr (.inr e)) id

/-- A place is written. -/
theorem TRawE.store {g L c : Nat} (h : TRawE w t hp (.slice (some ⟨g, 0, none⟩) L c) most ps ms n G) (i : Nat) (x : EdgeV) (b : Bool) :
    TRawE (setP w g i x b) t hp (.slice (some ⟨g, 0, none⟩) L c) most (ps.set i (x, b)) ms n G ∧ Turned (Feet t (.slice (some ⟨g, 0, none⟩) L c) G) w (setP w g i x b) := by
  have hgt : t ≠ g := fun e => h.nv (by simp [Value.ownBlock, e])
  have hgG := h.ng g rfl
  have hL : L = ps.length := by
    rcases h.row.2 with ⟨e, -⟩ | ⟨g', cap, cur, e, -⟩
    · cases e
    · cases e; rfl
  subst hL
  have oth : ∀ k, k ≠ g → (setP w g i x b).heap[k]? = w.heap[k]? := fun k hk => by
    unfold setP
    rw [heap_setCell_other _ _ _ _ hk, heap_setCell_other _ _ _ _ hk, heap_setCell_other _ _ _ _ hk, heap_setCell_other _ _ _ _ hk, heap_setCell_other _ _ _ _ hk]
  refine ⟨⟨(oth t hgt).trans h.box, ?_, h.on.kept (fun k hk => oth k (fun e => hgG (by rw [← e]; exact hk))), h.nt, h.nv, h.ng, by simpa using h.len, h.top⟩, ?_⟩
  · rw [encE_set, List.length_set]
    exact (((((h.row.stored _ _).1.stored _ _).1.stored _ _).1.stored _ _).1.stored _ _).1
  · exact ((((turned_setCell _ _ _ (.inr (.inl rfl))).trans (turned_setCell _ _ _ (.inr (.inl rfl)))).trans (turned_setCell _ _ _ (.inr (.inl rfl)))).trans (turned_setCell _ _ _ (.inr (.inl rfl)))).trans (turned_setCell _ _ _ (.inr (.inl rfl)))
end

/-- The places up to k. -/
def groE (ps : List (EdgeV × Bool)) (k : Nat) : List (EdgeV × Bool) := ps ++ List.replicate (k - ps.length) (((0, 0, 0, 0) : EdgeV), false)
theorem groE_at {ps : List (EdgeV × Bool)} {i : Nat} (hk : ∀ a, ps[i]? ≠ some (a, true)) : ∃ a, (groE ps (i + 1))[i]? = some (a, false) := by
  unfold groE
  rcases Nat.lt_or_ge i ps.length with h | h
  · obtain ⟨a, b, e⟩ := at_of_lt h
    rw [List.getElem?_append_left h, e]
    cases b with
    | true => exact absurd e (hk a)
    | false => exact ⟨a, rfl⟩
  · refine ⟨((0, 0, 0, 0) : EdgeV), ?_⟩
    rw [List.getElem?_append_right h, List.getElem?_replicate, if_pos (by omega)]
end Go.Proofs.YtagibmgbjhemkaaGreat

/- A table in memory. -/
import Derived.Test.YtagibmgbjhemkaaGreatPlaces
namespace Go.Proofs.YtagibmgbjhemkaaGreat
open Go.RowKit Go.Maps


/-- At t stands a table; its row of places v, its heap at hp. -/
structure TAtE [Inhabited EntI] (w : World) (t hp : Nat) (v : Value) (most : Int) (ps : List (EdgeV × Bool)) (ms : List EntI) (n : Nat) (G : Nat → Prop) : Prop where
  box : w.heap[t]? = some (.cells #[.int .i64 most, v, .pointer (some ⟨hp, 0, none⟩)] 166 (0, 0))
  row : w.ownsRow 0 172 5 v ps.length (encE ps)
  on : OnI w hp G ms n
  fr : Frees ps ms
  nt : ¬ G t
  nv : v.ownBlock ≠ some t
  ng : ∀ b, v.ownBlock = some b → ¬ G b
  len : (ps.length : Int) ≤ most
  top : most ≤ 65536

theorem TAtE.cells [Inhabited EntI] {w : World} {t hp : Nat} {v : Value} {most : Int} {ps : List (EdgeV × Bool)} {ms : List EntI} {n : Nat} {G : Nat → Prop} (h : TAtE w t hp v most ps ms n G) :
    w.cell? ⟨t, 0, none⟩ = some (.int .i64 most) ∧ w.cell? ⟨t, 1, none⟩ = some v ∧ w.cell? ⟨t, 2, none⟩ = some (.pointer (some ⟨hp, 0, none⟩)) ∧ ∀ o, w.frozen? ⟨t, o, none⟩ = false := by
  refine ⟨?_, ?_, ?_, fun o => frozen_of_row w t o _ _ h.box⟩ <;> rw [cell_of_row w t _ _ _ _ h.box] <;> rfl

theorem TAtE.lt [Inhabited EntI] {w : World} {t hp : Nat} {v : Value} {most : Int} {ps : List (EdgeV × Bool)} {ms : List EntI} {n : Nat} {G : Nat → Prop} (h : TAtE w t hp v most ps ms n G) {k : Nat} (hk : Feet t v G k) : k < w.heap.size := by
  rcases hk with rfl | hk | hk
  · exact (Array.getElem?_eq_some_iff.1 h.box).1
  · exact (h.row.lt k hk).2
  · exact h.on.lt hk

theorem TAtE.kept [Inhabited EntI] {w w' : World} {t hp : Nat} {v : Value} {most : Int} {ps : List (EdgeV × Bool)} {ms : List EntI} {n : Nat} {G : Nat → Prop} (h : TAtE w t hp v most ps ms n G) (hk : ∀ k, Feet t v G k → w'.heap[k]? = w.heap[k]?) : TAtE w' t hp v most ps ms n G :=
  ⟨(hk t (.inl rfl)).trans h.box, row_kept5 h.row (fun k e => hk k (.inr (.inl e))), h.on.kept (fun k e => hk k (.inr (.inr e))), h.fr, h.nt, h.nv, h.ng, h.len, h.top⟩

/-- Where there are places: their cells. -/
theorem TAtE.some_ [Inhabited EntI] {w : World} {t hp : Nat} {v : Value} {most : Int} {ps : List (EdgeV × Bool)} {ms : List EntI} {n : Nat} {G : Nat → Prop} (h : TAtE w t hp v most ps ms n G) (h0 : 0 < ps.length) :
    ∃ b c, v = .slice (some ⟨b, 0, none⟩) ps.length c ∧ b ≠ t ∧ (∀ o, w.frozen? ⟨b, o, none⟩ = false) ∧ ∀ i a x, ps[i]? = some (a, x) → (w.cell? ⟨b, i * 5, none⟩ = some (.int .i64 a.1) ∧ w.cell? ⟨b, i * 5 + 1, none⟩ = some (.int .i64 a.2.1) ∧ w.cell? ⟨b, i * 5 + 2, none⟩ = some (.int .i64 a.2.2.1) ∧ w.cell? ⟨b, i * 5 + 3, none⟩ = some (.int .u32 a.2.2.2)) ∧ w.cell? ⟨b, i * 5 + 4, none⟩ = some (.bool x) := by
  have hr := h.row
  have h1 := h.nv
  rcases h.row.2 with ⟨-, h3⟩ | ⟨g, cap, cur, rfl, -, hg, hc, hm, -⟩
  · omega
  · have add : ∀ j, (⟨g, 0, none⟩ : Addr).add j = ⟨g, j, none⟩ := fun j => by unfold Addr.add; split <;> simp_all
    refine ⟨g, cap, rfl, fun e => h1 (by simp [Value.ownBlock, e]), fun o => frozen_of_row w g o _ _ hg, fun i a x hi => ?_⟩
    have hcl := hr.cells (g := g) rfl
    obtain ⟨e1, e2, e3, e4, e5⟩ := encE_at ps i a x hi
    have f1 := hcl _ _ e1
    have f2 := hcl _ _ e2
    have f3 := hcl _ _ e3
    have f4 := hcl _ _ e4
    have f5 := hcl _ _ e5
    rw [add] at f1 f2 f3 f4 f5
    exact ⟨⟨f1, f2, f3, f4⟩, f5⟩

theorem TAtE.shape [Inhabited EntI] {w : World} {t hp : Nat} {v : Value} {most : Int} {ps : List (EdgeV × Bool)} {ms : List EntI} {n : Nat} {G : Nat → Prop} (h : TAtE w t hp v most ps ms n G) : ∃ a c, v = .slice a ps.length c := by
  rcases h.row.2 with ⟨rfl, h3⟩ | ⟨g, cap, cur, rfl, -⟩
  · exact ⟨none, 0, by rw [h3]⟩
  · exact ⟨_, _, rfl⟩

set_option maxHeartbeats 1000000 in
set_option maxRecDepth 100000 in
theorem takenOutE [Inhabited EntI] {t hp : Nat} {v : Value} {most : Int} {ps : List (EdgeV × Bool)} {ms : List EntI} {n : Nat} {G : Nat → Prop} (k : Int) (w : World) (h : TAtE w t hp v most ps ms n G) (hk : k < 1 ∨ (ps.length : Int) < k) :
    Calls Tryz.prog 118 #[.pointer (some ⟨t, 0, none⟩), .int .i64 k] w fun e w' => e = .returned (.bool false) ∧ w' = w := by
  obtain ⟨-, c1, -, -⟩ := h.cells
  obtain ⟨a, c, rfl⟩ := h.shape
  generalize ps.length = L at *
  clear h
  by_cases h1 : k < 1
  · have h2 : ¬ 1 ≤ k := by omega
    clear hk
    go_enter Tryz.func118, Tryz.ntmps118
    go_wp2_with fail
    go_ret
    exact ⟨rfl, rfl⟩
  · have h2 : 1 ≤ k := by omega
    have h3 : ¬ k ≤ (L : Int) := by omega
    clear hk h1
    go_enter Tryz.func118, Tryz.ntmps118
    go_wp2_with fail
    go_ret
    exact ⟨rfl, rfl⟩

set_option maxHeartbeats 1000000 in
set_option maxRecDepth 100000 in
theorem takenAtE [Inhabited EntI] {t hp : Nat} {v : Value} {most : Int} {ps : List (EdgeV × Bool)} {ms : List EntI} {n : Nat} {G : Nat → Prop} {a : EdgeV} {b : Bool} (i : Nat) (w : World) (h : TAtE w t hp v most ps ms n G) (hi : ps[i]? = some (a, b)) :
    Calls Tryz.prog 118 #[.pointer (some ⟨t, 0, none⟩), .int .i64 ((i : Int) + 1)] w fun e w' => e = .returned (.bool b) ∧ w' = w := by
  obtain ⟨-, c1, -, -⟩ := h.cells
  have hil := lt_of_at hi
  obtain ⟨g, c, rfl, -, -, hc⟩ := h.some_ (by omega)
  have d2 := (hc i a b hi).2
  have hl := h.len
  have ht := h.top
  generalize ps.length = L at *
  have h1 : (1 : Int) ≤ (i : Int) + 1 := by omega
  have h2 : (i : Int) + 1 ≤ (L : Int) := by omega
  have h3 : (i : Int) < (L : Int) := by omega
  have h4 : (L : Int) ≤ 65536 := by omega
  clear h hc hi hl ht hil
  go_enter Tryz.func118, Tryz.ntmps118
  go_wp2_with fail
  go_ret
  exact ⟨rfl, rfl⟩
end Go.Proofs.YtagibmgbjhemkaaGreat

/- A table in memory. -/
import Derived.Test.YtkdlhnfagghppaaPlaces
namespace Go.Proofs.Ytkdlhnfagghppaa
open Go.RowKit Go.Maps

def encZ (ps : List (ByteArray × Bool)) : List Value := encP (fun a => .string (a)) ps

/-- At t stands a table; its row of places v, its heap at hp. -/
structure TAtZ [Inhabited EntI] (w : World) (t hp : Nat) (v : Value) (most : Int) (ps : List (ByteArray × Bool)) (ms : List EntI) (n : Nat) (G : Nat → Prop) : Prop where
  box : w.heap[t]? = some (.cells #[.int .i64 most, v, .pointer (some ⟨hp, 0, none⟩)] 75 (0, 0))
  row : w.ownsRow 0 77 2 v ps.length (encZ ps)
  on : OnI w hp G ms n
  fr : Frees ps ms
  nt : ¬ G t
  nv : v.ownBlock ≠ some t
  ng : ∀ b, v.ownBlock = some b → ¬ G b
  len : (ps.length : Int) ≤ most
  top : most ≤ 65536

theorem TAtZ.cells [Inhabited EntI] {w : World} {t hp : Nat} {v : Value} {most : Int} {ps : List (ByteArray × Bool)} {ms : List EntI} {n : Nat} {G : Nat → Prop} (h : TAtZ w t hp v most ps ms n G) :
    w.cell? ⟨t, 0, none⟩ = some (.int .i64 most) ∧ w.cell? ⟨t, 1, none⟩ = some v ∧ w.cell? ⟨t, 2, none⟩ = some (.pointer (some ⟨hp, 0, none⟩)) ∧ ∀ o, w.frozen? ⟨t, o, none⟩ = false := by
  refine ⟨?_, ?_, ?_, fun o => frozen_of_row w t o _ _ h.box⟩ <;> rw [cell_of_row w t _ _ _ _ h.box] <;> rfl

theorem TAtZ.lt [Inhabited EntI] {w : World} {t hp : Nat} {v : Value} {most : Int} {ps : List (ByteArray × Bool)} {ms : List EntI} {n : Nat} {G : Nat → Prop} (h : TAtZ w t hp v most ps ms n G) {k : Nat} (hk : Feet t v G k) : k < w.heap.size := by
  rcases hk with rfl | hk | hk
  · exact (Array.getElem?_eq_some_iff.1 h.box).1
  · exact (h.row.lt k hk).2
  · exact h.on.lt hk

theorem TAtZ.kept [Inhabited EntI] {w w' : World} {t hp : Nat} {v : Value} {most : Int} {ps : List (ByteArray × Bool)} {ms : List EntI} {n : Nat} {G : Nat → Prop} (h : TAtZ w t hp v most ps ms n G) (hk : ∀ k, Feet t v G k → w'.heap[k]? = w.heap[k]?) : TAtZ w' t hp v most ps ms n G :=
  ⟨(hk t (.inl rfl)).trans h.box, row_kept2 h.row (fun k e => hk k (.inr (.inl e))), h.on.kept (fun k e => hk k (.inr (.inr e))), h.fr, h.nt, h.nv, h.ng, h.len, h.top⟩

/-- Where there are places: their cells. -/
theorem TAtZ.some_ [Inhabited EntI] {w : World} {t hp : Nat} {v : Value} {most : Int} {ps : List (ByteArray × Bool)} {ms : List EntI} {n : Nat} {G : Nat → Prop} (h : TAtZ w t hp v most ps ms n G) (h0 : 0 < ps.length) :
    ∃ b c, v = .slice (some ⟨b, 0, none⟩) ps.length c ∧ b ≠ t ∧ (∀ o, w.frozen? ⟨b, o, none⟩ = false) ∧ ∀ i a x, ps[i]? = some (a, x) → w.cell? ⟨b, i * 2, none⟩ = some (.string (a)) ∧ w.cell? ⟨b, i * 2 + 1, none⟩ = some (.bool x) := by
  have hr := h.row
  have h1 := h.nv
  rcases h.row.2 with ⟨-, h3⟩ | ⟨g, cap, cur, rfl, -, hg, hc, hm, -⟩
  · omega
  · have add : ∀ j, (⟨g, 0, none⟩ : Addr).add j = ⟨g, j, none⟩ := fun j => by unfold Addr.add; split <;> simp_all
    refine ⟨g, cap, rfl, fun e => h1 (by simp [Value.ownBlock, e]), fun o => frozen_of_row w g o _ _ hg, fun i a x hi => ?_⟩
    have hcl := hr.cells (g := g) rfl
    obtain ⟨e1, e2⟩ := encP_at (fun a => .string (a)) ps i a x hi
    have f1 := hcl _ _ e1
    have f2 := hcl _ _ e2
    rw [add] at f1 f2
    exact ⟨f1, f2⟩

theorem TAtZ.shape [Inhabited EntI] {w : World} {t hp : Nat} {v : Value} {most : Int} {ps : List (ByteArray × Bool)} {ms : List EntI} {n : Nat} {G : Nat → Prop} (h : TAtZ w t hp v most ps ms n G) : ∃ a c, v = .slice a ps.length c := by
  rcases h.row.2 with ⟨rfl, h3⟩ | ⟨g, cap, cur, rfl, -⟩
  · exact ⟨none, 0, by rw [h3]⟩
  · exact ⟨_, _, rfl⟩

set_option maxHeartbeats 1000000 in
set_option maxRecDepth 100000 in
theorem takenOutZ [Inhabited EntI] {t hp : Nat} {v : Value} {most : Int} {ps : List (ByteArray × Bool)} {ms : List EntI} {n : Nat} {G : Nat → Prop} (k : Int) (w : World) (h : TAtZ w t hp v most ps ms n G) (hk : k < 1 ∨ (ps.length : Int) < k) :
    Calls Try.prog 46 #[.pointer (some ⟨t, 0, none⟩), .int .i64 k] w fun e w' => e = .returned (.bool false) ∧ w' = w := by
  obtain ⟨-, c1, -, -⟩ := h.cells
  obtain ⟨a, c, rfl⟩ := h.shape
  generalize ps.length = L at *
  clear h
  by_cases h1 : k < 1
  · have h2 : ¬ 1 ≤ k := by omega
    clear hk
    go_enter Try.func46, Try.ntmps46
    go_wp2_with fail
    go_ret
    exact ⟨rfl, rfl⟩
  · have h2 : 1 ≤ k := by omega
    have h3 : ¬ k ≤ (L : Int) := by omega
    clear hk h1
    go_enter Try.func46, Try.ntmps46
    go_wp2_with fail
    go_ret
    exact ⟨rfl, rfl⟩

set_option maxHeartbeats 1000000 in
set_option maxRecDepth 100000 in
theorem takenAtZ [Inhabited EntI] {t hp : Nat} {v : Value} {most : Int} {ps : List (ByteArray × Bool)} {ms : List EntI} {n : Nat} {G : Nat → Prop} {a : ByteArray} {b : Bool} (i : Nat) (w : World) (h : TAtZ w t hp v most ps ms n G) (hi : ps[i]? = some (a, b)) :
    Calls Try.prog 46 #[.pointer (some ⟨t, 0, none⟩), .int .i64 ((i : Int) + 1)] w fun e w' => e = .returned (.bool b) ∧ w' = w := by
  obtain ⟨-, c1, -, -⟩ := h.cells
  have hil := lt_of_at hi
  obtain ⟨g, c, rfl, -, -, hc⟩ := h.some_ (by omega)
  have d2 := (hc i a b hi).2
  have hl := h.len
  have ht := h.top
  generalize ps.length = L at *
  have h1 : (1 : Int) ≤ (i : Int) + 1 := by omega
  have h2 : (i : Int) + 1 ≤ (L : Int) := by omega
  have h3 : (i : Int) < (L : Int) := by omega
  have h4 : (L : Int) ≤ 65536 := by omega
  clear h hc hi hl ht hil
  go_enter Try.func46, Try.ntmps46
  go_wp2_with fail
  go_ret
  exact ⟨rfl, rfl⟩
end Go.Proofs.Ytkdlhnfagghppaa

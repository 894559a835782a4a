/- A table beside blocks that stay, amid a range over an iterator. -/
import Derived.Test.YtkdlhnfagghppaaOwn1
import Derived.Test.YtkdlhnfagghppaaPlaysWalk
import Derived.RangeFuncNested
namespace Go.Proofs.Ytkdlhnfagghppaa
open Go.RowKit Go.Maps

/-- A table that leaves the blocks of X alone; its heap's map lies below M. -/
structure Duo2 [Inhabited EntI] (M : Nat) (X : Nat → Prop) (B : Nat) (w0 : World) (t : Nat) (most : Int) (ps : List (Int × Bool)) (n : Nat) (w : World) : Prop where
  below : Below B w0 w
  room : B ≤ w.heap.size
  on : ∃ hp v ms G, hp < M ∧ TAtN w t hp v most ps ms n G ∧ ∀ j, Feet t v G j → B ≤ j ∧ ¬ X j
  xlt : ∀ b, X b → b < w.heap.size

theorem Duo2.duo [Inhabited EntI] {M : Nat} {X : Nat → Prop} {B : Nat} {w0 w : World} {t n : Nat} {most : Int} {ps : List (Int × Bool)} (h : Duo2 M X B w0 t most ps n w) : Duo X B w0 t most ps n w := by
  obtain ⟨hp, v, ms, G, -, h1, h2⟩ := h.on
  exact ⟨h.below, h.room, ⟨hp, v, ms, G, h1, h2⟩, h.xlt⟩
theorem Duo.two [Inhabited EntI] {X : Nat → Prop} {B : Nat} {w0 w : World} {t n : Nat} {most : Int} {ps : List (Int × Bool)} (h : Duo X B w0 t most ps n w) : Duo2 w.heap.size X B w0 t most ps n w := by
  obtain ⟨hp, v, ms, G, h1, h2⟩ := h.on
  refine ⟨h.below, h.room, ⟨hp, v, ms, G, ?_, h1, h2⟩, h.xlt⟩
  obtain ⟨m, lv, v2, es, k1, -, -, k4, -⟩ := h1.on
  exact h1.lt (.inr (.inr ((k4 hp).2 (.inl rfl))))

/-- Of a table's blocks only the map is no cells. -/
theorem feet_cells [Inhabited EntI] {M : Nat} {w : World} {t hp n : Nat} {v : Value} {most : Int} {ps : List (Int × Bool)} {ms : List EntI} {G : Nat → Prop} (h : TAtN w t hp v most ps ms n G) (hM : hp < M) {k : Nat} {o : Obj} (hk : M ≤ k) (ho : w.heap[k]? = some o) (hc : o.isCells = false) : ¬ Feet t v G k := by
  intro hf
  have cells : ∀ cs ty fr, w.heap[k]? = some (.cells cs ty fr) → False := fun cs ty fr e => by
    rw [ho] at e
    cases e
    simp [Obj.isCells] at hc
  rcases hf with rfl | hf | hf
  · exact cells _ _ _ h.box
  · rcases h.row.2 with ⟨rfl, -⟩ | ⟨g, cap, cur, rfl, -, hg, -⟩
    · simp [Value.ownBlock] at hf
    · simp only [Value.ownBlock, Option.some.injEq] at hf
      subst hf
      exact cells _ _ _ hg
  · obtain ⟨m, lv, v2, es, k1, -, -, k4, k5⟩ := h.on
    rcases (k4 k).1 hf with rfl | rfl | hf
    · exact cells _ _ _ k1.box
    · omega
    · rcases k1.row.2 with ⟨rfl, -⟩ | ⟨g, cap, cur, rfl, -, hg, -⟩
      · simp [Value.ownBlock] at hf
      · simp only [Value.ownBlock, Option.some.injEq] at hf
        subst hf
        exact cells _ _ _ hg

/-- Some table, amid the range. -/
def Some2 [Inhabited EntI] (M : Nat) (X : Nat → Prop) (B : Nat) (w0 : World) (t : Nat) (most : Int) (n : Nat) (w w' : World) : Prop := ∃ ps' n', n' ≤ n + 65536 ∧ Duo2 M X B w0 t most ps' n' w' ∧ KX X w w' ∧ KeepsFrom M w w'

section
variable [Inhabited EntI] {M : Nat} {X : Nat → Prop} {B : Nat} {w0 w w' : World} {t n : Nat} {most : Int} {ps ps' : List (Int × Bool)}

theorem Duo2.later {hp : Nat} {v : Value} {G : Nat → Prop} {ms : List EntI} (h : Duo2 M X B w0 t most ps n w) (hM : hp < M) (h1 : TAtN w t hp v most ps ms n G) (hF : ∀ j, Feet t v G j → B ≤ j ∧ ¬ X j) (ht : ThenN w w' t hp v most ps' n G) : Some2 M X B w0 t most n w w' := by
  obtain ⟨v', ms', n', G', k1, k2, k3, k4⟩ := ht
  refine ⟨ps', n', k1, ⟨h.below.trans (k3.below h.room (fun k hk => (hF k hk).1)), Nat.le_trans h.room k3.size, ⟨hp, v', ms', G', hM, k2, fun j hj => ?_⟩, fun b hb => Nat.lt_of_lt_of_le (h.xlt b hb) k3.size⟩, fun b hb => k3.block b (h.xlt b hb) (fun e => (hF b e).2 hb), ⟨k3.size, fun k o hk ho hc => (k3.block k (Array.getElem?_eq_some_iff.1 ho).1 (feet_cells h1 hM hk ho hc)).trans ho⟩⟩
  rcases k4 j hj with e | e
  · exact hF j e
  · exact ⟨Nat.le_trans h.room e, fun hx => by have := h.xlt j hx; omega⟩
theorem Duo2.same (h : Duo2 M X B w0 t most ps n w) : Some2 M X B w0 t most n w w := ⟨ps, n, by omega, h, KX.refl _ _, KeepsFrom.refl _ _⟩
theorem Duo2.draw (h : Duo2 M X B w0 t most ps n w) (q : Nat) : Duo2 M X B w0 t most ps n (w.drewN q) := by
  obtain ⟨hp, v, ms, G, h0, h1, h2⟩ := h.on
  exact ⟨below_drewN h.below q, h.room, ⟨hp, v, ms, G, h0, h1.kept (fun _ _ => rfl), h2⟩, h.xlt⟩
theorem Duo2.drawn (h : Duo2 M X B w0 t most ps n w) (q : Nat) : Some2 M X B w0 t most n w (w.drewN q) := ⟨ps, n, by omega, h.draw q, fun _ _ => rfl, ⟨Nat.le_refl _, fun _ _ _ h _ => h⟩⟩

theorem any2Drop (k : Int) (h : Duo2 M X B w0 t most ps n w) (hn : n ≤ 1000000000) : Calls Try.prog 14 #[.pointer (some ⟨t, 0, none⟩), .int .i64 k] w fun e w' => ∃ x ok, e = .returned (.tuple #[.int .i64 x, .bool ok]) ∧ Hid (Some2 M X B w0 t most n w w') := by
  rcases stands_at ps k with ⟨i, a, rfl, g⟩ | hno
  · obtain ⟨hp, v, ms, G, h0, h1, h2⟩ := h.on
    exact (dropYesN i w h1 g hn).mono fun e w' ⟨he, hh⟩ => ⟨a, true, he, h.later h0 h1 h2 hh.out⟩
  · exact (dropNoLN k h.duo.live hno).mono fun e w' ⟨he, hw⟩ => ⟨0, false, he, hw ▸ h.same⟩
theorem any2Set (k x : Int) (h : Duo2 M X B w0 t most ps n w) : Calls Try.prog 20 #[.pointer (some ⟨t, 0, none⟩), .int .i64 k, .int .i64 x] w fun e w' => ∃ ok, e = .returned (.bool ok) ∧ Hid (Some2 M X B w0 t most n w w') := by
  rcases stands_at ps k with ⟨i, a, rfl, g⟩ | hno
  · obtain ⟨hp, v, ms, G, h0, h1, h2⟩ := h.on
    exact (setYesN i x w h1 g).mono fun e w' ⟨he, hh⟩ => ⟨true, he, h.later h0 h1 h2 hh.out⟩
  · exact (setNoLN k x h.duo.live hno).mono fun e w' ⟨he, hw⟩ => ⟨false, he, hw ▸ h.same⟩
theorem any2Put (x : Int) (h : Duo2 M X B w0 t most ps n w) (hn : n ≤ 1000000000) : Calls Try.prog 13 #[.pointer (some ⟨t, 0, none⟩), .int .i64 x] w fun e w' => ∃ i ok, e = .returned (.tuple #[.int .i64 i, .bool ok]) ∧ Hid (Some2 M X B w0 t most n w w') := by
  have hm := h.duo.live.fits
  obtain ⟨hp, v, ms, G, h0, h1, h2⟩ := h.on
  obtain ⟨r, hr⟩ := free_ex ps most
  have hr0 := hr
  rcases hr with ⟨i, a, rfl, k2, k3⟩ | ⟨hf, ⟨hq, rfl⟩ | ⟨hq, rfl⟩⟩
  · exact (putYesN i x w h1 (fun r hr => free_one hr0 hr) (by have := lt_of_at k2; omega) (fun b e => by rw [k2] at e; cases e) hn).mono fun e w' ⟨he, hh⟩ => ⟨_, true, he, h.later h0 h1 h2 hh.out⟩
  · exact (putNoLN x h.duo.live (fun r hr => free_one hr0 hr)).mono fun e w' ⟨he, q, hw⟩ => ⟨0, false, he, hw ▸ h.drawn q⟩
  · exact (putYesN ps.length x w h1 (fun r hr => free_one hr0 hr) (by omega) (fun b e => by have := lt_of_at e; omega) hn).mono fun e w' ⟨he, hh⟩ => ⟨_, true, he, h.later h0 h1 h2 hh.out⟩
end

/-- The table beside the blocks of G, which lie below M. -/
structure StO [Inhabited EntI] (M B : Nat) (w0 : World) (t : Nat) (most : Int) (N : Nat) (G : Nat → Option Obj) (W : World) : Prop where
  keep : ∀ b o, G b = some o → W.heap[b]? = some o
  low : ∀ b o, G b = some o → b < M
  duo : ∃ ps n, n ≤ N ∧ Duo2 M (fun b => ∃ o, G b = some o) B w0 t most ps n W

section
variable [Inhabited EntI] {M B : Nat} {w0 W W' : World} {t N : Nat} {most : Int} {G G' : Nat → Option Obj}

theorem StO.below (h : StO M B w0 t most N G W) : Below B w0 W := by
  obtain ⟨ps, n, -, h1⟩ := h.duo
  exact h1.below
theorem StO.some2 {n : Nat} (h : StO M B w0 t most N G W) (hn : n ≤ N) (hs : Some2 M (fun b => ∃ o, G b = some o) B w0 t most n W W') : StO M B w0 t most (N + 65536) G W' ∧ KeepsFrom M W W' ∧ ∀ b o, G b = some o → W'.heap[b]? = W.heap[b]? := by
  obtain ⟨ps', n', k1, k2, k3, k4⟩ := hs
  have e : ∀ b o, G b = some o → W'.heap[b]? = W.heap[b]? := fun b o hb => k3 b ⟨o, hb⟩
  exact ⟨⟨fun b o hb => (e b o hb).trans (h.keep b o hb), h.low, ps', n', by omega, k2⟩, k4, e⟩
theorem StO.drop (k : Int) (h : StO M B w0 t most N G W) (hn : N ≤ 900000000) : Calls Try.prog 14 #[.pointer (some ⟨t, 0, none⟩), .int .i64 k] W fun e w' => ∃ x ok, e = .returned (.tuple #[.int .i64 x, .bool ok]) ∧ Hid (StO M B w0 t most (N + 65536) G w' ∧ KeepsFrom M W w' ∧ ∀ b o, G b = some o → w'.heap[b]? = W.heap[b]?) := by
  obtain ⟨ps, n, h1, h2⟩ := h.duo
  exact (any2Drop k h2 (by omega)).mono fun e w' ⟨x, ok, he, hs⟩ => ⟨x, ok, he, h.some2 h1 hs.out⟩
theorem StO.put (x : Int) (h : StO M B w0 t most N G W) (hn : N ≤ 900000000) : Calls Try.prog 13 #[.pointer (some ⟨t, 0, none⟩), .int .i64 x] W fun e w' => ∃ i ok, e = .returned (.tuple #[.int .i64 i, .bool ok]) ∧ Hid (StO M B w0 t most (N + 65536) G w' ∧ KeepsFrom M W w' ∧ ∀ b o, G b = some o → w'.heap[b]? = W.heap[b]?) := by
  obtain ⟨ps, n, h1, h2⟩ := h.duo
  exact (any2Put x h2 (by omega)).mono fun e w' ⟨i, ok, he, hs⟩ => ⟨i, ok, he, h.some2 h1 hs.out⟩
theorem StO.set (k x : Int) (h : StO M B w0 t most N G W) : Calls Try.prog 20 #[.pointer (some ⟨t, 0, none⟩), .int .i64 k, .int .i64 x] W fun e w' => ∃ ok, e = .returned (.bool ok) ∧ Hid (StO M B w0 t most (N + 65536) G w' ∧ KeepsFrom M W w' ∧ ∀ b o, G b = some o → w'.heap[b]? = W.heap[b]?) := by
  obtain ⟨ps, n, h1, h2⟩ := h.duo
  exact (any2Set k x h2).mono fun e w' ⟨ok, he, hs⟩ => ⟨ok, he, h.some2 h1 hs.out⟩

/-- What the range itself turns. -/
theorem StO.grown {row : Option Nat} (h : StO M B w0 t most N G W) (hB : B ≤ M) (hg : W.grownBy W' row) (hr : ∀ r, row = some r → M ≤ r ∧ ∃ o : Obj, W.heap[r]? = some o ∧ o.isCells = false) : StO M B w0 t most N G W' := by
  obtain ⟨ps, n, h1, h2⟩ := h.duo
  obtain ⟨hp, v, ms, G2, k0, k1, k2⟩ := h2.on
  have oth : ∀ b, b < W.heap.size → (∀ r, row = some r → b ≠ r) → W'.heap[b]? = W.heap[b]? := fun b hb hn => hg.block b hb (fun e => hn b e.symm rfl)
  refine ⟨fun b o hb => (oth b (h2.xlt b ⟨o, hb⟩) (fun r e e2 => by have := h.low b o hb; have := (hr r e).1; omega)).trans (h.keep b o hb), h.low, ps, n, h1, h2.below.trans ⟨hg.os, hg.tape, hg.output, hg.size, fun b hb => oth b (Nat.lt_of_lt_of_le hb h2.room) (fun r e e2 => by have := (hr r e).1; omega)⟩, Nat.le_trans h2.room hg.size, ⟨hp, v, ms, G2, k0, k1.kept (fun k hk => oth k (k1.lt hk) (fun r e e2 => ?_)), k2⟩, fun b hb => Nat.lt_of_lt_of_le (h2.xlt b hb) hg.size⟩
  obtain ⟨a1, o, a2, a3⟩ := hr r e
  exact feet_cells k1 k0 a1 a2 a3 (e2 ▸ hk)

/-- A block of G is written. -/
theorem StO.write {b i : Nat} {cs : Array Value} {ty : TypeId} (h : StO M B w0 t most N G W) (hb : G b = some (.cells cs ty (0, 0))) (hB : B ≤ b) (u : Value) : StO M B w0 t most N (fun k => if k = b then some (.cells (cs.setIfInBounds i u) ty (0, 0)) else G k) (W.setCell ⟨b, i, none⟩ u) := by
  obtain ⟨ps, n, h1, h2⟩ := h.duo
  obtain ⟨hp, v, ms, G2, k0, k1, k2⟩ := h2.on
  have oth : ∀ k, k ≠ b → (W.setCell ⟨b, i, none⟩ u).heap[k]? = W.heap[k]? := fun k hk => heap_setCell_other _ _ _ _ hk
  have sub : ∀ k, (∃ o, (if k = b then some (Obj.cells (cs.setIfInBounds i u) ty (0, 0)) else G k) = some o) → ∃ o, G k = some o := fun k ⟨o, hk⟩ => by
    by_cases e : k = b
    · exact ⟨_, (congrArg G e).trans hb⟩
    · rw [if_neg e] at hk; exact ⟨o, hk⟩
  refine ⟨fun k o hk => ?_, fun k o hk => ?_, ps, n, h1, h2.below.setCell (p := ⟨b, i, none⟩) hB _, by simpa using h2.room, ⟨hp, v, ms, G2, k0, k1.kept (fun k hk => oth k (fun e => (k2 k hk).2 ⟨_, (congrArg G e).trans hb⟩)), fun j hj => ⟨(k2 j hj).1, fun hx => (k2 j hj).2 (sub j hx)⟩⟩, fun k hk => by simpa using h2.xlt k (sub k hk)⟩
  · by_cases e : k = b
    · rw [if_pos e] at hk
      cases hk
      rw [e]
      exact heap_setCell_same _ _ _ _ _ _ (h.keep b _ hb)
    · rw [if_neg e] at hk
      exact (oth k e).trans (h.keep k o hk)
  · obtain ⟨o2, h3⟩ := sub k ⟨o, hk⟩
    exact h.low k o2 h3
theorem StO.draw (h : StO M B w0 t most N G W) (q : Nat) : StO M B w0 t most N G (W.drewN q) := by
  obtain ⟨ps, n, h1, h2⟩ := h.duo
  exact ⟨h.keep, h.low, ps, n, h1, h2.draw q⟩
/-- From another time on, with other blocks. -/
theorem StO.anew (h : StO M B w0 t most N G W) (hb : Below W.heap.size W W') (hG : ∀ b o, G' b = some o → W'.heap[b]? = some o ∧ (G b = some o ∨ W.heap.size ≤ b ∨ (M ≤ b ∧ o.isCells = false))) : StO W'.heap.size B w0 t most N G' W' := by
  obtain ⟨ps, n, h1, h2⟩ := h.duo
  obtain ⟨hp, v, ms, G2, k0, k1, k2⟩ := h2.on
  have l1 : ∀ b o, G' b = some o → b < W'.heap.size := fun b o hb => (Array.getElem?_eq_some_iff.1 (hG b o hb).1).1
  have hhp : hp < W.heap.size := by
    obtain ⟨m, lv, v2, es, z1, -, -, z4, -⟩ := k1.on
    exact k1.lt (.inr (.inr ((z4 hp).2 (.inl rfl))))
  refine ⟨fun b o hb => (hG b o hb).1, l1, ps, n, h1, h2.below.trans (hb.mono h2.room), Nat.le_trans h2.room hb.size, ⟨hp, v, ms, G2, Nat.lt_of_lt_of_le hhp hb.size, k1.kept (fun k hk => hb.block k (k1.lt hk)), fun j hj => ⟨(k2 j hj).1, fun ⟨o, ho⟩ => ?_⟩⟩, fun b ⟨o, hb⟩ => l1 b o hb⟩
  have hjl := k1.lt hj
  obtain ⟨e1, e2 | e2 | ⟨e2, e3⟩⟩ := hG j o ho
  · exact (k2 j hj).2 ⟨o, e2⟩
  · omega
  · exact feet_cells k1 k0 e2 ((hb.block j hjl).symm.trans e1) e3 hj
end
end Go.Proofs.Ytkdlhnfagghppaa

/- Rows that are written over and grow while others are kept. -/
import Derived.Test.YtffdpfkcfohbiaaMb16
namespace Go.Proofs.Ytffdpfkcfohbiaa
open Go.RowKit Go.Maps
/-- A row of so many things, whatever they are; but for S all is as it was in w1. -/
def Rw {X : Type} (t : TypeId) (enc : X → List Value) (w1 : World) (S : Nat → Prop) (W : World) (v : Value) (m : Nat) : Prop :=
  ∃ xs : List X, xs.length = m ∧ RRow t 1 enc 0 W v xs ∧ Turned S w1 W ∧ ∀ k, v.ownBlock = some k → S k ∨ w1.heap.size ≤ k
section
variable {X : Type} {t : TypeId} {enc : X → List Value} {f : X → Value} {w1 W : World} {S : Nat → Prop} {v : Value} {m : Nat}
theorem rw_start {B : Nat} {xs : List X} (h : RRow t 1 enc B W v xs) (hS : ∀ k, v.ownBlock = some k → S k) : Rw t enc W S W v xs.length := ⟨xs, rfl, rrow_low h (Nat.zero_le _), Turned.refl _ _, fun k e => .inl (hS k e)⟩
theorem Rw.shape (h : Rw t enc w1 S W v m) : ∃ a c, v = .slice a m c := by
  obtain ⟨xs, rfl, h1, -⟩ := h
  exact rrow_shape h1
theorem Rw.set (K : Kit X 1 enc) (hf : ∀ x, enc x = [f x]) {g n c i : Nat} (h : Rw t enc w1 S W (.slice (some ⟨g, 0, none⟩) n c) m) (hi : i < m) (y : X) :
    (∃ x, W.cell? ⟨g, i, none⟩ = some (f x)) ∧ W.frozen? ⟨g, i, none⟩ = false ∧ Rw t enc w1 S (W.setCell ⟨g, i, none⟩ (f y)) (.slice (some ⟨g, 0, none⟩) n c) m := by
  obtain ⟨xs, rfl, h1, h2, h3⟩ := h
  have hx := List.getElem?_eq_getElem hi
  have c1 := rrow_at K h1 hx (j := 0) (u := f xs[i]) (by rw [hf]; rfl)
  have h4 := rrow_set K h1 hx (x' := y) (j := 0) (by omega) (u := f y) (by rw [hf, hf]; rfl)
  rw [Nat.mul_one, Nat.add_zero] at c1 h4
  refine ⟨⟨_, c1⟩, rrow_frozen h1 (by omega) i, _, by rw [List.length_set], h4, ?_, h3⟩
  rcases h3 g rfl with q | q
  · exact h2.trans (turned_setCell W ⟨g, i, none⟩ (f y) q)
  · exact ⟨h2.os, h2.tape, h2.output, by simpa using h2.size, fun k hk hn => (heap_setCell_other _ _ _ _ (by show k ≠ g; omega)).trans (h2.block k hk hn)⟩
theorem Rw.push (K : Kit X 1 enc) {ts : TypeId} {z : Value} {bytes : Nat} (hu : Try.prog.underlying ts = some (.slice t)) (hinfo : (Try.prog.info? t).map (fun i => (i.zero, i.size, i.bytes)) = some (some z, 1, bytes)) (hz0 : z.cells.size = 1) (hby : bytes ≤ 1000) (y : X) {cs : Array Value} (hcs : cs.toList = enc y) (h : Rw t enc w1 S W v m) (hm : m < 1000000) :
    ∃ a' n' c' W', (∀ ty, (Builtin.append_ #[ts, ts] ty #[v, .slice (some ⟨W.heap.size, 0, none⟩) 1 1]).run Try.prog (W.alloc (.cells cs t)) = .ok (.slice a' n' c') W') ∧ Rw t enc w1 S W' (.slice a' n' c') (m + 1) ∧ Turned (fun b => v.ownBlock = some b) W W' ∧ ∀ b, (Value.slice a' n' c').ownBlock = some b → v.ownBlock = some b ∨ W.heap.size ≤ b := by
  obtain ⟨xs, rfl, h1, h2, h3⟩ := h
  obtain ⟨a', n', c', W', r, g1, g2, g3⟩ := run_app1 K hu hinfo hz0 hby y hcs h1 (Nat.zero_le _) hm
  refine ⟨a', n', c', W', r, ⟨xs ++ [y], by simp, g1, ⟨g2.os.trans h2.os, g2.tape.trans h2.tape, g2.output.trans h2.output, Nat.le_trans h2.size g2.size, fun k hk hn => (g2.block k (Nat.lt_of_lt_of_le hk h2.size) (fun e => (h3 k e).elim hn (fun q => by omega))).trans (h2.block k hk hn)⟩, fun k e => (g3 k e).elim (fun q => h3 k q) (fun q => .inr (Nat.le_trans h2.size q))⟩, g2, g3⟩
theorem Rw.turned (h : Rw t enc w1 S W v m) : Turned S w1 W := by obtain ⟨_, _, _, h2, _⟩ := h; exact h2
end
abbrev RwB := @Rw Nat 5 encB
abbrev RwN := @Rw Int 3 encN
/-- What is kept: the witness's own box, the bytes c. -/
structure FB (w : World) (b1 : Nat) (F T : Int) (u : Nat) (ev cv : Value) (enc : List Nat) (W : World) : Prop where
  box : W.heap[b1]? = some (oV F T u ev)
  cb : Lies u8v W cv enc
  bel : Below w.heap.size w W
theorem FB.turned {w W W' : World} {b1 : Nat} {F T : Int} {u : Nat} {ev cv : Value} {enc : List Nat} {S : Nat → Prop} (h : FB w b1 F T u ev cv enc W) (ht : Turned S W W') (h1 : ¬ S b1) (h2 : ∀ k, cv.ownBlock = some k → ¬ S k) (h3 : ∀ k, S k → w.heap.size ≤ k) : FB w b1 F T u ev cv enc W' :=
  ⟨(ht.block _ (heap_lt h.box) h1).trans h.box, lies_turned h.cb ht h2, h.bel.trans (ht.below h.bel.size h3)⟩
theorem FB.below {w W W' : World} {b1 : Nat} {F T : Int} {u : Nat} {ev cv : Value} {enc : List Nat} (h : FB w b1 F T u ev cv enc W) (hb : Below W.heap.size W W') : FB w b1 F T u ev cv enc W' :=
  ⟨(hb.block _ (heap_lt h.box)).trans h.box, lies_below h.cb hb, h.bel.trans (hb.mono h.bel.size)⟩
/-- And the box of what was read the second time. -/
structure FC (w : World) (b1 b14 : Nat) (F T : Int) (u : Nat) (ev cv ev14 : Value) (enc : List Nat) (es : List Int) (W : World) : Prop where
  fb : FB w b1 F T u ev cv enc W
  box : W.heap[b14]? = some (oV F T u ev14)
  es_ : Lies i64v W ev14 es
theorem FC.turned {w W W' : World} {b1 b14 : Nat} {F T : Int} {u : Nat} {ev cv ev14 : Value} {enc : List Nat} {es : List Int} {S : Nat → Prop} (h : FC w b1 b14 F T u ev cv ev14 enc es W) (ht : Turned S W W') (h1 : ¬ S b1) (h2 : ∀ k, cv.ownBlock = some k → ¬ S k) (h3 : ∀ k, S k → w.heap.size ≤ k) (h4 : ¬ S b14) (h5 : ∀ k, ev14.ownBlock = some k → ¬ S k) : FC w b1 b14 F T u ev cv ev14 enc es W' :=
  ⟨h.fb.turned ht h1 h2 h3, (ht.block _ (heap_lt h.box) h4).trans h.box, lies_turned h.es_ ht h5⟩
theorem FC.below {w W W' : World} {b1 b14 : Nat} {F T : Int} {u : Nat} {ev cv ev14 : Value} {enc : List Nat} {es : List Int} (h : FC w b1 b14 F T u ev cv ev14 enc es W) (hb : Below W.heap.size W W') : FC w b1 b14 F T u ev cv ev14 enc es W' :=
  ⟨h.fb.below hb, (hb.block _ (heap_lt h.box)).trans h.box, lies_below h.es_ hb⟩
/-- The list in the box b12, which is written over and grows. -/
def Xw (w1 : World) (b12 : Nat) (o : Option Nat) (F T : Int) (u : Nat) (W : World) (v : Value) (m : Nat) : Prop :=
  RwN w1 (fun k => o = some k ∨ k = b12) W v m ∧ W.heap[b12]? = some (oV F T u v) ∧ v.ownBlock ≠ some b12 ∧ b12 < w1.heap.size
section
variable {w1 W : World} {b12 : Nat} {o : Option Nat} {F T : Int} {u : Nat} {v : Value} {m : Nat}
theorem Xw.set {g n c i : Nat} (h : Xw w1 b12 o F T u W (.slice (some ⟨g, 0, none⟩) n c) m) (hi : i < m) (y : Int) :
    W.cell? ⟨b12, 3, none⟩ = some (.slice (some ⟨g, 0, none⟩) n c) ∧ (∃ x : Int, W.cell? ⟨g, i, none⟩ = some (.int .i64 x)) ∧ W.frozen? ⟨g, i, none⟩ = false ∧ Xw w1 b12 o F T u (W.setCell ⟨g, i, none⟩ (.int .i64 y)) (.slice (some ⟨g, 0, none⟩) n c) m := by
  obtain ⟨h1, h2, h3, h4⟩ := h
  obtain ⟨q1, q2, q3⟩ := Rw.set kitN (f := i64v) (fun _ => rfl) h1 hi y
  exact ⟨(oV_cells h2).2.2.2, q1, q2, q3, (heap_setCell_other _ _ _ _ (by show b12 ≠ g; exact fun e => h3 (by rw [e]; rfl))).trans h2, h3, h4⟩
theorem Xw.push (h : Xw w1 b12 o F T u W v m) (y : Int) (hm : m < 1000000) : W.cell? ⟨b12, 3, none⟩ = some v ∧ ∃ a' n' c' W', (∀ ty, (Builtin.append_ #[23, 23] ty #[v, .slice (some ⟨W.heap.size, 0, none⟩) 1 1]).run Try.prog (W.alloc (.cells #[.int .i64 y] 3)) = .ok (.slice a' n' c') W') ∧
    W'.cell? ⟨b12, 3, none⟩ = some v ∧ W'.frozen? ⟨b12, 3, none⟩ = false ∧ Xw w1 b12 o F T u (W'.setCell ⟨b12, 3, none⟩ (.slice a' n' c')) (.slice a' n' c') (m + 1) := by
  obtain ⟨h1, h2, h3, h4⟩ := h
  obtain ⟨a', n', c', W', r, q1, q2, q3⟩ := Rw.push (ts := 23) kitN Try.underlying23 infoN rfl (by omega) y (cs := #[.int .i64 y]) rfl h1 hm
  have hb := (q2.block _ (heap_lt h2) h3).trans h2
  have ho : (Value.slice a' n' c').ownBlock ≠ some b12 := fun e => (q3 _ e).elim h3 (fun q => by have := heap_lt h2; omega)
  refine ⟨(oV_cells h2).2.2.2, a', n', c', W', r, (oV_cells hb).2.2.2, frozen_of_row _ _ 3 _ _ hb, ?_, (heap_setCell_same W' b12 3 _ _ _ hb).trans rfl, ho, h4⟩
  obtain ⟨xs, e1, e2, e3, e4⟩ := q1
  refine ⟨xs, e1, rrow_kept e2 (fun b e => heap_setCell_other _ _ _ _ (by show b ≠ b12; exact fun q => ho (by rw [e, q]))), e3.trans (turned_setCell W' ⟨b12, 3, none⟩ _ (.inr rfl)), e4⟩
end
end Go.Proofs.Ytffdpfkcfohbiaa

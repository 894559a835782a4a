/- with and without over a store's rows. -/
import Derived.Test.YtagibmgbjhemkaaGreatStTurn
namespace Go.Proofs.YtagibmgbjhemkaaGreat
open Go.RowKit Go.Maps

/-- A rising list with e, without e. -/
def plus (l : List Int) (e : Int) : List Int := l.take (cnt ltN l e) ++ [e] ++ l.drop (cnt ltN l e)
def less (l : List Int) (e : Int) : List Int := l.take (cnt ltN l e) ++ l.drop (cnt ltN l e + 1)

/-- The same memory, behind some draws. -/
def Like (a b : World) : Prop := b.heap = a.heap ∧ b.os = a.os ∧ b.tape = a.tape ∧ b.output = a.output
theorem Like.below {a b : World} (h : Like a b) (B : Nat) : Below B a b := ⟨h.2.1, h.2.2.1, h.2.2.2, by rw [h.1]; exact Nat.le_refl _, fun k _ => by rw [h.1]⟩
theorem foots_like {w w' W : World} {L L' : Nat → Option Who} (hl : Like w W) (h : Foots W L w' L') : Foots w L w' L' :=
  (Foots.below L (hl.below _)).trans h
/-- The edge's own box. -/
theorem box_cells {w : World} {x : EdgeV} {b : Nat} (h : w.heap[b]? = some (oE x)) : w.cell? ⟨b, 0, none⟩ = some (.int .i64 x.1) ∧ w.cell? ⟨b, 1, none⟩ = some (.int .i64 x.2.1) ∧ w.cell? ⟨b, 2, none⟩ = some (.int .i64 x.2.2.1) ∧ w.cell? ⟨b, 3, none⟩ = some (.int .u32 x.2.2.2) ∧ ∀ o, w.frozen? ⟨b, o, none⟩ = false := cells34 h

section
variable [Inhabited EntI] {w w' : World} {X : Sto} {lo li : Int → List Int}
theorem StMid.like {W : World} (h : StMid w X lo li) (hl : Like w W) : StMid W X lo li := h.below (hl.below _)
theorem StMid.new {k : Nat} (h : StMid w X lo li) (hk : w.heap.size ≤ k) : X.L k = none := by
  cases e : X.L k with
  | none => rfl
  | some l => have := h.lt k (by rw [e]; simp); omega

theorem StMid.withOut {k e : Int} {q : Nat} (h : StMid w X lo li) (hk : X.f k = some q) (hl : (lo k).length ≤ 1000000) (hs : Rising ltN (lo k)) :
    Calls Tryz.prog 104 #[X.ro k, .int .i64 e] w fun r w3 => ∃ a3 n3 c3, r = .returned (.slice a3 n3 c3) ∧ w3.cell? ⟨q, 0, none⟩ = some (X.ro k) ∧ (∀ o, w3.frozen? ⟨q, o, none⟩ = false) ∧ (∀ c, c < w.heap.size → X.L c = none → w3.heap[c]? = w.heap[c]?) ∧
      Hid (StMid (w3.setCell ⟨q, 0, none⟩ (.slice a3 n3 c3)) (X.outs k (.slice a3 n3 c3)) (upd lo k (plus (lo k) e)) li ∧ Foots w X.L (w3.setCell ⟨q, 0, none⟩ (.slice a3 n3 c3)) (X.outs k (.slice a3 n3 c3)).L) := by
  refine (withN (X.ro k) (lo k) e w (h.out k q hk) hl hs).mono ?_
  rintro r w3 ⟨r3, rfl, hR⟩
  obtain ⟨a3, c3, e3, -⟩ := brow_shape (unhide hR).1
  obtain ⟨n3, hn3⟩ : ∃ n3, r3 = .slice a3 n3 c3 := ⟨_, e3⟩
  subst hn3
  obtain ⟨z1, z2, z3, z4⟩ := h.outTurn hk (unhide hR)
  exact ⟨a3, n3, c3, rfl, z1, z2, fun c hc hn => (unhide hR).2.1.block c hc (fun e => by rw [h.lout k q c hk e] at hn; cases hn), z3, z4⟩

theorem StMid.withInn {k e : Int} {q : Nat} (h : StMid w X lo li) (hk : X.f k = some q) (hl : (li k).length ≤ 1000000) (hs : Rising ltN (li k)) :
    Calls Tryz.prog 104 #[X.ri k, .int .i64 e] w fun r w3 => ∃ a3 n3 c3, r = .returned (.slice a3 n3 c3) ∧ w3.cell? ⟨q, 1, none⟩ = some (X.ri k) ∧ (∀ o, w3.frozen? ⟨q, o, none⟩ = false) ∧ (∀ c, c < w.heap.size → X.L c = none → w3.heap[c]? = w.heap[c]?) ∧
      Hid (StMid (w3.setCell ⟨q, 1, none⟩ (.slice a3 n3 c3)) (X.inns k (.slice a3 n3 c3)) lo (upd li k (plus (li k) e)) ∧ Foots w X.L (w3.setCell ⟨q, 1, none⟩ (.slice a3 n3 c3)) (X.inns k (.slice a3 n3 c3)).L) := by
  refine (withN (X.ri k) (li k) e w (h.inn k q hk) hl hs).mono ?_
  rintro r w3 ⟨r3, rfl, hR⟩
  obtain ⟨a3, c3, e3, -⟩ := brow_shape (unhide hR).1
  obtain ⟨n3, hn3⟩ : ∃ n3, r3 = .slice a3 n3 c3 := ⟨_, e3⟩
  subst hn3
  obtain ⟨z1, z2, z3, z4⟩ := h.innTurn hk (unhide hR)
  exact ⟨a3, n3, c3, rfl, z1, z2, fun c hc hn => (unhide hR).2.1.block c hc (fun e => by rw [h.linn k q c hk e] at hn; cases hn), z3, z4⟩

theorem StMid.withoutOut {k e : Int} {q : Nat} (h : StMid w X lo li) (hk : X.f k = some q) (hl : (lo k).length ≤ 1000000) (hs : Rising ltN (lo k)) (hx : e ∈ lo k) :
    Calls Tryz.prog 86 #[X.ro k, .int .i64 e] w fun r w3 => ∃ a3 n3 c3, r = .returned (.slice a3 n3 c3) ∧ w3.cell? ⟨q, 0, none⟩ = some (X.ro k) ∧ (∀ o, w3.frozen? ⟨q, o, none⟩ = false) ∧ (∀ c, c < w.heap.size → X.L c = none → w3.heap[c]? = w.heap[c]?) ∧
      Hid (StMid (w3.setCell ⟨q, 0, none⟩ (.slice a3 n3 c3)) (X.outs k (.slice a3 n3 c3)) (upd lo k (less (lo k) e)) li ∧ Foots w X.L (w3.setCell ⟨q, 0, none⟩ (.slice a3 n3 c3)) (X.outs k (.slice a3 n3 c3)).L) := by
  refine (withoutN (X.ro k) (lo k) e w (h.out k q hk) hl hs hx).mono ?_
  rintro r w3 ⟨r3, rfl, hR⟩
  obtain ⟨a3, c3, e3, -⟩ := brow_shape (unhide hR).1
  obtain ⟨n3, hn3⟩ : ∃ n3, r3 = .slice a3 n3 c3 := ⟨_, e3⟩
  subst hn3
  obtain ⟨z1, z2, z3, z4⟩ := h.outTurn hk (unhide hR)
  exact ⟨a3, n3, c3, rfl, z1, z2, fun c hc hn => (unhide hR).2.1.block c hc (fun e => by rw [h.lout k q c hk e] at hn; cases hn), z3, z4⟩

theorem StMid.withoutInn {k e : Int} {q : Nat} (h : StMid w X lo li) (hk : X.f k = some q) (hl : (li k).length ≤ 1000000) (hs : Rising ltN (li k)) (hx : e ∈ li k) :
    Calls Tryz.prog 86 #[X.ri k, .int .i64 e] w fun r w3 => ∃ a3 n3 c3, r = .returned (.slice a3 n3 c3) ∧ w3.cell? ⟨q, 1, none⟩ = some (X.ri k) ∧ (∀ o, w3.frozen? ⟨q, o, none⟩ = false) ∧ (∀ c, c < w.heap.size → X.L c = none → w3.heap[c]? = w.heap[c]?) ∧
      Hid (StMid (w3.setCell ⟨q, 1, none⟩ (.slice a3 n3 c3)) (X.inns k (.slice a3 n3 c3)) lo (upd li k (less (li k) e)) ∧ Foots w X.L (w3.setCell ⟨q, 1, none⟩ (.slice a3 n3 c3)) (X.inns k (.slice a3 n3 c3)).L) := by
  refine (withoutN (X.ri k) (li k) e w (h.inn k q hk) hl hs hx).mono ?_
  rintro r w3 ⟨r3, rfl, hR⟩
  obtain ⟨a3, c3, e3, -⟩ := brow_shape (unhide hR).1
  obtain ⟨n3, hn3⟩ : ∃ n3, r3 = .slice a3 n3 c3 := ⟨_, e3⟩
  subst hn3
  obtain ⟨z1, z2, z3, z4⟩ := h.innTurn hk (unhide hR)
  exact ⟨a3, n3, c3, rfl, z1, z2, fun c hc hn => (unhide hR).2.1.block c hc (fun e => by rw [h.linn k q c hk e] at hn; cases hn), z3, z4⟩
end
end Go.Proofs.YtagibmgbjhemkaaGreat

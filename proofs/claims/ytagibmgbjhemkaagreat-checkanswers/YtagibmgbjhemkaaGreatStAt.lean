/- A store in memory: its box, the table of edges, the map of vertices, the boxes of their ends, and the rows of numbers; each block is held by one of them. -/
import Derived.Test.YtagibmgbjhemkaaGreatMapP
namespace Go.Proofs.YtagibmgbjhemkaaGreat
open Go.RowKit Go.Maps

/-- Who holds a block: the box, the table, the map, or a vertex's box, its row of what leaves, of what enters. -/
structure Who where
  t : Nat
  k : Int
abbrev Who.box : Who := ⟨0, 0⟩
abbrev Who.tab : Who := ⟨1, 0⟩
abbrev Who.map : Who := ⟨2, 0⟩
abbrev Who.pair (k : Int) : Who := ⟨3, k⟩
abbrev Who.out (k : Int) : Who := ⟨4, k⟩
abbrev Who.inn (k : Int) : Who := ⟨5, k⟩

/-- Where a store lies, and what it says. -/
structure Sto where
  s : Nat
  t : Nat
  hp : Nat
  m : Nat
  v : Value
  ps : List (EdgeV × Bool)
  ms : List EntI
  n : Nat
  G : Nat → Prop
  f : Int → Option Nat
  N : Nat
  ro : Int → Value
  ri : Int → Value
  rd : Int
  wr : Int
  L : Nat → Option Who

/-- A store's memory; lo, li: the numbers in the rows of each vertex. -/
structure StMid [Inhabited EntI] (w : World) (X : Sto) (lo li : Int → List Int) : Prop where
  box : w.heap[X.s]? = some (.cells #[.pointer (some ⟨X.t, 0, none⟩), .map (some X.m), .int .i64 X.rd, .int .i64 X.wr] 81 (0, 0))
  tab : TAtE w X.t X.hp X.v 1024 X.ps X.ms X.n X.G
  map : MapFn 3 klN okN w X.m X.f X.N
  keys : ∀ k, X.f k ≠ none → 0 ≤ k ∧ k ≤ 2147483647
  pair : ∀ k q, X.f k = some q → w.heap[q]? = some (.cells #[X.ro k, X.ri k] 134 (0, 0))
  out : ∀ k q, X.f k = some q → NRow w (X.ro k) (lo k)
  inn : ∀ k q, X.f k = some q → NRow w (X.ri k) (li k)
  lbox : X.L X.s = some .box
  ltab : ∀ b, Feet X.t X.v X.G b → X.L b = some .tab
  lmap : X.L X.m = some .map
  lpair : ∀ k q, X.f k = some q → X.L q = some (.pair k)
  lout : ∀ k q b, X.f k = some q → (X.ro k).ownBlock = some b → X.L b = some (.out k)
  linn : ∀ k q b, X.f k = some q → (X.ri k).ownBlock = some b → X.L b = some (.inn k)
  lt : ∀ b, X.L b ≠ none → b < w.heap.size

structure StAt [Inhabited EntI] (w : World) (X : Sto) : Prop where
  mem : StMid w X (outs X.ps) (inns X.ps)
  edge : ∀ (i : Nat) (x : EdgeV), X.ps[i]? = some (x, true) → x.1 = (i : Int) + 1 ∧ X.f x.2.1 ≠ none ∧ X.f x.2.2.1 ≠ none
  size : X.N ≤ 256

/-- What a call leaves alone, whose blocks are whose. -/
def Foots (w : World) (L : Nat → Option Who) (w' : World) (L' : Nat → Option Who) : Prop := Turned (fun b => L b ≠ none) w w' ∧ ∀ b, L' b ≠ none → L b ≠ none ∨ w.heap.size ≤ b
theorem Foots.refl (w : World) (L : Nat → Option Who) : Foots w L w L := ⟨Turned.refl _ _, fun _ hb => .inl hb⟩
theorem Foots.below {w w' : World} (L : Nat → Option Who) (hb : Below w.heap.size w w') : Foots w L w' L := ⟨turned_of_below hb, fun _ hb => .inl hb⟩
theorem Foots.trans {w1 w2 w3 : World} {L1 L2 L3 : Nat → Option Who} (h : Foots w1 L1 w2 L2) (k : Foots w2 L2 w3 L3) : Foots w1 L1 w3 L3 := by
  obtain ⟨h3, h4⟩ := h
  obtain ⟨k3, k4⟩ := k
  refine ⟨?_, fun b hb => ?_⟩
  · exact h3.then_ k3 (fun i hi hs => (h4 i hs).elim id (fun e => absurd hi (by omega)))
  · rcases k4 b hb with e | e
    · exact h4 b e
    · exact .inr (Nat.le_trans h3.size e)
theorem Foots.old {w w' : World} {L L' : Nat → Option Who} (h : Foots w L w' L') {b : Nat} (hb : b < w.heap.size) (hn : L b = none) : w'.heap[b]? = w.heap[b]? ∧ L' b = none := by
  refine ⟨h.1.block b hb (fun e => e hn), ?_⟩
  cases e : L' b with
  | none => rfl
  | some l => exact ((h.2 b (by rw [e]; simp)).elim (fun e => absurd hn e) (fun e => absurd hb (by omega)))

section
variable [Inhabited EntI] {w w' : World} {X X' : Sto} {lo li : Int → List Int}

theorem StMid.ok (h : StMid w X lo li) {k : Int} {q : Nat} (hk : X.f k = some q) : okN k := by
  have := h.keys k (by rw [hk]; simp)
  exact okN_of this.1 this.2
theorem StMid.kept (h : StMid w X lo li) (hk : ∀ b, X.L b ≠ none → w'.heap[b]? = w.heap[b]?) (hs : w.heap.size ≤ w'.heap.size) : StMid w' X lo li := by
  have k1 : ∀ b l, X.L b = some l → w'.heap[b]? = w.heap[b]? := fun b l e => hk b (by rw [e]; simp)
  exact ⟨(k1 _ _ h.lbox).trans h.box, h.tab.kept (fun b hb => k1 _ _ (h.ltab b hb)), h.map.kept (k1 _ _ h.lmap), h.keys, fun k q e => (k1 _ _ (h.lpair k q e)).trans (h.pair k q e),
    fun k q e => nrow_kept (h.out k q e) (fun b hb => k1 _ _ (h.lout k q b e hb)), fun k q e => nrow_kept (h.inn k q e) (fun b hb => k1 _ _ (h.linn k q b e hb)),
    h.lbox, h.ltab, h.lmap, h.lpair, h.lout, h.linn, fun b hb => Nat.lt_of_lt_of_le (h.lt b hb) hs⟩
theorem StMid.below (h : StMid w X lo li) (hb : Below w.heap.size w w') : StMid w' X lo li := h.kept (fun b hb' => hb.block b (h.lt b hb')) hb.size
theorem StMid.draw (h : StMid w X lo li) (q : Nat) : StMid (w.drewN q) X lo li := h.below (below_drewN (Below.refl _ _) q)
theorem StMid.cells (h : StMid w X lo li) : w.cell? ⟨X.s, 0, none⟩ = some (.pointer (some ⟨X.t, 0, none⟩)) ∧ w.cell? ⟨X.s, 1, none⟩ = some (.map (some X.m)) ∧ w.cell? ⟨X.s, 2, none⟩ = some (.int .i64 X.rd) ∧ w.cell? ⟨X.s, 3, none⟩ = some (.int .i64 X.wr) ∧ ∀ o, w.frozen? ⟨X.s, o, none⟩ = false := by
  refine ⟨?_, ?_, ?_, ?_, fun o => frozen_of_row w _ o _ _ h.box⟩ <;> rw [cell_of_row w _ _ _ _ _ h.box] <;> rfl
theorem StMid.ends (h : StMid w X lo li) {k : Int} {q : Nat} (hk : X.f k = some q) : w.cell? ⟨q, 0, none⟩ = some (X.ro k) ∧ w.cell? ⟨q, 1, none⟩ = some (X.ri k) ∧ ∀ o, w.frozen? ⟨q, o, none⟩ = false := by
  refine ⟨?_, ?_, fun o => frozen_of_row w _ o _ _ (h.pair k q hk)⟩ <;> rw [cell_of_row w _ _ _ _ _ (h.pair k q hk)] <;> rfl
theorem StMid.look (h : StMid w X lo li) (k : Int) (hk : okN k) : (Instr.lookup 79 (.map (some X.m)) (.int .i64 k) false).run Tryz.prog w = .ok (ptr (X.f k)) w := h.map.look kitN Tryz.underlying79 zeroENP k hk
theorem StMid.look2 (h : StMid w X lo li) (k : Int) (hk : okN k) : (Instr.lookup 79 (.map (some X.m)) (.int .i64 k) true).run Tryz.prog w = .ok (.tuple #[ptr (X.f k), .bool (X.f k).isSome]) w := h.map.look2 kitN Tryz.underlying79 zeroENP k hk

theorem StAt.ok (h : StAt w X) {k : Int} {q : Nat} (hk : X.f k = some q) : okN k := h.mem.ok hk
theorem StAt.below (h : StAt w X) (hb : Below w.heap.size w w') : StAt w' X := ⟨h.mem.below hb, h.edge, h.size⟩
theorem StAt.kept (h : StAt w X) (hk : ∀ b, X.L b ≠ none → w'.heap[b]? = w.heap[b]?) (hs : w.heap.size ≤ w'.heap.size) : StAt w' X := ⟨h.mem.kept hk hs, h.edge, h.size⟩
theorem StAt.cells (h : StAt w X) : w.cell? ⟨X.s, 0, none⟩ = some (.pointer (some ⟨X.t, 0, none⟩)) ∧ w.cell? ⟨X.s, 1, none⟩ = some (.map (some X.m)) ∧ w.cell? ⟨X.s, 2, none⟩ = some (.int .i64 X.rd) ∧ w.cell? ⟨X.s, 3, none⟩ = some (.int .i64 X.wr) ∧ ∀ o, w.frozen? ⟨X.s, o, none⟩ = false := h.mem.cells
theorem StAt.look2 (h : StAt w X) (k : Int) (hk : okN k) : (Instr.lookup 79 (.map (some X.m)) (.int .i64 k) true).run Tryz.prog w = .ok (.tuple #[ptr (X.f k), .bool (X.f k).isSome]) w := h.mem.look2 k hk
theorem StAt.tab (h : StAt w X) : TAtE w X.t X.hp X.v 1024 X.ps X.ms X.n X.G := h.mem.tab

/-- What a call leaves. -/
def Step (w : World) (X : Sto) (w' : World) (X' : Sto) : Prop := StAt w' X' ∧ X'.s = X.s ∧ Foots w X.L w' X'.L
theorem Step.refl (h : StAt w X) : Step w X w X := ⟨h, rfl, Foots.refl _ _⟩
theorem Step.below (h : StAt w X) (hb : Below w.heap.size w w') : Step w X w' X := ⟨h.below hb, rfl, Foots.below _ hb⟩
theorem Step.trans {w1 w2 w3 : World} {X1 X2 X3 : Sto} (h : Step w1 X1 w2 X2) (k : Step w2 X2 w3 X3) : Step w1 X1 w3 X3 := ⟨k.1, k.2.1.trans h.2.1, h.2.2.trans k.2.2⟩
end

/-- A function, elsewhere at k. -/
def upd {α β : Type} [DecidableEq α] (f : α → β) (k : α) (y : β) : α → β := fun x => if x = k then y else f x
theorem upd_self {α β : Type} [DecidableEq α] (f : α → β) (k : α) (y : β) : upd f k y k = y := if_pos rfl
theorem upd_ne {α β : Type} [DecidableEq α] (f : α → β) {k x : α} (y : β) (h : x ≠ k) : upd f k y x = f x := if_neg h
end Go.Proofs.YtagibmgbjhemkaaGreat

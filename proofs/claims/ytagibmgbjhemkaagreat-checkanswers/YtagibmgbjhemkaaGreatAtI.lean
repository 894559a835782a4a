/- A heap in memory (keys of one type, ranks of int). -/
import Derived.Test.YtagibmgbjhemkaaGreatBase
namespace Go.Proofs.YtagibmgbjhemkaaGreat
open Go.RowKit Go.Maps

abbrev EntI := Ent Int Int
def klI : Int → Lit := (fun k : Int => Lit.int .i64 k)
def KeyOkI : Int → Prop := (fun k : Int => (Lit.int .i64 k).wf = true)
def encI (es : List EntI) : List Value := enc3 (fun e => .int .i64 (e.key)) (fun e => .int .i64 e.rank) (fun e => .int .i64 e.turn) es
theorem lawI : Keyed Tryz.prog 3 := int_keyed Tryz.underlying3
theorem keyI {k : Int} (h : KeyOkI k) : keyOf Tryz.prog 3 (.int .i64 (k)) = some (klI k) := keyOf_int_mk Tryz.underlying3 h
theorem injI (a b : Int) (h : klI a = klI b) : a = b := by
  simpa [klI] using h
theorem litI (k : Int) : WideAt.IsKeyLit (klI k) := by simp [klI, WideAt.IsKeyLit]

/-- At p stands a heap; its rank's order lv, its entries' row v, its map in the block m; n keys were put in ever. -/
structure HAtI [Inhabited EntI] (w : World) (p m : Nat) (lv v : Value) (es : List EntI) (n : Nat) : Prop where
  box : w.heap[p]? = some (.cells #[lv, v, .map (some m), .int .i64 n] 183 (0, 0))
  row : w.ownsRow 0 190 3 v es.length (encI es)
  map : ∃ D, w.ownsMap Tryz.prog 3 (plainElem Tryz.prog 3) m es.length D ∧ MapIs klI D es
  keys : ∀ i, i < es.length → KeyOkI (at_ es i).key
  ne1 : v.ownBlock ≠ some p
  ne2 : v.ownBlock ≠ some m
  ne3 : m ≠ p



theorem HAtI.cells [Inhabited EntI] {w : World} {p m : Nat} {lv v : Value} {es : List EntI} {n : Nat} (h : HAtI w p m lv v es n) :
    w.cell? ⟨p, 0, none⟩ = some lv ∧ w.cell? ⟨p, 1, none⟩ = some v ∧ w.cell? ⟨p, 2, none⟩ = some (.map (some m)) ∧ w.cell? ⟨p, 3, none⟩ = some (.int .i64 n) ∧ ∀ o, w.frozen? ⟨p, o, none⟩ = false := by
  refine ⟨?_, ?_, ?_, ?_, fun o => frozen_of_row w p o _ _ h.box⟩ <;> rw [cell_of_row w p _ _ _ _ h.box] <;> rfl

theorem HAtI.lt [Inhabited EntI] {w : World} {p m : Nat} {lv v : Value} {es : List EntI} {n : Nat} (h : HAtI w p m lv v es n) {k : Nat} (hk : Foot p m v k) : k < w.heap.size := by
  rcases hk with rfl | rfl | hk
  · exact (Array.getElem?_eq_some_iff.1 h.box).1
  · obtain ⟨D, hD, -⟩ := h.map; exact hD.lt
  · exact (h.row.lt k hk).2

theorem HAtI.kept [Inhabited EntI] {w w' : World} {p m : Nat} {lv v : Value} {es : List EntI} {n : Nat} (h : HAtI w p m lv v es n) (hk : ∀ k, Foot p m v k → w'.heap[k]? = w.heap[k]?) : HAtI w' p m lv v es n := by
  obtain ⟨D, hD, hM⟩ := h.map
  refine ⟨(hk p (.inl rfl)).trans h.box, ⟨h.row.1, ?_⟩, ⟨D, ?_, hM⟩, h.keys, h.ne1, h.ne2, h.ne3⟩
  · rcases h.row.2 with hn | ⟨g, cap, cur, rfl, hb, hgg, rest⟩
    · exact .inl hn
    · exact .inr ⟨g, cap, cur, rfl, hb, (hk g (.inr (.inr rfl))).trans hgg, rest⟩
  · obtain ⟨es', clock, h1, h2⟩ := hD
    exact ⟨es', clock, (hk m (.inr (.inl rfl))).trans h1, h2⟩

theorem HAtI.drewN [Inhabited EntI] {w : World} {p m : Nat} {lv v : Value} {es : List EntI} {n : Nat} (h : HAtI w p m lv v es n) (q : Nat) : HAtI (w.drewN q) p m lv v es n := h.kept (fun _ _ => rfl)

/-- Where there are entries: their cells. -/
theorem HAtI.some_ [Inhabited EntI] {w : World} {p m : Nat} {lv v : Value} {es : List EntI} {n : Nat} (h : HAtI w p m lv v es n) (h0 : 0 < es.length) :
    ∃ b c, v = .slice (some ⟨b, 0, none⟩) es.length c ∧ b ≠ p ∧ b ≠ m ∧ es.length ≤ c ∧ c ≤ maxLen ∧ (∀ o, w.frozen? ⟨b, o, none⟩ = false) ∧
      ∀ i, i < es.length → w.cell? ⟨b, i * 3, none⟩ = some (.int .i64 ((at_ es i).key)) ∧ w.cell? ⟨b, i * 3 + 1, none⟩ = some (.int .i64 (at_ es i).rank) ∧ w.cell? ⟨b, i * 3 + 2, none⟩ = some (.int .i64 (at_ es i).turn) := by
  have hr := h.row
  have h1 := h.ne1
  have h2 := h.ne2
  rcases h.row.2 with ⟨-, h3⟩ | ⟨g, cap, cur, rfl, -, hg, hc, hm, -⟩
  · omega
  · have add : ∀ j, (⟨g, 0, none⟩ : Addr).add j = ⟨g, j, none⟩ := fun j => by unfold Addr.add; split <;> simp_all
    refine ⟨g, cap, rfl, fun e => h1 (by simp [Value.ownBlock, e]), fun e => h2 (by simp [Value.ownBlock, e]), hc, hm, fun o => frozen_of_row w g o _ _ hg, fun i hi => ?_⟩
    have hcl := hr.cells (g := g) rfl
    obtain ⟨e1, e2, e3⟩ := enc3_at (fun e : EntI => .int .i64 (e.key)) (fun e => .int .i64 e.rank) (fun e => .int .i64 e.turn) es i hi
    have f1 := hcl _ _ e1
    have f2 := hcl _ _ e2
    have f3 := hcl _ _ e3
    rw [add] at f1 f2 f3
    exact ⟨f1, f2, f3⟩
end Go.Proofs.YtagibmgbjhemkaaGreat

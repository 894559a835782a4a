/- A heap in memory (keys of one type, ranks of int). -/
import Derived.Test.YtfhpabcjbjmcmaaFour
namespace Go.Proofs.Ytfhpabcjbjmcmaa
open Go.RowKit Go.Maps

abbrev EntT := Ent ByteArray (Int × Int)
def klT : ByteArray → Lit := (fun k : ByteArray => Lit.string k.data.toList)
def KeyOkT : ByteArray → Prop := (fun k : ByteArray => k.size ≤ maxLen)
def encT (es : List EntT) : List Value := enc4 (fun e => .string (e.key)) (fun e => .int .i64 e.rank.1) (fun e => .int .i64 e.rank.2) (fun e => .int .i64 e.turn) es
theorem lawT : Keyed Try.prog 9 := string_keyed Try.underlying9
theorem keyT {k : ByteArray} (h : KeyOkT k) : keyOf Try.prog 9 (.string (k)) = some (klT k) := WideMaps.keyOf_string_mk Try.underlying9 h
theorem injT (a b : ByteArray) (h : klT a = klT b) : a = b := by
  have h1 : a.data.toList = b.data.toList := by simpa [klT] using h
  have h2 := Array.toList_inj.1 h1
  cases a; cases b; simp_all
theorem litT (k : ByteArray) : WideAt.IsKeyLit (klT k) := by simp [klT, WideAt.IsKeyLit]

/-- At p stands a heap; its rank's order lv, its entries' row v, its map in the block m; n keys were put in ever. -/
structure HAtT [Inhabited EntT] (w : World) (p m : Nat) (lv v : Value) (es : List EntT) (n : Nat) : Prop where
  box : w.heap[p]? = some (.cells #[lv, v, .map (some m), .int .i64 n] 79 (0, 0))
  row : w.ownsRow 0 81 4 v es.length (encT es)
  map : ∃ D, w.ownsMap Try.prog 9 (plainElem Try.prog 3) m es.length D ∧ MapIs klT D es
  keys : ∀ i, i < es.length → KeyOkT (at_ es i).key
  ne1 : v.ownBlock ≠ some p
  ne2 : v.ownBlock ≠ some m
  ne3 : m ≠ p



theorem HAtT.cells [Inhabited EntT] {w : World} {p m : Nat} {lv v : Value} {es : List EntT} {n : Nat} (h : HAtT w p m lv v es n) :
    w.cell? ⟨p, 0, none⟩ = some lv ∧ w.cell? ⟨p, 1, none⟩ = some v ∧ w.cell? ⟨p, 2, none⟩ = some (.map (some m)) ∧ w.cell? ⟨p, 3, none⟩ = some (.int .i64 n) ∧ ∀ o, w.frozen? ⟨p, o, none⟩ = false := by
  refine ⟨?_, ?_, ?_, ?_, fun o => frozen_of_row w p o _ _ h.box⟩ <;> rw [cell_of_row w p _ _ _ _ h.box] <;> rfl

theorem HAtT.lt [Inhabited EntT] {w : World} {p m : Nat} {lv v : Value} {es : List EntT} {n : Nat} (h : HAtT w p m lv v es n) {k : Nat} (hk : Foot p m v k) : k < w.heap.size := by
  rcases hk with rfl | rfl | hk
  · exact (Array.getElem?_eq_some_iff.1 h.box).1
  · obtain ⟨D, hD, -⟩ := h.map; exact hD.lt
  · exact (h.row.lt k hk).2

theorem HAtT.kept [Inhabited EntT] {w w' : World} {p m : Nat} {lv v : Value} {es : List EntT} {n : Nat} (h : HAtT w p m lv v es n) (hk : ∀ k, Foot p m v k → w'.heap[k]? = w.heap[k]?) : HAtT w' p m lv v es n := by
  obtain ⟨D, hD, hM⟩ := h.map
  refine ⟨(hk p (.inl rfl)).trans h.box, ⟨h.row.1, ?_⟩, ⟨D, ?_, hM⟩, h.keys, h.ne1, h.ne2, h.ne3⟩
  · rcases h.row.2 with hn | ⟨g, cap, cur, rfl, hb, hgg, rest⟩
    · exact .inl hn
    · exact .inr ⟨g, cap, cur, rfl, hb, (hk g (.inr (.inr rfl))).trans hgg, rest⟩
  · obtain ⟨es', clock, h1, h2⟩ := hD
    exact ⟨es', clock, (hk m (.inr (.inl rfl))).trans h1, h2⟩

theorem HAtT.below [Inhabited EntT] {w w' : World} {p m : Nat} {lv v : Value} {es : List EntT} {n : Nat} (h : HAtT w p m lv v es n) (hb : Below w.heap.size w w') : HAtT w' p m lv v es n := h.kept (fun _ hk => hb.block _ (h.lt hk))
theorem HAtT.drewN [Inhabited EntT] {w : World} {p m : Nat} {lv v : Value} {es : List EntT} {n : Nat} (h : HAtT w p m lv v es n) (q : Nat) : HAtT (w.drewN q) p m lv v es n := h.kept (fun _ _ => rfl)

/-- Where there are entries: their cells. -/
theorem HAtT.some_ [Inhabited EntT] {w : World} {p m : Nat} {lv v : Value} {es : List EntT} {n : Nat} (h : HAtT w p m lv v es n) (h0 : 0 < es.length) :
    ∃ b c, v = .slice (some ⟨b, 0, none⟩) es.length c ∧ b ≠ p ∧ b ≠ m ∧ es.length ≤ c ∧ c ≤ maxLen ∧ (∀ o, w.frozen? ⟨b, o, none⟩ = false) ∧
      ∀ i, i < es.length → w.cell? ⟨b, i * 4, none⟩ = some (.string ((at_ es i).key)) ∧ w.cell? ⟨b, i * 4 + 1, none⟩ = some (.int .i64 (at_ es i).rank.1) ∧ w.cell? ⟨b, i * 4 + 2, none⟩ = some (.int .i64 (at_ es i).rank.2) ∧ w.cell? ⟨b, i * 4 + 3, none⟩ = some (.int .i64 (at_ es i).turn) := by
  have hr := h.row
  have h1 := h.ne1
  have h2 := h.ne2
  rcases h.row.2 with ⟨-, h3⟩ | ⟨g, cap, cur, rfl, -, hg, hc, hm, -⟩
  · omega
  · have add : ∀ j, (⟨g, 0, none⟩ : Addr).add j = ⟨g, j, none⟩ := fun j => by unfold Addr.add; split <;> simp_all
    refine ⟨g, cap, rfl, fun e => h1 (by simp [Value.ownBlock, e]), fun e => h2 (by simp [Value.ownBlock, e]), hc, hm, fun o => frozen_of_row w g o _ _ hg, fun i hi => ?_⟩
    have hcl := hr.cells (g := g) rfl
    obtain ⟨e1, e2, e3, e4⟩ := enc4_at (fun e : EntT => .string (e.key)) (fun e => .int .i64 e.rank.1) (fun e => .int .i64 e.rank.2) (fun e => .int .i64 e.turn) es i hi
    have f1 := hcl _ _ e1
    have f2 := hcl _ _ e2
    have f3 := hcl _ _ e3
    have f4 := hcl _ _ e4
    rw [add] at f1 f2 f3 f4
    exact ⟨f1, f2, f3, f4⟩
end Go.Proofs.Ytfhpabcjbjmcmaa

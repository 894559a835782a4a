/- A heap in memory (keys of one type, ranks of int). -/
import Derived.Test.YtfhpabcjbjmcmaaBase
namespace Go.Proofs.Ytfhpabcjbjmcmaa
open Go.RowKit Go.Maps

abbrev EntS := Ent ByteArray Int
def klS : ByteArray → Lit := (fun k : ByteArray => Lit.string k.data.toList)
def KeyOkS : ByteArray → Prop := (fun k : ByteArray => k.size ≤ maxLen)
def encS (es : List EntS) : List Value := enc3 (fun e => .string (e.key)) (fun e => .int .i64 e.rank) (fun e => .int .i64 e.turn) es
theorem lawS : Keyed Try.prog 9 := string_keyed Try.underlying9
theorem keyS {k : ByteArray} (h : KeyOkS k) : keyOf Try.prog 9 (.string (k)) = some (klS k) := WideMaps.keyOf_string_mk Try.underlying9 h
theorem injS (a b : ByteArray) (h : klS a = klS b) : a = b := by
  have h1 : a.data.toList = b.data.toList := by simpa [klS] using h
  have h2 := Array.toList_inj.1 h1
  cases a; cases b; simp_all
theorem litS (k : ByteArray) : WideAt.IsKeyLit (klS k) := by simp [klS, WideAt.IsKeyLit]

/-- At p stands a heap; its rank's order lv, its entries' row v, its map in the block m; n keys were put in ever. -/
structure HAtS [Inhabited EntS] (w : World) (p m : Nat) (lv v : Value) (es : List EntS) (n : Nat) : Prop where
  box : w.heap[p]? = some (.cells #[lv, v, .map (some m), .int .i64 n] 84 (0, 0))
  row : w.ownsRow 0 86 3 v es.length (encS es)
  map : ∃ D, w.ownsMap Try.prog 9 (plainElem Try.prog 3) m es.length D ∧ MapIs klS D es
  keys : ∀ i, i < es.length → KeyOkS (at_ es i).key
  ne1 : v.ownBlock ≠ some p
  ne2 : v.ownBlock ≠ some m
  ne3 : m ≠ p



theorem HAtS.cells [Inhabited EntS] {w : World} {p m : Nat} {lv v : Value} {es : List EntS} {n : Nat} (h : HAtS w p m lv v es n) :
    w.cell? ⟨p, 0, none⟩ = some lv ∧ w.cell? ⟨p, 1, none⟩ = some v ∧ w.cell? ⟨p, 2, none⟩ = some (.map (some m)) ∧ w.cell? ⟨p, 3, none⟩ = some (.int .i64 n) ∧ ∀ o, w.frozen? ⟨p, o, none⟩ = false := by
  refine ⟨?_, ?_, ?_, ?_, fun o => frozen_of_row w p o _ _ h.box⟩ <;> rw [cell_of_row w p _ _ _ _ h.box] <;> rfl

theorem HAtS.lt [Inhabited EntS] {w : World} {p m : Nat} {lv v : Value} {es : List EntS} {n : Nat} (h : HAtS w p m lv v es n) {k : Nat} (hk : Foot p m v k) : k < w.heap.size := by
  rcases hk with rfl | rfl | hk
  · exact (Array.getElem?_eq_some_iff.1 h.box).1
  · obtain ⟨D, hD, -⟩ := h.map; exact hD.lt
  · exact (h.row.lt k hk).2

theorem HAtS.kept [Inhabited EntS] {w w' : World} {p m : Nat} {lv v : Value} {es : List EntS} {n : Nat} (h : HAtS w p m lv v es n) (hk : ∀ k, Foot p m v k → w'.heap[k]? = w.heap[k]?) : HAtS w' p m lv v es n := by
  obtain ⟨D, hD, hM⟩ := h.map
  refine ⟨(hk p (.inl rfl)).trans h.box, ⟨h.row.1, ?_⟩, ⟨D, ?_, hM⟩, h.keys, h.ne1, h.ne2, h.ne3⟩
  · rcases h.row.2 with hn | ⟨g, cap, cur, rfl, hb, hgg, rest⟩
    · exact .inl hn
    · exact .inr ⟨g, cap, cur, rfl, hb, (hk g (.inr (.inr rfl))).trans hgg, rest⟩
  · obtain ⟨es', clock, h1, h2⟩ := hD
    exact ⟨es', clock, (hk m (.inr (.inl rfl))).trans h1, h2⟩

theorem HAtS.drewN [Inhabited EntS] {w : World} {p m : Nat} {lv v : Value} {es : List EntS} {n : Nat} (h : HAtS w p m lv v es n) (q : Nat) : HAtS (w.drewN q) p m lv v es n := h.kept (fun _ _ => rfl)

/-- Where there are entries: their cells. -/
theorem HAtS.some_ [Inhabited EntS] {w : World} {p m : Nat} {lv v : Value} {es : List EntS} {n : Nat} (h : HAtS w p m lv v es n) (h0 : 0 < es.length) :
    ∃ b c, v = .slice (some ⟨b, 0, none⟩) es.length c ∧ b ≠ p ∧ b ≠ m ∧ es.length ≤ c ∧ c ≤ maxLen ∧ (∀ o, w.frozen? ⟨b, o, none⟩ = false) ∧
      ∀ i, i < es.length → w.cell? ⟨b, i * 3, none⟩ = some (.string ((at_ es i).key)) ∧ w.cell? ⟨b, i * 3 + 1, none⟩ = some (.int .i64 (at_ es i).rank) ∧ w.cell? ⟨b, i * 3 + 2, none⟩ = some (.int .i64 (at_ es i).turn) := by
  have hr := h.row
  have h1 := h.ne1
  have h2 := h.ne2
  rcases h.row.2 with ⟨-, h3⟩ | ⟨g, cap, cur, rfl, -, hg, hc, hm, -⟩
  · omega
  · have add : ∀ j, (⟨g, 0, none⟩ : Addr).add j = ⟨g, j, none⟩ := fun j => by unfold Addr.add; split <;> simp_all
    refine ⟨g, cap, rfl, fun e => h1 (by simp [Value.ownBlock, e]), fun e => h2 (by simp [Value.ownBlock, e]), hc, hm, fun o => frozen_of_row w g o _ _ hg, fun i hi => ?_⟩
    have hcl := hr.cells (g := g) rfl
    obtain ⟨e1, e2, e3⟩ := enc3_at (fun e : EntS => .string (e.key)) (fun e => .int .i64 e.rank) (fun e => .int .i64 e.turn) es i hi
    have f1 := hcl _ _ e1
    have f2 := hcl _ _ e2
    have f3 := hcl _ _ e3
    rw [add] at f1 f2 f3
    exact ⟨f1, f2, f3⟩
end Go.Proofs.Ytfhpabcjbjmcmaa

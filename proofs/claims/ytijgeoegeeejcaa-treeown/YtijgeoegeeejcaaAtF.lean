/- A heap in memory (keys of one type, ranks of int). -/
import Derived.Test.YtijgeoegeeejcaaBase
namespace Go.Proofs.Ytijgeoegeeejcaa
open Go.RowKit Go.Maps

theorem run_storeF (w : World) (a : Addr) (n : Nat) (m : Mode) : (store a (.float .f32 n) m).run Try.prog w = stored Try.prog w a (.float .f32 n) m := run_store Try.prog w a (.float .f32 n) m rfl
/-- A rank is a word; what is more than +Inf counts as it. -/
def cfl (r : Nat) : Nat := min r 2139095040
def gf (r : Nat) : Int := (cfl r : Int)
/-- A function value that answers whether one rank is before another, and turns nothing. -/
def LessF (lv : Value) (gg : Nat → Int) : Prop := ∃ (g : Nat) (cb : Array Value), lv = .func (.func g) #[] cb ∧ (∀ args w, (callFunc g args).run Try.prog w = .ok (.enter g args) w) ∧
  ∀ (x y : Nat) (w : World), Calls Try.prog g (#[.float .f32 (cfl x), .float .f32 (cfl y)] ++ cb) w fun e w' => e = .returned (.bool (decide (gg x < gg y))) ∧ w' = w
abbrev EntF := Ent Int Nat
def klF : Int → Lit := (fun k : Int => Lit.int .i64 k)
def KeyOkF : Int → Prop := (fun k : Int => (Lit.int .i64 k).wf = true)
def encF (es : List EntF) : List Value := enc3 (fun e => .int .i64 (e.key)) (fun e => .float .f32 (cfl e.rank)) (fun e => .int .i64 e.turn) es
theorem lawF : Keyed Try.prog 3 := int_keyed Try.underlying3
theorem keyF {k : Int} (h : KeyOkF k) : keyOf Try.prog 3 (.int .i64 (k)) = some (klF k) := keyOf_int_mk Try.underlying3 h
theorem injF (a b : Int) (h : klF a = klF b) : a = b := by
  simpa [klF] using h
theorem litF (k : Int) : WideAt.IsKeyLit (klF k) := by simp [klF, WideAt.IsKeyLit]

/-- At p stands a heap; its rank's order lv, its entries' row v, its map in the block m; n keys were put in ever. -/
structure HAtF [Inhabited EntF] (w : World) (p m : Nat) (lv v : Value) (es : List EntF) (n : Nat) : Prop where
  box : w.heap[p]? = some (.cells #[lv, v, .map (some m), .int .i64 n] 116 (0, 0))
  row : w.ownsRow 0 118 3 v es.length (encF es)
  map : ∃ D, w.ownsMap Try.prog 3 (plainElem Try.prog 3) m es.length D ∧ MapIs klF D es
  keys : ∀ i, i < es.length → KeyOkF (at_ es i).key
  ne1 : v.ownBlock ≠ some p
  ne2 : v.ownBlock ≠ some m
  ne3 : m ≠ p



theorem HAtF.cells [Inhabited EntF] {w : World} {p m : Nat} {lv v : Value} {es : List EntF} {n : Nat} (h : HAtF w p m lv v es n) :
    w.cell? ⟨p, 0, none⟩ = some lv ∧ w.cell? ⟨p, 1, none⟩ = some v ∧ w.cell? ⟨p, 2, none⟩ = some (.map (some m)) ∧ w.cell? ⟨p, 3, none⟩ = some (.int .i64 n) ∧ ∀ o, w.frozen? ⟨p, o, none⟩ = false := by
  refine ⟨?_, ?_, ?_, ?_, fun o => frozen_of_row w p o _ _ h.box⟩ <;> rw [cell_of_row w p _ _ _ _ h.box] <;> rfl

theorem HAtF.lt [Inhabited EntF] {w : World} {p m : Nat} {lv v : Value} {es : List EntF} {n : Nat} (h : HAtF w p m lv v es n) {k : Nat} (hk : Foot p m v k) : k < w.heap.size := by
  rcases hk with rfl | rfl | hk
  · exact (Array.getElem?_eq_some_iff.1 h.box).1
  · obtain ⟨D, hD, -⟩ := h.map; exact hD.lt
  · exact (h.row.lt k hk).2

theorem HAtF.kept [Inhabited EntF] {w w' : World} {p m : Nat} {lv v : Value} {es : List EntF} {n : Nat} (h : HAtF w p m lv v es n) (hk : ∀ k, Foot p m v k → w'.heap[k]? = w.heap[k]?) : HAtF w' p m lv v es n := by
  obtain ⟨D, hD, hM⟩ := h.map
  refine ⟨(hk p (.inl rfl)).trans h.box, ⟨h.row.1, ?_⟩, ⟨D, ?_, hM⟩, h.keys, h.ne1, h.ne2, h.ne3⟩
  · rcases h.row.2 with hn | ⟨g, cap, cur, rfl, hb, hgg, rest⟩
    · exact .inl hn
    · exact .inr ⟨g, cap, cur, rfl, hb, (hk g (.inr (.inr rfl))).trans hgg, rest⟩
  · obtain ⟨es', clock, h1, h2⟩ := hD
    exact ⟨es', clock, (hk m (.inr (.inl rfl))).trans h1, h2⟩

theorem HAtF.drewN [Inhabited EntF] {w : World} {p m : Nat} {lv v : Value} {es : List EntF} {n : Nat} (h : HAtF w p m lv v es n) (q : Nat) : HAtF (w.drewN q) p m lv v es n := h.kept (fun _ _ => rfl)

/-- Where there are entries: their cells. -/
theorem HAtF.some_ [Inhabited EntF] {w : World} {p m : Nat} {lv v : Value} {es : List EntF} {n : Nat} (h : HAtF w p m lv v es n) (h0 : 0 < es.length) :
    ∃ b c, v = .slice (some ⟨b, 0, none⟩) es.length c ∧ b ≠ p ∧ b ≠ m ∧ es.length ≤ c ∧ c ≤ maxLen ∧ (∀ o, w.frozen? ⟨b, o, none⟩ = false) ∧
      ∀ i, i < es.length → w.cell? ⟨b, i * 3, none⟩ = some (.int .i64 ((at_ es i).key)) ∧ w.cell? ⟨b, i * 3 + 1, none⟩ = some (.float .f32 (cfl (at_ es i).rank)) ∧ w.cell? ⟨b, i * 3 + 2, none⟩ = some (.int .i64 (at_ es i).turn) := by
  have hr := h.row
  have h1 := h.ne1
  have h2 := h.ne2
  rcases h.row.2 with ⟨-, h3⟩ | ⟨g, cap, cur, rfl, -, hg, hc, hm, -⟩
  · omega
  · have add : ∀ j, (⟨g, 0, none⟩ : Addr).add j = ⟨g, j, none⟩ := fun j => by unfold Addr.add; split <;> simp_all
    refine ⟨g, cap, rfl, fun e => h1 (by simp [Value.ownBlock, e]), fun e => h2 (by simp [Value.ownBlock, e]), hc, hm, fun o => frozen_of_row w g o _ _ hg, fun i hi => ?_⟩
    have hcl := hr.cells (g := g) rfl
    obtain ⟨e1, e2, e3⟩ := enc3_at (fun e : EntF => .int .i64 (e.key)) (fun e => .float .f32 (cfl e.rank)) (fun e => .int .i64 e.turn) es i hi
    have f1 := hcl _ _ e1
    have f2 := hcl _ _ e2
    have f3 := hcl _ _ e3
    rw [add] at f1 f2 f3
    exact ⟨f1, f2, f3⟩
end Go.Proofs.Ytijgeoegeeejcaa

/- Lists of numbers and of edges that came in. -/
import Derived.Test.YtijgeoegeeejcaaPath13
import Derived.Test.YtijgeoegeeejcaaFrame7
import Derived.Deep.Slices
import Derived.Deep.Strs
namespace Go.Proofs.Ytijgeoegeeejcaa
open Go.ChangeShapes Go.WideShapes Go.ChangeAt Go.RowKit

theorem cellsOf3 : Try.prog.cellsOf 3 = 1 := by kernel_rfl
theorem bytes3 : Try.prog.bytesOf 3 = 8 := by kernel_rfl
theorem cellsOfED : Try.prog.cellsOf 42 = 4 := by kernel_rfl
theorem cellsOfU : Try.prog.cellsOf 37 = 1 := by kernel_rfl
theorem bytes42 : Try.prog.bytesOf 42 = 32 := by kernel_rfl
theorem addr_none {w : World} {x : Addr} {k : Nat} {v : Value} (h : w.cell? (x.add (0 * k)) = some v) : x.spot = none := by
  have := World.cell?_spot h
  simpa [Addr.add] using this
theorem add_off (b off j : Nat) : (⟨b, off, none⟩ : Addr).add j = ⟨b, off + j, none⟩ := by
  unfold Addr.add; split <;> simp_all
/-- It is empty; or its cells are these values. -/
def IsCells (w : World) (a : Option Addr) (len : Nat) (v : Nat → Value) : Prop :=
  len = 0 ∨ ∃ b off, a = some ⟨b, off, none⟩ ∧ 0 < len ∧ ∀ i, i < len → w.cell? ⟨b, off + i, none⟩ = some (v i)

/-- A slice whose elements are one cell each, opened. -/
theorem open_one {H : Type} {enc : TypeId × Value → H} {W : World} {spare : Nat → Bool} {held : Bool} {a : Option Addr} {len cap : Nat} {d : DataW H} {p : List MemPlace} {t e : TypeId} {α : Type} [Inhabited α] (f : α → Value) (ht : Try.prog.underlying t = some (.slice e)) (he : Try.prog.cellsOf e = 1)
    (hf : ∀ n (u : Value) y, DataW.trod enc Try.prog W 0 spare held n e [u] = some y → ∃ x, u = f x) (h : DataW.Trod enc Try.prog W 0 spare held t (.slice a len cap) d p) :
    ∃ z : Nat → α, IsCells W a len (fun i => f (z i)) ∧ (d = .nil ∧ len = 0 ∨ ∃ es sp, d = .slice es sp ∧ len ≤ es.length) := by
  obtain ⟨fuel, hf0⟩ := h
  rcases Deep.open_slice1 ht he hf0 with ⟨hcs, hx⟩ | ⟨x, l, c, m, n, V, D, Pl, hcs, -, hl, hm, hmm, hx, hel⟩
  · simp [Value.cells] at hcs
    obtain ⟨rfl, rfl, rfl⟩ := hcs
    simp only [Prod.mk.injEq] at hx
    exact ⟨fun _ => default, .inl rfl, .inl ⟨hx.1, rfl⟩⟩
  · simp [Value.cells] at hcs
    obtain ⟨rfl, rfl, rfl⟩ := hcs
    simp only [Prod.mk.injEq] at hx
    have hlm : len ≤ m := by rw [hmm]; split <;> omega
    obtain ⟨z, hz⟩ := Deep.choose_lt (α := α) (n := len) (p := fun i y => W.cell? (x.add (i * 1)) = some (f y)) (fun i hi => by
      obtain ⟨h1, h2⟩ := hel i (by omega)
      obtain ⟨y, hy⟩ := hf _ _ _ h2
      exact ⟨y, by rw [Nat.mul_one, h1, hy]⟩)
    refine ⟨z, ?_, .inr ⟨_, _, hx.1, by simp⟩⟩
    rcases Nat.eq_zero_or_pos len with h0 | h0
    · exact .inl h0
    · obtain ⟨b, off, spot⟩ := x
      obtain rfl : spot = none := addr_none (hz 0 h0)
      refine .inr ⟨b, off, rfl, h0, fun i hi => ?_⟩
      have := hz i hi
      simp only [add_off, Nat.mul_one] at this
      exact this

def IsInts (w : World) (a : Option Addr) (len : Nat) (z : Nat → Int) : Prop := IsCells w a len (fun i => .int .i64 (z i))
theorem open_is {H : Type} {enc : TypeId × Value → H} {W : World} {spare : Nat → Bool} {held : Bool} {a : Option Addr} {len cap : Nat} {d : DataW H} {p : List MemPlace} (h : DataW.Trod enc Try.prog W 0 spare held 22 (.slice a len cap) d p) :
    ∃ z, IsInts W a len z ∧ (d = .nil ∧ len = 0 ∨ ∃ es sp, d = .slice es sp ∧ len ≤ es.length) :=
  open_one (fun x : Int => .int .i64 x) Try.underlying22 cellsOf3 (fun n u y hy => by
    obtain ⟨k, e, -⟩ := DataW.trod_int Try.underlying3 hy
    exact ⟨k, by simpa using e⟩) h

theorem trod_struct4 {H : Type} {enc : TypeId × Value → H} {P : Program} {w : World} {base : Nat} {spare : Nat → Bool} {held : Bool} {t : TypeId} {f0 f1 f2 f3 : Field} {fuel : Nat} {cs : List Value} {x : DataW H × List MemPlace} (ht : P.underlying t = some (.struct #[f0, f1, f2, f3])) (h : DataW.trod enc P w base spare held fuel t cs = some x) :
    ∃ y0 y1 y2 y3 n, DataW.trod enc P w base spare held n f0.type ((cs.drop f0.offset).take (P.cellsOf f0.type)) = some y0 ∧
      DataW.trod enc P w base spare held n f1.type ((cs.drop f1.offset).take (P.cellsOf f1.type)) = some y1 ∧ DataW.trod enc P w base spare held n f2.type ((cs.drop f2.offset).take (P.cellsOf f2.type)) = some y2 ∧
      DataW.trod enc P w base spare held n f3.type ((cs.drop f3.offset).take (P.cellsOf f3.type)) = some y3 := by
  obtain ⟨xs, n, _, rfl, hl, hlen, hf⟩ := DataW.trod_struct ht h
  match xs, hlen with
  | [y0, y1, y2, y3], _ => exact ⟨y0, y1, y2, y3, n, by simpa using hf 0 f0 rfl, by simpa using hf 1 f1 rfl, by simpa using hf 2 f2 rfl, by simpa using hf 3 f3 rfl⟩

def IsIntsC (w : World) (a : Option Addr) (len cap : Nat) (z : Nat → Int) : Prop := IsInts w a len z ∧ len ≤ cap ∧ (a = none → len = 0 ∧ cap = 0)
theorem open_isc {H : Type} {enc : TypeId × Value → H} {W : World} {spare : Nat → Bool} {held : Bool} {a : Option Addr} {len cap : Nat} {d : DataW H} {p : List MemPlace} (h : DataW.Trod enc Try.prog W 0 spare held 22 (.slice a len cap) d p) :
    ∃ z, IsIntsC W a len cap z ∧ (d = .nil ∧ len = 0 ∨ ∃ es sp, d = .slice es sp ∧ len ≤ es.length) := by
  obtain ⟨z, h1, h2⟩ := open_is h
  refine ⟨z, ⟨h1, ?_⟩, h2⟩
  obtain ⟨fuel, hf0⟩ := h
  rcases Deep.open_slice1 Try.underlying22 cellsOf3 hf0 with ⟨hcs, -⟩ | ⟨x, l, c, m, n, V, D, Pl, hcs, -, hl, -⟩
  · simp [Value.cells] at hcs
    obtain ⟨rfl, rfl, rfl⟩ := hcs
    exact ⟨Nat.le_refl _, fun _ => ⟨rfl, rfl⟩⟩
  · simp [Value.cells] at hcs
    obtain ⟨rfl, rfl, rfl⟩ := hcs
    exact ⟨hl, fun e => by cases e⟩
/-- It is empty; or its cells are these edges. -/
def IsEdsC (w : World) (a : Option Addr) (len cap : Nat) (o : Nat → EdV) : Prop :=
  (len = 0 ∨ ∃ b off, a = some ⟨b, off, none⟩ ∧ 0 < len ∧ ∀ i, i < len → (w.cell? ⟨b, off + i * 4, none⟩ = some (.int .i64 (o i).1) ∧ w.cell? ⟨b, off + i * 4 + 1, none⟩ = some (.int .i64 (o i).2.1) ∧ w.cell? ⟨b, off + i * 4 + 2, none⟩ = some (.int .i64 (o i).2.2.1) ∧ w.cell? ⟨b, off + i * 4 + 3, none⟩ = some (.int .u32 (o i).2.2.2)) ∧ (Lit.int .u32 (o i).2.2.2).wf = true) ∧ len ≤ cap ∧ (a = none → len = 0 ∧ cap = 0)
theorem open_eds {H : Type} {enc : TypeId × Value → H} {W : World} {spare : Nat → Bool} {held : Bool} {a : Option Addr} {len cap : Nat} {d : DataW H} {p : List MemPlace}
    (h : DataW.Trod enc Try.prog W 0 spare held 23 (.slice a len cap) d p) : ∃ o, IsEdsC W a len cap o ∧ (d = .nil ∧ len = 0 ∨ ∃ es sp, d = .slice es sp ∧ len ≤ es.length) := by
  obtain ⟨fuel, hf⟩ := h
  rcases Deep.open_slice Try.underlying23 hf with ⟨hcs, hx⟩ | ⟨x, l, c, m, n, D, Pl, hcs, -, hl, hm, hmm, hx, hel⟩
  · simp [Value.cells] at hcs
    obtain ⟨rfl, rfl, rfl⟩ := hcs
    simp only [Prod.mk.injEq] at hx
    exact ⟨fun _ => (0, 0, 0, 0), ⟨.inl rfl, Nat.le_refl _, fun _ => ⟨rfl, rfl⟩⟩, .inl ⟨hx.1, rfl⟩⟩
  · simp [Value.cells] at hcs
    obtain ⟨rfl, rfl, rfl⟩ := hcs
    simp only [Prod.mk.injEq] at hx
    have hlm : len ≤ m := by rw [hmm]; split <;> omega
    rw [cellsOfED] at hel
    obtain ⟨o, ho⟩ := Deep.choose_lt (α := EdV) (n := len) (p := fun i o => (W.cell? (x.add (i * 4)) = some (.int .i64 o.1) ∧ W.cell? ((x.add (i * 4)).add 1) = some (.int .i64 o.2.1) ∧
        W.cell? ((x.add (i * 4)).add 2) = some (.int .i64 o.2.2.1) ∧ W.cell? ((x.add (i * 4)).add 3) = some (.int .u32 o.2.2.2)) ∧ (Lit.int .u32 o.2.2.2).wf = true) (fun i hi => by
      obtain ⟨cs', h1, h2⟩ := hel i (by omega)
      obtain ⟨-, hlen, hc⟩ := World.cells?_some h1
      match cs', hlen with
      | [c0, c1, c2, c3], _ =>
        obtain ⟨y0, y1, y2, y3, q, e0, e1, e2, e3⟩ := trod_struct4 Try.underlying42 h2
        simp only [cellsOf3, cellsOfU, List.drop, List.take] at e0 e1 e2 e3
        obtain ⟨k0, f0, -, w0⟩ := DataW.trod_int Try.underlying3 e0
        obtain ⟨k1, f1, -, w1⟩ := DataW.trod_int Try.underlying3 e1
        obtain ⟨k2, f2, -, w2⟩ := DataW.trod_int Try.underlying3 e2
        obtain ⟨k3, f3, -, w3⟩ := DataW.trod_int Try.underlying37 e3
        simp only [List.cons.injEq, and_true] at f0 f1 f2 f3
        subst f0 f1 f2 f3
        refine ⟨(k0, k1, k2, k3), ⟨?_, ?_, ?_, ?_⟩, w3⟩
        · have := hc 0 (by omega); simpa [Addr.add] using this
        · have := hc 1 (by omega); simpa using this
        · have := hc 2 (by omega); simpa using this
        · have := hc 3 (by omega); simpa using this)
    refine ⟨o, ⟨?_, hl, fun e => by cases e⟩, .inr ⟨_, _, hx.1, by simp⟩⟩
    rcases Nat.eq_zero_or_pos len with h0 | h0
    · exact .inl h0
    · obtain ⟨b, off, spot⟩ := x
      obtain rfl : spot = none := addr_none (ho 0 h0).1.1
      refine .inr ⟨b, off, rfl, h0, fun i hi => ?_⟩
      have := ho i hi
      simp only [add_off] at this
      exact this
end Go.Proofs.Ytijgeoegeeejcaa

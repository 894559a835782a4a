/- Lists of numbers and of arcs that came in. -/
import Derived.Test.YtdpdghhieokcfaaAwake9
import Derived.Test.YtdpdghhieokcfaaFrame7
import Derived.Deep.Slices
import Derived.Deep.Strs
namespace Go.Proofs.Ytdpdghhieokcfaa
open Go.ChangeShapes Go.WideShapes Go.ChangeAt Go.RowKit

theorem cellsOf3 : Try.prog.cellsOf 3 = 1 := by kernel_rfl
theorem bytes3 : Try.prog.bytesOf 3 = 8 := by kernel_rfl
theorem cellsOf47 : Try.prog.cellsOf 47 = 2 := by kernel_rfl
theorem bytes47 : Try.prog.bytesOf 47 = 16 := by kernel_rfl
theorem addr_none {w : World} {x : Addr} {k : Nat} {v : Value} (h : w.cell? (x.add (0 * k)) = some v) : x.spot = none := by
  have := World.cell?_spot h
  simpa [Addr.add] using this
theorem add_off (b off j : Nat) : (⟨b, off, none⟩ : Addr).add j = ⟨b, off + j, none⟩ := by
  unfold Addr.add; split <;> simp_all
/-- It is empty; or its cells are these values. -/
def IsCells (w : World) (a : Option Addr) (len : Nat) (v : Nat → Value) : Prop :=
  len = 0 ∨ ∃ b off, a = some ⟨b, off, none⟩ ∧ 0 < len ∧ ∀ i, i < len → w.cell? ⟨b, off + i, none⟩ = some (v i)

/-- A slice whose elements are one cell each, opened. -/
theorem open_one {H : Type} {enc : TypeId × Value → H} {W : World} {spare : Nat → Bool} {held : Bool} {a : Option Addr} {len cap : Nat} {d : DataW H} {p : List MemPlace} {t e : TypeId} {α : Type} [Inhabited α] (f : α → Value) (ht : Try.prog.underlying t = some (.slice e)) (he : Try.prog.cellsOf e = 1)
    (hf : ∀ n (u : Value) y, DataW.trod enc Try.prog W 0 spare held n e [u] = some y → ∃ x, u = f x) (h : DataW.Trod enc Try.prog W 0 spare held t (.slice a len cap) d p) :
    ∃ z : Nat → α, IsCells W a len (fun i => f (z i)) ∧ (d = .nil ∧ len = 0 ∨ ∃ es sp, d = .slice es sp ∧ len ≤ es.length) := by
  obtain ⟨fuel, hf0⟩ := h
  rcases Deep.open_slice1 ht he hf0 with ⟨hcs, hx⟩ | ⟨x, l, c, m, n, V, D, Pl, hcs, -, hl, hm, hmm, hx, hel⟩
  · simp [Value.cells] at hcs
    obtain ⟨rfl, rfl, rfl⟩ := hcs
    simp only [Prod.mk.injEq] at hx
    exact ⟨fun _ => default, .inl rfl, .inl ⟨hx.1, rfl⟩⟩
  · simp [Value.cells] at hcs
    obtain ⟨rfl, rfl, rfl⟩ := hcs
    simp only [Prod.mk.injEq] at hx
    have hlm : len ≤ m := by rw [hmm]; split <;> omega
    obtain ⟨z, hz⟩ := Deep.choose_lt (α := α) (n := len) (p := fun i y => W.cell? (x.add (i * 1)) = some (f y)) (fun i hi => by
      obtain ⟨h1, h2⟩ := hel i (by omega)
      obtain ⟨y, hy⟩ := hf _ _ _ h2
      exact ⟨y, by rw [Nat.mul_one, h1, hy]⟩)
    refine ⟨z, ?_, .inr ⟨_, _, hx.1, by simp⟩⟩
    rcases Nat.eq_zero_or_pos len with h0 | h0
    · exact .inl h0
    · obtain ⟨b, off, spot⟩ := x
      obtain rfl : spot = none := addr_none (hz 0 h0)
      refine .inr ⟨b, off, rfl, h0, fun i hi => ?_⟩
      have := hz i hi
      simp only [add_off, Nat.mul_one] at this
      exact this

def IsInts (w : World) (a : Option Addr) (len : Nat) (z : Nat → Int) : Prop := IsCells w a len (fun i => .int .i64 (z i))
theorem open_is {H : Type} {enc : TypeId × Value → H} {W : World} {spare : Nat → Bool} {held : Bool} {a : Option Addr} {len cap : Nat} {d : DataW H} {p : List MemPlace} (h : DataW.Trod enc Try.prog W 0 spare held 22 (.slice a len cap) d p) :
    ∃ z, IsInts W a len z ∧ (d = .nil ∧ len = 0 ∨ ∃ es sp, d = .slice es sp ∧ len ≤ es.length) :=
  open_one (fun x : Int => .int .i64 x) Try.underlying22 cellsOf3 (fun n u y hy => by
    obtain ⟨k, e, -⟩ := DataW.trod_int Try.underlying3 hy
    exact ⟨k, by simpa using e⟩) h

theorem trod_struct28 {H : Type} {enc : TypeId × Value → H} {P : Program} {w : World} {base : Nat} {spare : Nat → Bool} {held : Bool} {t : TypeId} {f0 f1 : Field} {fuel : Nat} {cs : List Value} {x : DataW H × List MemPlace} (ht : P.underlying t = some (.struct #[f0, f1])) (h : DataW.trod enc P w base spare held fuel t cs = some x) :
    ∃ y0 y1 n, DataW.trod enc P w base spare held n f0.type ((cs.drop f0.offset).take (P.cellsOf f0.type)) = some y0 ∧
      DataW.trod enc P w base spare held n f1.type ((cs.drop f1.offset).take (P.cellsOf f1.type)) = some y1 := by
  obtain ⟨xs, n, _, rfl, hl, hlen, hf⟩ := DataW.trod_struct ht h
  match xs, hlen with
  | [y0, y1], _ => exact ⟨y0, y1, n, by simpa using hf 0 f0 rfl, by simpa using hf 1 f1 rfl⟩
def IsIntsC (w : World) (a : Option Addr) (len cap : Nat) (z : Nat → Int) : Prop := IsInts w a len z ∧ len ≤ cap ∧ (a = none → len = 0 ∧ cap = 0)
theorem open_isc {H : Type} {enc : TypeId × Value → H} {W : World} {spare : Nat → Bool} {held : Bool} {a : Option Addr} {len cap : Nat} {d : DataW H} {p : List MemPlace} (h : DataW.Trod enc Try.prog W 0 spare held 22 (.slice a len cap) d p) :
    ∃ z, IsIntsC W a len cap z ∧ (d = .nil ∧ len = 0 ∨ ∃ es sp, d = .slice es sp ∧ len ≤ es.length) := by
  obtain ⟨z, h1, h2⟩ := open_is h
  refine ⟨z, ⟨h1, ?_⟩, h2⟩
  obtain ⟨fuel, hf0⟩ := h
  rcases Deep.open_slice1 Try.underlying22 cellsOf3 hf0 with ⟨hcs, -⟩ | ⟨x, l, c, m, n, V, D, Pl, hcs, -, hl, -⟩
  · simp [Value.cells] at hcs
    obtain ⟨rfl, rfl, rfl⟩ := hcs
    exact ⟨Nat.le_refl _, fun _ => ⟨rfl, rfl⟩⟩
  · simp [Value.cells] at hcs
    obtain ⟨rfl, rfl, rfl⟩ := hcs
    exact ⟨hl, fun e => by cases e⟩
/-- It is empty; or its cells are these arcs. -/
def IsArcsC (w : World) (a : Option Addr) (len cap : Nat) (o : Nat → Int × Int) : Prop :=
  (len = 0 ∨ ∃ b off, a = some ⟨b, off, none⟩ ∧ 0 < len ∧ ∀ i, i < len → w.cell? ⟨b, off + i * 2, none⟩ = some (.int .i64 (o i).1) ∧ w.cell? ⟨b, off + i * 2 + 1, none⟩ = some (.int .i64 (o i).2)) ∧ len ≤ cap ∧ (a = none → len = 0 ∧ cap = 0)
theorem open_arcs {H : Type} {enc : TypeId × Value → H} {W : World} {spare : Nat → Bool} {held : Bool} {a : Option Addr} {len cap : Nat} {d : DataW H} {p : List MemPlace}
    (h : DataW.Trod enc Try.prog W 0 spare held 23 (.slice a len cap) d p) : ∃ o, IsArcsC W a len cap o ∧ (d = .nil ∧ len = 0 ∨ ∃ es sp, d = .slice es sp ∧ len ≤ es.length) := by
  obtain ⟨fuel, hf⟩ := h
  rcases Deep.open_slice Try.underlying23 hf with ⟨hcs, hx⟩ | ⟨x, l, c, m, n, D, Pl, hcs, -, hl, hm, hmm, hx, hel⟩
  · simp [Value.cells] at hcs
    obtain ⟨rfl, rfl, rfl⟩ := hcs
    simp only [Prod.mk.injEq] at hx
    exact ⟨fun _ => (0, 0), ⟨.inl rfl, Nat.le_refl _, fun _ => ⟨rfl, rfl⟩⟩, .inl ⟨hx.1, rfl⟩⟩
  · simp [Value.cells] at hcs
    obtain ⟨rfl, rfl, rfl⟩ := hcs
    simp only [Prod.mk.injEq] at hx
    have hlm : len ≤ m := by rw [hmm]; split <;> omega
    rw [cellsOf47] at hel
    obtain ⟨o, ho⟩ := Deep.choose_lt (α := Int × Int) (n := len) (p := fun i o => W.cell? (x.add (i * 2)) = some (.int .i64 o.1) ∧ W.cell? ((x.add (i * 2)).add 1) = some (.int .i64 o.2)) (fun i hi => by
      obtain ⟨cs', h1, h2⟩ := hel i (by omega)
      obtain ⟨-, hlen, hc⟩ := World.cells?_some h1
      match cs', hlen with
      | [c0, c1], _ =>
        obtain ⟨y0, y1, q, e0, e1⟩ := trod_struct28 Try.underlying47 h2
        simp only [cellsOf3, List.drop, List.take] at e0 e1
        obtain ⟨k0, f0, -, w0⟩ := DataW.trod_int Try.underlying3 e0
        obtain ⟨k1, f1, -, w1⟩ := DataW.trod_int Try.underlying3 e1
        simp only [List.cons.injEq, and_true] at f0 f1
        subst f0 f1
        refine ⟨(k0, k1), ?_, ?_⟩
        · have := hc 0 (by omega); simpa [Addr.add] using this
        · have := hc 1 (by omega); simpa using this)
    refine ⟨o, ⟨?_, hl, fun e => by cases e⟩, .inr ⟨_, _, hx.1, by simp⟩⟩
    rcases Nat.eq_zero_or_pos len with h0 | h0
    · exact .inl h0
    · obtain ⟨b, off, spot⟩ := x
      obtain rfl : spot = none := addr_none (ho 0 h0).1
      refine .inr ⟨b, off, rfl, h0, fun i hi => ?_⟩
      have := ho i hi
      simp only [add_off] at this
      exact this
end Go.Proofs.Ytdpdghhieokcfaa

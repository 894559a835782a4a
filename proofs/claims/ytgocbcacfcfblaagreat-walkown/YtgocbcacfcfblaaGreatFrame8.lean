/- Lists of numbers and a start that came in. -/
import Derived.Test.YtgocbcacfcfblaaGreatFrame72
import Derived.Test.YtgocbcacfcfblaaGreatWkAlong
namespace Go.Proofs.YtgocbcacfcfblaaGreat
open Go.ChangeShapes Go.WideShapes Go.ChangeAt Go.RowKit

theorem bytes3 : Tryz.prog.bytesOf 3 = 8 := by kernel_rfl
/-- It is empty; or its cells are these values. -/
def IsCells (w : World) (a : Option Addr) (len : Nat) (v : Nat → Value) : Prop :=
  len = 0 ∨ ∃ b off, a = some ⟨b, off, none⟩ ∧ 0 < len ∧ ∀ i, i < len → w.cell? ⟨b, off + i, none⟩ = some (v i)

/-- A slice whose elements are one cell each, opened. -/
theorem open_one {H : Type} {enc : TypeId × Value → H} {W : World} {spare : Nat → Bool} {held : Bool} {a : Option Addr} {len cap : Nat} {d : DataW H} {p : List MemPlace} {t e : TypeId} {α : Type} [Inhabited α] (f : α → Value) (ht : Tryz.prog.underlying t = some (.slice e)) (he : Tryz.prog.cellsOf e = 1)
    (hf : ∀ n (u : Value) y, DataW.trod enc Tryz.prog W 0 spare held n e [u] = some y → ∃ x, u = f x) (h : DataW.Trod enc Tryz.prog W 0 spare held t (.slice a len cap) d p) :
    ∃ z : Nat → α, IsCells W a len (fun i => f (z i)) ∧ (d = .nil ∧ len = 0 ∨ ∃ es sp, d = .slice es sp ∧ len ≤ es.length) := by
  obtain ⟨fuel, hf0⟩ := h
  rcases Deep.open_slice1 ht he hf0 with ⟨hcs, hx⟩ | ⟨x, l, c, m, n, V, D, Pl, hcs, -, hl, hm, hmm, hx, hel⟩
  · simp [Value.cells] at hcs
    obtain ⟨rfl, rfl, rfl⟩ := hcs
    simp only [Prod.mk.injEq] at hx
    exact ⟨fun _ => default, .inl rfl, .inl ⟨hx.1, rfl⟩⟩
  · simp [Value.cells] at hcs
    obtain ⟨rfl, rfl, rfl⟩ := hcs
    simp only [Prod.mk.injEq] at hx
    have hlm : len ≤ m := by rw [hmm]; split <;> omega
    obtain ⟨z, hz⟩ := Deep.choose_lt (α := α) (n := len) (p := fun i y => W.cell? (x.add (i * 1)) = some (f y)) (fun i hi => by
      obtain ⟨h1, h2⟩ := hel i (by omega)
      obtain ⟨y, hy⟩ := hf _ _ _ h2
      exact ⟨y, by rw [Nat.mul_one, h1, hy]⟩)
    refine ⟨z, ?_, .inr ⟨_, _, hx.1, by simp⟩⟩
    rcases Nat.eq_zero_or_pos len with h0 | h0
    · exact .inl h0
    · obtain ⟨b, off, spot⟩ := x
      obtain rfl : spot = none := addr_none (hz 0 h0)
      refine .inr ⟨b, off, rfl, h0, fun i hi => ?_⟩
      have := hz i hi
      simp only [add_off, Nat.mul_one] at this
      exact this

def IsInts (w : World) (a : Option Addr) (len : Nat) (z : Nat → Int) : Prop := IsCells w a len (fun i => .int .i64 (z i))
theorem open_is {H : Type} {enc : TypeId × Value → H} {W : World} {spare : Nat → Bool} {held : Bool} {a : Option Addr} {len cap : Nat} {d : DataW H} {p : List MemPlace} (h : DataW.Trod enc Tryz.prog W 0 spare held 23 (.slice a len cap) d p) :
    ∃ z, IsInts W a len z ∧ (d = .nil ∧ len = 0 ∨ ∃ es sp, d = .slice es sp ∧ len ≤ es.length) :=
  open_one (fun x : Int => .int .i64 x) Tryz.underlying23 cellsOf3 (fun n u y hy => by
    obtain ⟨k, e, -⟩ := DataW.trod_int Tryz.underlying3 hy
    exact ⟨k, by simpa using e⟩) h

theorem is_row {w : World} {a : Option Addr} {len cap : Nat} {z : Nat → Int} (h : IsInts w a len z) : SRow w (.slice a len cap) ((List.range len).map z) := by
  refine ⟨a, cap, by simp, fun j k hj => ?_⟩
  have hj' : j < len := by have := (List.getElem?_eq_some_iff.1 hj).1; simpa using this
  have e : z j = k := by simpa [hj'] using hj
  rcases h with h0 | ⟨b, off, rfl, -, hc⟩
  · omega
  · exact ⟨b, off, rfl, by rw [← e]; exact hc j hj'⟩
theorem cellsOfS8 : Tryz.prog.cellsOf 47 = 2 := by kernel_rfl
theorem trod_struct28 {H : Type} {enc : TypeId × Value → H} {P : Program} {w : World} {base : Nat} {spare : Nat → Bool} {held : Bool} {t : TypeId} {f0 f1 : Field} {fuel : Nat} {cs : List Value} {x : DataW H × List MemPlace} (ht : P.underlying t = some (.struct #[f0, f1])) (h : DataW.trod enc P w base spare held fuel t cs = some x) :
    ∃ y0 y1 n, DataW.trod enc P w base spare held n f0.type ((cs.drop f0.offset).take (P.cellsOf f0.type)) = some y0 ∧
      DataW.trod enc P w base spare held n f1.type ((cs.drop f1.offset).take (P.cellsOf f1.type)) = some y1 := by
  obtain ⟨xs, n, _, rfl, hl, hlen, hf⟩ := DataW.trod_struct ht h
  match xs, hlen with
  | [y0, y1], _ => exact ⟨y0, y1, n, by simpa using hf 0 f0 rfl, by simpa using hf 1 f1 rfl⟩
set_option maxRecDepth 100000 in
/-- A start by value. -/
theorem open_start {H : Type} {enc : TypeId × Value → H} {W : World} {spare : Nat → Bool} {held : Bool} {r : Reach} {b0 : Nat} {v : Value} {d : DataW H} {p : List MemPlace} (hv : Value.okWide Tryz.prog W r b0 47 v) (h : DataW.Trod enc Tryz.prog W 0 spare held 47 v d p) :
    ∃ o : Int × Int, v = .agg #[.int .i64 o.1, .int .i64 o.2] ∧ (Lit.int .i64 o.1).wf = true ∧ (Lit.int .i64 o.2).wf = true := by
  obtain ⟨cs, rfl, hsz⟩ := okWide_struct Tryz.underlying47 hv
  obtain ⟨fuel, hf⟩ := h
  obtain ⟨l⟩ := cs
  rw [cellsOfS8] at hsz
  match l, hsz with
  | [c0, c1], _ =>
    obtain ⟨y0, y1, q, e0, e1⟩ := trod_struct28 Tryz.underlying47 hf
    simp only [cellsOf3, Value.cells, List.drop, List.take] at e0 e1
    obtain ⟨k0, f0, -, w0⟩ := DataW.trod_int Tryz.underlying3 e0
    obtain ⟨k1, f1, -, w1⟩ := DataW.trod_int Tryz.underlying3 e1
    simp only [List.cons.injEq, and_true] at f0 f1
    subst f0 f1
    exact ⟨(k0, k1), rfl, w0, w1⟩
end Go.Proofs.YtgocbcacfcfblaaGreat

/- Slices that came in, as the walks want them. -/
import Derived.Test.YtkdlhnfagghppaaBase
import Derived.ProofKit
import Derived.OpenShut
import Derived.SizedLaws
import Derived.Below
import Derived.ChangeOld
import Derived.Deep.Slices
import Derived.Deep.Strs
namespace Go.Proofs.Ytkdlhnfagghppaa
open Go.ChangeShapes Go.WideShapes Go.ChangeAt Go.RowKit

theorem own : ownKnob Try.prog.godebug = none := by kernel_rfl
theorem laidOut : laidOutB Try.prog = true := by kernel_rfl
theorem bytes33 : Try.prog.bytesOf 33 = 24 := by kernel_rfl
theorem bytes3 : Try.prog.bytesOf 3 = 8 := by kernel_rfl
theorem bytes4 : Try.prog.bytesOf 4 = 1 := by kernel_rfl
theorem bytes9 : Try.prog.bytesOf 9 = 16 := by kernel_rfl
theorem cells33 : Try.prog.cellsOf 33 = 3 := by kernel_rfl
theorem cells3 : Try.prog.cellsOf 3 = 1 := by kernel_rfl
theorem cells4 : Try.prog.cellsOf 4 = 1 := by kernel_rfl
theorem cells9 : Try.prog.cellsOf 9 = 1 := by kernel_rfl

theorem addr_none {w : World} {x : Addr} {k : Nat} {v : Value} (h : w.cell? (x.add (0 * k)) = some v) : x.spot = none := by
  have := World.cell?_spot h
  simpa [Addr.add] using this
theorem add_off (b off j : Nat) : (⟨b, off, none⟩ : Addr).add j = ⟨b, off + j, none⟩ := by
  unfold Addr.add; split <;> simp_all

/-- It is empty; or its cells are these values. -/
def IsCells (w : World) (a : Option Addr) (len : Nat) (v : Nat → Value) : Prop :=
  len = 0 ∨ ∃ b off, a = some ⟨b, off, none⟩ ∧ 0 < len ∧ ∀ i, i < len → w.cell? ⟨b, off + i, none⟩ = some (v i)

/-- A slice whose elements are one cell each, opened. -/
theorem open_one {H : Type} {enc : TypeId × Value → H} {W : World} {spare : Nat → Bool} {held : Bool} {a : Option Addr} {len cap : Nat} {d : DataW H} {p : List MemPlace} {t e : TypeId} {α : Type} [Inhabited α] (f : α → Value) (ht : Try.prog.underlying t = some (.slice e)) (he : Try.prog.cellsOf e = 1)
    (hf : ∀ n (u : Value) y, DataW.trod enc Try.prog W 0 spare held n e [u] = some y → ∃ x, u = f x) (h : DataW.Trod enc Try.prog W 0 spare held t (.slice a len cap) d p) :
    ∃ z : Nat → α, IsCells W a len (fun i => f (z i)) ∧ (d = .nil ∧ len = 0 ∨ ∃ es sp, d = .slice es sp ∧ len ≤ es.length) := by
  obtain ⟨fuel, hf0⟩ := h
  rcases Deep.open_slice1 ht he hf0 with ⟨hcs, hx⟩ | ⟨x, l, c, m, n, V, D, Pl, hcs, -, hl, hm, hmm, hx, hel⟩
  · simp [Value.cells] at hcs
    obtain ⟨rfl, rfl, rfl⟩ := hcs
    simp only [Prod.mk.injEq] at hx
    exact ⟨fun _ => default, .inl rfl, .inl ⟨hx.1, rfl⟩⟩
  · simp [Value.cells] at hcs
    obtain ⟨rfl, rfl, rfl⟩ := hcs
    simp only [Prod.mk.injEq] at hx
    have hlm : len ≤ m := by rw [hmm]; split <;> omega
    obtain ⟨z, hz⟩ := Deep.choose_lt (α := α) (n := len) (p := fun i y => W.cell? (x.add (i * 1)) = some (f y)) (fun i hi => by
      obtain ⟨h1, h2⟩ := hel i (by omega)
      obtain ⟨y, hy⟩ := hf _ _ _ h2
      exact ⟨y, by rw [Nat.mul_one, h1, hy]⟩)
    refine ⟨z, ?_, .inr ⟨_, _, hx.1, by simp⟩⟩
    rcases Nat.eq_zero_or_pos len with h0 | h0
    · exact .inl h0
    · obtain ⟨b, off, spot⟩ := x
      obtain rfl : spot = none := addr_none (hz 0 h0)
      refine .inr ⟨b, off, rfl, h0, fun i hi => ?_⟩
      have := hz i hi
      simp only [add_off, Nat.mul_one] at this
      exact this

def IsInts (w : World) (a : Option Addr) (len : Nat) (z : Nat → Int) : Prop := IsCells w a len (fun i => .int .i64 (z i))
theorem open_is {H : Type} {enc : TypeId × Value → H} {W : World} {spare : Nat → Bool} {held : Bool} {a : Option Addr} {len cap : Nat} {d : DataW H} {p : List MemPlace} (h : DataW.Trod enc Try.prog W 0 spare held 37 (.slice a len cap) d p) :
    ∃ z, IsInts W a len z ∧ (d = .nil ∧ len = 0 ∨ ∃ es sp, d = .slice es sp ∧ len ≤ es.length) :=
  open_one (fun x : Int => .int .i64 x) Try.underlying37 cells3 (fun n u y hy => by
    obtain ⟨k, e, -⟩ := DataW.trod_int Try.underlying3 hy
    exact ⟨k, by simpa using e⟩) h

/-- It is empty; or its cells are these calls. -/
def IsOps (w : World) (a : Option Addr) (len : Nat) (o : Nat → Int × Int × Int) : Prop :=
  len = 0 ∨ ∃ b off, a = some ⟨b, off, none⟩ ∧ 0 < len ∧ ∀ i, i < len → (w.cell? ⟨b, off + i * 3, none⟩ = some (.int .i64 (o i).1) ∧ w.cell? ⟨b, off + i * 3 + 1, none⟩ = some (.int .i64 (o i).2.1) ∧
    w.cell? ⟨b, off + i * 3 + 2, none⟩ = some (.int .i64 (o i).2.2)) ∧ ((Lit.int .i64 (o i).1).wf = true ∧ (Lit.int .i64 (o i).2.1).wf = true ∧ (Lit.int .i64 (o i).2.2).wf = true)

theorem open_ops {H : Type} {enc : TypeId × Value → H} {W : World} {spare : Nat → Bool} {held : Bool} {a : Option Addr} {len cap : Nat} {d : DataW H} {p : List MemPlace}
    (h : DataW.Trod enc Try.prog W 0 spare held 22 (.slice a len cap) d p) : ∃ o, IsOps W a len o ∧ (d = .nil ∧ len = 0 ∨ ∃ es sp, d = .slice es sp ∧ len ≤ es.length) := by
  obtain ⟨fuel, hf⟩ := h
  rcases Deep.open_slice Try.underlying22 hf with ⟨hcs, hx⟩ | ⟨x, l, c, m, n, D, Pl, hcs, -, hl, hm, hmm, hx, hel⟩
  · simp [Value.cells] at hcs
    obtain ⟨rfl, rfl, rfl⟩ := hcs
    simp only [Prod.mk.injEq] at hx
    exact ⟨fun _ => (0, 0, 0), .inl rfl, .inl ⟨hx.1, rfl⟩⟩
  · simp [Value.cells] at hcs
    obtain ⟨rfl, rfl, rfl⟩ := hcs
    simp only [Prod.mk.injEq] at hx
    have hlm : len ≤ m := by rw [hmm]; split <;> omega
    rw [cells33] at hel
    obtain ⟨o, ho⟩ := Deep.choose_lt (α := Int × Int × Int) (n := len) (p := fun i o => (W.cell? (x.add (i * 3)) = some (.int .i64 o.1) ∧ W.cell? ((x.add (i * 3)).add 1) = some (.int .i64 o.2.1) ∧
        W.cell? ((x.add (i * 3)).add 2) = some (.int .i64 o.2.2)) ∧ ((Lit.int .i64 o.1).wf = true ∧ (Lit.int .i64 o.2.1).wf = true ∧ (Lit.int .i64 o.2.2).wf = true)) (fun i hi => by
      obtain ⟨cs', h1, h2⟩ := hel i (by omega)
      obtain ⟨-, hlen, hc⟩ := World.cells?_some h1
      match cs', hlen with
      | [c0, c1, c2], _ =>
        obtain ⟨y0, y1, y2, q, -, -, e0, e1, e2⟩ := Deep.trod_struct3 Try.underlying33 h2
        simp only [cells3, List.drop, List.take] at e0 e1 e2
        obtain ⟨k0, f0, -, w0⟩ := DataW.trod_int Try.underlying3 e0
        obtain ⟨k1, f1, -, w1⟩ := DataW.trod_int Try.underlying3 e1
        obtain ⟨k2, f2, -, w2⟩ := DataW.trod_int Try.underlying3 e2
        simp only [List.cons.injEq, and_true] at f0 f1 f2
        subst f0 f1 f2
        refine ⟨(k0, k1, k2), ⟨?_, ?_, ?_⟩, w0, w1, w2⟩
        · have := hc 0 (by omega); simpa [Addr.add] using this
        · have := hc 1 (by omega); simpa using this
        · have := hc 2 (by omega); simpa using this)
    refine ⟨o, ?_, .inr ⟨_, _, hx.1, by simp⟩⟩
    rcases Nat.eq_zero_or_pos len with h0 | h0
    · exact .inl h0
    · obtain ⟨b, off, spot⟩ := x
      obtain rfl : spot = none := addr_none (ho 0 h0).1.1
      refine .inr ⟨b, off, rfl, h0, fun i hi => ?_⟩
      have := ho i hi
      simp only [add_off] at this
      exact this
end Go.Proofs.Ytkdlhnfagghppaa

/- A slice of Op that came in, as the walks want it. -/
import Derived.Test.YtdalghfhpekcfaaBase
import Derived.ProofKit
import Derived.OpenShut
import Derived.SizedLaws
import Derived.Below
import Derived.ChangeOld
import Derived.Deep.Slices
import Derived.Lib.SmallJoins
namespace Go.Proofs.Ytdalghfhpekcfaa
open Go.ChangeShapes Go.WideShapes Go.ChangeAt Go.RowKit

theorem own : ownKnob Try.prog.godebug = none := by kernel_rfl
theorem laidOut : laidOutB Try.prog = true := by kernel_rfl
theorem bytes49 : Try.prog.bytesOf 49 = 32 := by kernel_rfl
theorem cells49 : Try.prog.cellsOf 49 = 4 := by kernel_rfl
theorem cells3 : Try.prog.cellsOf 3 = 1 := by kernel_rfl
theorem cells4 : Try.prog.cellsOf 4 = 1 := by kernel_rfl

/-- It is empty; or its cells are these calls. -/
def IsOps (w : World) (a : Option Addr) (len : Nat) (o : Nat → Int × Bool × Int × Int) : Prop :=
  len = 0 ∨ ∃ b off, a = some ⟨b, off, none⟩ ∧ 0 < len ∧ ∀ i, i < len → (w.cell? ⟨b, off + i * 4, none⟩ = some (.int .i64 (o i).1) ∧ w.cell? ⟨b, off + i * 4 + 1, none⟩ = some (.bool (o i).2.1) ∧
    w.cell? ⟨b, off + i * 4 + 2, none⟩ = some (.int .i64 (o i).2.2.1) ∧ w.cell? ⟨b, off + i * 4 + 3, none⟩ = some (.int .i64 (o i).2.2.2)) ∧
    ((Lit.int .i64 (o i).1).wf = true ∧ (Lit.int .i64 (o i).2.2.1).wf = true ∧ (Lit.int .i64 (o i).2.2.2).wf = true)

theorem addr_none {w : World} {x : Addr} {v : Value} (h : w.cell? (x.add (0 * 4)) = some v) : x.spot = none := by
  have := World.cell?_spot h
  simpa [Addr.add] using this

theorem add_off (b off j : Nat) : (⟨b, off, none⟩ : Addr).add j = ⟨b, off + j, none⟩ := by
  unfold Addr.add; split <;> simp_all

theorem open_ops {H : Type} {enc : TypeId × Value → H} {W : World} {spare : Nat → Bool} {held : Bool} {a : Option Addr} {len cap : Nat} {d : DataW H} {p : List MemPlace}
    (h : DataW.Trod enc Try.prog W 0 spare held 22 (.slice a len cap) d p) : ∃ o, IsOps W a len o ∧ (d = .nil ∧ len = 0 ∨ ∃ es sp, d = .slice es sp ∧ len ≤ es.length) := by
  obtain ⟨fuel, hf⟩ := h
  rcases Deep.open_slice Try.underlying22 hf with ⟨hcs, hx⟩ | ⟨x, l, c, m, n, D, Pl, hcs, -, hl, hm, hmm, hx, hel⟩
  · simp [Value.cells] at hcs
    obtain ⟨rfl, rfl, rfl⟩ := hcs
    simp only [Prod.mk.injEq] at hx
    exact ⟨fun _ => (0, false, 0, 0), .inl rfl, .inl ⟨hx.1, rfl⟩⟩
  · simp [Value.cells] at hcs
    obtain ⟨rfl, rfl, rfl⟩ := hcs
    simp only [Prod.mk.injEq] at hx
    have hlm : len ≤ m := by rw [hmm]; split <;> omega
    rw [cells49] at hel
    obtain ⟨o, ho⟩ := Deep.choose_lt (α := Int × Bool × Int × Int) (n := len) (p := fun i o => (W.cell? (x.add (i * 4)) = some (.int .i64 o.1) ∧ W.cell? ((x.add (i * 4)).add 1) = some (.bool o.2.1) ∧
        W.cell? ((x.add (i * 4)).add 2) = some (.int .i64 o.2.2.1) ∧ W.cell? ((x.add (i * 4)).add 3) = some (.int .i64 o.2.2.2)) ∧ ((Lit.int .i64 o.1).wf = true ∧ (Lit.int .i64 o.2.2.1).wf = true ∧ (Lit.int .i64 o.2.2.2).wf = true)) (fun i hi => by
      obtain ⟨cs', h1, h2⟩ := hel i (by omega)
      obtain ⟨-, hlen, hc⟩ := World.cells?_some h1
      match cs', hlen with
      | [c0, c1, c2, c3], _ =>
        obtain ⟨y0, y1, y2, y3, q, -, -, e0, e1, e2, e3⟩ := Joins.trod_struct4 Try.underlying49 h2
        simp only [cells3, cells4, List.drop, List.take] at e0 e1 e2 e3
        obtain ⟨k0, f0, -, w0⟩ := DataW.trod_int Try.underlying3 e0
        obtain ⟨k1, f1, -⟩ := DataW.trod_bool Try.underlying4 e1
        obtain ⟨k2, f2, -, w2⟩ := DataW.trod_int Try.underlying3 e2
        obtain ⟨k3, f3, -, w3⟩ := DataW.trod_int Try.underlying3 e3
        simp only [List.cons.injEq, and_true] at f0 f1 f2 f3
        subst f0 f1 f2 f3
        refine ⟨(k0, k1, k2, k3), ⟨?_, ?_, ?_, ?_⟩, w0, w2, w3⟩
        · have := hc 0 (by omega); simpa [Addr.add] using this
        · have := hc 1 (by omega); simpa using this
        · have := hc 2 (by omega); simpa using this
        · have := hc 3 (by omega); simpa using this)
    refine ⟨o, ?_, .inr ⟨_, _, hx.1, by simp⟩⟩
    rcases Nat.eq_zero_or_pos len with h0 | h0
    · exact .inl h0
    · obtain ⟨b, off, spot⟩ := x
      obtain rfl : spot = none := addr_none (ho 0 h0).1.1
      refine .inr ⟨b, off, rfl, h0, fun i hi => ?_⟩
      have := ho i hi
      simp only [add_off] at this
      exact this

end Go.Proofs.Ytdalghfhpekcfaa

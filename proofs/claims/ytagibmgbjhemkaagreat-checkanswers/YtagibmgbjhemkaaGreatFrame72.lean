/- Calls that came in, as the walks want them. -/
import Derived.Test.YtagibmgbjhemkaaGreatFrame7
import Derived.Deep.Slices
import Derived.Deep.Strs
namespace Go.Proofs.YtagibmgbjhemkaaGreat
open Go.ChangeShapes Go.WideShapes Go.ChangeAt Go.RowKit

theorem bytes75 : Tryz.prog.bytesOf 75 = 40 := by kernel_rfl
theorem cellsOf75 : Tryz.prog.cellsOf 75 = 5 := by kernel_rfl
theorem cellsOf3 : Tryz.prog.cellsOf 3 = 1 := by kernel_rfl
theorem cellsOf33 : Tryz.prog.cellsOf 33 = 1 := by kernel_rfl
theorem addr_none {w : World} {x : Addr} {k : Nat} {v : Value} (h : w.cell? (x.add (0 * k)) = some v) : x.spot = none := by
  have := World.cell?_spot h
  simpa [Addr.add] using this
theorem add_off (b off j : Nat) : (⟨b, off, none⟩ : Addr).add j = ⟨b, off + j, none⟩ := by
  unfold Addr.add; split <;> simp_all
theorem trod_struct5 {H : Type} {enc : TypeId × Value → H} {P : Program} {w : World} {base : Nat} {spare : Nat → Bool} {held : Bool} {t : TypeId} {f0 f1 f2 f3 f4 : Field} {fuel : Nat} {cs : List Value} {x : DataW H × List MemPlace} (ht : P.underlying t = some (.struct #[f0, f1, f2, f3, f4])) (h : DataW.trod enc P w base spare held fuel t cs = some x) :
    ∃ y0 y1 y2 y3 y4 n, DataW.trod enc P w base spare held n f0.type ((cs.drop f0.offset).take (P.cellsOf f0.type)) = some y0 ∧
      DataW.trod enc P w base spare held n f1.type ((cs.drop f1.offset).take (P.cellsOf f1.type)) = some y1 ∧ DataW.trod enc P w base spare held n f2.type ((cs.drop f2.offset).take (P.cellsOf f2.type)) = some y2 ∧
      DataW.trod enc P w base spare held n f3.type ((cs.drop f3.offset).take (P.cellsOf f3.type)) = some y3 ∧ DataW.trod enc P w base spare held n f4.type ((cs.drop f4.offset).take (P.cellsOf f4.type)) = some y4 := by
  obtain ⟨xs, n, _, rfl, hl, hlen, hf⟩ := DataW.trod_struct ht h
  match xs, hlen with
  | [y0, y1, y2, y3, y4], _ => exact ⟨y0, y1, y2, y3, y4, n, by simpa using hf 0 f0 rfl, by simpa using hf 1 f1 rfl, by simpa using hf 2 f2 rfl, by simpa using hf 3 f3 rfl, by simpa using hf 4 f4 rfl⟩

/-- A call: kind, A, B, E, bits. -/
abbrev OpV := Int × Int × Int × Int × Int
def okOp (o : OpV) : Prop := (Lit.int .i64 o.1).wf = true ∧ (Lit.int .i64 o.2.1).wf = true ∧ (Lit.int .i64 o.2.2.1).wf = true ∧ (Lit.int .i64 o.2.2.2.1).wf = true ∧ (Lit.int .u32 o.2.2.2.2).wf = true
def OpAt (w : World) (b off : Nat) (o : OpV) : Prop := w.cell? ⟨b, off, none⟩ = some (.int .i64 o.1) ∧ w.cell? ⟨b, off + 1, none⟩ = some (.int .i64 o.2.1) ∧ w.cell? ⟨b, off + 2, none⟩ = some (.int .i64 o.2.2.1) ∧ w.cell? ⟨b, off + 3, none⟩ = some (.int .i64 o.2.2.2.1) ∧ w.cell? ⟨b, off + 4, none⟩ = some (.int .u32 o.2.2.2.2)
/-- It is empty; or its cells are these calls. -/
def IsOps (w : World) (a : Option Addr) (len : Nat) (o : Nat → OpV) : Prop :=
  len = 0 ∨ ∃ b off, a = some ⟨b, off, none⟩ ∧ 0 < len ∧ ∀ i, i < len → OpAt w b (off + i * 5) (o i) ∧ okOp (o i)

theorem open_ops {H : Type} {enc : TypeId × Value → H} {W : World} {spare : Nat → Bool} {held : Bool} {a : Option Addr} {len cap : Nat} {d : DataW H} {p : List MemPlace}
    (h : DataW.Trod enc Tryz.prog W 0 spare held 22 (.slice a len cap) d p) : ∃ o, IsOps W a len o ∧ (d = .nil ∧ len = 0 ∨ ∃ es sp, d = .slice es sp ∧ len ≤ es.length) := by
  obtain ⟨fuel, hf⟩ := h
  rcases Deep.open_slice Tryz.underlying22 hf with ⟨hcs, hx⟩ | ⟨x, l, c, m, n, D, Pl, hcs, -, hl, hm, hmm, hx, hel⟩
  · simp [Value.cells] at hcs
    obtain ⟨rfl, rfl, rfl⟩ := hcs
    simp only [Prod.mk.injEq] at hx
    exact ⟨fun _ => (0, 0, 0, 0, 0), .inl rfl, .inl ⟨hx.1, rfl⟩⟩
  · simp [Value.cells] at hcs
    obtain ⟨rfl, rfl, rfl⟩ := hcs
    simp only [Prod.mk.injEq] at hx
    have hlm : len ≤ m := by rw [hmm]; split <;> omega
    rw [cellsOf75] at hel
    obtain ⟨o, ho⟩ := Deep.choose_lt (α := OpV) (n := len) (p := fun i o => (W.cell? (x.add (i * 5)) = some (.int .i64 o.1) ∧ W.cell? ((x.add (i * 5)).add 1) = some (.int .i64 o.2.1) ∧
        W.cell? ((x.add (i * 5)).add 2) = some (.int .i64 o.2.2.1) ∧ W.cell? ((x.add (i * 5)).add 3) = some (.int .i64 o.2.2.2.1) ∧ W.cell? ((x.add (i * 5)).add 4) = some (.int .u32 o.2.2.2.2)) ∧ okOp o) (fun i hi => by
      obtain ⟨cs', h1, h2⟩ := hel i (by omega)
      obtain ⟨-, hlen, hc⟩ := World.cells?_some h1
      match cs', hlen with
      | [c0, c1, c2, c3, c4], _ =>
        obtain ⟨y0, y1, y2, y3, y4, q, e0, e1, e2, e3, e4⟩ := trod_struct5 Tryz.underlying75 h2
        simp only [cellsOf3, cellsOf33, List.drop, List.take] at e0 e1 e2 e3 e4
        obtain ⟨k0, f0, -, w0⟩ := DataW.trod_int Tryz.underlying3 e0
        obtain ⟨k1, f1, -, w1⟩ := DataW.trod_int Tryz.underlying3 e1
        obtain ⟨k2, f2, -, w2⟩ := DataW.trod_int Tryz.underlying3 e2
        obtain ⟨k3, f3, -, w3⟩ := DataW.trod_int Tryz.underlying3 e3
        obtain ⟨k4, f4, -, w4⟩ := DataW.trod_int Tryz.underlying33 e4
        simp only [List.cons.injEq, and_true] at f0 f1 f2 f3 f4
        subst f0 f1 f2 f3 f4
        refine ⟨(k0, k1, k2, k3, k4), ⟨?_, ?_, ?_, ?_, ?_⟩, w0, w1, w2, w3, w4⟩
        · have := hc 0 (by omega); simpa [Addr.add] using this
        · have := hc 1 (by omega); simpa using this
        · have := hc 2 (by omega); simpa using this
        · have := hc 3 (by omega); simpa using this
        · have := hc 4 (by omega); simpa using this)
    refine ⟨o, ?_, .inr ⟨_, _, hx.1, by simp⟩⟩
    rcases Nat.eq_zero_or_pos len with h0 | h0
    · exact .inl h0
    · obtain ⟨b, off, spot⟩ := x
      obtain rfl : spot = none := addr_none (ho 0 h0).1.1
      refine .inr ⟨b, off, rfl, h0, fun i hi => ?_⟩
      have := ho i hi
      simp only [add_off] at this
      exact this
end Go.Proofs.YtagibmgbjhemkaaGreat

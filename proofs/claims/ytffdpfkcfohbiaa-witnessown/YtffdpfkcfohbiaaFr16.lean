/- Witnesses and bytes that came in. -/
import Derived.Test.YtffdpfkcfohbiaaFrame7
import Derived.Test.YtffdpfkcfohbiaaEn16
import Derived.Deep.Slices
import Derived.Deep.Strs
namespace Go.Proofs.Ytffdpfkcfohbiaa
open Go.ChangeShapes Go.WideShapes Go.ChangeAt Go.RowKit
theorem cellsOf3 : Try.prog.cellsOf 3 = 1 := by kernel_rfl
theorem cellsOfU : Try.prog.cellsOf 22 = 1 := by kernel_rfl
theorem cellsOfB : Try.prog.cellsOf 5 = 1 := by kernel_rfl
theorem cellsOfL : Try.prog.cellsOf 23 = 1 := by kernel_rfl
theorem cellsOfW : Try.prog.cellsOf 25 = 4 := by kernel_rfl
theorem bytes3 : Try.prog.bytesOf 3 = 8 := by kernel_rfl
theorem bytesB : Try.prog.bytesOf 5 = 1 := by kernel_rfl
theorem addr_none {w : World} {x : Addr} {v : Value} (h : w.cell? (x.add 0) = some v) : x.spot = none := by
  have := World.cell?_spot h
  simpa [Addr.add] using this
/-- A slice whose elements are one cell each, opened. -/
theorem open_lies {H : Type} {enc : TypeId × Value → H} {W : World} {spare : Nat → Bool} {held : Bool} {v : Value} {fuel : Nat} {x : DataW H × List MemPlace} {t e : TypeId} {α : Type} [Inhabited α] (f : α → Value) (Q : α → Prop) (ht : Try.prog.underlying t = some (.slice e)) (he : Try.prog.cellsOf e = 1)
    (hf : ∀ n (u : Value) y, DataW.trod enc Try.prog W 0 spare held n e [u] = some y → ∃ x, u = f x ∧ Q x) (h : DataW.trod enc Try.prog W 0 spare held fuel t [v] = some x) :
    ∃ (xs : List α) (a : Option Addr) (len cap : Nat), v = .slice a len cap ∧ Lies f W v xs ∧ (∀ x ∈ xs, Q x) ∧ len = xs.length ∧ (x.1 = .nil ∧ xs = [] ∨ ∃ es sp, x.1 = .slice es sp ∧ xs.length ≤ es.length) := by
  rcases Deep.open_slice1 ht he h with ⟨hcs, hx⟩ | ⟨y, l, c, m, n, V, D, Pl, hcs, -, hl, -, hmm, hx, hel⟩
  · simp only [List.cons.injEq, and_true] at hcs
    subst hcs
    exact ⟨[], none, 0, 0, rfl, ⟨none, 0, rfl, Nat.le_refl _, fun _ => rfl, .inl rfl⟩, fun x hx => (by cases hx), rfl, .inl ⟨by rw [hx], rfl⟩⟩
  · simp only [List.cons.injEq, and_true] at hcs
    subst hcs
    have hlm : l ≤ m := by rw [hmm]; split <;> omega
    obtain ⟨z, hz⟩ := Deep.choose_lt (α := α) (n := l) (p := fun i y' => W.cell? (y.add i) = some (f y') ∧ Q y') (fun i hi => by
      obtain ⟨h1, h2⟩ := hel i (by omega)
      obtain ⟨y', hy, hq⟩ := hf _ _ _ h2
      exact ⟨y', by rw [h1, hy], hq⟩)
    refine ⟨(List.range l).map z, some y, l, c, rfl, ⟨some y, c, by simp, by simpa using hl, fun e => (by cases e), ?_⟩, fun x hx => ?_, by simp, .inr ⟨_, _, by rw [hx], by simp⟩⟩
    · rcases Nat.eq_zero_or_pos l with h0 | h0
      · exact .inl (by rw [h0]; rfl)
      · obtain ⟨b, off, spot⟩ := y
        obtain rfl : spot = none := addr_none (hz 0 h0).1
        refine .inr ⟨b, off, rfl, fun i x hx => ?_⟩
        have hi : i < l := by have := (List.getElem?_eq_some_iff.1 hx).1; simpa using this
        have e : z i = x := by simpa [hi] using hx
        have := (hz i hi).1
        rw [add_off13, e] at this
        exact this
    · simp only [List.mem_map, List.mem_range] at hx
      obtain ⟨i, hi, rfl⟩ := hx
      exact (hz i hi).2
theorem open_by {H : Type} {enc : TypeId × Value → H} {W : World} {spare : Nat → Bool} {held : Bool} {v : Value} {d : DataW H} {p : List MemPlace} (hv : ∃ c, v.cells = #[c] ∧ c = v) (h : DataW.Trod enc Try.prog W 0 spare held 27 v d p) :
    ∃ (bs : List Nat) (a : Option Addr) (len cap : Nat), v = .slice a len cap ∧ Lies u8v W v bs ∧ (∀ x ∈ bs, x < 256) ∧ len = bs.length ∧ (d = .nil ∧ bs = [] ∨ ∃ es sp, d = .slice es sp ∧ bs.length ≤ es.length) := by
  obtain ⟨fuel, hf⟩ := h
  obtain ⟨c, hc, rfl⟩ := hv
  rw [show c.cells.toList = [c] by rw [hc]] at hf
  exact open_lies u8v (fun x => x < 256) Try.underlying27 cellsOfB (fun n u y hy => by
    obtain ⟨k, e, -, wk⟩ := DataW.trod_int Try.underlying5 hy
    have hk : 0 ≤ k ∧ k < 256 := by
      have h1 : IntKind.u8.min = 0 := by decide
      have h2 : IntKind.u8.max = 255 := by decide
      simp [Lit.wf] at wk; omega
    exact ⟨k.toNat, by simp only [List.cons.injEq, and_true] at e; rw [e]; simp [u8v]; omega, by omega⟩) hf
theorem trod_struct4 {H : Type} {enc : TypeId × Value → H} {P : Program} {w : World} {base : Nat} {spare : Nat → Bool} {held : Bool} {t : TypeId} {f0 f1 f2 f3 : Field} {fuel : Nat} {cs : List Value} {x : DataW H × List MemPlace} (ht : P.underlying t = some (.struct #[f0, f1, f2, f3])) (h : DataW.trod enc P w base spare held fuel t cs = some x) :
    ∃ y0 y1 y2 y3 n, x.1 = .agg [y0.1, y1.1, y2.1, y3.1] ∧ DataW.trod enc P w base spare held n f0.type ((cs.drop f0.offset).take (P.cellsOf f0.type)) = some y0 ∧
      DataW.trod enc P w base spare held n f1.type ((cs.drop f1.offset).take (P.cellsOf f1.type)) = some y1 ∧ DataW.trod enc P w base spare held n f2.type ((cs.drop f2.offset).take (P.cellsOf f2.type)) = some y2 ∧
      DataW.trod enc P w base spare held n f3.type ((cs.drop f3.offset).take (P.cellsOf f3.type)) = some y3 := by
  obtain ⟨xs, n, _, rfl, hl, hlen, hf⟩ := DataW.trod_struct ht h
  match xs, hlen with
  | [y0, y1, y2, y3], _ => exact ⟨y0, y1, y2, y3, n, rfl, by simpa using hf 0 f0 rfl, by simpa using hf 1 f1 rfl, by simpa using hf 2 f2 rfl, by simpa using hf 3 f3 rfl⟩
set_option maxRecDepth 100000 in
theorem open_wit {H : Type} {enc : TypeId × Value → H} {W : World} {spare : Nat → Bool} {held : Bool} {r : Reach} {b0 : Nat} {v : Value} {d : DataW H} {p : List MemPlace} (hv : Value.okWide Try.prog W r b0 25 v) (h : DataW.Trod enc Try.prog W 0 spare held 25 v d p) :
    ∃ (F T : Int) (u : Nat) (ev : Value) (es : List Int) (d0 d1 d2 d3 : DataW H), v = .agg #[.int .i64 F, .int .i64 T, .int .u32 (u : Nat), ev] ∧ d = .agg [d0, d1, d2, d3] ∧ Lies i64v W ev es ∧ u < 4294967296 ∧ (d3 = .nil ∧ es = [] ∨ ∃ xs sp, d3 = .slice xs sp ∧ es.length ≤ xs.length) := by
  obtain ⟨cs, rfl, hsz⟩ := okWide_struct Try.underlying25 hv
  obtain ⟨fuel, hf⟩ := h
  obtain ⟨l⟩ := cs
  rw [cellsOfW] at hsz
  match l, hsz with
  | [c0, c1, c2, c3], _ =>
    obtain ⟨y0, y1, y2, y3, q, ed, e0, e1, e2, e3⟩ := trod_struct4 Try.underlying25 hf
    simp only [cellsOf3, cellsOfU, cellsOfL, Value.cells, List.drop, List.take] at e0 e1 e2 e3
    obtain ⟨k0, f0, -, w0⟩ := DataW.trod_int Try.underlying3 e0
    obtain ⟨k1, f1, -, w1⟩ := DataW.trod_int Try.underlying3 e1
    obtain ⟨k2, f2, -, w2⟩ := DataW.trod_int Try.underlying22 e2
    simp only [List.cons.injEq, and_true] at f0 f1 f2
    subst f0 f1 f2
    obtain ⟨es, a, len, cap, -, hl, -, -, hd⟩ := open_lies i64v (fun _ => True) Try.underlying23 cellsOf3 (fun n u y hy => by
      obtain ⟨k, e, -⟩ := DataW.trod_int Try.underlying3 hy
      exact ⟨k, by simpa using e, trivial⟩) e3
    have hk : 0 ≤ k2 ∧ k2 < 4294967296 := by
      have h1 : IntKind.u32.min = 0 := by decide
      have h2 : IntKind.u32.max = 4294967295 := by decide
      simp [Lit.wf] at w2; omega
    obtain ⟨u, rfl⟩ := Int.eq_ofNat_of_zero_le hk.1
    exact ⟨k0, k1, u, c3, es, y0.1, y1.1, y2.1, y3.1, rfl, ed, hl, by omega, hd⟩
theorem wit_sized {H : Type} {ts : List TypeId} {ds : List (DataW H)} (hsz : (DataW.weightsEach Try.prog ts ds).all (· ≤ reachBytes) = true) {j : Nat} {d0 d1 d2 d3 : DataW H} (ht : ts[j]? = some 25) (hd : ds[j]? = some (.agg [d0, d1, d2, d3])) {es : List Int} (h : d3 = .nil ∧ es = [] ∨ ∃ xs sp, d3 = .slice xs sp ∧ es.length ≤ xs.length) : es.length * 8 ≤ 140737488351232 := by
  rcases h with ⟨-, rfl⟩ | ⟨xs, sp, rfl, h⟩
  · simp
  · have hw : ∀ n ∈ DataW.weights Try.prog 23 (.slice xs sp : DataW H), n ≤ reachBytes := fun n hn => by
      have := List.all_eq_true.1 hsz n (DataW.weights_mem_each ht hd n (by
        rw [DataW.weights, Try.underlying25]
        exact DataW.weights_mem_each (j := 3) rfl rfl n hn))
      simpa using this
    have := hw ((xs.length + sp.length) * Try.prog.bytesOf 3) (by simp [DataW.weights, Try.underlying23])
    rw [bytes3] at this
    unfold reachBytes at this
    omega
theorem by_sized {H : Type} {ts : List TypeId} {ds : List (DataW H)} (hsz : (DataW.weightsEach Try.prog ts ds).all (· ≤ reachBytes) = true) {j : Nat} {d : DataW H} (ht : ts[j]? = some 27) (hd : ds[j]? = some d) {bs : List Nat} (h : d = .nil ∧ bs = [] ∨ ∃ xs sp, d = .slice xs sp ∧ bs.length ≤ xs.length) : bs.length ≤ 140737488351232 := by
  rcases h with ⟨-, rfl⟩ | ⟨xs, sp, rfl, h⟩
  · simp
  · have := sized_slice hsz ht hd Try.underlying27
    rw [bytesB] at this
    unfold reachBytes at this
    omega
end Go.Proofs.Ytffdpfkcfohbiaa

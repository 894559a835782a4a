/- Witnesses and bytes that came in. -/
import Derived.Test.YtagibmgbjhemkaaGreatFrame7
import Derived.Test.YtagibmgbjhemkaaGreatEn16
import Derived.Deep.Slices
import Derived.Deep.Strs
namespace Go.Proofs.YtagibmgbjhemkaaGreat.W16
open Go.ChangeShapes Go.WideShapes Go.ChangeAt Go.RowKit
theorem cellsOf3 : Tryz.prog.cellsOf 3 = 1 := by kernel_rfl
theorem cellsOfB : Tryz.prog.cellsOf 5 = 1 := by kernel_rfl
theorem bytesB : Tryz.prog.bytesOf 5 = 1 := by kernel_rfl
theorem addr_none {w : World} {x : Addr} {v : Value} (h : w.cell? (x.add 0) = some v) : x.spot = none := by
  have := World.cell?_spot h
  simpa [Addr.add] using this
/-- A slice whose elements are one cell each, opened. -/
theorem open_lies {H : Type} {enc : TypeId × Value → H} {W : World} {spare : Nat → Bool} {held : Bool} {v : Value} {fuel : Nat} {x : DataW H × List MemPlace} {t e : TypeId} {α : Type} [Inhabited α] (f : α → Value) (Q : α → Prop) (ht : Tryz.prog.underlying t = some (.slice e)) (he : Tryz.prog.cellsOf e = 1)
    (hf : ∀ n (u : Value) y, DataW.trod enc Tryz.prog W 0 spare held n e [u] = some y → ∃ x, u = f x ∧ Q x) (h : DataW.trod enc Tryz.prog W 0 spare held fuel t [v] = some x) :
    ∃ (xs : List α) (a : Option Addr) (len cap : Nat), v = .slice a len cap ∧ Lies f W v xs ∧ (∀ x ∈ xs, Q x) ∧ len = xs.length ∧ (x.1 = .nil ∧ xs = [] ∨ ∃ es sp, x.1 = .slice es sp ∧ xs.length ≤ es.length) := by
  rcases Deep.open_slice1 ht he h with ⟨hcs, hx⟩ | ⟨y, l, c, m, n, V, D, Pl, hcs, -, hl, -, hmm, hx, hel⟩
  · simp only [List.cons.injEq, and_true] at hcs
    subst hcs
    exact ⟨[], none, 0, 0, rfl, ⟨none, 0, rfl, Nat.le_refl _, fun _ => rfl, .inl rfl⟩, fun x hx => (by cases hx), rfl, .inl ⟨by rw [hx], rfl⟩⟩
  · simp only [List.cons.injEq, and_true] at hcs
    subst hcs
    have hlm : l ≤ m := by rw [hmm]; split <;> omega
    obtain ⟨z, hz⟩ := Deep.choose_lt (α := α) (n := l) (p := fun i y' => W.cell? (y.add i) = some (f y') ∧ Q y') (fun i hi => by
      obtain ⟨h1, h2⟩ := hel i (by omega)
      obtain ⟨y', hy, hq⟩ := hf _ _ _ h2
      exact ⟨y', by rw [h1, hy], hq⟩)
    refine ⟨(List.range l).map z, some y, l, c, rfl, ⟨some y, c, by simp, by simpa using hl, fun e => (by cases e), ?_⟩, fun x hx => ?_, by simp, .inr ⟨_, _, by rw [hx], by simp⟩⟩
    · rcases Nat.eq_zero_or_pos l with h0 | h0
      · exact .inl (by rw [h0]; rfl)
      · obtain ⟨b, off, spot⟩ := y
        obtain rfl : spot = none := addr_none (hz 0 h0).1
        refine .inr ⟨b, off, rfl, fun i x hx => ?_⟩
        have hi : i < l := by have := (List.getElem?_eq_some_iff.1 hx).1; simpa using this
        have e : z i = x := by simpa [hi] using hx
        have := (hz i hi).1
        rw [add_off13, e] at this
        exact this
    · simp only [List.mem_map, List.mem_range] at hx
      obtain ⟨i, hi, rfl⟩ := hx
      exact (hz i hi).2
theorem open_by {H : Type} {enc : TypeId × Value → H} {W : World} {spare : Nat → Bool} {held : Bool} {v : Value} {d : DataW H} {p : List MemPlace} (hv : ∃ c, v.cells = #[c] ∧ c = v) (h : DataW.Trod enc Tryz.prog W 0 spare held 23 v d p) :
    ∃ (bs : List Nat) (a : Option Addr) (len cap : Nat), v = .slice a len cap ∧ Lies u8v W v bs ∧ (∀ x ∈ bs, x < 256) ∧ len = bs.length ∧ (d = .nil ∧ bs = [] ∨ ∃ es sp, d = .slice es sp ∧ bs.length ≤ es.length) := by
  obtain ⟨fuel, hf⟩ := h
  obtain ⟨c, hc, rfl⟩ := hv
  rw [show c.cells.toList = [c] by rw [hc]] at hf
  exact open_lies u8v (fun x => x < 256) Tryz.underlying23 cellsOfB (fun n u y hy => by
    obtain ⟨k, e, -, wk⟩ := DataW.trod_int Tryz.underlying5 hy
    have hk : 0 ≤ k ∧ k < 256 := by
      have h1 : IntKind.u8.min = 0 := by decide
      have h2 : IntKind.u8.max = 255 := by decide
      simp [Lit.wf] at wk; omega
    exact ⟨k.toNat, by simp only [List.cons.injEq, and_true] at e; rw [e]; simp [u8v]; omega, by omega⟩) hf
theorem by_sized {H : Type} {ts : List TypeId} {ds : List (DataW H)} (hsz : (DataW.weightsEach Tryz.prog ts ds).all (· ≤ reachBytes) = true) {j : Nat} {d : DataW H} (ht : ts[j]? = some 23) (hd : ds[j]? = some d) {bs : List Nat} (h : d = .nil ∧ bs = [] ∨ ∃ xs sp, d = .slice xs sp ∧ bs.length ≤ xs.length) : bs.length ≤ 140737488351232 := by
  rcases h with ⟨-, rfl⟩ | ⟨xs, sp, rfl, h⟩
  · simp
  · have := sized_slice hsz ht hd Tryz.underlying23
    rw [bytesB] at this
    unfold reachBytes at this
    omega
end Go.Proofs.YtagibmgbjhemkaaGreat.W16

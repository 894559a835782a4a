/- A slice of uint32 that came in, as the walks want it. -/
import Derived.Test.YtjeplokphkcloaaDoorFrame
import Derived.SizedLaws
import Derived.Below
import Derived.ChangeOld
namespace Go.Proofs.YtjeplokphkcloaaDoor
open Go.ChangeShapes Go.WideShapes Go.ChangeAt Go.RowKit

/-- It is empty; or its cells are these words. -/
def IsWords (w : World) (a : Option Addr) (len : Nat) (bs : List Nat) : Prop :=
  (len = 0 ∧ bs = []) ∨ ∃ b off, a = some ⟨b, off, none⟩ ∧ 0 < len ∧ bs.length = len ∧ (∀ k, k < len → w.cell? ⟨b, off + k, none⟩ = some (.int .u32 (bs.getD k 0 : Int))) ∧ ∀ k, bs.getD k 0 < 4294967296

theorem laidOut : laidOutB Tryd.prog = true := by kernel_rfl
theorem bytes22 : Tryd.prog.bytesOf 22 = 4 := by kernel_rfl

theorem words_of {w : World} {x : Addr} {len cap : Nat} {zs : List Int} (hl : len ≤ cap) (hz : zs.length = cap) (hcell : ∀ i, i < zs.length → w.cell? (x.add i) = some (.int .u32 (zs.getD i 0)))
    (hwz : ∀ n ∈ zs, (Lit.int .u32 n).wf = true) : ∃ bs, IsWords w (some x) len bs ∧ bs.length = len := by
  by_cases h0 : len = 0
  · exact ⟨[], .inl ⟨h0, rfl⟩, by simp [h0]⟩
  · obtain ⟨b, off, rfl, hc⟩ := ints_at hcell (by omega)
    have hb : ∀ k, 0 ≤ zs.getD k 0 ∧ zs.getD k 0 < 4294967296 := by
      intro k
      by_cases hk : k < zs.length
      · have := bounds_u32 (hwz (zs.getD k 0) (by simp [List.getD, hk]))
        omega
      · simp [List.getD, List.getElem?_eq_none (Nat.le_of_not_lt hk)]
    have hlen : ((zs.take len).map Int.toNat).length = len := by simp; omega
    have hg : ∀ k, k < len → ((zs.take len).map Int.toNat).getD k 0 = (zs.getD k 0).toNat := by
      intro k hk
      simp [List.getD, hk, show k < zs.length by omega]
    refine ⟨(zs.take len).map Int.toNat, .inr ⟨b, off, rfl, by omega, hlen, fun k hk => ?_, fun k => ?_⟩, hlen⟩
    · rw [hc k (by omega), hg k hk]
      have := hb k
      congr 2
      omega
    · by_cases hk : k < len
      · rw [hg k hk]; have := hb k; omega
      · rw [List.getD, List.getElem?_eq_none (by omega)]; simp

/-- A slice argument of type []uint32, opened: its words; its length within the reach that its datum is in. -/
theorem open_words {H : Type} {enc : TypeId × Value → H} {W : World} {spare : Nat → Bool} {held : Bool} {a : Option Addr} {len cap : Nat} {d : DataW H} {p : List MemPlace} (hsp : ∀ k, spare k = true)
    (h : DataW.Trod enc Tryd.prog W 0 spare held 39 (.slice a len cap) d p) : ∃ bs, IsWords W a len bs ∧ bs.length = len ∧ (d = .nil ∧ len = 0 ∨ ∃ es sp, d = .slice es sp ∧ len ≤ es.length) := by
  obtain ⟨fuel, hf⟩ := h
  rcases open_ints Tryd.underlying39 Tryd.underlying22 (by kernel_rfl) hf with ⟨hcs, hx⟩ | ⟨x, l, c, zs, hcs, _, hl, hm, hz, hx, hcell, hwz⟩
  · simp [Value.cells] at hcs
    obtain ⟨rfl, rfl, rfl⟩ := hcs
    simp only [Prod.mk.injEq] at hx
    exact ⟨[], .inl ⟨rfl, rfl⟩, rfl, .inl ⟨hx.1, rfl⟩⟩
  · simp [Value.cells] at hcs
    obtain ⟨rfl, rfl, rfl⟩ := hcs
    rw [hsp, if_pos rfl] at hz
    obtain ⟨bs, h1, h2⟩ := words_of hl hz hcell hwz
    simp only [Prod.mk.injEq] at hx
    refine ⟨bs, h1, h2, .inr ⟨_, _, hx.1, ?_⟩⟩
    simp [lits]
    omega
end Go.Proofs.YtjeplokphkcloaaDoor

/- Bytes as strings. -/
import Derived.Test.YtagibmgbjhemkaaGreatFd16
import Derived.Test.YtagibmgbjhemkaaGreatMt16
import Derived.Laws.IdiomStrings
namespace Go.Proofs.YtagibmgbjhemkaaGreat.W16
open Go.RowKit Go.Maps
def strB (bs : List Nat) : ByteArray := ⟨(bs.map UInt8.ofNat).toArray⟩
theorem ofNat_inj {x y : Nat} (hx : x < 256) (hy : y < 256) (h : UInt8.ofNat x = UInt8.ofNat y) : x = y := by
  have := congrArg UInt8.toNat h
  simp only [UInt8.toNat_ofNat'] at this
  omega
theorem map_inj : ∀ {a b : List Nat}, (∀ x ∈ a, x < 256) → (∀ x ∈ b, x < 256) → a.map UInt8.ofNat = b.map UInt8.ofNat → a = b
  | [], [], _, _, _ => rfl
  | [], _ :: _, _, _, h => by cases h
  | _ :: _, [], _, _, h => by cases h
  | x :: a, y :: b, ha, hb, h => by
    simp only [List.map_cons, List.cons.injEq] at h
    rw [ofNat_inj (ha x (by simp)) (hb y (by simp)) h.1, map_inj (fun z hz => ha z (by simp [hz])) (fun z hz => hb z (by simp [hz])) h.2]
theorem strB_iff {a b : List Nat} (ha : ∀ x ∈ a, x < 256) (hb : ∀ x ∈ b, x < 256) : strB a = strB b ↔ a = b := by
  refine ⟨fun h => map_inj ha hb ?_, fun h => by rw [h]⟩
  have := congrArg (fun x : ByteArray => x.data.toList) h
  simpa [strB] using this
theorem convB {w : World} {v : Value} {bs : List Nat} (h : Lies u8v w v bs) (hb : ∀ x ∈ bs, x < 256) : (convert 23 9 v).run Tryz.prog w = .ok (.string (strB bs)) w := by
  obtain ⟨a, c, rfl, h1, h2, h3⟩ := h
  cases a with
  | none =>
    have h0 : bs.length = 0 := by have := h2 rfl; omega
    obtain rfl : bs = [] := List.eq_nil_of_length_eq_zero h0
    rw [run_convert_bytes_string w _ _ 5 none _ c (by kernel_rfl) (by kernel_rfl) (by kernel_rfl)]
    simp [Conv.bytesToString, Sem.run_pure, strB]
    try rfl
  | some x =>
    have hc : ∀ j (hj : j < (bs.map UInt8.ofNat).length), w.cell? (x.add j) = some (.int .u8 ((bs.map UInt8.ofNat)[j].toNat : Int)) := fun j hj => by
      have hj' : j < bs.length := by simpa using hj
      rcases h3 with rfl | ⟨b, off, e, hh⟩
      · simp at hj'
      · injection e with e
        subst e
        have := hh j bs[j] (List.getElem?_eq_getElem hj')
        rw [add_off13, this]
        have := hb bs[j] (List.getElem_mem hj')
        simp only [List.getElem_map, UInt8.toNat_ofNat', u8v]
        rw [Nat.mod_eq_of_lt (by omega)]
    have := run_convert_bytes_back (P := Tryz.prog) w 23 9 5 x c (bs.map UInt8.ofNat) (by kernel_rfl) (by kernel_rfl) (by kernel_rfl) hc
    rw [List.length_map] at this
    exact this
end Go.Proofs.YtagibmgbjhemkaaGreat.W16

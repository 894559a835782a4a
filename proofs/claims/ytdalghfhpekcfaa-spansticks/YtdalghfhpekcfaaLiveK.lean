/- A set that a call made itself, as its calls see it: its runs alone. -/
import Derived.Test.YtdalghfhpekcfaaOwnK
namespace Go.Proofs.Ytdalghfhpekcfaa
open Go.RowKit Go.Shelf

/-- At p stands a set with these runs; its blocks are the call's own (from B on); below B the world is as w0 was. -/
structure LiveK (B : Nat) (w0 : World) (p : Nat) (rs : List (Int × Int)) (w : World) : Prop where
  below : Below B w0 w
  room : B ≤ w.heap.size
  own : B ≤ p
  canon : Canon rs
  fits : Fits (-128) 127 rs
  set : ∃ v, SetK w p v rs ∧ ∀ k, v.ownBlock = some k → B ≤ k

theorem LiveK.step {B : Nat} {w0 w w' : World} {p : Nat} {rs : List (Int × Int)} (h : LiveK B w0 p rs w) (hb : Below w.heap.size w w') : LiveK B w0 p rs w' := by
  obtain ⟨v, hS, hv⟩ := h.set
  exact ⟨h.below.trans (hb.mono h.room), Nat.le_trans h.room hb.size, h.own, h.canon, h.fits, v, hS.below hb, hv⟩

theorem LiveK.changed {B : Nat} {w0 w w' : World} {p : Nat} {v : Value} {rs rs' : List (Int × Int)} (h : LiveK B w0 p rs w) (hv : ∀ k, v.ownBlock = some k → B ≤ k) (hch : ChangedK w p v rs' w') (hC : Canon rs') (hF : Fits (-128) 127 rs') : LiveK B w0 p rs' w' := by
  obtain ⟨v', hS', hv'⟩ := hch.set
  refine ⟨h.below.trans ⟨hch.os, hch.tape, hch.output, hch.size, fun k hk => hch.block k (Nat.lt_of_lt_of_le hk h.room) (fun e => by have := h.own; omega) (fun e => by have := hv k e; omega)⟩, Nat.le_trans h.room hch.size, h.own, hC, hF, v', hS', fun k hk => ?_⟩
  rcases hv' with e | e
  · exact hv k (e ▸ hk)
  · exact Nat.le_trans h.room (e k hk)

theorem newLK (w : World) : Calls Try.prog 47 #[] w fun e w' => e = .returned (.pointer (some ⟨w.heap.size, 0, none⟩)) ∧ LiveK w.heap.size w w.heap.size [] w' := by
  refine (newK w).mono ?_
  rintro e w' ⟨rfl, rfl⟩
  exact ⟨rfl, (Below.refl _ _).alloc (Nat.le_refl _) _, by simp, Nat.le_refl _, canon_nil, fun i hi => by simp at hi, _, newSetK w, fun k hk => by simp [Value.ownBlock] at hk⟩

theorem addLK {B : Nat} {w0 w : World} {p : Nat} {rs : List (Int × Int)} (a b : Int) (h : LiveK B w0 p rs w) (hn : rs.length ≤ 1099511627775) (HA : Hid (((-128) ≤ a ∧ a ≤ 127) ∧ (-128) ≤ b ∧ b ≤ 127)) :
    Calls Try.prog 48 #[.pointer (some ⟨p, 0, none⟩), .int .i8 a, .int .i8 b] w fun e w' => ∃ rs', Says e (rs' ≠ rs) ∧ Hid (∀ x, In rs' x ↔ In rs x ∨ a ≤ x ∧ x ≤ b) ∧ rs'.length ≤ rs.length + 1 ∧ LiveK B w0 p rs' w' := by
  obtain ⟨v, hS, hv⟩ := h.set
  refine (addK a b w hS h.canon h.fits hn HA).mono ?_
  rintro e w' ⟨rs', h1, h2, h3, h4, h5⟩
  exact ⟨rs', h1, h3, h4, h.changed hv h5 h2 (fits_of_in h2 (fun x hx => by
    rcases (h3.out x).1 hx with h6 | h6
    · exact h.fits.in h6
    · have := HA.out; omega))⟩

theorem cutLK {B : Nat} {w0 w : World} {p : Nat} {rs : List (Int × Int)} (a b : Int) (h : LiveK B w0 p rs w) (hn : rs.length ≤ 1099511627775) (HA : Hid (((-128) ≤ a ∧ a ≤ 127) ∧ (-128) ≤ b ∧ b ≤ 127)) :
    Calls Try.prog 49 #[.pointer (some ⟨p, 0, none⟩), .int .i8 a, .int .i8 b] w fun e w' => ∃ rs', Says e (rs' ≠ rs) ∧ Hid (∀ x, In rs' x ↔ In rs x ∧ ¬ (a ≤ x ∧ x ≤ b)) ∧ rs'.length ≤ rs.length + 1 ∧ LiveK B w0 p rs' w' := by
  obtain ⟨v, hS, hv⟩ := h.set
  refine (cutK a b w hS h.canon h.fits hn HA).mono ?_
  rintro e w' ⟨rs', h1, h2, h3, h4, h5⟩
  exact ⟨rs', h1, h3, h4, h.changed hv h5 h2 (fits_of_in h2 (fun x hx => h.fits.in ((h3.out x).1 hx).1))⟩

theorem hasLK {B : Nat} {w0 w : World} {p : Nat} {rs : List (Int × Int)} (x : Int) (h : LiveK B w0 p rs w) (hn : rs.length ≤ 1099511627776) :
    Calls Try.prog 51 #[.pointer (some ⟨p, 0, none⟩), .int .i8 x] w fun e w' => Says e (In rs x) ∧ LiveK B w0 p rs w' ∧ Below w.heap.size w w' := by
  obtain ⟨v, hS, hv⟩ := h.set
  exact (hasK x w hS h.canon hn).mono fun e w' ⟨h1, h2⟩ => ⟨h1, h.step h2, h2⟩

theorem holdsLK {B : Nat} {w0 w : World} {p : Nat} {rs : List (Int × Int)} (a b : Int) (h : LiveK B w0 p rs w) (hn : rs.length ≤ 1099511627776) :
    Calls Try.prog 52 #[.pointer (some ⟨p, 0, none⟩), .int .i8 a, .int .i8 b] w fun e w' => Says e (b < a ∨ ∃ i, i < rs.length ∧ lo rs i ≤ a ∧ b ≤ hi rs i) ∧ LiveK B w0 p rs w' ∧ Below w.heap.size w w' := by
  obtain ⟨v, hS, hv⟩ := h.set
  exact (holdsK a b w hS h.canon hn).mono fun e w' ⟨h1, h2⟩ => ⟨h1, h.step h2, h2⟩

theorem meetsLK {B : Nat} {w0 w : World} {p : Nat} {rs : List (Int × Int)} (a b : Int) (h : LiveK B w0 p rs w) (hn : rs.length ≤ 1099511627776) :
    Calls Try.prog 53 #[.pointer (some ⟨p, 0, none⟩), .int .i8 a, .int .i8 b] w fun e w' => Says e (a ≤ b ∧ ∃ i, i < rs.length ∧ lo rs i ≤ b ∧ a ≤ hi rs i) ∧ LiveK B w0 p rs w' ∧ Below w.heap.size w w' := by
  obtain ⟨v, hS, hv⟩ := h.set
  exact (meetsK a b w hS h.canon hn).mono fun e w' ⟨h1, h2⟩ => ⟨h1, h.step h2, h2⟩

theorem nextLK {B : Nat} {w0 w : World} {p : Nat} {rs : List (Int × Int)} (x : Int) (h : LiveK B w0 p rs w) (hn : rs.length ≤ 1099511627776) :
    Calls Try.prog 54 #[.pointer (some ⟨p, 0, none⟩), .int .i8 x] w fun e w' => SaysNext .i8 e rs x ∧ LiveK B w0 p rs w' ∧ Below w.heap.size w w' := by
  obtain ⟨v, hS, hv⟩ := h.set
  exact (nextK x w hS h.canon hn).mono fun e w' ⟨h1, h2⟩ => ⟨h1, h.step h2, h2⟩

theorem lenLK {B : Nat} {w0 w : World} {p : Nat} {rs : List (Int × Int)} (h : LiveK B w0 p rs w) :
    Calls Try.prog 58 #[.pointer (some ⟨p, 0, none⟩)] w fun e w' => e = .returned (.int .i64 rs.length) ∧ w' = w := by
  obtain ⟨v, hS, hv⟩ := h.set
  exact lenK w hS

theorem runsLK {B : Nat} {w0 w : World} {p : Nat} {rs : List (Int × Int)} (h : LiveK B w0 p rs w) (hn : rs.length ≤ 1099511627776) :
    Calls Try.prog 81 #[.pointer (some ⟨p, 0, none⟩)] w fun e w' => ∃ v', e = .returned v' ∧ Hid (w'.ownsRow w.heap.size 107 2 v' rs.length (enc .i8 rs)) ∧ LiveK B w0 p rs w' ∧ Below w.heap.size w w' := by
  obtain ⟨v, hS, hv⟩ := h.set
  exact (runsK w hS hn).mono fun e w' ⟨v', h1, h2, h3⟩ => ⟨v', h1, h2, h.step h3, h3⟩

end Go.Proofs.Ytdalghfhpekcfaa

/- A set that a call made itself, as its calls see it: its runs alone. -/
import Derived.Test.YtdalghfhpekcfaaOwnI
namespace Go.Proofs.Ytdalghfhpekcfaa
open Go.RowKit Go.Shelf

/-- At p stands a set with these runs; its blocks are the call's own (from B on); below B the world is as w0 was. -/
structure LiveI (B : Nat) (w0 : World) (p : Nat) (rs : List (Int × Int)) (w : World) : Prop where
  below : Below B w0 w
  room : B ≤ w.heap.size
  own : B ≤ p
  canon : Canon rs
  fits : Fits (-9223372036854775808) 9223372036854775807 rs
  set : ∃ v, SetI w p v rs ∧ ∀ k, v.ownBlock = some k → B ≤ k

theorem LiveI.step {B : Nat} {w0 w w' : World} {p : Nat} {rs : List (Int × Int)} (h : LiveI B w0 p rs w) (hb : Below w.heap.size w w') : LiveI B w0 p rs w' := by
  obtain ⟨v, hS, hv⟩ := h.set
  exact ⟨h.below.trans (hb.mono h.room), Nat.le_trans h.room hb.size, h.own, h.canon, h.fits, v, hS.below hb, hv⟩

theorem LiveI.changed {B : Nat} {w0 w w' : World} {p : Nat} {v : Value} {rs rs' : List (Int × Int)} (h : LiveI B w0 p rs w) (hv : ∀ k, v.ownBlock = some k → B ≤ k) (hch : ChangedI w p v rs' w') (hC : Canon rs') (hF : Fits (-9223372036854775808) 9223372036854775807 rs') : LiveI B w0 p rs' w' := by
  obtain ⟨v', hS', hv'⟩ := hch.set
  refine ⟨h.below.trans ⟨hch.os, hch.tape, hch.output, hch.size, fun k hk => hch.block k (Nat.lt_of_lt_of_le hk h.room) (fun e => by have := h.own; omega) (fun e => by have := hv k e; omega)⟩, Nat.le_trans h.room hch.size, h.own, hC, hF, v', hS', fun k hk => ?_⟩
  rcases hv' with e | e
  · exact hv k (e ▸ hk)
  · exact Nat.le_trans h.room (e k hk)

theorem newLI (w : World) : Calls Try.prog 27 #[] w fun e w' => e = .returned (.pointer (some ⟨w.heap.size, 0, none⟩)) ∧ LiveI w.heap.size w w.heap.size [] w' := by
  refine (newI w).mono ?_
  rintro e w' ⟨rfl, rfl⟩
  exact ⟨rfl, (Below.refl _ _).alloc (Nat.le_refl _) _, by simp, Nat.le_refl _, canon_nil, fun i hi => by simp at hi, _, newSetI w, fun k hk => by simp [Value.ownBlock] at hk⟩

theorem addLI {B : Nat} {w0 w : World} {p : Nat} {rs : List (Int × Int)} (a b : Int) (h : LiveI B w0 p rs w) (hn : rs.length ≤ 1099511627775) (HA : Hid (((-9223372036854775808) ≤ a ∧ a ≤ 9223372036854775807) ∧ (-9223372036854775808) ≤ b ∧ b ≤ 9223372036854775807)) :
    Calls Try.prog 28 #[.pointer (some ⟨p, 0, none⟩), .int .i64 a, .int .i64 b] w fun e w' => ∃ rs', Says e (rs' ≠ rs) ∧ Hid (∀ x, In rs' x ↔ In rs x ∨ a ≤ x ∧ x ≤ b) ∧ rs'.length ≤ rs.length + 1 ∧ LiveI B w0 p rs' w' := by
  obtain ⟨v, hS, hv⟩ := h.set
  refine (addI a b w hS h.canon h.fits hn HA).mono ?_
  rintro e w' ⟨rs', h1, h2, h3, h4, h5⟩
  exact ⟨rs', h1, h3, h4, h.changed hv h5 h2 (fits_of_in h2 (fun x hx => by
    rcases (h3.out x).1 hx with h6 | h6
    · exact h.fits.in h6
    · have := HA.out; omega))⟩

theorem cutLI {B : Nat} {w0 w : World} {p : Nat} {rs : List (Int × Int)} (a b : Int) (h : LiveI B w0 p rs w) (hn : rs.length ≤ 1099511627775) (HA : Hid (((-9223372036854775808) ≤ a ∧ a ≤ 9223372036854775807) ∧ (-9223372036854775808) ≤ b ∧ b ≤ 9223372036854775807)) :
    Calls Try.prog 30 #[.pointer (some ⟨p, 0, none⟩), .int .i64 a, .int .i64 b] w fun e w' => ∃ rs', Says e (rs' ≠ rs) ∧ Hid (∀ x, In rs' x ↔ In rs x ∧ ¬ (a ≤ x ∧ x ≤ b)) ∧ rs'.length ≤ rs.length + 1 ∧ LiveI B w0 p rs' w' := by
  obtain ⟨v, hS, hv⟩ := h.set
  refine (cutI a b w hS h.canon h.fits hn HA).mono ?_
  rintro e w' ⟨rs', h1, h2, h3, h4, h5⟩
  exact ⟨rs', h1, h3, h4, h.changed hv h5 h2 (fits_of_in h2 (fun x hx => h.fits.in ((h3.out x).1 hx).1))⟩

theorem hasLI {B : Nat} {w0 w : World} {p : Nat} {rs : List (Int × Int)} (x : Int) (h : LiveI B w0 p rs w) (hn : rs.length ≤ 1099511627776) :
    Calls Try.prog 32 #[.pointer (some ⟨p, 0, none⟩), .int .i64 x] w fun e w' => Says e (In rs x) ∧ LiveI B w0 p rs w' ∧ Below w.heap.size w w' := by
  obtain ⟨v, hS, hv⟩ := h.set
  exact (hasI x w hS h.canon hn).mono fun e w' ⟨h1, h2⟩ => ⟨h1, h.step h2, h2⟩

theorem holdsLI {B : Nat} {w0 w : World} {p : Nat} {rs : List (Int × Int)} (a b : Int) (h : LiveI B w0 p rs w) (hn : rs.length ≤ 1099511627776) :
    Calls Try.prog 37 #[.pointer (some ⟨p, 0, none⟩), .int .i64 a, .int .i64 b] w fun e w' => Says e (b < a ∨ ∃ i, i < rs.length ∧ lo rs i ≤ a ∧ b ≤ hi rs i) ∧ LiveI B w0 p rs w' ∧ Below w.heap.size w w' := by
  obtain ⟨v, hS, hv⟩ := h.set
  exact (holdsI a b w hS h.canon hn).mono fun e w' ⟨h1, h2⟩ => ⟨h1, h.step h2, h2⟩

theorem meetsLI {B : Nat} {w0 w : World} {p : Nat} {rs : List (Int × Int)} (a b : Int) (h : LiveI B w0 p rs w) (hn : rs.length ≤ 1099511627776) :
    Calls Try.prog 39 #[.pointer (some ⟨p, 0, none⟩), .int .i64 a, .int .i64 b] w fun e w' => Says e (a ≤ b ∧ ∃ i, i < rs.length ∧ lo rs i ≤ b ∧ a ≤ hi rs i) ∧ LiveI B w0 p rs w' ∧ Below w.heap.size w w' := by
  obtain ⟨v, hS, hv⟩ := h.set
  exact (meetsI a b w hS h.canon hn).mono fun e w' ⟨h1, h2⟩ => ⟨h1, h.step h2, h2⟩

theorem nextLI {B : Nat} {w0 w : World} {p : Nat} {rs : List (Int × Int)} (x : Int) (h : LiveI B w0 p rs w) (hn : rs.length ≤ 1099511627776) :
    Calls Try.prog 31 #[.pointer (some ⟨p, 0, none⟩), .int .i64 x] w fun e w' => SaysNext .i64 e rs x ∧ LiveI B w0 p rs w' ∧ Below w.heap.size w w' := by
  obtain ⟨v, hS, hv⟩ := h.set
  exact (nextI x w hS h.canon hn).mono fun e w' ⟨h1, h2⟩ => ⟨h1, h.step h2, h2⟩

theorem lenLI {B : Nat} {w0 w : World} {p : Nat} {rs : List (Int × Int)} (h : LiveI B w0 p rs w) :
    Calls Try.prog 29 #[.pointer (some ⟨p, 0, none⟩)] w fun e w' => e = .returned (.int .i64 rs.length) ∧ w' = w := by
  obtain ⟨v, hS, hv⟩ := h.set
  exact lenI w hS

theorem runsLI {B : Nat} {w0 w : World} {p : Nat} {rs : List (Int × Int)} (h : LiveI B w0 p rs w) (hn : rs.length ≤ 1099511627776) :
    Calls Try.prog 74 #[.pointer (some ⟨p, 0, none⟩)] w fun e w' => ∃ v', e = .returned v' ∧ Hid (w'.ownsRow w.heap.size 93 2 v' rs.length (enc .i64 rs)) ∧ LiveI B w0 p rs w' ∧ Below w.heap.size w w' := by
  obtain ⟨v, hS, hv⟩ := h.set
  exact (runsI w hS hn).mono fun e w' ⟨v', h1, h2, h3⟩ => ⟨v', h1, h2, h.step h3, h3⟩

end Go.Proofs.Ytdalghfhpekcfaa

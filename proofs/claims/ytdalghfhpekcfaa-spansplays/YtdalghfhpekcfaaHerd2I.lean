/- Sets side by side: more calls, and a block beside them that is written. -/
import Derived.Test.YtdalghfhpekcfaaHerdI
import Derived.Test.YtdalghfhpekcfaaToldI
import Derived.RangeFuncFrom
namespace Go.Proofs.Ytdalghfhpekcfaa
open Go.RowKit Go.Shelf

theorem changed_othersI {w w' : World} {p : Nat} {v : Value} {rs rs' : List (Int × Int)} (hS : SetI w p v rs) (h : ChangedI w p v rs' w') : KeepsOthers w w' := by
  refine ⟨h.size, fun k o hk ho => (h.block k (Array.getElem?_eq_some_iff.1 hk).1 (fun e => ?_) (fun e => ?_)).trans hk⟩
  · subst e
    rw [hS.box] at hk
    cases hk
    simp [Obj.isCells] at ho
  · rcases hS.row.2 with ⟨rfl, -⟩ | ⟨g, cap, cur, rfl, -, hg, -⟩
    · simp [Value.ownBlock] at e
    · simp only [Value.ownBlock, Option.some.injEq] at e
      subst e
      rw [hg] at hk
      cases hk
      simp [Obj.isCells] at ho

variable {B : Nat} {w0 w : World} {F : Nat → Option (List (Int × Int))} {G : Nat → Option Obj} {p q : Nat} {rs ss : List (Int × Int)}

theorem HerdI.get (h : HerdI B w0 F G w) (hp : F p = some rs) : Canon rs ∧ Fits (-9223372036854775808) 9223372036854775807 rs := by
  obtain ⟨V, h1, h2⟩ := h.sets
  exact ⟨(h1 p rs hp).2.1, (h1 p rs hp).2.2.1⟩

theorem HerdI.add (a b : Int) (h : HerdI B w0 F G w) (hp : F p = some rs) (hn : rs.length ≤ 1099511627775) (HA : Hid (((-9223372036854775808) ≤ a ∧ a ≤ 9223372036854775807) ∧ (-9223372036854775808) ≤ b ∧ b ≤ 9223372036854775807)) :
    Calls Try.prog 28 #[.pointer (some ⟨p, 0, none⟩), .int .i64 a, .int .i64 b] w fun e w' => ∃ (r : Bool) (rs' : List (Int × Int)), e = .returned (.bool r) ∧ Hid (Canon rs' ∧ (∀ x, In rs' x ↔ In rs x ∨ a ≤ x ∧ x ≤ b) ∧ rs'.length ≤ rs.length + 1 ∧ HerdI B w0 (at' F p rs') G w' ∧ KeepsOthers w w' ∧ (r = true ↔ rs' ≠ rs)) := by
  obtain ⟨V, h1, h2, h3⟩ := h.sets
  obtain ⟨k1, k2, k3, k4, k5⟩ := h1 p rs hp
  refine (addI a b w k4 k2 k3 hn HA).mono ?_
  rintro e w' ⟨rs', ⟨r, rfl, hr⟩, m1, m3, m4, m5⟩
  exact ⟨r, rs', rfl, m1, unhide m3, m4, h.changed h1 h2 h3 hp m5 m1 (fits_of_in m1 (fun x hx => by
    rcases (unhide m3 x).1 hx with h6 | h6
    · exact k3.in h6
    · have := unhide HA; omega)), changed_othersI k4 m5, hr⟩

theorem HerdI.cutR (a b : Int) (h : HerdI B w0 F G w) (hp : F p = some rs) (hn : rs.length ≤ 1099511627775) (HA : Hid (((-9223372036854775808) ≤ a ∧ a ≤ 9223372036854775807) ∧ (-9223372036854775808) ≤ b ∧ b ≤ 9223372036854775807)) :
    Calls Try.prog 30 #[.pointer (some ⟨p, 0, none⟩), .int .i64 a, .int .i64 b] w fun e w' => ∃ (r : Bool) (rs' : List (Int × Int)), e = .returned (.bool r) ∧ Hid (Canon rs' ∧ (∀ x, In rs' x ↔ In rs x ∧ ¬ (a ≤ x ∧ x ≤ b)) ∧ rs'.length ≤ rs.length + 1 ∧ HerdI B w0 (at' F p rs') G w' ∧ (r = true ↔ rs' ≠ rs)) := by
  obtain ⟨V, h1, h2, h3⟩ := h.sets
  obtain ⟨k1, k2, k3, k4, k5⟩ := h1 p rs hp
  refine (cutI a b w k4 k2 k3 hn HA).mono ?_
  rintro e w' ⟨rs', ⟨r, rfl, hr⟩, m1, m3, m4, m5⟩
  exact ⟨r, rs', rfl, m1, unhide m3, m4, h.changed h1 h2 h3 hp m5 m1 (fits_of_in m1 (fun x hx => k3.in ((unhide m3 x).1 hx).1)), hr⟩

theorem HerdI.joinR (h : HerdI B w0 F G w) (hp : F p = some rs) (hq : F q = some ss) (n1 : rs.length ≤ 100000000) (n2 : ss.length ≤ 100000000) :
    Calls Try.prog 35 #[.pointer (some ⟨p, 0, none⟩), .pointer (some ⟨q, 0, none⟩)] w fun e w' => ∃ (r : Bool) (rs' : List (Int × Int)), e = .returned (.bool r) ∧ Hid (Canon rs' ∧ (∀ x, In rs' x ↔ In rs x ∨ In ss x) ∧ rs'.length ≤ rs.length + ss.length ∧ HerdI B w0 (at' F p rs') G w' ∧ (r = true ↔ rs' ≠ rs)) := by
  obtain ⟨V, h1, h2, h3⟩ := h.sets
  obtain ⟨k1, k2, k3, k4, k5⟩ := h1 p rs hp
  obtain ⟨j1, j2, j3, j4, j5⟩ := h1 q ss hq
  refine (joinI w k4 j4 k2 j2 k3 j3 n1 n2).mono ?_
  rintro e w' ⟨rs', ⟨r, rfl, hr⟩, m1, m2, m3, m4, m5⟩
  exact ⟨r, rs', rfl, m1, unhide m2, m4, h.changed h1 h2 h3 hp m5 m1 m3, hr⟩

theorem HerdI.told (h : HerdI B w0 F G w) (hp : F p = some rs) (hn : rs.length ≤ 1000000) :
    Calls Try.prog 44 #[.pointer (some ⟨p, 0, none⟩)] w fun e w' => ∃ v', e = .returned v' ∧ Hid (NewR w.heap.size w w' v' rs) := by
  obtain ⟨V, h1, h2, h3⟩ := h.sets
  exact toldI w (h1 p rs hp).2.2.2.1 (h1 p rs hp).2.1 (h1 p rs hp).2.2.1 hn

theorem HerdI.next (x : Int) (h : HerdI B w0 F G w) (hp : F p = some rs) (hn : rs.length ≤ 1099511627776) :
    Calls Try.prog 31 #[.pointer (some ⟨p, 0, none⟩), .int .i64 x] w fun e w' => SaysNext .i64 e rs x ∧ Below w.heap.size w w' := by
  obtain ⟨V, h1, h2, h3⟩ := h.sets
  exact nextI x w (h1 p rs hp).2.2.2.1 (h1 p rs hp).2.1 hn

theorem HerdI.len (h : HerdI B w0 F G w) (hp : F p = some rs) :
    Calls Try.prog 29 #[.pointer (some ⟨p, 0, none⟩)] w fun e w' => e = .returned (.int .i64 rs.length) ∧ w' = w := by
  obtain ⟨V, h1, h2, h3⟩ := h.sets
  exact lenI w (h1 p rs hp).2.2.2.1

/-- A cell of a block beside them is written. -/
theorem HerdI.poke (h : HerdI B w0 F G w) {g i : Nat} {cs : Array Value} {t : TypeId} {fr : Nat × Nat} (hg : G g = some (.cells cs t fr)) (hB : B ≤ g) (v : Value) :
    HerdI B w0 F (fun k => if k = g then some (.cells (cs.setIfInBounds i v) t fr) else G k) (w.setCell ⟨g, i, none⟩ v) := by
  have hgg := h.kept g _ hg
  obtain ⟨V, h1, h2, h3⟩ := h.sets
  have hk : ∀ k, k ≠ g → (w.setCell ⟨g, i, none⟩ v).heap[k]? = w.heap[k]? := fun k hk => Below.heap_setCell w _ v k hk
  have hb : Below B w0 (w.setCell ⟨g, i, none⟩ v) := h.below.setCell (p := ⟨g, i, none⟩) hB _
  refine ⟨hb, Nat.le_trans h.room ?_, fun k o hk2 => ?_, V, fun p rs hp => ?_, h2, fun p rs k o hp hk2 => ?_⟩
  · show w.heap.size ≤ (w.setCell ⟨g, i, none⟩ v).heap.size
    exact (KeepsOthers.setCell w ⟨g, i, none⟩ v).size
  · by_cases e : k = g
    · subst e
      simp only [if_true] at hk2
      cases hk2
      simp [World.setCell, Array.getElem?_modify, hgg]
    · simp only [if_neg e] at hk2
      exact (hk k e).trans (h.kept k o hk2)
  · obtain ⟨k1, k2, k3, k4, k5⟩ := h1 p rs hp
    obtain ⟨m1, m2⟩ := h3 p rs g _ hp hg
    exact ⟨k1, k2, k3, k4.kept (hk p m1) (fun j hj => hk j (fun e => m2 (by rw [← e]; exact hj))), k5⟩
  · by_cases e : k = g
    · subst e
      exact h3 p rs k _ hp hg
    · simp only [if_neg e] at hk2
      exact h3 p rs k o hp hk2
end Go.Proofs.Ytdalghfhpekcfaa

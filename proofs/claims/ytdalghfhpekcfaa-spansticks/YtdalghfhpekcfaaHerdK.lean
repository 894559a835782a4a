/- Several sets side by side. -/
import Derived.Test.YtdalghfhpekcfaaJoinK
namespace Go.Proofs.Ytdalghfhpekcfaa
open Go.RowKit Go.Shelf

/-- Sets side by side: at p stands a set with the runs F p; their blocks are the call's own (from B on), and no two share one; beside them the blocks G. -/
structure HerdK (B : Nat) (w0 : World) (F : Nat → Option (List (Int × Int))) (G : Nat → Option Obj) (w : World) : Prop where
  below : Below B w0 w
  room : B ≤ w.heap.size
  kept : ∀ g o, G g = some o → w.heap[g]? = some o
  sets : ∃ V : Nat → Value, (∀ p rs, F p = some rs → B ≤ p ∧ Canon rs ∧ Fits (-128) 127 rs ∧ SetK w p (V p) rs ∧ ∀ k, (V p).ownBlock = some k → B ≤ k) ∧
    (∀ p q rs ss, F p = some rs → F q = some ss → p ≠ q → (V p).ownBlock ≠ some q ∧ ∀ k, (V p).ownBlock = some k → (V q).ownBlock ≠ some k) ∧
    ∀ p rs g o, F p = some rs → G g = some o → p ≠ g ∧ (V p).ownBlock ≠ some g

/-- F, but rs at p. -/
def at' (F : Nat → Option (List (Int × Int))) (p : Nat) (rs : List (Int × Int)) : Nat → Option (List (Int × Int)) := fun q => if q = p then some rs else F q

theorem at_self (F : Nat → Option (List (Int × Int))) (p : Nat) (rs : List (Int × Int)) : at' F p rs p = some rs := by simp [at']
theorem at_other (F : Nat → Option (List (Int × Int))) {p q : Nat} (rs : List (Int × Int)) (h : q ≠ p) : at' F p rs q = F q := by simp [at', h]

theorem herd_none (w : World) : HerdK w.heap.size w (fun _ => none) (fun _ => none) w := ⟨Below.refl _ _, Nat.le_refl _, fun g o h => by simp at h, fun _ => .slice none 0 0, fun p rs h => by simp at h, fun p q rs ss h => by simp at h, fun p rs g o h => by simp at h⟩

theorem HerdK.ltG {B : Nat} {w0 w : World} {F : Nat → Option (List (Int × Int))} {G : Nat → Option Obj} (h : HerdK B w0 F G w) {g : Nat} {o : Obj} (hg : G g = some o) : g < w.heap.size := (Array.getElem?_eq_some_iff.1 (h.kept g o hg)).1

theorem HerdK.step {B : Nat} {w0 w w' : World} {F : Nat → Option (List (Int × Int))} {G : Nat → Option Obj} (h : HerdK B w0 F G w) (hb : Below w.heap.size w w') : HerdK B w0 F G w' := by
  obtain ⟨V, h1, h2⟩ := h.sets
  exact ⟨h.below.trans (hb.mono h.room), Nat.le_trans h.room hb.size, fun g o hg => (hb.block g (h.ltG hg)).trans (h.kept g o hg), V, fun p rs hp => by
    obtain ⟨k1, k2, k3, k4, k5⟩ := h1 p rs hp
    exact ⟨k1, k2, k3, k4.below hb, k5⟩, h2⟩

theorem HerdK.lt {B : Nat} {w0 w : World} {F : Nat → Option (List (Int × Int))} {G : Nat → Option Obj} (h : HerdK B w0 F G w) {p : Nat} {rs : List (Int × Int)} (hp : F p = some rs) : p < w.heap.size := by
  obtain ⟨V, h1, h2⟩ := h.sets
  exact (h1 p rs hp).2.2.2.1.lt

/-- A new set. -/
theorem HerdK.new {B : Nat} {w0 w w' : World} {F : Nat → Option (List (Int × Int))} {G : Nat → Option Obj} (h : HerdK B w0 F G w) (hb : Below w.heap.size w w') {p : Nat} {v : Value} {rs : List (Int × Int)} (hS : SetK w' p v rs) (hp : w.heap.size ≤ p) (hv : ∀ k, v.ownBlock = some k → w.heap.size ≤ k) (hC : Canon rs) (hF : Fits (-128) 127 rs) : HerdK B w0 (at' F p rs) G w' := by
  obtain ⟨V, h1, h2, h3⟩ := h.sets
  have hlt : ∀ q ss, F q = some ss → q < w.heap.size ∧ ∀ k, (V q).ownBlock = some k → k < w.heap.size := fun q ss hq => ⟨h.lt hq, fun k hk => ((h1 q ss hq).2.2.2.1.row.lt k hk).2⟩
  have hne : ∀ q ss, q ≠ p → at' F p rs q = some ss → F q = some ss := fun q ss hq e => by rwa [at_other F rs hq] at e
  refine ⟨h.below.trans (hb.mono h.room), Nat.le_trans h.room hb.size, fun g o hg => (hb.block g (h.ltG hg)).trans (h.kept g o hg), fun q => if q = p then v else V q, fun q ss hq => ?_, fun q r ss ts hq hr hqr => ?_, fun q ss g o hq hg => ?_⟩
  · by_cases e : q = p
    · subst e
      rw [at_self] at hq
      cases hq
      simp only [if_true]
      exact ⟨Nat.le_trans h.room hp, hC, hF, hS, fun k hk => Nat.le_trans h.room (hv k hk)⟩
    · obtain ⟨k1, k2, k3, k4, k5⟩ := h1 q ss (hne q ss e hq)
      simp only [if_neg e]
      exact ⟨k1, k2, k3, k4.below hb, k5⟩
  · by_cases e : q = p
    · subst e
      have er : r ≠ q := fun e => hqr e.symm
      obtain ⟨l1, l2⟩ := hlt r ts (hne r ts er hr)
      simp only [if_true, if_neg er]
      exact ⟨fun e => by have := hv r e; omega, fun k hk e => by have := hv k hk; have := l2 k e; omega⟩
    · obtain ⟨l1, l2⟩ := hlt q ss (hne q ss e hq)
      by_cases er : r = p
      · subst er
        simp only [if_true, if_neg e]
        exact ⟨fun e => by have := l2 r e; omega, fun k hk e => by have := l2 k hk; have := hv k e; omega⟩
      · simp only [if_neg e, if_neg er]
        exact h2 q r ss ts (hne q ss e hq) (hne r ts er hr) hqr
  · have hgl := h.ltG hg
    by_cases e : q = p
    · subst e
      simp only [if_true]
      exact ⟨by omega, fun e => by have := hv g e; omega⟩
    · simp only [if_neg e]
      exact h3 q ss g o (hne q ss e hq) hg

/-- One block more beside them. -/
theorem HerdK.side {B : Nat} {w0 w w' : World} {F : Nat → Option (List (Int × Int))} {G : Nat → Option Obj} (h : HerdK B w0 F G w) (hb : Below w.heap.size w w') {g : Nat} {o : Obj} (hg : w.heap.size ≤ g) (ho : w'.heap[g]? = some o) : HerdK B w0 F (fun k => if k = g then some o else G k) w' := by
  have h' := h.step hb
  obtain ⟨V, h1, h2, h3⟩ := h.sets
  have h1' : ∀ p rs, F p = some rs → B ≤ p ∧ Canon rs ∧ Fits (-128) 127 rs ∧ SetK w' p (V p) rs ∧ ∀ k, (V p).ownBlock = some k → B ≤ k := fun p rs hp => by
    obtain ⟨k1, k2, k3, k4, k5⟩ := h1 p rs hp
    exact ⟨k1, k2, k3, k4.below hb, k5⟩
  refine ⟨h'.below, h'.room, fun k o2 hk => ?_, V, h1', h2, fun p rs k o2 hp hk => ?_⟩
  · by_cases e : k = g
    · subst e
      simp only [if_true] at hk
      cases hk
      exact ho
    · simp only [if_neg e] at hk
      exact h'.kept k o2 hk
  · by_cases e : k = g
    · subst e
      have l1 := h.lt hp
      exact ⟨by omega, fun e => by have := ((h1 p rs hp).2.2.2.1.row.lt k e).2; omega⟩
    · simp only [if_neg e] at hk
      exact h3 p rs k o2 hp hk

theorem HerdK.forget {B : Nat} {w0 w : World} {F : Nat → Option (List (Int × Int))} {G G' : Nat → Option Obj} (h : HerdK B w0 F G w) (hs : ∀ g o, G' g = some o → G g = some o) : HerdK B w0 F G' w := by
  obtain ⟨V, h1, h2, h3⟩ := h.sets
  exact ⟨h.below, h.room, fun g o hg => h.kept g o (hs g o hg), V, h1, h2, fun p rs g o hp hg => h3 p rs g o hp (hs g o hg)⟩

/-- One set is changed. -/
theorem HerdK.changed {B : Nat} {w0 w w' : World} {F : Nat → Option (List (Int × Int))} {G : Nat → Option Obj} {V : Nat → Value} (h : HerdK B w0 F G w) (h1 : ∀ p rs, F p = some rs → B ≤ p ∧ Canon rs ∧ Fits (-128) 127 rs ∧ SetK w p (V p) rs ∧ ∀ k, (V p).ownBlock = some k → B ≤ k)
    (h2 : ∀ p q rs ss, F p = some rs → F q = some ss → p ≠ q → (V p).ownBlock ≠ some q ∧ ∀ k, (V p).ownBlock = some k → (V q).ownBlock ≠ some k)
    (h3 : ∀ p rs g o, F p = some rs → G g = some o → p ≠ g ∧ (V p).ownBlock ≠ some g) {p : Nat} {rs rs' : List (Int × Int)} (hp : F p = some rs) (hch : ChangedK w p (V p) rs' w') (hC : Canon rs') (hF : Fits (-128) 127 rs') : HerdK B w0 (at' F p rs') G w' := by
  obtain ⟨v', hS', hv'⟩ := hch.set
  obtain ⟨j1, j2, j3, j4, j5⟩ := h1 p rs hp
  have hlt : ∀ q ss, F q = some ss → q < w.heap.size ∧ ∀ k, (V q).ownBlock = some k → k < w.heap.size := fun q ss hq => ⟨h.lt hq, fun k hk => ((h1 q ss hq).2.2.2.1.row.lt k hk).2⟩
  have hne : ∀ q ss, q ≠ p → at' F p rs' q = some ss → F q = some ss := fun q ss hq e => by rwa [at_other F rs' hq] at e
  refine ⟨h.below.trans ⟨hch.os, hch.tape, hch.output, hch.size, fun k hk => hch.block k (Nat.lt_of_lt_of_le hk h.room) (fun e => by omega) (fun e => by have := j5 k e; omega)⟩, Nat.le_trans h.room hch.size, fun g o hg => (hch.block g (h.ltG hg) (fun e => (h3 p rs g o hp hg).1 e.symm) (h3 p rs g o hp hg).2).trans (h.kept g o hg), fun q => if q = p then v' else V q, fun q ss hq => ?_, fun q r ss ts hq hr hqr => ?_, fun q ss g o hq hg => ?_⟩
  · by_cases e : q = p
    · subst e
      rw [at_self] at hq
      cases hq
      simp only [if_true]
      refine ⟨j1, hC, hF, hS', fun k hk => ?_⟩
      rcases hv' with e | e
      · exact j5 k (e ▸ hk)
      · exact Nat.le_trans h.room (e k hk)
    · have hq' := hne q ss e hq
      obtain ⟨k1, k2, k3, k4, k5⟩ := h1 q ss hq'
      obtain ⟨a1, a2⟩ := h2 p q rs ss hp hq' (fun e1 => e e1.symm)
      obtain ⟨a3, a4⟩ := h2 q p ss rs hq' hp e
      simp only [if_neg e]
      exact ⟨k1, k2, k3, k4.kept (hch.block q (hlt q ss hq').1 e a1) (fun g hg => hch.block g ((hlt q ss hq').2 g hg) (fun e1 => a3 (e1 ▸ hg)) (a4 g hg)), k5⟩
  · by_cases e : q = p
    · subst e
      have er : r ≠ q := fun e => hqr e.symm
      have hr' := hne r ts er hr
      obtain ⟨l1, l2⟩ := hlt r ts hr'
      obtain ⟨a1, a2⟩ := h2 q r rs ts hp hr' hqr
      simp only [if_true, if_neg er]
      rcases hv' with e | e
      · rw [e]; exact ⟨a1, a2⟩
      · exact ⟨fun e1 => by have := e r e1; omega, fun k hk e1 => by have := e k hk; have := l2 k e1; omega⟩
    · have hq' := hne q ss e hq
      obtain ⟨l1, l2⟩ := hlt q ss hq'
      by_cases er : r = p
      · subst er
        obtain ⟨a1, a2⟩ := h2 q r ss rs hq' hp hqr
        simp only [if_true, if_neg e]
        refine ⟨a1, fun k hk e1 => ?_⟩
        rcases hv' with e2 | e2
        · rw [e2] at e1; exact a2 k hk e1
        · have := l2 k hk; have := e2 k e1; omega
      · simp only [if_neg e, if_neg er]
        exact h2 q r ss ts hq' (hne r ts er hr) hqr
  · have hgl := h.ltG hg
    by_cases e : q = p
    · subst e
      simp only [if_true]
      obtain ⟨b1, b2⟩ := h3 q rs g o hp hg
      refine ⟨b1, ?_⟩
      rcases hv' with e | e
      · rw [e]; exact b2
      · exact fun e1 => by have := e g e1; omega
    · simp only [if_neg e]
      exact h3 q ss g o (hne q ss e hq) hg

/-! ### the calls -/

variable {B : Nat} {w0 w : World} {F : Nat → Option (List (Int × Int))} {G : Nat → Option Obj} {p q : Nat} {rs ss : List (Int × Int)}

theorem HerdK.clone (h : HerdK B w0 F G w) (hp : F p = some rs) (hn : rs.length ≤ 1099511627776) :
    Calls Try.prog 55 #[.pointer (some ⟨p, 0, none⟩)] w fun e w' => ∃ p2, e = .returned (.pointer (some ⟨p2, 0, none⟩)) ∧ Hid (w.heap.size ≤ p2 ∧ HerdK B w0 (at' F p2 rs) G w') := by
  obtain ⟨V, h1, h2, h3⟩ := h.sets
  obtain ⟨k1, k2, k3, k4, k5⟩ := h1 p rs hp
  refine (cloneK w k4 hn).mono ?_
  rintro e w' ⟨p2, v2, rfl, hh⟩
  obtain ⟨m1, m2, m3, m4⟩ := unhide hh
  exact ⟨p2, rfl, m2, h.new m4 m1 m2 m3 k2 k3⟩

theorem HerdK.join (h : HerdK B w0 F G w) (hp : F p = some rs) (hq : F q = some ss) (n1 : rs.length ≤ 100000000) (n2 : ss.length ≤ 100000000) :
    Calls Try.prog 50 #[.pointer (some ⟨p, 0, none⟩), .pointer (some ⟨q, 0, none⟩)] w fun e w' => ∃ (r : Bool) (rs' : List (Int × Int)), e = .returned (.bool r) ∧ Hid (Canon rs' ∧ (∀ x, In rs' x ↔ In rs x ∨ In ss x) ∧ rs'.length ≤ rs.length + ss.length ∧ HerdK B w0 (at' F p rs') G w') := by
  obtain ⟨V, h1, h2, h3⟩ := h.sets
  obtain ⟨k1, k2, k3, k4, k5⟩ := h1 p rs hp
  obtain ⟨j1, j2, j3, j4, j5⟩ := h1 q ss hq
  refine (joinK w k4 j4 k2 j2 k3 j3 n1 n2).mono ?_
  rintro e w' ⟨rs', ⟨r, rfl, -⟩, m1, m2, m3, m4, m5⟩
  exact ⟨r, rs', rfl, m1, unhide m2, m4, h.changed h1 h2 h3 hp m5 m1 m3⟩

theorem HerdK.same (h : HerdK B w0 F G w) (hp : F p = some rs) (hq : F q = some ss) (n1 : rs.length ≤ 1099511627776) :
    Calls Try.prog 56 #[.pointer (some ⟨p, 0, none⟩), .pointer (some ⟨q, 0, none⟩)] w fun e w' => Says e (rs = ss) ∧ HerdK B w0 F G w' := by
  obtain ⟨V, h1, h2, h3⟩ := h.sets
  refine (sameK w (h1 p rs hp).2.2.2.1 (h1 q ss hq).2.2.2.1 n1).mono ?_
  rintro e w' ⟨m1, m, rfl⟩
  exact ⟨m1, h.step (below_drewN (Below.refl _ _) m)⟩

theorem HerdK.runs (h : HerdK B w0 F G w) (hp : F p = some rs) (hn : rs.length ≤ 1099511627776) :
    Calls Try.prog 81 #[.pointer (some ⟨p, 0, none⟩)] w fun e w' => ∃ v', e = .returned v' ∧ Hid (w'.ownsRow w.heap.size 107 2 v' rs.length (enc .i8 rs) ∧ Below w.heap.size w w') := by
  obtain ⟨V, h1, h2, h3⟩ := h.sets
  exact runsK w (h1 p rs hp).2.2.2.1 hn

theorem HerdK.holds (a b : Int) (h : HerdK B w0 F G w) (hp : F p = some rs) (hn : rs.length ≤ 1099511627776) :
    Calls Try.prog 52 #[.pointer (some ⟨p, 0, none⟩), .int .i8 a, .int .i8 b] w fun e w' => Says e (b < a ∨ ∃ i, i < rs.length ∧ lo rs i ≤ a ∧ b ≤ hi rs i) ∧ Below w.heap.size w w' := by
  obtain ⟨V, h1, h2, h3⟩ := h.sets
  exact holdsK a b w (h1 p rs hp).2.2.2.1 (h1 p rs hp).2.1 hn

theorem HerdK.meets (a b : Int) (h : HerdK B w0 F G w) (hp : F p = some rs) (hn : rs.length ≤ 1099511627776) :
    Calls Try.prog 53 #[.pointer (some ⟨p, 0, none⟩), .int .i8 a, .int .i8 b] w fun e w' => Says e (a ≤ b ∧ ∃ i, i < rs.length ∧ lo rs i ≤ b ∧ a ≤ hi rs i) ∧ Below w.heap.size w w' := by
  obtain ⟨V, h1, h2, h3⟩ := h.sets
  exact meetsK a b w (h1 p rs hp).2.2.2.1 (h1 p rs hp).2.1 hn

theorem HerdK.has (x : Int) (h : HerdK B w0 F G w) (hp : F p = some rs) (hn : rs.length ≤ 1099511627776) :
    Calls Try.prog 51 #[.pointer (some ⟨p, 0, none⟩), .int .i8 x] w fun e w' => Says e (In rs x) ∧ Below w.heap.size w w' := by
  obtain ⟨V, h1, h2, h3⟩ := h.sets
  exact hasK x w (h1 p rs hp).2.2.2.1 (h1 p rs hp).2.1 hn

theorem HerdK.cut (a b : Int) (h : HerdK B w0 F G w) (hp : F p = some rs) (hn : rs.length ≤ 1099511627775) (HA : Hid (((-128) ≤ a ∧ a ≤ 127) ∧ (-128) ≤ b ∧ b ≤ 127)) :
    Calls Try.prog 49 #[.pointer (some ⟨p, 0, none⟩), .int .i8 a, .int .i8 b] w fun e w' => ∃ (r : Bool) (rs' : List (Int × Int)), e = .returned (.bool r) ∧ Hid (Canon rs' ∧ (∀ x, In rs' x ↔ In rs x ∧ ¬ (a ≤ x ∧ x ≤ b)) ∧ rs'.length ≤ rs.length + 1 ∧ HerdK B w0 (at' F p rs') G w') := by
  obtain ⟨V, h1, h2, h3⟩ := h.sets
  obtain ⟨k1, k2, k3, k4, k5⟩ := h1 p rs hp
  refine (cutK a b w k4 k2 k3 hn HA).mono ?_
  rintro e w' ⟨rs', ⟨r, rfl, -⟩, m1, m3, m4, m5⟩
  exact ⟨r, rs', rfl, m1, unhide m3, m4, h.changed h1 h2 h3 hp m5 m1 (fits_of_in m1 (fun x hx => k3.in ((unhide m3 x).1 hx).1))⟩

end Go.Proofs.Ytdalghfhpekcfaa

/- What SpansOwn's walk carries: two sets, and the blocks beside them. -/
import Derived.Test.YtdalghfhpekcfaaValues
namespace Go.Proofs.Ytdalghfhpekcfaa
open Go.RowKit Go.Shelf

theorem canon_short {rs : List (Int × Int)} (hC : Canon rs) (hF : Fits 0 255 rs) : rs.length ≤ 128 := by
  have h : ∀ i, i < rs.length → 2 * (i : Int) ≤ lo rs i := fun i => by
    induction i with
    | zero => intro h; have := hF 0 h; omega
    | succ i ih =>
      intro h
      have := ih (by omega)
      have := hC.gap i (i + 1) (by omega) h
      have := hC.run i (by omega)
      omega
  rcases Nat.eq_zero_or_pos rs.length with h0 | h0
  · omega
  · have := h (rs.length - 1) (by omega)
    have := hF (rs.length - 1) (by omega)
    have := hC.run (rs.length - 1) (by omega)
    omega

section
variable {B : Nat} {w0 w w' : World} {F : Nat → Option (List (Int × Int))} {G : Nat → Option Obj} {p q : Nat} {rs ss : List (Int × Int)}

theorem HerdU.short (h : HerdU B w0 F G w) (hp : F p = some rs) : rs.length ≤ 128 := canon_short (h.get hp).1 (h.get hp).2

theorem HerdU.grown {Br : Nat} {row : Option Nat} (h : HerdU B w0 F G w) (hBr : B ≤ Br) (hG : ∀ g o, G g = some o → g < Br) (hg : w.grownBy w' row) (hr : ∀ r, row = some r → Br ≤ r ∧ ∃ o : Obj, w.heap[r]? = some o ∧ o.isCells = false) : HerdU B w0 F G w' := by
  obtain ⟨V, h1, h2, h3⟩ := h.sets
  have hcell : ∀ (k : Nat) (cs : Array Value) (t : TypeId) (fr : Nat × Nat), w.heap[k]? = some (Obj.cells cs t fr) → w'.heap[k]? = w.heap[k]? := fun k cs t fr hk => grownBy_keeps_cells hg (fun r e => (hr r e).2) hk rfl
  refine ⟨h.below.grown hg h.room (fun k e => Nat.le_trans hBr (hr k e).1), Nat.le_trans h.room hg.size, fun g o hg2 => (hg.block g (h.ltG hg2) (fun e => by have := (hr g e.symm).1; have := hG g o hg2; omega)).trans (h.kept g o hg2), V, fun p rs hp => ?_, h2, h3⟩
  obtain ⟨k1, k2, k3, k4, k5⟩ := h1 p rs hp
  refine ⟨k1, k2, k3, k4.kept (hcell _ _ _ _ k4.box) (fun g hg2 => ?_), k5⟩
  rcases k4.row.2 with ⟨e, -⟩ | ⟨g2, cap, cur, e, -, hgg, -⟩
  · rw [e] at hg2; simp [Value.ownBlock] at hg2
  · rw [e] at hg2
    simp only [Value.ownBlock, Option.some.injEq] at hg2
    subst hg2
    exact hcell _ _ _ _ hgg

/-- A block that is no cells is beside them. -/
theorem HerdU.learn (h : HerdU B w0 F G w) {g : Nat} {o : Obj} (ho : w.heap[g]? = some o) (hc : o.isCells = false) : HerdU B w0 F (fun k => if k = g then some o else G k) w := by
  obtain ⟨V, h1, h2, h3⟩ := h.sets
  refine ⟨h.below, h.room, fun k o2 hk => ?_, V, h1, h2, fun p rs k o2 hp hk => ?_⟩
  · by_cases e : k = g
    · subst e
      simp only [if_true] at hk
      cases hk
      exact ho
    · simp only [if_neg e] at hk
      exact h.kept k o2 hk
  · by_cases e : k = g
    · subst e
      have k4 := (h1 p rs hp).2.2.2.1
      refine ⟨fun e => ?_, fun e => ?_⟩
      · subst e
        rw [k4.box] at ho
        cases ho
        simp [Obj.isCells] at hc
      · rcases k4.row.2 with ⟨e2, -⟩ | ⟨g2, cap, cur, e2, -, hgg, -⟩
        · rw [e2] at e; simp [Value.ownBlock] at e
        · rw [e2] at e
          simp only [Value.ownBlock, Option.some.injEq] at e
          subst e
          rw [hgg] at ho
          cases ho
          simp [Obj.isCells] at hc
    · simp only [if_neg e] at hk
      exact h3 p rs k o2 hp hk
end

/-- W has the blocks of G. -/
def KeepsG (G : Nat → Option Obj) (W : World) : Prop := ∀ g o, G g = some o → W.heap[g]? = some o
/-- A row of runs whose block is one of G's. -/
def RowIn (G : Nat → Option Obj) (e : TypeId) (k : IntKind) (v : Value) (rs : List (Int × Int)) : Prop :=
  (v = .slice none 0 0 ∧ rs.length = 0) ∨ ∃ g cap cur, v = .slice (some ⟨g, 0, none⟩) rs.length cap ∧ G g = some (.cells cur e (0, 0)) ∧ rs.length ≤ cap ∧ cap ≤ maxLen ∧ cur.size = cap * 2 ∧ cur.toList.take (rs.length * 2) = enc k rs

theorem RowIn.row {G : Nat → Option Obj} {e : TypeId} {k : IntKind} {v : Value} {rs : List (Int × Int)} {W : World} (h : RowIn G e k v rs) (hW : KeepsG G W) : W.ownsRow 0 e 2 v rs.length (enc k rs) :=
  ⟨enc_length _ _, h.imp id fun ⟨g, cap, cur, h1, h2, h3⟩ => ⟨g, cap, cur, h1, Nat.zero_le _, hW g _ h2, h3⟩⟩
theorem RowIn.blk {G : Nat → Option Obj} {e : TypeId} {k : IntKind} {v : Value} {rs : List (Int × Int)} (h : RowIn G e k v rs) (g : Nat) (hg : v.ownBlock = some g) : ∃ o, G g = some o := by
  rcases h with ⟨rfl, -⟩ | ⟨g2, cap, cur, rfl, h2, -⟩
  · simp [Value.ownBlock] at hg
  · simp only [Value.ownBlock, Option.some.injEq] at hg
    subst hg
    exact ⟨_, h2⟩
theorem RowIn.move {G G' : Nat → Option Obj} {e : TypeId} {k : IntKind} {v : Value} {rs : List (Int × Int)} (h : RowIn G e k v rs) (hs : ∀ g cs, G g = some (.cells cs e (0, 0)) → G' g = some (.cells cs e (0, 0))) : RowIn G' e k v rs :=
  h.imp id fun ⟨g, cap, cur, h1, h2, h3⟩ => ⟨g, cap, cur, h1, hs g _ h2, h3⟩
theorem RowIn.mono {G G' : Nat → Option Obj} {e : TypeId} {k : IntKind} {v : Value} {rs : List (Int × Int)} (h : RowIn G e k v rs) (hs : ∀ g o, G g = some o → G' g = some o) : RowIn G' e k v rs := h.move fun g _ hg => hs g _ hg

/-- A block beside them, G at the others. -/
def Gb (G : Nat → Option Obj) (b : Nat) (o : Obj) : Nat → Option Obj := fun k => if k = b then some o else G k
theorem Gb_self (G : Nat → Option Obj) (b : Nat) (o : Obj) : Gb G b o b = some o := by simp [Gb]
theorem Gb_other (G : Nat → Option Obj) {b g : Nat} (o : Obj) (h : g ≠ b) : Gb G b o g = G g := by simp [Gb, h]
theorem Gb_sub {G : Nat → Option Obj} {b : Nat} {o : Obj} (hG : ∀ g o, G g = some o → g < b) : ∀ g o', G g = some o' → Gb G b o g = some o' := fun g o' h => by rw [Gb_other _ _ (by have := hG g o' h; omega)]; exact h

/-- Two sets: at ps some, at pc the one with runs rs. -/
def Flock (w : World) (ps pc : Nat) (rs : List (Int × Int)) (G : Nat → Option Obj) (W : World) : Prop :=
  ∃ F ss, HerdU w.heap.size w F G W ∧ F ps = some ss ∧ F pc = some rs ∧ ps ≠ pc

variable {w : World} {ps pc : Nat} {rs : List (Int × Int)} {G G' : Nat → Option Obj} {W W' : World}

theorem Flock.keeps (h : Flock w ps pc rs G W) : KeepsG G W := by
  obtain ⟨F, ss, h1, -⟩ := h
  exact h1.kept
theorem Flock.below (h : Flock w ps pc rs G W) : Below w.heap.size w W := by
  obtain ⟨F, ss, h1, -⟩ := h
  exact h1.below
theorem Flock.lt (h : Flock w ps pc rs G W) {g : Nat} {o : Obj} (hg : G g = some o) : g < W.heap.size := by
  obtain ⟨F, ss, h1, -⟩ := h
  exact h1.ltG hg
theorem Flock.step (h : Flock w ps pc rs G W) (hb : Below W.heap.size W W') : Flock w ps pc rs G W' := by
  obtain ⟨F, ss, h1, h2⟩ := h
  exact ⟨F, ss, h1.step hb, h2⟩
theorem Flock.forget (h : Flock w ps pc rs G W) (hs : ∀ g o, G' g = some o → G g = some o) : Flock w ps pc rs G' W := by
  obtain ⟨F, ss, h1, h2⟩ := h
  exact ⟨F, ss, h1.forget hs, h2⟩
theorem Flock.new (h : Flock w ps pc rs G W) (o : Obj) : Flock w ps pc rs (Gb G W.heap.size o) (W.alloc o) := by
  obtain ⟨F, ss, h1, h2⟩ := h
  exact ⟨F, ss, h1.side ((Below.refl _ _).alloc (Nat.le_refl _) _) (Nat.le_refl _) (heap_alloc_new W o), h2⟩
theorem Flock.learn (h : Flock w ps pc rs G W) {g : Nat} {o : Obj} (ho : W.heap[g]? = some o) (hc : o.isCells = false) : Flock w ps pc rs (Gb G g o) W := by
  obtain ⟨F, ss, h1, h2⟩ := h
  exact ⟨F, ss, h1.learn ho hc, h2⟩
theorem Flock.grown {Br : Nat} {row : Option Nat} (h : Flock w ps pc rs G W) (hBr : w.heap.size ≤ Br) (hG : ∀ g o, G g = some o → g < Br) (hg : W.grownBy W' row) (hr : ∀ r, row = some r → Br ≤ r ∧ ∃ o : Obj, W.heap[r]? = some o ∧ o.isCells = false) : Flock w ps pc rs G W' := by
  obtain ⟨F, ss, h1, h2⟩ := h
  exact ⟨F, ss, h1.grown hBr hG hg hr, h2⟩
theorem Flock.bump {b : Nat} {v : Value} {t : TypeId} (h : Flock w ps pc rs (Gb G b (.cells #[v] t (0, 0))) W) (hB : w.heap.size ≤ b) (v' : Value) : Flock w ps pc rs (Gb G b (.cells #[v'] t (0, 0))) (W.setCell ⟨b, 0, none⟩ v') := by
  obtain ⟨F, ss, h1, h2⟩ := h
  refine ⟨F, ss, (h1.poke (i := 0) (Gb_self _ _ _) hB v').forget fun g o hg => ?_, h2⟩
  unfold Gb at hg
  by_cases e : g = b
  · rw [if_pos e] at hg ⊢
    simpa using hg
  · rw [if_neg e] at hg ⊢
    rw [Gb_other _ _ e]
    exact hg
theorem Flock.add (h : Flock w ps pc rs G W) (a b : Int) (HA : Hid ((0 ≤ a ∧ a ≤ 255) ∧ 0 ≤ b ∧ b ≤ 255)) :
    Calls Try.prog 25 #[.pointer (some ⟨ps, 0, none⟩), .int .u8 a, .int .u8 b] W fun e w' => ∃ (r : Bool), e = .returned (.bool r) ∧ Hid (Flock w ps pc rs G w' ∧ KeepsOthers W w') := by
  obtain ⟨F, ss, h1, h2, h3, h4⟩ := h
  refine (h1.add a b h2 (by have := h1.short h2; omega) HA).mono ?_
  rintro e w' ⟨r, rs', rfl, hh⟩
  obtain ⟨m1, m2, m3, m4, m5, m6⟩ := unhide hh
  exact ⟨r, rfl, ⟨_, _, m4, at_self _ _ _, by rw [at_other _ _ (fun e => h4 e.symm)]; exact h3, h4⟩, m5⟩
theorem Flock.cut (h : Flock w ps pc rs G W) (a b : Int) (HA : Hid ((0 ≤ a ∧ a ≤ 255) ∧ 0 ≤ b ∧ b ≤ 255)) :
    Calls Try.prog 22 #[.pointer (some ⟨ps, 0, none⟩), .int .u8 a, .int .u8 b] W fun e w' => ∃ (r : Bool), e = .returned (.bool r) ∧ Hid (Flock w ps pc rs G w') := by
  obtain ⟨F, ss, h1, h2, h3, h4⟩ := h
  refine (h1.cut a b h2 (by have := h1.short h2; omega) HA).mono ?_
  rintro e w' ⟨r, rs', rfl, hh⟩
  obtain ⟨m1, m2, m3, m4⟩ := unhide hh
  exact ⟨r, rfl, _, _, m4, at_self _ _ _, by rw [at_other _ _ (fun e => h4 e.symm)]; exact h3, h4⟩
theorem Flock.toldC (h : Flock w ps pc rs G W) : Calls Try.prog 24 #[.pointer (some ⟨pc, 0, none⟩)] W fun e w' => ∃ v', e = .returned v' ∧ Hid (NewR W.heap.size W w' v' rs) := by
  obtain ⟨F, ss, h1, h2, h3, h4⟩ := h
  exact h1.told h3 (by have := h1.short h3; omega)

theorem box_cell {v : Value} {t : TypeId} {b : Nat} (h : W.heap[b]? = some (.cells #[v] t (0, 0))) : W.cell? ⟨b, 0, none⟩ = some v ∧ W.frozen? ⟨b, 0, none⟩ = false :=
  ⟨(cell_of_row W b 0 _ t (0, 0) h).trans rfl, frozen_of_row _ _ _ _ _ h⟩

/-- The rows one and two: the first is written, the second stays. -/
structure OneTwo (w6 w8 wr : World) (v1 v2 : Value) (L : Nat) : Prop where
  below : Below w6.heap.size w6 wr
  row : ∃ xs, wr.ownsRow 0 33 2 v1 L xs
  blk : ∀ k, v1.ownBlock = some k → w6.heap.size ≤ k
  two : ∀ k, v2.ownBlock = some k → wr.heap[k]? = w8.heap[k]? ∧ v1.ownBlock ≠ some k ∧ k < wr.heap.size

theorem OneTwo.store {w6 w8 wr : World} {v2 : Value} {L g c i : Nat} (h : OneTwo w6 w8 wr (.slice (some ⟨g, 0, none⟩) L c) v2 L) (x y : Value) :
    OneTwo w6 w8 ((wr.setCell ⟨g, i * 2, none⟩ x).setCell ⟨g, i * 2 + 1, none⟩ y) (.slice (some ⟨g, 0, none⟩) L c) v2 L := by
  obtain ⟨xs, hr⟩ := h.row
  obtain ⟨k1, k2⟩ := World.ownsRow.stored hr (i * 2) x
  obtain ⟨k3, k4⟩ := World.ownsRow.stored k1 (i * 2 + 1) y
  refine ⟨(h.below.setCell (p := ⟨g, i * 2, none⟩) (h.blk g rfl) _).setCell (p := ⟨g, i * 2 + 1, none⟩) (h.blk g rfl) _, ⟨_, k3⟩, h.blk, fun k hk => ?_⟩
  obtain ⟨m1, m2, m3⟩ := h.two k hk
  have hne : k ≠ g := fun e => m2 (by rw [e]; rfl)
  exact ⟨(Below.heap_setCell _ _ _ k hne).trans ((Below.heap_setCell _ _ _ k hne).trans m1), m2, by have := k2.size; have := k4.size; omega⟩

theorem litRow0 (w : World) (l h : Int) : (w.alloc (.cells #[.int .u8 l, .int .u8 h] 33)).ownsRow 0 33 2 (.slice (some ⟨w.heap.size, 0, none⟩) 1 1) 1 (enc .u8 [(l, h)]) := litRowU w l h

theorem OneTwo.append {w6 w8 wr : World} {v1 v2 : Value} {L : Nat} (h : OneTwo w6 w8 wr v1 v2 L) (y z : Int) (hn : L ≤ 1000000) :
    ∃ g' cap' w', (Builtin.append_ #[30, 30] 30 #[v1, .slice (some ⟨wr.heap.size, 0, none⟩) 1 1]).run Try.prog (wr.alloc (.cells #[.int .u8 y, .int .u8 z] 33)) = .ok (.slice (some ⟨g', 0, none⟩) (L + 1) cap') w' ∧ Hid (OneTwo w6 w8 w' (.slice (some ⟨g', 0, none⟩) (L + 1) cap') v2 (L + 1)) := by
  obtain ⟨i0, hi0, hz0, hzs, hzb⟩ := info_parts infoU
  obtain ⟨xs, hr⟩ := h.row
  obtain ⟨g', cap', w', hrun, h1, h2, h3⟩ := run_append2 (P := Try.prog) (w := wr.alloc (.cells #[.int .u8 y, .int .u8 z] 33)) 30 30 33 i0 _ Try.underlying30 hi0 hz0 hzs rfl (by rw [hzb]; omega) v1 L _ (hr.alloc _) ⟨wr.heap.size, 0, none⟩ 1 1 (enc .u8 [(y, z)]) rfl
    (fun j u hj => (litRow0 wr y z).cells (g := wr.heap.size) rfl j u hj) (enc_one _ _) (by omega) (by omega)
  have hs := h.below.size
  have hs2 := h2.size
  simp only [World.alloc, Array.size_push] at hs2
  refine ⟨g', cap', w', hrun, (h.below.alloc hs _).grown h2 (by simp; omega) h.blk, ⟨_, h1⟩, fun k hk => ?_, fun k hk => ?_⟩
  · simp only [Value.ownBlock, Option.some.injEq] at hk
    subst hk
    rcases h3.out with h4 | h4
    · exact h.blk _ h4
    · simp at h4; omega
  · obtain ⟨m1, m2, m3⟩ := h.two k hk
    refine ⟨(h2.block k (by simp; omega) (fun e => m2 e.symm)).trans ((heap_alloc_old _ _ m3).trans m1), fun e => ?_, by omega⟩
    simp only [Value.ownBlock, Option.some.injEq] at e
    subst e
    rcases h3.out with h4 | h4
    · exact m2 h4
    · simp at h4; omega
end Go.Proofs.Ytdalghfhpekcfaa

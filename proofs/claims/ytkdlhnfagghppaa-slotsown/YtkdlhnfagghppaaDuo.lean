/- A table beside blocks that it leaves alone. -/
import Derived.Test.YtkdlhnfagghppaaLiveN
import Derived.Test.YtkdlhnfagghppaaRel
namespace Go.Proofs.Ytkdlhnfagghppaa
open Go.RowKit Go.Maps

/-- The table's blocks lie from B on, and none of them is of X. -/
structure Duo [Inhabited EntI] (X : Nat → Prop) (B : Nat) (w0 : World) (t : Nat) (most : Int) (ps : List (Int × Bool)) (n : Nat) (w : World) : Prop where
  below : Below B w0 w
  room : B ≤ w.heap.size
  on : ∃ hp v ms G, TAtN w t hp v most ps ms n G ∧ ∀ j, Feet t v G j → B ≤ j ∧ ¬ X j
  xlt : ∀ b, X b → b < w.heap.size

/-- These blocks stay. -/
def KX (X : Nat → Prop) (w w' : World) : Prop := ∀ b, X b → w'.heap[b]? = w.heap[b]?
theorem KX.refl (X : Nat → Prop) (w : World) : KX X w w := fun _ _ => rfl
theorem KX.trans {X : Nat → Prop} {a b c : World} (h : KX X a b) (k : KX X b c) : KX X a c := fun i hi => (k i hi).trans (h i hi)
theorem KX.mono {X Y : Nat → Prop} {a b : World} (h : KX X a b) (hs : ∀ i, Y i → X i) : KX Y a b := fun i hi => h i (hs i hi)

section
variable [Inhabited EntI] {X X' : Nat → Prop} {B : Nat} {w0 w w' : World} {t : Nat} {most : Int} {ps ps' : List (Int × Bool)} {n : Nat}

theorem Duo.live (h : Duo X B w0 t most ps n w) : LiveN B w0 t most ps n w := by
  obtain ⟨hp, v, ms, G, h1, h2⟩ := h.on
  exact ⟨h.below, h.room, hp, v, ms, G, h1, fun j hj => (h2 j hj).1⟩
theorem Duo.kx (h : Duo X B w0 t most ps n w) (hb : Below w.heap.size w w') : KX X w w' := fun b hx => hb.block b (h.xlt b hx)
/-- A call that leaves all old blocks. -/
theorem Duo.next (h : Duo X B w0 t most ps n w) (hb : Below w.heap.size w w') (hx : ∀ b, X' b → X b ∨ (w.heap.size ≤ b ∧ b < w'.heap.size)) : Duo X' B w0 t most ps n w' := by
  obtain ⟨hp, v, ms, G, h1, h2⟩ := h.on
  refine ⟨h.below.trans (hb.mono h.room), Nat.le_trans h.room hb.size, ⟨hp, v, ms, G, h1.kept (fun k hk => hb.block k (h1.lt hk)), fun j hj => ⟨(h2 j hj).1, fun hx2 => ?_⟩⟩, fun b hx2 => ?_⟩
  · rcases hx j hx2 with e | e
    · exact (h2 j hj).2 e
    · have := h1.lt hj; omega
  · rcases hx b hx2 with e | e
    · exact Nat.lt_of_lt_of_le (h.xlt b e) hb.size
    · exact e.2
theorem Duo.step (h : Duo X B w0 t most ps n w) (hb : Below w.heap.size w w') : Duo X B w0 t most ps n w' := h.next hb (fun _ => .inl)
theorem Duo.draw (h : Duo X B w0 t most ps n w) (q : Nat) : Duo X B w0 t most ps n (w.drewN q) := h.step (below_drewN (Below.refl _ _) q)
theorem Duo.sub (h : Duo X B w0 t most ps n w) (hx : ∀ b, X' b → X b) : Duo X' B w0 t most ps n w := h.next (Below.refl _ _) (fun b hb => .inl (hx b hb))
/-- A block of X is written. -/
theorem Duo.set (h : Duo X B w0 t most ps n w) {b : Nat} (hx : X b) (hB : B ≤ b) (o : Nat) (u : Value) : Duo X B w0 t most ps n (w.setCell ⟨b, o, none⟩ u) := by
  obtain ⟨hp, v, ms, G, h1, h2⟩ := h.on
  refine ⟨h.below.setCell (p := ⟨b, o, none⟩) hB _, by simpa using h.room, ⟨hp, v, ms, G, h1.kept (fun k hk => ?_), h2⟩, fun b hb => by simpa using h.xlt b hb⟩
  have hne : k ≠ b := fun e => (h2 k hk).2 (by rw [e]; exact hx)
  exact heap_setCell_other _ _ _ _ hne
/-- The table is changed. -/
theorem Duo.later {hp : Nat} {v : Value} {G : Nat → Prop} (h : Duo X B w0 t most ps n w) (hF : ∀ j, Feet t v G j → B ≤ j ∧ ¬ X j) (ht : ThenN w w' t hp v most ps' n G) : ∃ n', n' ≤ n + 65536 ∧ Duo X B w0 t most ps' n' w' ∧ KX X w w' := by
  obtain ⟨v', ms', n', G', h1, h2, h3, h4⟩ := ht
  refine ⟨n', h1, ⟨h.below.trans (h3.below h.room (fun k hk => (hF k hk).1)), Nat.le_trans h.room h3.size, ⟨hp, v', ms', G', h2, fun j hj => ?_⟩, fun b hb => Nat.lt_of_lt_of_le (h.xlt b hb) h3.size⟩, fun b hb => h3.block b (h.xlt b hb) (fun e => (hF b e).2 hb)⟩
  rcases h4 j hj with e | e
  · exact hF j e
  · exact ⟨Nat.le_trans h.room e, fun hx => by have := h.xlt j hx; omega⟩

theorem dPutAt (i : Nat) (x : Int) (h : Duo X B w0 t most ps n w) (hi : (i : Int) < most) (hk : ∀ a, ps[i]? ≠ some (a, true)) (hn : n ≤ 1000000000) : Calls Try.prog 17 #[.pointer (some ⟨t, 0, none⟩), .int .i64 ((i : Int) + 1), .int .i64 x] w fun e w' => e = .returned (.bool true) ∧ Hid (∃ n', n' ≤ n + 65536 ∧ Duo X B w0 t most ((groN ps (i + 1)).set i (x, true)) n' w' ∧ KX X w w') := by
  obtain ⟨hp, v, ms, G, h1, h2⟩ := h.on
  exact (putAtYesN i x w h1 hi hk hn).mono fun _ _ ⟨he, hh⟩ => ⟨he, h.later h2 hh.out⟩
theorem dPut (i : Nat) (x : Int) (h : Duo X B w0 t most ps n w) (hf : ∀ r, FreeIs ps most r → r = (i : Int) + 1) (hi : (i : Int) < most) (hk : ∀ a, ps[i]? ≠ some (a, true)) (hn : n ≤ 1000000000) : Calls Try.prog 13 #[.pointer (some ⟨t, 0, none⟩), .int .i64 x] w fun e w' => e = .returned (.tuple #[.int .i64 ((i : Int) + 1), .bool true]) ∧ Hid (∃ n', n' ≤ n + 65536 ∧ Duo X B w0 t most ((groN ps (i + 1)).set i (x, true)) n' w' ∧ KX X w w') := by
  obtain ⟨hp, v, ms, G, h1, h2⟩ := h.on
  exact (putYesN i x w h1 hf hi hk hn).mono fun _ _ ⟨he, hh⟩ => ⟨he, h.later h2 hh.out⟩
theorem dDrop {a : Int} (i : Nat) (h : Duo X B w0 t most ps n w) (hi : ps[i]? = some (a, true)) (hn : n ≤ 1000000000) : Calls Try.prog 14 #[.pointer (some ⟨t, 0, none⟩), .int .i64 ((i : Int) + 1)] w fun e w' => e = .returned (.tuple #[.int .i64 a, .bool true]) ∧ Hid (∃ n', n' ≤ n + 65536 ∧ Duo X B w0 t most (ps.set i (0, false)) n' w' ∧ KX X w w') := by
  obtain ⟨hp, v, ms, G, h1, h2⟩ := h.on
  exact (dropYesN i w h1 hi hn).mono fun _ _ ⟨he, hh⟩ => ⟨he, h.later h2 hh.out⟩
theorem dSet {a : Int} (i : Nat) (x : Int) (h : Duo X B w0 t most ps n w) (hi : ps[i]? = some (a, true)) : Calls Try.prog 20 #[.pointer (some ⟨t, 0, none⟩), .int .i64 ((i : Int) + 1), .int .i64 x] w fun e w' => e = .returned (.bool true) ∧ Hid (∃ n', n' ≤ n + 65536 ∧ Duo X B w0 t most (ps.set i (x, true)) n' w' ∧ KX X w w') := by
  obtain ⟨hp, v, ms, G, h1, h2⟩ := h.on
  exact (setYesN i x w h1 hi).mono fun _ _ ⟨he, hh⟩ => ⟨he, h.later h2 hh.out⟩
end

/-- The three blocks of a call of play: the table by value, the call, the result. -/
structure P3 (s : Nat) (m v kd i x : Value) (u : World) : Prop where
  m0 : u.cell? ⟨s, 0, none⟩ = some m
  m1 : u.cell? ⟨s, 1, none⟩ = some v
  o0 : u.cell? ⟨s + 1, 0, none⟩ = some kd
  o1 : u.cell? ⟨s + 1, 1, none⟩ = some i
  o2 : u.cell? ⟨s + 1, 2, none⟩ = some x
  r0 : u.cell? ⟨s + 2, 0, none⟩ = some (.int .i64 0)
  r1 : u.cell? ⟨s + 2, 1, none⟩ = some (.slice none 0 0)
  rf : ∀ o, u.frozen? ⟨s + 2, o, none⟩ = false

def X3 (X : Nat → Prop) (s : Nat) (b : Nat) : Prop := X b ∨ b = s ∨ b = s + 1 ∨ b = s + 2

theorem frozen_of_heap {w w' : World} {x : Addr} (h : w'.heap[x.block]? = w.heap[x.block]?) : w'.frozen? x = w.frozen? x := by
  unfold World.frozen?; rw [h]

theorem P3.kept {s : Nat} {m v kd i x : Value} {u u' : World} {X : Nat → Prop} (h : P3 s m v kd i x u) (hk : KX (X3 X s) u u') : P3 s m v kd i x u' := by
  have k0 := hk s (.inr (.inl rfl))
  have k1 := hk (s + 1) (.inr (.inr (.inl rfl)))
  have k2 := hk (s + 2) (.inr (.inr (.inr rfl)))
  exact ⟨(cell_of_heap (x := ⟨s, 0, none⟩) k0).trans h.m0, (cell_of_heap (x := ⟨s, 1, none⟩) k0).trans h.m1, (cell_of_heap (x := ⟨s + 1, 0, none⟩) k1).trans h.o0, (cell_of_heap (x := ⟨s + 1, 1, none⟩) k1).trans h.o1, (cell_of_heap (x := ⟨s + 1, 2, none⟩) k1).trans h.o2,
    (cell_of_heap (x := ⟨s + 2, 0, none⟩) k2).trans h.r0, (cell_of_heap (x := ⟨s + 2, 1, none⟩) k2).trans h.r1, fun o => (frozen_of_heap (x := ⟨s + 2, o, none⟩) k2).trans (h.rf o)⟩
theorem P3.alloc {s : Nat} {m v kd i x : Value} {u : World} (h : P3 s m v kd i x u) (o : Obj) : P3 s m v kd i x (u.alloc o) := by
  refine ⟨cell_made o h.m0, cell_made o h.m1, cell_made o h.o0, cell_made o h.o1, cell_made o h.o2, cell_made o h.r0, cell_made o h.r1, fun j => (frozen_of_heap (x := ⟨s + 2, j, none⟩) ?_).trans (h.rf j)⟩
  exact ((Below.refl u.heap.size u).alloc (Nat.le_refl _) o).block (s + 2) (World.block_lt_of_cell? _ _ h.r0)

/-- Where play begins. -/
theorem begin3 [Inhabited EntI] {X : Nat → Prop} {B : Nat} {w0 w : World} {t : Nat} {most : Int} {ps : List (Int × Bool)} {n : Nat} (h : Duo X B w0 t most ps n w) (m v kd i x : Value) :
    P3 w.heap.size m v kd i x (((w.alloc (.cells #[m, v] 27)).alloc (.cells #[kd, i, x] 33)).alloc (.cells #[.int .i64 0, .slice none 0 0] 27)) ∧ Duo (X3 X w.heap.size) B w0 t most ps n (((w.alloc (.cells #[m, v] 27)).alloc (.cells #[kd, i, x] 33)).alloc (.cells #[.int .i64 0, .slice none 0 0] 27)) ∧
      Below w.heap.size w (((w.alloc (.cells #[m, v] 27)).alloc (.cells #[kd, i, x] 33)).alloc (.cells #[.int .i64 0, .slice none 0 0] 27)) ∧ (((w.alloc (.cells #[m, v] 27)).alloc (.cells #[kd, i, x] 33)).alloc (.cells #[.int .i64 0, .slice none 0 0] 27)).heap.size = w.heap.size + 3 := by
  have hs1 : (w.alloc (.cells #[m, v] 27)).heap.size = w.heap.size + 1 := by simp
  have hs2 : ((w.alloc (.cells #[m, v] 27)).alloc (.cells #[kd, i, x] 33)).heap.size = w.heap.size + 2 := by simp
  have hs3 : (((w.alloc (.cells #[m, v] 27)).alloc (.cells #[kd, i, x] 33)).alloc (.cells #[.int .i64 0, .slice none 0 0] 27)).heap.size = w.heap.size + 3 := by simp
  have e0 := heap_alloc_new w (.cells #[m, v] 27)
  have e1 := heap_alloc_new (w.alloc (.cells #[m, v] 27)) (.cells #[kd, i, x] 33)
  rw [hs1] at e1
  have e2 := heap_alloc_new ((w.alloc (.cells #[m, v] 27)).alloc (.cells #[kd, i, x] 33)) (.cells #[.int .i64 0, .slice none 0 0] 27)
  rw [hs2] at e2
  have b0 : (((w.alloc (.cells #[m, v] 27)).alloc (.cells #[kd, i, x] 33)).alloc (.cells #[.int .i64 0, .slice none 0 0] 27)).heap[w.heap.size]? = some (.cells #[m, v] 27 (0, 0)) := by
    rw [heap_alloc_old _ _ (by omega), heap_alloc_old _ _ (by omega)]; exact e0
  have b1 : (((w.alloc (.cells #[m, v] 27)).alloc (.cells #[kd, i, x] 33)).alloc (.cells #[.int .i64 0, .slice none 0 0] 27)).heap[w.heap.size + 1]? = some (.cells #[kd, i, x] 33 (0, 0)) := by
    rw [heap_alloc_old _ _ (by omega)]; exact e1
  have hb : Below w.heap.size w (((w.alloc (.cells #[m, v] 27)).alloc (.cells #[kd, i, x] 33)).alloc (.cells #[.int .i64 0, .slice none 0 0] 27)) := (((Below.refl _ _).alloc (Nat.le_refl _) _).alloc (by simp) _).alloc (by simp; omega) _
  refine ⟨⟨?_, ?_, ?_, ?_, ?_, ?_, ?_, fun o => frozen_of_row _ _ o _ _ e2⟩, h.next hb (fun b hx => ?_), hb, hs3⟩
  · rw [cell_of_row _ _ _ _ _ _ b0]; rfl
  · rw [cell_of_row _ _ _ _ _ _ b0]; rfl
  · rw [cell_of_row _ _ _ _ _ _ b1]; rfl
  · rw [cell_of_row _ _ _ _ _ _ b1]; rfl
  · rw [cell_of_row _ _ _ _ _ _ b1]; rfl
  · rw [cell_of_row _ _ _ _ _ _ e2]; rfl
  · rw [cell_of_row _ _ _ _ _ _ e2]; rfl
  · rw [hs3]
    rcases hx with hx | hx | hx | hx
    · exact .inl hx
    · exact .inr (by omega)
    · exact .inr (by omega)
    · exact .inr (by omega)

/-- What play leaves. -/
structure Played [Inhabited EntI] (X : Nat → Prop) (B : Nat) (w0 : World) (t : Nat) (most : Int) (n L : Nat) (w : World) (v' : Value) (w' : World) : Prop where
  out : ∃ ps' n' its', Rel ps' its' ∧ n' ≤ n + 65536 ∧ its'.length ≤ L + 1 ∧ w'.ownsRow 0 47 2 v' its'.length (enc .i64 its') ∧ Duo (fun b => X b ∨ v'.ownBlock = some b) B w0 t most ps' n' w' ∧ KX X w w'

/-- Where play ends: the result's two cells are stored at the world u. -/
theorem end3 [Inhabited EntI] {X : Nat → Prop} {B : Nat} {w0 w u : World} {t n' : Nat} {most : Int} {ps' : List (Int × Bool)} {its' : List (Int × Int)} {m v' : Value} {n L : Nat} (hX : ∀ b, X b → b < w.heap.size) (hB : B ≤ w.heap.size)
    (hd2 : Duo (fun b => X3 X w.heap.size b ∨ v'.ownBlock = some b) B w0 t most ps' n' u) (hk : KX X w u) (hrel : Rel ps' its') (hn : n' ≤ n + 65536) (hl : its'.length ≤ L + 1) (hrow : u.ownsRow 0 47 2 v' its'.length (enc .i64 its')) (hv : ∀ b, v'.ownBlock = some b → b ≠ w.heap.size + 2) :
    Played X B w0 t most n L w v' ((u.setCell ⟨w.heap.size + 2, 0, none⟩ m).setCell ⟨w.heap.size + 2, 1, none⟩ v') := by
  have hx2 : X3 X w.heap.size (w.heap.size + 2) := .inr (.inr (.inr rfl))
  have hd3 := (hd2.set (b := w.heap.size + 2) (.inl hx2) (by omega) 0 m).set (b := w.heap.size + 2) (.inl hx2) (by omega) 1 v'
  refine ⟨ps', n', its', hrel, hn, hl, items_kept hrow (fun b hb => ?_), hd3.sub (fun b hb => hb.imp .inl id), fun b hb => ?_⟩
  · have hne := hv b hb
    rw [heap_setCell_other _ _ _ _ hne, heap_setCell_other _ _ _ _ hne]
  · have hne : b ≠ w.heap.size + 2 := by have := hX b hb; omega
    rw [heap_setCell_other _ _ _ _ hne, heap_setCell_other _ _ _ _ hne]; exact hk b hb
end Go.Proofs.Ytkdlhnfagghppaa

/- A right heap, as its calls see it: its entries in the order in which they came. -/
import Derived.Test.YtdpdghhieokcfaaApiI
namespace Go.Proofs.Ytdpdghhieokcfaa
open Go.RowKit Go.Maps

/-- At p stands a heap over '<' with these entries; its blocks are those of F. -/
def OnI [Inhabited EntI] (w : World) (p : Nat) (F : Nat → Prop) (ms : List EntI) (n : Nat) : Prop := ∃ m lv v es, HAtI w p m lv v es n ∧ Less lv (fun x => x) ∧ Is (fun x => x) es ms n ∧ ∀ k, F k ↔ Foot p m v k

theorem OnI.lt [Inhabited EntI] {w : World} {p : Nat} {F : Nat → Prop} {ms : List EntI} {n : Nat} (h : OnI w p F ms n) {k : Nat} (hk : F k) : k < w.heap.size := by
  obtain ⟨m, lv, v, es, h1, -, -, h4⟩ := h
  exact h1.lt ((h4 k).1 hk)

theorem OnI.kept [Inhabited EntI] {w w' : World} {p : Nat} {F : Nat → Prop} {ms : List EntI} {n : Nat} (h : OnI w p F ms n) (hk : ∀ k, F k → w'.heap[k]? = w.heap[k]?) : OnI w' p F ms n := by
  obtain ⟨m, lv, v, es, h1, h2, h3, h4⟩ := h
  exact ⟨m, lv, v, es, h1.kept (fun k hf => hk k ((h4 k).2 hf)), h2, h3, h4⟩

theorem keys_okI [Inhabited EntI] {w : World} {p m n : Nat} {lv v : Value} {es : List EntI} (h : HAtI w p m lv v es n) : ∀ x ∈ es, KeyOkI x.key := fun x hx => by
  obtain ⟨i, hi, rfl⟩ := mem_at hx
  exact h.keys i hi

theorem OnI.once [Inhabited EntI] {w : World} {p : Nat} {F : Nat → Prop} {ms : List EntI} {n : Nat} (h : OnI w p F ms n) : KeysOnce ms := by
  obtain ⟨m, lv, v, es, h1, -, h3, -⟩ := h
  obtain ⟨D, -, hM⟩ := h1.map
  exact keysOnce_perm h3.perm hM.once

theorem OnI.turns [Inhabited EntI] {w : World} {p : Nat} {F : Nat → Prop} {ms : List EntI} {n : Nat} (h : OnI w p F ms n) : ms.Pairwise (fun a b => a.turn < b.turn) := by
  obtain ⟨m, lv, v, es, -, -, h3, -⟩ := h
  exact h3.turns

theorem OnI.pushIn [Inhabited EntI] {w : World} {p : Nat} {F : Nat → Prop} {ms : List EntI} {n : Nat} (h : OnI w p F ms n) (k : Int) (r : Int) (hk : KeyOkI k) (hin : ∃ x ∈ ms, x.key = k) :
    Calls Try.prog 36 #[.pointer (some ⟨p, 0, none⟩), .int .i64 (k), .int .i64 r] w fun e w' => e = .returned (.bool false) ∧ w' = w := by
  obtain ⟨m, lv, v, es, h1, -, h3, -⟩ := h
  obtain ⟨x, hx, hxk⟩ := hin
  exact pushInI k r w h1 hk ⟨x, h3.perm.mem_iff.2 hx, hxk⟩

theorem OnI.push [Inhabited EntI] {w : World} {p : Nat} {F : Nat → Prop} {ms : List EntI} {n : Nat} (h : OnI w p F ms n) (k : Int) (r : Int) (hk : KeyOkI k) (hnin : ∀ x ∈ ms, x.key ≠ k) (hn : ms.length < 1099511627776) (hnn : n < 1099511627776) :
    Calls Try.prog 36 #[.pointer (some ⟨p, 0, none⟩), .int .i64 (k), .int .i64 r] w fun e w' => e = .returned (.bool true) ∧ ∃ F', OnI w' p F' (ms ++ [⟨k, r, n⟩]) (n + 1) ∧ Turned F w w' ∧ ∀ j, F' j → F j ∨ w.heap.size ≤ j := by
  obtain ⟨m, lv, v, es, h1, h2, h3, h4⟩ := h
  refine (pushNewI k r w h1 h2 hk (fun x hx => hnin x (h3.perm.mem_iff.1 hx)) (by rw [h3.perm.length_eq]; exact hn) hnn).mono ?_
  rintro e w' ⟨he, hh⟩
  obtain ⟨v', es', g1, g2, g3, g4, g5⟩ := hh.out
  refine ⟨he, Foot p m v', ⟨m, lv, v', es', g2, h2, h3.push g1 (g5 h3.ord), fun j => Iff.rfl⟩, g3.mono (fun j _ hf => (h4 j).2 hf), fun j hf => ?_⟩
  rcases hf with hf | hf | hf
  · exact .inl ((h4 j).2 (.inl hf))
  · exact .inl ((h4 j).2 (.inr (.inl hf)))
  · exact (g4 j hf).imp (fun e => (h4 j).2 (.inr (.inr e))) id

theorem newOnI [Inhabited EntI] (g : Nat) (w : World) (hl : Less (.func (.func g) #[] #[]) (fun x => x)) :
    Calls Try.prog 34 #[.func (.func g) #[] #[]] w fun e w' => e = .returned (.pointer (some ⟨w.heap.size + 1, 0, none⟩)) ∧ Below w.heap.size w w' ∧ ∃ F, OnI w' (w.heap.size + 1) F [] 0 ∧ ∀ j, F j → w.heap.size ≤ j := by
  refine (newI g #[] w).mono ?_
  rintro e w' ⟨he, hh⟩
  obtain ⟨g1, g2⟩ := hh.out
  refine ⟨he, g2, Foot (w.heap.size + 1) w.heap.size (.slice none 0 0), ⟨_, _, _, _, g1, hl, is_nil _, fun j => Iff.rfl⟩, fun j hf => ?_⟩
  rcases hf with hf | hf | hf
  · omega
  · omega
  · simp [Value.ownBlock] at hf

/-- The one heap of a law: its blocks lie from B on; below B all is as in w0. -/
structure LiveI [Inhabited EntI] (B : Nat) (w0 : World) (p : Nat) (ms : List EntI) (n : Nat) (w : World) : Prop where
  below : Below B w0 w
  room : B ≤ w.heap.size
  on : ∃ F, OnI w p F ms n ∧ ∀ j, F j → B ≤ j

theorem LiveI.turned [Inhabited EntI] {B : Nat} {w0 w w' : World} {p n n' : Nat} {ms ms' : List EntI} {F F' : Nat → Prop} (h : LiveI B w0 p ms n w) (hF : ∀ j, F j → B ≤ j) (ho : OnI w' p F' ms' n') (ht : Turned F w w') (hs : ∀ j, F' j → F j ∨ w.heap.size ≤ j) : LiveI B w0 p ms' n' w' :=
  ⟨h.below.trans (ht.below h.room hF), Nat.le_trans h.room ht.size, F', ho, fun j hj => (hs j hj).elim (hF j) (fun e => Nat.le_trans h.room e)⟩

theorem LiveI.step [Inhabited EntI] {B : Nat} {w0 w w' : World} {p n : Nat} {ms : List EntI} (h : LiveI B w0 p ms n w) (hb : Below w.heap.size w w') : LiveI B w0 p ms n w' := by
  obtain ⟨F, ho, hF⟩ := h.on
  exact ⟨h.below.trans (hb.mono h.room), Nat.le_trans h.room hb.size, F, ho.kept (fun k hk => hb.block k (ho.lt hk)), hF⟩

theorem newLI [Inhabited EntI] (g : Nat) (w : World) (hl : Less (.func (.func g) #[] #[]) (fun x => x)) :
    Calls Try.prog 34 #[.func (.func g) #[] #[]] w fun e w' => ∃ p, e = .returned (.pointer (some ⟨p, 0, none⟩)) ∧ LiveI w.heap.size w p [] 0 w' :=
  (newOnI g w hl).mono fun _ _ ⟨he, hb, F, ho, hF⟩ => ⟨_, he, hb, hb.size, F, ho, hF⟩

theorem pushInLI [Inhabited EntI] {B : Nat} {w0 w : World} {p n : Nat} {ms : List EntI} (k : Int) (r : Int) (h : LiveI B w0 p ms n w) (hk : KeyOkI k) (hin : ∃ x ∈ ms, x.key = k) :
    Calls Try.prog 36 #[.pointer (some ⟨p, 0, none⟩), .int .i64 (k), .int .i64 r] w fun e w' => e = .returned (.bool false) ∧ w' = w := by
  obtain ⟨F, ho, -⟩ := h.on
  exact ho.pushIn k r hk hin

theorem pushLI [Inhabited EntI] {B : Nat} {w0 w : World} {p n : Nat} {ms : List EntI} (k : Int) (r : Int) (h : LiveI B w0 p ms n w) (hk : KeyOkI k) (hnin : ∀ x ∈ ms, x.key ≠ k) (hn : ms.length < 1099511627776) (hnn : n < 1099511627776) :
    Calls Try.prog 36 #[.pointer (some ⟨p, 0, none⟩), .int .i64 (k), .int .i64 r] w fun e w' => e = .returned (.bool true) ∧ LiveI B w0 p (ms ++ [⟨k, r, n⟩]) (n + 1) w' := by
  obtain ⟨F, ho, hF⟩ := h.on
  exact (ho.push k r hk hnin hn hnn).mono fun _ _ ⟨he, F', g1, g2, g3⟩ => ⟨he, h.turned hF g1 g2 g3⟩

end Go.Proofs.Ytdpdghhieokcfaa

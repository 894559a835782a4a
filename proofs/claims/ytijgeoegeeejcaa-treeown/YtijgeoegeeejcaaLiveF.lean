/- A right heap, as its calls see it: its entries in the order in which they came. -/
import Derived.Test.YtijgeoegeeejcaaApiF
namespace Go.Proofs.Ytijgeoegeeejcaa
open Go.RowKit Go.Maps
attribute [local go_sem] run_storeF

/-- At p stands a heap over '<' with these entries; its blocks are those of F. -/
def OnF [Inhabited EntF] (w : World) (p : Nat) (F : Nat → Prop) (ms : List EntF) (n : Nat) : Prop := ∃ m lv v es, HAtF w p m lv v es n ∧ LessF lv gf ∧ Is gf es ms n ∧ ∀ k, F k ↔ Foot p m v k

theorem OnF.lt [Inhabited EntF] {w : World} {p : Nat} {F : Nat → Prop} {ms : List EntF} {n : Nat} (h : OnF w p F ms n) {k : Nat} (hk : F k) : k < w.heap.size := by
  obtain ⟨m, lv, v, es, h1, -, -, h4⟩ := h
  exact h1.lt ((h4 k).1 hk)

theorem OnF.kept [Inhabited EntF] {w w' : World} {p : Nat} {F : Nat → Prop} {ms : List EntF} {n : Nat} (h : OnF w p F ms n) (hk : ∀ k, F k → w'.heap[k]? = w.heap[k]?) : OnF w' p F ms n := by
  obtain ⟨m, lv, v, es, h1, h2, h3, h4⟩ := h
  exact ⟨m, lv, v, es, h1.kept (fun k hf => hk k ((h4 k).2 hf)), h2, h3, h4⟩

theorem keys_okF [Inhabited EntF] {w : World} {p m n : Nat} {lv v : Value} {es : List EntF} (h : HAtF w p m lv v es n) : ∀ x ∈ es, KeyOkF x.key := fun x hx => by
  obtain ⟨i, hi, rfl⟩ := mem_at hx
  exact h.keys i hi

theorem OnF.once [Inhabited EntF] {w : World} {p : Nat} {F : Nat → Prop} {ms : List EntF} {n : Nat} (h : OnF w p F ms n) : KeysOnce ms := by
  obtain ⟨m, lv, v, es, h1, -, h3, -⟩ := h
  obtain ⟨D, -, hM⟩ := h1.map
  exact keysOnce_perm h3.perm hM.once

theorem OnF.turns [Inhabited EntF] {w : World} {p : Nat} {F : Nat → Prop} {ms : List EntF} {n : Nat} (h : OnF w p F ms n) : ms.Pairwise (fun a b => a.turn < b.turn) := by
  obtain ⟨m, lv, v, es, -, -, h3, -⟩ := h
  exact h3.turns

theorem OnF.pushIn [Inhabited EntF] {w : World} {p : Nat} {F : Nat → Prop} {ms : List EntF} {n : Nat} (h : OnF w p F ms n) (k : Int) (r : Nat) (hk : KeyOkF k) (hin : ∃ x ∈ ms, x.key = k) :
    Calls Try.prog 53 #[.pointer (some ⟨p, 0, none⟩), .int .i64 (k), .float .f32 (cfl r)] w fun e w' => e = .returned (.bool false) ∧ w' = w := by
  obtain ⟨m, lv, v, es, h1, -, h3, -⟩ := h
  obtain ⟨x, hx, hxk⟩ := hin
  exact pushInF k r w h1 hk ⟨x, h3.perm.mem_iff.2 hx, hxk⟩

theorem OnF.push [Inhabited EntF] {w : World} {p : Nat} {F : Nat → Prop} {ms : List EntF} {n : Nat} (h : OnF w p F ms n) (k : Int) (r : Nat) (hk : KeyOkF k) (hnin : ∀ x ∈ ms, x.key ≠ k) (hn : ms.length < 1099511627776) (hnn : n < 1099511627776) :
    Calls Try.prog 53 #[.pointer (some ⟨p, 0, none⟩), .int .i64 (k), .float .f32 (cfl r)] w fun e w' => e = .returned (.bool true) ∧ ∃ F', OnF w' p F' (ms ++ [⟨k, r, n⟩]) (n + 1) ∧ Turned F w w' ∧ ∀ j, F' j → F j ∨ w.heap.size ≤ j := by
  obtain ⟨m, lv, v, es, h1, h2, h3, h4⟩ := h
  refine (pushNewF k r w h1 h2 hk (fun x hx => hnin x (h3.perm.mem_iff.1 hx)) (by rw [h3.perm.length_eq]; exact hn) hnn).mono ?_
  rintro e w' ⟨he, hh⟩
  obtain ⟨v', es', g1, g2, g3, g4, g5⟩ := hh.out
  refine ⟨he, Foot p m v', ⟨m, lv, v', es', g2, h2, h3.push g1 (g5 h3.ord), fun j => Iff.rfl⟩, g3.mono (fun j _ hf => (h4 j).2 hf), fun j hf => ?_⟩
  rcases hf with hf | hf | hf
  · exact .inl ((h4 j).2 (.inl hf))
  · exact .inl ((h4 j).2 (.inr (.inl hf)))
  · exact (g4 j hf).imp (fun e => (h4 j).2 (.inr (.inr e))) id

theorem OnF.popNone [Inhabited EntF] {w : World} {p : Nat} {F : Nat → Prop} {n : Nat} (h : OnF w p F [] n) :
    Calls Try.prog 54 #[.pointer (some ⟨p, 0, none⟩)] w fun e w' => e = .returned (.tuple #[.int .i64 0, .float .f32 0, .bool false]) ∧ w' = w := by
  obtain ⟨m, lv, v, es, h1, -, h3, -⟩ := h
  obtain rfl : es = [] := h3.perm.eq_nil
  exact popNoneF w h1

theorem OnF.pop [Inhabited EntF] {w : World} {p : Nat} {F : Nat → Prop} {ms : List EntF} {n : Nat} (h : OnF w p F ms n) (h0 : 0 < ms.length) (hn : ms.length ≤ 1099511627776) :
    Calls Try.prog 54 #[.pointer (some ⟨p, 0, none⟩)] w fun e w' => ∃ x ∈ ms, e = .returned (.tuple #[.int .i64 (x.key), .float .f32 (cfl x.rank), .bool true]) ∧ (∀ y ∈ ms, le gf x y) ∧ ∃ F', OnF w' p F' (without x.key ms) n ∧ Turned F w w' ∧ ∀ j, F' j → F j ∨ w.heap.size ≤ j := by
  obtain ⟨m, lv, v, es, h1, h2, h3, h4⟩ := h
  have hl : 0 < es.length := by rw [h3.perm.length_eq]; exact h0
  obtain ⟨f1, f2⟩ := h3.first hl
  refine (popSomeF w h1 h2 hl (by rw [h3.perm.length_eq]; exact hn)).mono ?_
  rintro e w' ⟨he, hh⟩
  obtain ⟨v', es', g1, g2, g3, g4, g5⟩ := hh.out
  refine ⟨_, f1, he, f2, Foot p m v', ⟨m, lv, v', es', g2, h2, h3.without g1 (g5 h3.ord), fun j => Iff.rfl⟩, g3.mono (fun j _ hf => (h4 j).2 hf), fun j hf => .inl ((h4 j).2 ?_)⟩
  rcases hf with hf | hf | hf
  · exact .inl hf
  · exact .inr (.inl hf)
  · exact .inr (.inr (by rw [← g4]; exact hf))

theorem OnF.lowerOut [Inhabited EntF] {w : World} {p : Nat} {F : Nat → Prop} {ms : List EntF} {n : Nat} (h : OnF w p F ms n) (k : Int) (r : Nat) (hk : KeyOkF k) (hnin : ∀ x ∈ ms, x.key ≠ k) :
    Calls Try.prog 77 #[.pointer (some ⟨p, 0, none⟩), .int .i64 (k), .float .f32 (cfl r)] w fun e w' => e = .returned (.bool false) ∧ ∃ q, w' = w.drewN q := by
  obtain ⟨m, lv, v, es, h1, -, h3, -⟩ := h
  exact lowerOutF k r w h1 hk (fun x hx => hnin x (h3.perm.mem_iff.1 hx))

theorem OnF.lower [Inhabited EntF] {w : World} {p : Nat} {F : Nat → Prop} {ms : List EntF} {n : Nat} (h : OnF w p F ms n) {x : EntF} (hx : x ∈ ms) (r : Nat) (hn : ms.length ≤ 1099511627776) :
    Calls Try.prog 77 #[.pointer (some ⟨p, 0, none⟩), .int .i64 (x.key), .float .f32 (cfl r)] w fun e w' => e = .returned (.bool (decide (gf r < gf x.rank))) ∧ OnF w' p F (if gf r < gf x.rank then lowered x.key r ms else ms) n ∧ Turned F w w' := by
  obtain ⟨m, lv, v, es, h1, h2, h3, h4⟩ := h
  obtain ⟨i, hi, rfl⟩ := mem_at (h3.perm.mem_iff.2 hx)
  refine (lowerInF i r w h1 h2 hi (by rw [h3.perm.length_eq]; exact hn)).mono ?_
  rintro e w' ⟨ha, hb⟩
  by_cases hlt : gf r < gf (at_ es i).rank
  · obtain ⟨he, hh⟩ := ha hlt
    obtain ⟨es', g1, g2, g3, g4⟩ := hh.out
    rw [if_pos hlt, decide_eq_true hlt]
    exact ⟨he, ⟨m, lv, v, es', g2, h2, h3.lowered g1 (g4 h3.ord), h4⟩, g3.mono (fun j _ hf => (h4 j).2 hf)⟩
  · obtain ⟨he, q, rfl⟩ := hb hlt
    rw [if_neg hlt, decide_eq_false hlt]
    exact ⟨he, ⟨m, lv, v, es, h1.drewN q, h2, h3, h4⟩, (Turned.refl _ _).drewN q⟩

theorem newOnF [Inhabited EntF] (g : Nat) (w : World) (hl : LessF (.func (.func g) #[] #[]) gf) :
    Calls Try.prog 51 #[.func (.func g) #[] #[]] w fun e w' => e = .returned (.pointer (some ⟨w.heap.size + 1, 0, none⟩)) ∧ Below w.heap.size w w' ∧ ∃ F, OnF w' (w.heap.size + 1) F [] 0 ∧ ∀ j, F j → w.heap.size ≤ j := by
  refine (newF g #[] w).mono ?_
  rintro e w' ⟨he, hh⟩
  obtain ⟨g1, g2⟩ := hh.out
  refine ⟨he, g2, Foot (w.heap.size + 1) w.heap.size (.slice none 0 0), ⟨_, _, _, _, g1, hl, is_nil _, fun j => Iff.rfl⟩, fun j hf => ?_⟩
  rcases hf with hf | hf | hf
  · omega
  · omega
  · simp [Value.ownBlock] at hf

/-- The one heap of a law: its blocks lie from B on; below B all is as in w0. -/
structure LiveF [Inhabited EntF] (B : Nat) (w0 : World) (p : Nat) (ms : List EntF) (n : Nat) (w : World) : Prop where
  below : Below B w0 w
  room : B ≤ w.heap.size
  on : ∃ F, OnF w p F ms n ∧ ∀ j, F j → B ≤ j

theorem LiveF.turned [Inhabited EntF] {B : Nat} {w0 w w' : World} {p n n' : Nat} {ms ms' : List EntF} {F F' : Nat → Prop} (h : LiveF B w0 p ms n w) (hF : ∀ j, F j → B ≤ j) (ho : OnF w' p F' ms' n') (ht : Turned F w w') (hs : ∀ j, F' j → F j ∨ w.heap.size ≤ j) : LiveF B w0 p ms' n' w' :=
  ⟨h.below.trans (ht.below h.room hF), Nat.le_trans h.room ht.size, F', ho, fun j hj => (hs j hj).elim (hF j) (fun e => Nat.le_trans h.room e)⟩

theorem LiveF.step [Inhabited EntF] {B : Nat} {w0 w w' : World} {p n : Nat} {ms : List EntF} (h : LiveF B w0 p ms n w) (hb : Below w.heap.size w w') : LiveF B w0 p ms n w' := by
  obtain ⟨F, ho, hF⟩ := h.on
  exact ⟨h.below.trans (hb.mono h.room), Nat.le_trans h.room hb.size, F, ho.kept (fun k hk => hb.block k (ho.lt hk)), hF⟩

theorem newLF [Inhabited EntF] (g : Nat) (w : World) (hl : LessF (.func (.func g) #[] #[]) gf) :
    Calls Try.prog 51 #[.func (.func g) #[] #[]] w fun e w' => ∃ p, e = .returned (.pointer (some ⟨p, 0, none⟩)) ∧ LiveF w.heap.size w p [] 0 w' :=
  (newOnF g w hl).mono fun _ _ ⟨he, hb, F, ho, hF⟩ => ⟨_, he, hb, hb.size, F, ho, hF⟩

theorem pushInLF [Inhabited EntF] {B : Nat} {w0 w : World} {p n : Nat} {ms : List EntF} (k : Int) (r : Nat) (h : LiveF B w0 p ms n w) (hk : KeyOkF k) (hin : ∃ x ∈ ms, x.key = k) :
    Calls Try.prog 53 #[.pointer (some ⟨p, 0, none⟩), .int .i64 (k), .float .f32 (cfl r)] w fun e w' => e = .returned (.bool false) ∧ w' = w := by
  obtain ⟨F, ho, -⟩ := h.on
  exact ho.pushIn k r hk hin

theorem pushLF [Inhabited EntF] {B : Nat} {w0 w : World} {p n : Nat} {ms : List EntF} (k : Int) (r : Nat) (h : LiveF B w0 p ms n w) (hk : KeyOkF k) (hnin : ∀ x ∈ ms, x.key ≠ k) (hn : ms.length < 1099511627776) (hnn : n < 1099511627776) :
    Calls Try.prog 53 #[.pointer (some ⟨p, 0, none⟩), .int .i64 (k), .float .f32 (cfl r)] w fun e w' => e = .returned (.bool true) ∧ LiveF B w0 p (ms ++ [⟨k, r, n⟩]) (n + 1) w' := by
  obtain ⟨F, ho, hF⟩ := h.on
  exact (ho.push k r hk hnin hn hnn).mono fun _ _ ⟨he, F', g1, g2, g3⟩ => ⟨he, h.turned hF g1 g2 g3⟩

theorem popNoneLF [Inhabited EntF] {B : Nat} {w0 w : World} {p n : Nat} (h : LiveF B w0 p [] n w) :
    Calls Try.prog 54 #[.pointer (some ⟨p, 0, none⟩)] w fun e w' => e = .returned (.tuple #[.int .i64 0, .float .f32 0, .bool false]) ∧ w' = w := by
  obtain ⟨F, ho, -⟩ := h.on
  exact ho.popNone

theorem popLF [Inhabited EntF] {B : Nat} {w0 w : World} {p n : Nat} {ms : List EntF} (h : LiveF B w0 p ms n w) (h0 : 0 < ms.length) (hn : ms.length ≤ 1099511627776) :
    Calls Try.prog 54 #[.pointer (some ⟨p, 0, none⟩)] w fun e w' => ∃ x ∈ ms, e = .returned (.tuple #[.int .i64 (x.key), .float .f32 (cfl x.rank), .bool true]) ∧ (∀ y ∈ ms, le gf x y) ∧ LiveF B w0 p (without x.key ms) n w' := by
  obtain ⟨F, ho, hF⟩ := h.on
  exact (ho.pop h0 hn).mono fun _ _ ⟨x, hx, he, hle, F', g1, g2, g3⟩ => ⟨x, hx, he, hle, h.turned hF g1 g2 g3⟩

theorem lowerLF [Inhabited EntF] {B : Nat} {w0 w : World} {p n : Nat} {ms : List EntF} (h : LiveF B w0 p ms n w) {x : EntF} (hx : x ∈ ms) (r : Nat) (hn : ms.length ≤ 1099511627776) :
    Calls Try.prog 77 #[.pointer (some ⟨p, 0, none⟩), .int .i64 (x.key), .float .f32 (cfl r)] w fun e w' => e = .returned (.bool (decide (gf r < gf x.rank))) ∧ LiveF B w0 p (if gf r < gf x.rank then lowered x.key r ms else ms) n w' := by
  obtain ⟨F, ho, hF⟩ := h.on
  exact (ho.lower hx r hn).mono fun _ _ ⟨he, g1, g2⟩ => ⟨he, h.turned hF g1 g2 (fun _ => .inl)⟩

end Go.Proofs.Ytijgeoegeeejcaa

/- A right heap, as its calls see it: its entries in the order in which they came. -/
import Derived.Test.YtfhpabcjbjmcmaaApiS
namespace Go.Proofs.Ytfhpabcjbjmcmaa
open Go.RowKit Go.Maps

/-- At p stands a heap over '<' with these entries; its blocks are those of F. -/
def OnS [Inhabited EntS] (w : World) (p : Nat) (F : Nat → Prop) (ms : List EntS) (n : Nat) : Prop := ∃ m lv v es, HAtS w p m lv v es n ∧ Less lv (fun x => x) ∧ Is (fun x => x) es ms n ∧ ∀ k, F k ↔ Foot p m v k

theorem OnS.lt [Inhabited EntS] {w : World} {p : Nat} {F : Nat → Prop} {ms : List EntS} {n : Nat} (h : OnS w p F ms n) {k : Nat} (hk : F k) : k < w.heap.size := by
  obtain ⟨m, lv, v, es, h1, -, -, h4⟩ := h
  exact h1.lt ((h4 k).1 hk)

theorem OnS.kept [Inhabited EntS] {w w' : World} {p : Nat} {F : Nat → Prop} {ms : List EntS} {n : Nat} (h : OnS w p F ms n) (hk : ∀ k, F k → w'.heap[k]? = w.heap[k]?) : OnS w' p F ms n := by
  obtain ⟨m, lv, v, es, h1, h2, h3, h4⟩ := h
  exact ⟨m, lv, v, es, h1.kept (fun k hf => hk k ((h4 k).2 hf)), h2, h3, h4⟩

theorem OnS.len [Inhabited EntS] {w : World} {p : Nat} {F : Nat → Prop} {ms : List EntS} {n : Nat} (h : OnS w p F ms n) :
    Calls Try.prog 33 #[.pointer (some ⟨p, 0, none⟩)] w fun e w' => e = .returned (.int .i64 ms.length) ∧ w' = w := by
  obtain ⟨m, lv, v, es, h1, -, h3, -⟩ := h
  rw [← h3.perm.length_eq]
  exact lenS w h1

theorem keys_okS [Inhabited EntS] {w : World} {p m n : Nat} {lv v : Value} {es : List EntS} (h : HAtS w p m lv v es n) : ∀ x ∈ es, KeyOkS x.key := fun x hx => by
  obtain ⟨i, hi, rfl⟩ := mem_at hx
  exact h.keys i hi

theorem OnS.once [Inhabited EntS] {w : World} {p : Nat} {F : Nat → Prop} {ms : List EntS} {n : Nat} (h : OnS w p F ms n) : KeysOnce ms := by
  obtain ⟨m, lv, v, es, h1, -, h3, -⟩ := h
  obtain ⟨D, -, hM⟩ := h1.map
  exact keysOnce_perm h3.perm hM.once

theorem OnS.turns [Inhabited EntS] {w : World} {p : Nat} {F : Nat → Prop} {ms : List EntS} {n : Nat} (h : OnS w p F ms n) : ms.Pairwise (fun a b => a.turn < b.turn) := by
  obtain ⟨m, lv, v, es, -, -, h3, -⟩ := h
  exact h3.turns

theorem OnS.pushIn [Inhabited EntS] {w : World} {p : Nat} {F : Nat → Prop} {ms : List EntS} {n : Nat} (h : OnS w p F ms n) (k : ByteArray) (r : Int) (hk : KeyOkS k) (hin : ∃ x ∈ ms, x.key = k) :
    Calls Try.prog 30 #[.pointer (some ⟨p, 0, none⟩), .string (k), .int .i64 r] w fun e w' => e = .returned (.bool false) ∧ w' = w := by
  obtain ⟨m, lv, v, es, h1, -, h3, -⟩ := h
  obtain ⟨x, hx, hxk⟩ := hin
  exact pushInS k r w h1 hk ⟨x, h3.perm.mem_iff.2 hx, hxk⟩

theorem OnS.push [Inhabited EntS] {w : World} {p : Nat} {F : Nat → Prop} {ms : List EntS} {n : Nat} (h : OnS w p F ms n) (k : ByteArray) (r : Int) (hk : KeyOkS k) (hnin : ∀ x ∈ ms, x.key ≠ k) (hn : ms.length < 1099511627776) (hnn : n < 1099511627776) :
    Calls Try.prog 30 #[.pointer (some ⟨p, 0, none⟩), .string (k), .int .i64 r] w fun e w' => e = .returned (.bool true) ∧ ∃ F', OnS w' p F' (ms ++ [⟨k, r, n⟩]) (n + 1) ∧ Turned F w w' ∧ ∀ j, F' j → F j ∨ w.heap.size ≤ j := by
  obtain ⟨m, lv, v, es, h1, h2, h3, h4⟩ := h
  refine (pushNewS k r w h1 h2 hk (fun x hx => hnin x (h3.perm.mem_iff.1 hx)) (by rw [h3.perm.length_eq]; exact hn) hnn).mono ?_
  rintro e w' ⟨he, hh⟩
  obtain ⟨v', es', g1, g2, g3, g4, g5⟩ := hh.out
  refine ⟨he, Foot p m v', ⟨m, lv, v', es', g2, h2, h3.push g1 (g5 h3.ord), fun j => Iff.rfl⟩, g3.mono (fun j _ hf => (h4 j).2 hf), fun j hf => ?_⟩
  rcases hf with hf | hf | hf
  · exact .inl ((h4 j).2 (.inl hf))
  · exact .inl ((h4 j).2 (.inr (.inl hf)))
  · exact (g4 j hf).imp (fun e => (h4 j).2 (.inr (.inr e))) id

theorem OnS.popNone [Inhabited EntS] {w : World} {p : Nat} {F : Nat → Prop} {n : Nat} (h : OnS w p F [] n) :
    Calls Try.prog 32 #[.pointer (some ⟨p, 0, none⟩)] w fun e w' => e = .returned (.tuple #[.string ByteArray.empty, .int .i64 0, .bool false]) ∧ w' = w := by
  obtain ⟨m, lv, v, es, h1, -, h3, -⟩ := h
  obtain rfl : es = [] := h3.perm.eq_nil
  exact popNoneS w h1

theorem OnS.pop [Inhabited EntS] {w : World} {p : Nat} {F : Nat → Prop} {ms : List EntS} {n : Nat} (h : OnS w p F ms n) (h0 : 0 < ms.length) (hn : ms.length ≤ 1099511627776) :
    Calls Try.prog 32 #[.pointer (some ⟨p, 0, none⟩)] w fun e w' => ∃ x ∈ ms, e = .returned (.tuple #[.string (x.key), .int .i64 x.rank, .bool true]) ∧ (∀ y ∈ ms, le (fun x => x) x y) ∧ ∃ F', OnS w' p F' (without x.key ms) n ∧ Turned F w w' ∧ ∀ j, F' j → F j ∨ w.heap.size ≤ j := by
  obtain ⟨m, lv, v, es, h1, h2, h3, h4⟩ := h
  have hl : 0 < es.length := by rw [h3.perm.length_eq]; exact h0
  obtain ⟨f1, f2⟩ := h3.first hl
  refine (popSomeS w h1 h2 hl (by rw [h3.perm.length_eq]; exact hn)).mono ?_
  rintro e w' ⟨he, hh⟩
  obtain ⟨v', es', g1, g2, g3, g4, g5⟩ := hh.out
  refine ⟨_, f1, he, f2, Foot p m v', ⟨m, lv, v', es', g2, h2, h3.without g1 (g5 h3.ord), fun j => Iff.rfl⟩, g3.mono (fun j _ hf => (h4 j).2 hf), fun j hf => .inl ((h4 j).2 ?_)⟩
  rcases hf with hf | hf | hf
  · exact .inl hf
  · exact .inr (.inl hf)
  · exact .inr (.inr (by rw [← g4]; exact hf))

theorem OnS.lowerOut [Inhabited EntS] {w : World} {p : Nat} {F : Nat → Prop} {ms : List EntS} {n : Nat} (h : OnS w p F ms n) (k : ByteArray) (r : Int) (hk : KeyOkS k) (hnin : ∀ x ∈ ms, x.key ≠ k) :
    Calls Try.prog 31 #[.pointer (some ⟨p, 0, none⟩), .string (k), .int .i64 r] w fun e w' => e = .returned (.bool false) ∧ ∃ q, w' = w.drewN q := by
  obtain ⟨m, lv, v, es, h1, -, h3, -⟩ := h
  exact lowerOutS k r w h1 hk (fun x hx => hnin x (h3.perm.mem_iff.1 hx))

theorem OnS.lower [Inhabited EntS] {w : World} {p : Nat} {F : Nat → Prop} {ms : List EntS} {n : Nat} (h : OnS w p F ms n) {x : EntS} (hx : x ∈ ms) (r : Int) (hn : ms.length ≤ 1099511627776) :
    Calls Try.prog 31 #[.pointer (some ⟨p, 0, none⟩), .string (x.key), .int .i64 r] w fun e w' => e = .returned (.bool (decide (r < x.rank))) ∧ OnS w' p F (if r < x.rank then lowered x.key r ms else ms) n ∧ Turned F w w' := by
  obtain ⟨m, lv, v, es, h1, h2, h3, h4⟩ := h
  obtain ⟨i, hi, rfl⟩ := mem_at (h3.perm.mem_iff.2 hx)
  refine (lowerInS i r w h1 h2 hi (by rw [h3.perm.length_eq]; exact hn)).mono ?_
  rintro e w' ⟨ha, hb⟩
  by_cases hlt : r < (at_ es i).rank
  · obtain ⟨he, hh⟩ := ha hlt
    obtain ⟨es', g1, g2, g3, g4⟩ := hh.out
    rw [if_pos hlt, decide_eq_true hlt]
    exact ⟨he, ⟨m, lv, v, es', g2, h2, h3.lowered g1 (g4 h3.ord), h4⟩, g3.mono (fun j _ hf => (h4 j).2 hf)⟩
  · obtain ⟨he, q, rfl⟩ := hb hlt
    rw [if_neg hlt, decide_eq_false hlt]
    exact ⟨he, ⟨m, lv, v, es, h1.drewN q, h2, h3, h4⟩, (Turned.refl _ _).drewN q⟩

theorem newOnS [Inhabited EntS] (g : Nat) (w : World) (hl : Less (.func (.func g) #[] #[]) (fun x => x)) :
    Calls Try.prog 28 #[.func (.func g) #[] #[]] w fun e w' => e = .returned (.pointer (some ⟨w.heap.size + 1, 0, none⟩)) ∧ Below w.heap.size w w' ∧ ∃ F, OnS w' (w.heap.size + 1) F [] 0 ∧ ∀ j, F j → w.heap.size ≤ j := by
  refine (newS g #[] w).mono ?_
  rintro e w' ⟨he, hh⟩
  obtain ⟨g1, g2⟩ := hh.out
  refine ⟨he, g2, Foot (w.heap.size + 1) w.heap.size (.slice none 0 0), ⟨_, _, _, _, g1, hl, is_nil _, fun j => Iff.rfl⟩, fun j hf => ?_⟩
  rcases hf with hf | hf | hf
  · omega
  · omega
  · simp [Value.ownBlock] at hf

/-- The one heap of a law: its blocks lie from B on; below B all is as in w0. -/
structure LiveS [Inhabited EntS] (B : Nat) (w0 : World) (p : Nat) (ms : List EntS) (n : Nat) (w : World) : Prop where
  below : Below B w0 w
  room : B ≤ w.heap.size
  on : ∃ F, OnS w p F ms n ∧ ∀ j, F j → B ≤ j

theorem LiveS.turned [Inhabited EntS] {B : Nat} {w0 w w' : World} {p n n' : Nat} {ms ms' : List EntS} {F F' : Nat → Prop} (h : LiveS B w0 p ms n w) (hF : ∀ j, F j → B ≤ j) (ho : OnS w' p F' ms' n') (ht : Turned F w w') (hs : ∀ j, F' j → F j ∨ w.heap.size ≤ j) : LiveS B w0 p ms' n' w' :=
  ⟨h.below.trans (ht.below h.room hF), Nat.le_trans h.room ht.size, F', ho, fun j hj => (hs j hj).elim (hF j) (fun e => Nat.le_trans h.room e)⟩

theorem LiveS.step [Inhabited EntS] {B : Nat} {w0 w w' : World} {p n : Nat} {ms : List EntS} (h : LiveS B w0 p ms n w) (hb : Below w.heap.size w w') : LiveS B w0 p ms n w' := by
  obtain ⟨F, ho, hF⟩ := h.on
  exact ⟨h.below.trans (hb.mono h.room), Nat.le_trans h.room hb.size, F, ho.kept (fun k hk => hb.block k (ho.lt hk)), hF⟩

theorem newLS [Inhabited EntS] (g : Nat) (w : World) (hl : Less (.func (.func g) #[] #[]) (fun x => x)) :
    Calls Try.prog 28 #[.func (.func g) #[] #[]] w fun e w' => ∃ p, e = .returned (.pointer (some ⟨p, 0, none⟩)) ∧ LiveS w.heap.size w p [] 0 w' :=
  (newOnS g w hl).mono fun _ _ ⟨he, hb, F, ho, hF⟩ => ⟨_, he, hb, hb.size, F, ho, hF⟩

theorem pushInLS [Inhabited EntS] {B : Nat} {w0 w : World} {p n : Nat} {ms : List EntS} (k : ByteArray) (r : Int) (h : LiveS B w0 p ms n w) (hk : KeyOkS k) (hin : ∃ x ∈ ms, x.key = k) :
    Calls Try.prog 30 #[.pointer (some ⟨p, 0, none⟩), .string (k), .int .i64 r] w fun e w' => e = .returned (.bool false) ∧ w' = w := by
  obtain ⟨F, ho, -⟩ := h.on
  exact ho.pushIn k r hk hin

theorem pushLS [Inhabited EntS] {B : Nat} {w0 w : World} {p n : Nat} {ms : List EntS} (k : ByteArray) (r : Int) (h : LiveS B w0 p ms n w) (hk : KeyOkS k) (hnin : ∀ x ∈ ms, x.key ≠ k) (hn : ms.length < 1099511627776) (hnn : n < 1099511627776) :
    Calls Try.prog 30 #[.pointer (some ⟨p, 0, none⟩), .string (k), .int .i64 r] w fun e w' => e = .returned (.bool true) ∧ LiveS B w0 p (ms ++ [⟨k, r, n⟩]) (n + 1) w' := by
  obtain ⟨F, ho, hF⟩ := h.on
  exact (ho.push k r hk hnin hn hnn).mono fun _ _ ⟨he, F', g1, g2, g3⟩ => ⟨he, h.turned hF g1 g2 g3⟩

theorem popNoneLS [Inhabited EntS] {B : Nat} {w0 w : World} {p n : Nat} (h : LiveS B w0 p [] n w) :
    Calls Try.prog 32 #[.pointer (some ⟨p, 0, none⟩)] w fun e w' => e = .returned (.tuple #[.string ByteArray.empty, .int .i64 0, .bool false]) ∧ w' = w := by
  obtain ⟨F, ho, -⟩ := h.on
  exact ho.popNone

theorem popLS [Inhabited EntS] {B : Nat} {w0 w : World} {p n : Nat} {ms : List EntS} (h : LiveS B w0 p ms n w) (h0 : 0 < ms.length) (hn : ms.length ≤ 1099511627776) :
    Calls Try.prog 32 #[.pointer (some ⟨p, 0, none⟩)] w fun e w' => ∃ x ∈ ms, e = .returned (.tuple #[.string (x.key), .int .i64 x.rank, .bool true]) ∧ (∀ y ∈ ms, le (fun x => x) x y) ∧ LiveS B w0 p (without x.key ms) n w' := by
  obtain ⟨F, ho, hF⟩ := h.on
  exact (ho.pop h0 hn).mono fun _ _ ⟨x, hx, he, hle, F', g1, g2, g3⟩ => ⟨x, hx, he, hle, h.turned hF g1 g2 g3⟩

theorem lowerLS [Inhabited EntS] {B : Nat} {w0 w : World} {p n : Nat} {ms : List EntS} (h : LiveS B w0 p ms n w) {x : EntS} (hx : x ∈ ms) (r : Int) (hn : ms.length ≤ 1099511627776) :
    Calls Try.prog 31 #[.pointer (some ⟨p, 0, none⟩), .string (x.key), .int .i64 r] w fun e w' => e = .returned (.bool (decide (r < x.rank))) ∧ LiveS B w0 p (if r < x.rank then lowered x.key r ms else ms) n w' := by
  obtain ⟨F, ho, hF⟩ := h.on
  exact (ho.lower hx r hn).mono fun _ _ ⟨he, g1, g2⟩ => ⟨he, h.turned hF g1 g2 (fun _ => .inl)⟩

theorem lenLS [Inhabited EntS] {B : Nat} {w0 w : World} {p n : Nat} {ms : List EntS} (h : LiveS B w0 p ms n w) :
    Calls Try.prog 33 #[.pointer (some ⟨p, 0, none⟩)] w fun e w' => e = .returned (.int .i64 ms.length) ∧ w' = w := by
  obtain ⟨F, ho, -⟩ := h.on
  exact ho.len
end Go.Proofs.Ytfhpabcjbjmcmaa

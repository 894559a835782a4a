/- Get and Lower: texts as keys, ranks of two numbers, an order that says nothing. -/
import Derived.Test.YtfhpabcjbjmcmaaApiT
namespace Go.Proofs.Ytfhpabcjbjmcmaa
open Go.RowKit Go.Maps

set_option maxHeartbeats 1000000 in
set_option maxRecDepth 100000 in
theorem getOutT [Inhabited EntT] {p m : Nat} {lv v : Value} {es : List EntT} {n : Nat} (k : ByteArray) (w : World) (h : HAtT w p m lv v es n) (hk : KeyOkT k) (hnin : ∀ x ∈ es, x.key ≠ k) :
    Calls Try.prog 21 #[.pointer (some ⟨p, 0, none⟩), .string k] w fun e w' => e = .returned (.tuple #[.agg #[.int .i64 0, .int .i64 0], .bool false]) ∧ Below w.heap.size w w' := by
  have h : HAtT (w.alloc (.cells #[.int .i64 0, .int .i64 0] 42)) p m lv v es n := h.below ((Below.refl _ _).alloc (Nat.le_refl _) _)
  obtain ⟨D, hD, hM⟩ := h.map
  have hhas : Maps.has D (klT k) = false := by
    cases hh : Maps.has D (klT k) with
    | false => rfl
    | true =>
      obtain ⟨i, hi, he⟩ := hM.only k hh
      exact absurd he (hnin _ (at_mem es i hi))
  have c2 := h.cells.2.2.1
  have HD := hide hD
  clear h hM hnin hD
  go_enter Try.func21, Try.ntmps21
  go_wp2_with (at_lookup; refine wpList_lookup_own_ok_int _ rfl _ _ 76 rfl 9 3 .i64 lawT Try.underlying76 Try.underlying3 (zeroT _) m es.length D rfl (unhide HD) _ _ rfl (keyT hk) ?_; intro c hat hwc; rw [hhas])
  refine bodyPost_ret (resG rfl _ _ w.heap.size _ _ rfl (cells2 _ _ _ _)) rfl ?_
  exact ⟨rfl, (Below.refl _ _).alloc (Nat.le_refl _) _⟩

theorem lookT [Inhabited EntT] {D : DataW Unit} {es : List EntT} (hM : MapIs klT D es) {i : Nat} (hi : i < es.length) {c : Int} (hat : D.atKey (klT (at_ es i).key) (.lit (.int .i64 0)) = .lit (.int .i64 c)) : c = (i : Int) := by
  have := (hM.at_ i hi).2
  rw [hat] at this
  simpa using this

set_option maxHeartbeats 1000000 in
set_option maxRecDepth 100000 in
theorem getInT [Inhabited EntT] {p m : Nat} {lv v : Value} {es : List EntT} {n : Nat} (i : Nat) (w : World) (h : HAtT w p m lv v es n) (hi : i < es.length) :
    Calls Try.prog 21 #[.pointer (some ⟨p, 0, none⟩), .string (at_ es i).key] w fun e w' => e = .returned (.tuple #[.agg #[.int .i64 (at_ es i).rank.1, .int .i64 (at_ es i).rank.2], .bool true]) ∧ Below w.heap.size w w' := by
  have hpl := h.lt (.inl rfl)
  have h : HAtT (w.alloc (.cells #[.int .i64 0, .int .i64 0] 42)) p m lv v es n := h.below ((Below.refl _ _).alloc (Nat.le_refl _) _)
  obtain ⟨D, hD, hM⟩ := h.map
  have hk := h.keys i hi
  have hhas : Maps.has D (klT (at_ es i).key) = true := (hM.at_ i hi).1
  have HLOOK : Hid (∀ c : Int, D.atKey (klT (at_ es i).key) (.lit (.int .i64 0)) = .lit (.int .i64 c) → c = (i : Int)) := fun c hc => lookT hM hi hc
  obtain ⟨-, c1, c2, -, -⟩ := h.cells
  obtain ⟨b, c, rfl, -, -, -, -, -, hc⟩ := h.some_ (by omega)
  have d2 := (hc i hi).2.1
  have d3 := (hc i hi).2.2.1
  have hiz : (i : Int) < (es.length : Int) := by omega
  have HD := hide hD
  generalize (at_ es i).key = kk at *
  generalize (at_ es i).rank = rr at *
  generalize es.length = L at *
  clear h hM hD hc
  go_enter Try.func21, Try.ntmps21
  go_wp2_with (at_lookup; refine wpList_lookup_own_ok_int _ rfl _ _ 76 rfl 9 3 .i64 lawT Try.underlying76 Try.underlying3 (zeroT _) m L D rfl (unhide HD) _ _ rfl (keyT hk) ?_; intro cc hat hwc; rw [hhas, unhide HLOOK cc hat])
  refine bodyPost_ret (resG rfl _ _ w.heap.size _ _ rfl (cells2 _ _ _ _)) rfl ?_
  exact ⟨rfl, (Below.refl _ _).alloc (Nat.le_refl _) _⟩

set_option maxHeartbeats 1000000 in
set_option maxRecDepth 100000 in
theorem lowerOutT [Inhabited EntT] {p m : Nat} {lv v : Value} {es : List EntT} {n : Nat} (k : ByteArray) (r : Int × Int) (w : World) (h : HAtT w p m lv v es n) (hk : KeyOkT k) (hnin : ∀ x ∈ es, x.key ≠ k) :
    Calls Try.prog 20 #[.pointer (some ⟨p, 0, none⟩), .string k, .agg #[.int .i64 r.1, .int .i64 r.2]] w fun e w' => e = .returned (.bool false) ∧ Below w.heap.size w w' := by
  have h : HAtT (w.alloc (.cells #[.int .i64 r.1, .int .i64 r.2] 42)) p m lv v es n := h.below ((Below.refl _ _).alloc (Nat.le_refl _) _)
  have HB : Hid (∀ q, Below w.heap.size w ((w.alloc (.cells #[.int .i64 r.1, .int .i64 r.2] 42)).drewN q)) := fun q => below_drewN ((Below.refl _ _).alloc (Nat.le_refl _) _) q
  obtain ⟨D, hD, hM⟩ := h.map
  have hhas : Maps.has D (klT k) = false := by
    cases hh : Maps.has D (klT k) with
    | false => rfl
    | true =>
      obtain ⟨i, hi, he⟩ := hM.only k hh
      exact absurd he (hnin _ (at_mem es i hi))
  have c2 := h.cells.2.2.1
  have HD := hide hD
  clear h hM hnin hD
  go_enter Try.func20, Try.ntmps20
  go_wp2_with (at_lookup; refine wpList_lookup_own_ok_int _ rfl _ _ 76 rfl 9 3 .i64 lawT Try.underlying76 Try.underlying3 (zeroT _) m es.length D rfl (unhide HD) _ _ rfl (keyT hk) ?_; intro c hat hwc; rw [hhas])
  go_quiet (fail)
  go_wp2_with fail
  go_ret
  exact ⟨rfl, unhide HB _⟩

set_option maxHeartbeats 1000000 in
set_option maxRecDepth 100000 in
/-- No rank is lower than another: nothing is done. -/
theorem lowerInT [Inhabited EntT] {p m : Nat} {lv v : Value} {es : List EntT} {n : Nat} (i : Nat) (r : Int × Int) (w : World) (h : HAtT w p m lv v es n) (hl : LessF lv) (hi : i < es.length) :
    Calls Try.prog 20 #[.pointer (some ⟨p, 0, none⟩), .string (at_ es i).key, .agg #[.int .i64 r.1, .int .i64 r.2]] w fun e w' => e = .returned (.bool false) ∧ Below w.heap.size w w' := by
  have hpl := h.lt (.inl rfl)
  have h : HAtT (w.alloc (.cells #[.int .i64 r.1, .int .i64 r.2] 42)) p m lv v es n := h.below ((Below.refl _ _).alloc (Nat.le_refl _) _)
  have HB : Hid (∀ q, Below w.heap.size w ((w.alloc (.cells #[.int .i64 r.1, .int .i64 r.2] 42)).drewN q)) := fun q => below_drewN ((Below.refl _ _).alloc (Nat.le_refl _) _) q
  obtain ⟨D, hD, hM⟩ := h.map
  have hk := h.keys i hi
  have hhas : Maps.has D (klT (at_ es i).key) = true := (hM.at_ i hi).1
  have HLOOK : Hid (∀ c : Int, D.atKey (klT (at_ es i).key) (.lit (.int .i64 0)) = .lit (.int .i64 c) → c = (i : Int)) := fun c hc => lookT hM hi hc
  obtain ⟨c0, c1, c2, -, -⟩ := h.cells
  obtain ⟨b, c, rfl, -, -, -, -, -, hc⟩ := h.some_ (by omega)
  have d2 := (hc i hi).2.1
  have d3 := (hc i hi).2.2.1
  have hiz : (i : Int) < (es.length : Int) := by omega
  obtain ⟨g, cb, rfl, eg, hless⟩ := hl
  obtain ⟨r1, r2⟩ := r
  obtain ⟨rr, hrr⟩ : ∃ rr, (at_ es i).rank = rr := ⟨_, rfl⟩
  rw [hrr] at d2 d3
  obtain ⟨rr1, rr2⟩ := rr
  have HC := hide (hless (r1, r2) (rr1, rr2))
  have HD := hide hD
  generalize (at_ es i).key = kk at *
  generalize es.length = L at *
  clear h hM hD hless hc hrr
  go_enter Try.func20, Try.ntmps20
  go_wp2_with (at_lookup; refine wpList_lookup_own_ok_int _ rfl _ _ 76 rfl 9 3 .i64 lawT Try.underlying76 Try.underlying3 (zeroT _) m L D rfl (unhide HD) _ _ rfl (keyT hk) ?_; intro cc hat hwc; rw [hhas, unhide HLOOK cc hat])
  refine region_still_tail 16 mixed (by kernel_rfl) ?_
  simp only [List.take_succ_cons, List.take_zero, List.drop_succ_cons, List.drop_zero]
  repeat still_step
  refine wpStill_nil ?_
  go_wp2_with fail
  refine (unhide HC _).mono ?_
  rintro e w' ⟨rfl, hb⟩
  go_wp2_with fail
  go_ret
  exact ⟨rfl, (unhide HB _).trans (hb.mono (by simp))⟩
end Go.Proofs.Ytfhpabcjbjmcmaa

/- A heap over an order that answers anything and turns a block of its own: ahead, rise, sink. -/
import Derived.Test.YtfhpabcjbjmcmaaMoreI
namespace Go.Proofs.Ytfhpabcjbjmcmaa
open Go.RowKit Go.Maps

/-- An order that answers anything. It turns the blocks of A alone; what it leans on lies in the blocks of D; c: how often it was asked. -/
structure Env (lv : Value) (Inv : Nat → World → Prop) (A D : Nat → Prop) : Prop where
  fn : ∃ (g : Nat) (cb : Array Value), lv = .func (.func g) #[] cb ∧ (∀ args w, (callFunc g args).run Try.prog w = .ok (.enter g args) w) ∧
    ∀ (x y : Int) (c : Nat) (w : World), c ≤ 1099511627776 → Inv c w → Calls Try.prog g (#[.int .i64 x, .int .i64 y] ++ cb) w fun e w' => ∃ r : Bool, e = .returned (.bool r) ∧ Hid (Inv (c + 1) w' ∧ Turned A w w')
  keep : ∀ c w w', Inv c w → (∀ k, D k → w'.heap[k]? = w.heap[k]?) → Inv c w'
  lt : ∀ c w k, Inv c w → D k → k < w.heap.size
  sub : ∀ k, A k → D k

/-- A heap over it. -/
structure WH [Inhabited EntI] (lv : Value) (Inv : Nat → World → Prop) (D : Nat → Prop) (c : Nat) (w : World) (p m : Nat) (v : Value) (es : List EntI) (n : Nat) : Prop where
  at_ : HAtI w p m lv v es n
  inv : Inv c w
  off : ∀ k, Foot p m v k → ¬ D k

/-- What its calls turn. -/
def FootA (p m : Nat) (v : Value) (A : Nat → Prop) (k : Nat) : Prop := Foot p m v k ∨ A k

section
variable [Inhabited EntI] {lv v v' : Value} {Inv : Nat → World → Prop} {A D : Nat → Prop} {c c' p m n n' : Nat} {w w' : World} {es es' : List EntI}

theorem WH.asked (h : WH lv Inv D c w p m v es n) (he : Env lv Inv A D) (hI : Inv c' w') (ht : Turned A w w') : WH lv Inv D c' w' p m v es n :=
  ⟨h.at_.kept (fun k hk => ht.block k (h.at_.lt hk) (fun a => h.off k hk (he.sub k a))), hI, h.off⟩
theorem WH.moved (h : WH lv Inv D c w p m v es n) (he : Env lv Inv A D) (h' : HAtI w' p m lv v' es' n') (ht : Turned (Foot p m v) w w') (hf : ∀ k, Foot p m v' k → Foot p m v k ∨ w.heap.size ≤ k) : WH lv Inv D c w' p m v' es' n' :=
  ⟨h', he.keep c w w' h.inv (fun k hk => ht.block k (he.lt c w k h.inv hk) (fun f => h.off k f hk)), fun k hk hd => by
    rcases hf k hk with f | f
    · exact h.off k f hd
    · have := he.lt c w k h.inv hd; omega⟩
theorem WH.draw (h : WH lv Inv D c w p m v es n) (he : Env lv Inv A D) (q : Nat) : WH lv Inv D c (w.drewN q) p m v es n := ⟨h.at_.drewN q, he.keep c w _ h.inv (fun _ _ => rfl), h.off⟩
end
theorem turnedA {v : Value} {A : Nat → Prop} {p m : Nat} {w w' : World} (ht : Turned A w w') : Turned (FootA p m v A) w w' := ht.mono fun _ _ a => .inr a
theorem turnedF {v : Value} {A : Nat → Prop} {p m : Nat} {w w' : World} (ht : Turned (Foot p m v) w w') : Turned (FootA p m v A) w w' := ht.mono fun _ _ a => .inl a

set_option maxHeartbeats 1000000 in
set_option maxRecDepth 100000 in
theorem aheadCW (p b g n c i j : Nat) (cb : Array Value) (ri rj : Int) (ti tj : Nat) (w : World) (P : World → Prop) (hi : i < n) (hj : j < n)
    (eg : ∀ args w, (callFunc g args).run Try.prog w = .ok (.enter g args) w)
    (HL : Hid (∀ (x y : Int) (q : Nat), Calls Try.prog g (#[.int .i64 x, .int .i64 y] ++ cb) (w.drewN q) fun e w' => ∃ r : Bool, e = .returned (.bool r) ∧ Hid (P w')))
    (c0 : w.cell? ⟨p, 0, none⟩ = some (.func (.func g) #[] cb)) (c1 : w.cell? ⟨p, 1, none⟩ = some (.slice (some ⟨b, 0, none⟩) n c))
    (ir : w.cell? ⟨b, i * 3 + 1, none⟩ = some (.int .i64 ri)) (it : w.cell? ⟨b, i * 3 + 2, none⟩ = some (.int .i64 ti))
    (jr : w.cell? ⟨b, j * 3 + 1, none⟩ = some (.int .i64 rj)) (jt : w.cell? ⟨b, j * 3 + 2, none⟩ = some (.int .i64 tj)) :
    Calls Try.prog 51 #[.pointer (some ⟨p, 0, none⟩), .int .i64 i, .int .i64 j] w fun e w' => ∃ r : Bool, e = .returned (.bool r) ∧ Hid (P w') := by
  have hiz : (i : Int) < (n : Int) := by omega
  have hjz : (j : Int) < (n : Int) := by omega
  by_cases ht : ti < tj
  · have htz : (ti : Int) < (tj : Int) := by omega
    have HC := hide (unhide HL rj ri)
    clear HL ht
    go_enter Try.func51, Try.ntmps51
    go_wp2_with fail
    go_quiet (fail)
    go_wp2_with fail
    go_quiet (fail)
    go_wp2_with fail
    refine region_still_tail 12 mixed (by kernel_rfl) ?_
    simp only [List.take_succ_cons, List.take_zero, List.drop_succ_cons, List.drop_zero]
    repeat still_step
    refine wpStill_nil ?_
    go_wp2_with fail
    refine (unhide HC _).mono ?_
    rintro e w' ⟨r, rfl, hb⟩
    go_wp2_with fail
    go_ret
    exact ⟨_, rfl, hb⟩
  · have htz : ¬ (ti : Int) < (tj : Int) := by omega
    have HC := hide (unhide HL ri rj)
    clear HL
    go_enter Try.func51, Try.ntmps51
    go_wp2_with fail
    go_quiet (fail)
    go_wp2_with fail
    go_quiet (fail)
    go_wp2_with fail
    refine region_still_tail 12 mixed (by kernel_rfl) ?_
    simp only [List.take_succ_cons, List.take_zero, List.drop_succ_cons, List.drop_zero]
    repeat still_step
    refine wpStill_nil ?_
    go_wp2_with fail
    refine (unhide HC _).mono ?_
    rintro e w' ⟨r, rfl, hb⟩
    go_wp2_with fail
    go_ret
    exact ⟨_, rfl, hb⟩

theorem aheadW [Inhabited EntI] {p m : Nat} {lv v : Value} {Inv : Nat → World → Prop} {A D : Nat → Prop} {c : Nat} {es : List EntI} {n : Nat} (i j : Nat) (w : World) (h : WH lv Inv D c w p m v es n) (he : Env lv Inv A D) (hi : i < es.length) (hj : j < es.length) (hc : c ≤ 1099511627776) :
    Calls Try.prog 51 #[.pointer (some ⟨p, 0, none⟩), .int .i64 i, .int .i64 j] w fun e w' => ∃ r : Bool, e = .returned (.bool r) ∧ Hid (WH lv Inv D (c + 1) w' p m v es n ∧ Turned A w w') := by
  obtain ⟨g, cb, rfl, eg, HL⟩ := he.fn
  obtain ⟨b, cc, rfl, -, -, -, -, -, hcl⟩ := h.at_.some_ (by omega)
  obtain ⟨c0, c1, -⟩ := h.at_.cells
  exact aheadCW p b g es.length cc i j cb _ _ _ _ w _ hi hj eg (fun x y q => (HL x y c (w.drewN q) hc (h.draw he q).inv).mono fun e w' ⟨r, e1, hh⟩ => ⟨r, e1, h.asked he (unhide hh).1 ⟨(unhide hh).2.os, (unhide hh).2.tape, (unhide hh).2.output, (unhide hh).2.size, (unhide hh).2.block⟩, ⟨(unhide hh).2.os, (unhide hh).2.tape, (unhide hh).2.output, (unhide hh).2.size, (unhide hh).2.block⟩⟩) c0 c1 (hcl i hi).2.1 (hcl i hi).2.2 (hcl j hj).2.1 (hcl j hj).2.2

set_option maxHeartbeats 1000000 in
set_option maxRecDepth 100000 in
theorem riseW [Inhabited EntI] {p m : Nat} {lv v : Value} {Inv : Nat → World → Prop} {A D : Nat → Prop} {c : Nat} {es : List EntI} {n : Nat} (i : Nat) (w : World) (h : WH lv Inv D c w p m v es n) (he : Env lv Inv A D) (hi : i < es.length) (hn : es.length ≤ 1000000) (hc : c ≤ 1000000000) :
    Calls Try.prog 41 #[.pointer (some ⟨p, 0, none⟩), .int .i64 i] w fun e w' => e = .returned (.tuple #[]) ∧ Hid (∃ es' c', es'.Perm es ∧ c' ≤ c + es.length ∧ WH lv Inv D c' w' p m v es' n ∧ Turned (FootA p m v A) w w') := by
  have HE := hide he
  have H0 := hide h
  have hlen : i < 1099511627776 := by omega
  have HI := hide hi
  have HN := hide hn
  have HC := hide hc
  clear he h hi hn hc
  go_enter Try.func41, Try.ntmps41
  go_wp2_with fail
  go_loopw [1] (fun s1 wr => ∃ (k : Nat) (es' : List EntI) (c' : Nat), s1 = .int .i64 k ∧ k ≤ i ∧ Hid (es'.Perm es ∧ c' + k ≤ c + i ∧ WH lv Inv D c' wr p m v es' n ∧ Turned (FootA p m v A) w wr)) (fun s1 _ => (intOf s1).toNat)
  case atStart => exact ⟨i, es, c, rfl, Nat.le_refl _, List.Perm.refl _, Nat.le_refl _, unhide H0, Turned.refl _ _⟩
  case round =>
    obtain ⟨k, es', c', rfl, hki, hS⟩ := hrel
    by_cases hk : k = 0
    · subst hk
      go_wp2_with fail
      go_end0
      obtain ⟨h1, h2, h3, h4⟩ := unhide hS
      have := unhide HI
      exact ⟨rfl, es', c', h1, by omega, h3, h4⟩
    · have hkp : 0 < k := by omega
      have hkz : (0 : Int) < (k : Int) := by omega
      have hk2 : k < es'.length := by rw [(unhide hS).1.length_eq]; have := unhide HI; omega
      have hpk : par k < es'.length := by unfold par; omega
      have CA := hide (aheadW k (par k) wr (unhide hS).2.2.1 (unhide HE) hk2 hpk (by have := (unhide hS).2.1; have := unhide HC; have := unhide HI; have := unhide HN; omega))
      rw [par_int hkp] at CA
      have CS : Hid (∀ u, Hid (WH lv Inv D (c' + 1) u p m v es' n ∧ Turned A wr u) → Calls Try.prog 52 #[.pointer (some ⟨p, 0, none⟩), .int .i64 k, .int .i64 (par k)] u fun e w' => e = .returned (.tuple #[]) ∧ Hid (HAtI w' p m lv v (swapL es' k (par k)) n ∧ Turned (Foot p m v) u w')) := fun u hu =>
        swapI k (par k) u (unhide hu).1.at_ hk2 hpk (by rw [(unhide hS).1.length_eq]; have := unhide HN; omega)
      rw [par_int hkp] at CS
      go_wp2_with fail
      refine (unhide CA).mono ?_
      rintro e w1 ⟨r, rfl, hT⟩
      clear CA
      cases r with
      | false =>
        go_wp2_with fail
        go_end0
        obtain ⟨h1, h2, h3, h4⟩ := unhide hS
        have := unhide HI
        exact ⟨rfl, es', c' + 1, h1, by omega, (unhide hT).1, h4.trans (turnedA (unhide hT).2)⟩
      | true =>
        go_wp2_with fail
        refine (unhide CS _ hT).mono ?_
        rintro e w2 ⟨rfl, hs2⟩
        clear CS
        go_wp2_with fail
        go_roundw
        case rel =>
          obtain ⟨h1, h2, h3, h4⟩ := unhide hS
          obtain ⟨g1, g2⟩ := unhide hs2
          have hpk2 : par k < k := by unfold par; omega
          exact ⟨par k, swapL es' k (par k), c' + 1, by rw [par_int hkp], by omega, (swap_perm es' k (par k) hk2 hpk).trans h1, by omega, (unhide hT).1.moved (unhide HE) g1 g2 (fun _ hk => .inl hk), (h4.trans (turnedA (unhide hT).2)).trans (turnedF g2)⟩
        case measure => simp [intOf]; omega
end Go.Proofs.Ytfhpabcjbjmcmaa

/- LiveBounded from region 29 on: the bounds are held (made by mkbnd2.py). -/
import Derived.Test.YtbmcibofecigeaaBdM14
namespace Go.Proofs.Ytbmcibofecigeaa

section
open Go.RowKit Go.Maps
/-- Is the edge the last of a path? -/
def lastB (T : L14.Tr) (vs : List Int) (e : Int) : Bool := vs.any (fun v => decide (L14.lst T v = e ∧ e ≠ 0))
theorem lastB_yes {T : L14.Tr} {vs : List Int} {e : Int} (h : ∃ v ∈ vs, L14.lst T v = e ∧ e ≠ 0) : lastB T vs e = true := by
  obtain ⟨v, hv, h⟩ := h
  exact List.any_eq_true.2 ⟨v, hv, decide_eq_true h⟩
section
variable {L : Lab} {w : World} {p : Nat} {s tc : Int} {vs : List Int} {gs : List EdV} {T : L14.Tr} {N : Nat}
theorem LvK.lastC (h : LvK L w p s tc vs gs T N) {v : Int} (hv : v ∈ vs) : Calls Try.prog 17 #[.pointer (some ⟨p, 0, none⟩), .int .i64 v] w fun r w' => r = .returned (.int .i64 (L14.lst T v)) ∧ w' = w := by
  have hz := h.fin.2.2 v
  obtain ⟨mv, me, V, nv, E, ne, O, I, h1, hG, hs, hR, hE, -⟩ := h
  refine (vlastT (T := T) h1.at_ (hG.okV v hv)).mono ?_
  rintro r w' ⟨rfl, hw⟩
  refine ⟨?_, hw⟩
  cases hf : L14.fnd T v with
  | true =>
    have : askL V T v = 0 := by
      unfold askL
      rw [if_neg ((hG.mem v).1 hv), if_pos hf]
    rw [if_pos this]
  | false =>
    rw [hz hf]
    split <;> rfl
set_option maxHeartbeats 4000000 in
set_option maxRecDepth 100000 in
theorem last0T {vv : Value} (h : LvK L w p s tc vs gs T N) (hv : NRow w vv vs) (hl : vs.length ≤ 1000) {e rd wr : Int} {ev : Value} : Calls Try.prog 7 #[.pointer (some ⟨p, 0, none⟩), .agg #[vv, ev, .int .i64 rd, .int .i64 wr], .int .i64 e] w fun r w' => r = .returned (.bool (lastB T vs e)) ∧ Hid (Below w.heap.size w w') := by
  have hb := below_new w (oG vv ev rd wr)
  obtain ⟨a, c, hvv, -⟩ := brow_shape hv
  obtain ⟨n, hn⟩ : ∃ n, n = vs.length := ⟨_, rfl⟩
  rw [← hn] at hvv
  subst hvv
  obtain ⟨W1, hW1⟩ : ∃ W1, W1 = w.alloc (oG (.slice a n c) ev rd wr) := ⟨_, rfl⟩
  obtain ⟨gb, hgb⟩ : ∃ gb, gb = w.heap.size := ⟨_, rfl⟩
  obtain ⟨c0, -⟩ := cellsG (heap_alloc_new w (oG (.slice a n c) ev rd wr))
  rw [← hW1] at hb c0
  rw [← hgb] at c0
  have hrow := nrow_below hv hb
  have hK := h.below hb
  have HN : Hid (n = vs.length ∧ n ≤ 1000 ∧ NRow W1 (.slice a n c) vs ∧ Below w.heap.size w W1) := ⟨hn, by omega, hrow, hb⟩
  have CL : Hid (∀ v ∈ vs, Calls Try.prog 17 #[.pointer (some ⟨p, 0, none⟩), .int .i64 v] W1 fun r w' => r = .returned (.int .i64 (L14.lst T v)) ∧ w' = W1) := fun v q => hK.lastC q
  have HW1 := hide hW1
  have HGB := hide hgb
  generalize hlb : lastB T vs e = lb
  have HLB := hide hlb
  clear h hv hl hb hn hW1 hgb hrow hK hlb
  unfold oG at HW1
  go_enter Try.func7, Try.ntmps7
  go_upto_region 1 with fail
  rw [← unhide HGB, ← unhide HW1]
  clear HW1 HGB
  go_wp2_with fail
  go_loopw [12] (fun s12 wr => ∃ i : Nat, s12 = .int .i64 i ∧ Hid (i ≤ n ∧ wr = W1 ∧ ∀ (j : Nat) (v : Int), j < i → vs[j]? = some v → ¬ (L14.lst T v = e ∧ e ≠ 0))) (fun s12 _ => n - (intOf s12).toNat)
  case atStart => exact ⟨0, rfl, Nat.zero_le _, rfl, fun j v hj => absurd hj (Nat.not_lt_zero _)⟩
  case round =>
    obtain ⟨i, rfl, HI⟩ := hrel
    obtain ⟨i1, hw, i2⟩ := unhide HI
    rw [hw]
    obtain ⟨n1, n2, n3, n4⟩ := unhide HN
    by_cases hlt : i < n
    · obtain ⟨v, hv⟩ : ∃ v, vs[i]? = some v := ⟨_, List.getElem?_eq_getElem (by omega)⟩
      obtain ⟨g, rfl⟩ := brow_some n3 (by omega)
      have kk := brow_at n3 hv
      have C1 := hide (unhide CL v (List.mem_of_getElem? hv))
      obtain ⟨j, hj⟩ : ∃ j, j = i + 1 := ⟨_, rfl⟩
      have z1 : (i : Int) < (n : Int) := by omega
      have zw : Hid (wrap64 ((i : Int) + 1) = (j : Int)) := by show wrap64 ((i : Int) + 1) = (j : Int); unfold wrap64; omega
      generalize hx : L14.lst T v = x at C1
      by_cases hq : x = e ∧ e ≠ 0
      · have z2 : (x == e) = true := by simpa using hq.1
        have z3 : (e == 0) = false := by simpa using hq.2
        have HB := hide n4
        obtain rfl : lb = true := by rw [← unhide HLB]; exact lastB_yes ⟨v, List.mem_of_getElem? hv, by rw [hx]; exact hq⟩
        clear HI i1 i2 n1 n2 n3 n4 hlt hv hj hx hq CL hw
        go_wp2_with fail
        refine (unhide C1).mono ?_
        rintro r w2 ⟨rfl, hw2⟩
        rw [hw2]
        clear C1 hw2
        go_wp2_with fail
        go_ret
        exact ⟨rfl, HB⟩
      · have HJ : Hid (j = i + 1 ∧ n - j < n - i ∧ j ≤ n ∧ ∀ (j' : Nat) (v : Int), j' < j → vs[j']? = some v → ¬ (L14.lst T v = e ∧ e ≠ 0)) := ⟨hj, by omega, by omega, fun j' v' q1 q2 => by
          by_cases z : j' = i
          · rw [z, hv] at q2
            rw [← Option.some.inj q2, hx]; exact hq
          · exact i2 j' v' (by omega) q2⟩
        clear HI i1 i2 n1 n2 n3 n4 hlt hv hj hx CL hw
        by_cases hxe : x = e
        · have z2 : (x == e) = true := by simpa using hxe
          have z3 : (e == 0) = true := by simpa using Decidable.not_not.1 (fun z => hq ⟨hxe, z⟩)
          clear hq hxe
          go_wp2_with fail
          refine (unhide C1).mono ?_
          rintro r w2 ⟨rfl, hw2⟩
          rw [hw2]
          clear C1 hw2
          go_wp2_with fail
          (try rw [unhide zw])
          exact ⟨⟨j, by first | rfl | (rw [(unhide HJ).1]; rfl), (unhide HJ).2.2.1, by first | trivial | rfl, (unhide HJ).2.2.2⟩, by have := unhide HJ; simp [intOf]; omega⟩
        · have z2 : (x == e) = false := by simpa using hxe
          clear hq hxe
          go_wp2_with fail
          refine (unhide C1).mono ?_
          rintro r w2 ⟨rfl, hw2⟩
          rw [hw2]
          clear C1 hw2
          go_wp2_with fail
          (try rw [unhide zw])
          exact ⟨⟨j, by first | rfl | (rw [(unhide HJ).1]; rfl), (unhide HJ).2.2.1, by first | trivial | rfl, (unhide HJ).2.2.2⟩, by have := unhide HJ; simp [intOf]; omega⟩
    · have z1 : ¬ (i : Int) < (n : Int) := by omega
      have HE := hide n4
      obtain rfl : lb = false := by
        rw [← unhide HLB]
        refine Bool.eq_false_iff.2 (fun q => ?_)
        obtain ⟨v, hv, q⟩ := List.any_eq_true.1 q
        obtain ⟨k, hk⟩ := List.mem_iff_getElem?.1 hv
        exact absurd (of_decide_eq_true q) (i2 k v (by have := (List.getElem?_eq_some_iff.1 hk).1; omega) hk)
      clear HI i1 i2 n1 n2 n3 n4 hlt hw CL
      go_wp2_with fail
      go_ret
      exact ⟨rfl, HE⟩
end
set_option maxHeartbeats 2000000 in
theorem refusedT {w : World} {v1 v2 : Value} {a1 a2 : Option Addr} {n1 c1 n2 c2 : Nat} {rd1 rd2 wr1 wr2 : Int} : Calls Try.prog 9 #[.agg #[v1, .slice a1 n1 c1, .int .i64 rd1, .int .i64 wr1], .agg #[v2, .slice a2 n2 c2, .int .i64 rd2, .int .i64 wr2]] w fun r w' => r = .returned (.bool (decide (n1 = n2 ∧ wr1 = wr2))) ∧ Hid (Below w.heap.size w w') := by
  have hb1 := below_new w (oG v1 (.slice a1 n1 c1) rd1 wr1)
  have hb2 := below_new (w.alloc (oG v1 (.slice a1 n1 c1) rd1 wr1)) (oG v2 (.slice a2 n2 c2) rd2 wr2)
  obtain ⟨W2, hW2⟩ : ∃ W2, W2 = (w.alloc (oG v1 (.slice a1 n1 c1) rd1 wr1)).alloc (oG v2 (.slice a2 n2 c2) rd2 wr2) := ⟨_, rfl⟩
  obtain ⟨x1, hx1⟩ : ∃ x1, x1 = w.heap.size := ⟨_, rfl⟩
  obtain ⟨x2, hx2⟩ : ∃ x2, x2 = w.heap.size + 1 := ⟨_, rfl⟩
  have s1 : (w.alloc (oG v1 (.slice a1 n1 c1) rd1 wr1)).heap.size = w.heap.size + 1 := by simp
  have m1 := (hb2.block w.heap.size (by omega)).trans (heap_alloc_new w (oG v1 (.slice a1 n1 c1) rd1 wr1))
  have m2 := heap_alloc_new (w.alloc (oG v1 (.slice a1 n1 c1) rd1 wr1)) (oG v2 (.slice a2 n2 c2) rd2 wr2)
  rw [s1] at m2
  have hB : Below w.heap.size w W2 := by rw [hW2]; exact hb1.trans (hb2.mono (by omega))
  rw [← hW2, ← hx1] at m1
  rw [← hW2, ← hx2] at m2
  obtain ⟨-, c1', -, c3, -⟩ := cellsG m1
  obtain ⟨-, d1, -, d3, -⟩ := cellsG m2
  have HB := hide hB
  have HW2 := hide hW2
  have HX : Hid (x1 = w.heap.size ∧ x2 = w.heap.size + 1) := ⟨hx1, hx2⟩
  clear hb1 hb2 s1 m1 m2 hB hW2 hx1 hx2
  unfold oG at HW2
  generalize hd : decide (n1 = n2 ∧ wr1 = wr2) = b
  by_cases h1 : n1 = n2
  · have z1 : ((n1 : Int) == (n2 : Int)) = true := by simp; omega
    have z2 : (wr1 == wr2) = b := by rw [← hd]; by_cases q : wr1 = wr2 <;> simp [h1, q]
    clear hd h1
    go_enter Try.func9, Try.ntmps9
    go_upto_region 1 with fail
    (try simp only [heap_alloc_size])
    rw [← (unhide HX).2, ← (unhide HX).1, ← unhide HW2]
    clear HW2 HX
    go_wp2_with fail
    go_ret
    exact ⟨by first | rfl | rw [z2], HB⟩
  · have z1 : ((n1 : Int) == (n2 : Int)) = false := by simp; omega
    have z2 : b = false := by rw [← hd]; simp [h1]
    subst z2
    clear hd h1
    go_enter Try.func9, Try.ntmps9
    go_upto_region 1 with fail
    (try simp only [heap_alloc_size])
    rw [← (unhide HX).2, ← (unhide HX).1, ← unhide HW2]
    clear HW2 HX
    go_wp2_with fail
    go_ret
    exact ⟨rfl, HB⟩
/-- A call's box and a graph's box that are being made: their blocks, and what stands in them. -/
structure Bx (w1 : World) (o : Option (Nat × OpV)) (h : Option (Nat × Value × Value × Int)) (W : World) : Prop where
  bel : Below w1.heap.size w1 W
  op : ∀ b x, o = some (b, x) → w1.heap.size ≤ b ∧ W.heap[b]? = some (oOp x.1 x.2.1 x.2.2.1 x.2.2.2.1 x.2.2.2.2)
  gr : ∀ b v e r, h = some (b, v, e, r) → w1.heap.size ≤ b ∧ W.heap[b]? = some (oG v e 0 r)
  ne : ∀ a x b v e r, o = some (a, x) → h = some (b, v, e, r) → a ≠ b
section
variable {w1 W : World} {o : Option (Nat × OpV)} {h : Option (Nat × Value × Value × Int)}
theorem Bx.start (w1 : World) : Bx w1 none none w1 := ⟨Below.refl _ _, fun b x q => absurd q (by simp), fun b v e r q => absurd q (by simp), fun a x b v e r q => absurd q (by simp)⟩
theorem Bx.allocO (q : Bx w1 none h W) : Bx w1 (some (W.heap.size, 0, 0, 0, 0, 0)) h (W.alloc (oOp 0 0 0 0 0)) := by
  have hb := below_new W (oOp 0 0 0 0 0)
  have hs := q.bel.size
  refine ⟨q.bel.trans (hb.mono hs), fun b x z => ?_, fun b v e r z => ?_, fun a x b v e r z1 z2 => ?_⟩
  · obtain ⟨rfl, rfl⟩ := Prod.mk.inj (Option.some.inj z)
    exact ⟨hs, heap_alloc_new _ _⟩
  · obtain ⟨g1, g2⟩ := q.gr b v e r z
    exact ⟨g1, (hb.block b (heap_lt g2)).trans g2⟩
  · obtain ⟨rfl, -⟩ := Prod.mk.inj (Option.some.inj z1)
    have := heap_lt (q.gr b v e r z2).2
    omega
theorem Bx.allocH (q : Bx w1 o none W) : Bx w1 o (some (W.heap.size, .slice none 0 0, .slice none 0 0, 0)) (W.alloc oZ) := by
  have hb := below_new W oZ
  have hs := q.bel.size
  refine ⟨q.bel.trans (hb.mono hs), fun b x z => ?_, fun b v e r z => ?_, fun a x b v e r z1 z2 => ?_⟩
  · obtain ⟨g1, g2⟩ := q.op b x z
    exact ⟨g1, (hb.block b (heap_lt g2)).trans g2⟩
  · have z := Option.some.inj z
    injection z with z0 z
    injection z with z1 z
    injection z with z2 z3
    subst z0 z1 z2 z3
    exact ⟨hs, heap_alloc_new _ _⟩
  · have z2 := Option.some.inj z2
    injection z2 with z2 _
    have := heap_lt (q.op a x z1).2
    omega
theorem set5_heap {W : World} {b : Nat} {k e u v n : Int} (h : W.heap[b]? = some (oOp k e u v n)) (y : OpV) : (((((W.setCell ⟨b, 0, none⟩ (.int .i64 y.1)).setCell ⟨b, 1, none⟩ (.int .i64 y.2.1)).setCell ⟨b, 2, none⟩ (.int .i64 y.2.2.1)).setCell ⟨b, 3, none⟩ (.int .i64 y.2.2.2.1)).setCell ⟨b, 4, none⟩ (.int .u32 y.2.2.2.2)).heap[b]? = some (oOp y.1 y.2.1 y.2.2.1 y.2.2.2.1 y.2.2.2.2) := by
  have e0 : (W.setCell ⟨b, 0, none⟩ (.int .i64 y.1)).heap[b]? = some (oOp y.1 e u v n) := by rw [heap_setCell_same _ _ _ _ _ _ h]; rfl
  have e1 : ((W.setCell ⟨b, 0, none⟩ (.int .i64 y.1)).setCell ⟨b, 1, none⟩ (.int .i64 y.2.1)).heap[b]? = some (oOp y.1 y.2.1 u v n) := by rw [heap_setCell_same _ _ _ _ _ _ e0]; rfl
  have e2 : (((W.setCell ⟨b, 0, none⟩ (.int .i64 y.1)).setCell ⟨b, 1, none⟩ (.int .i64 y.2.1)).setCell ⟨b, 2, none⟩ (.int .i64 y.2.2.1)).heap[b]? = some (oOp y.1 y.2.1 y.2.2.1 v n) := by rw [heap_setCell_same _ _ _ _ _ _ e1]; rfl
  have e3 : ((((W.setCell ⟨b, 0, none⟩ (.int .i64 y.1)).setCell ⟨b, 1, none⟩ (.int .i64 y.2.1)).setCell ⟨b, 2, none⟩ (.int .i64 y.2.2.1)).setCell ⟨b, 3, none⟩ (.int .i64 y.2.2.2.1)).heap[b]? = some (oOp y.1 y.2.1 y.2.2.1 y.2.2.2.1 n) := by rw [heap_setCell_same _ _ _ _ _ _ e2]; rfl
  rw [heap_setCell_same _ _ _ _ _ _ e3]; rfl
theorem set5_turned (W : World) (b : Nat) (y0 y1 y2 y3 y4 : Value) : Turned (fun d => d = b) W (((((W.setCell ⟨b, 0, none⟩ y0).setCell ⟨b, 1, none⟩ y1).setCell ⟨b, 2, none⟩ y2).setCell ⟨b, 3, none⟩ y3).setCell ⟨b, 4, none⟩ y4) :=
  ((((turned_setCell (S := fun d => d = b) W ⟨b, 0, none⟩ _ rfl).trans (turned_setCell (S := fun d => d = b) _ ⟨b, 1, none⟩ _ rfl)).trans (turned_setCell (S := fun d => d = b) _ ⟨b, 2, none⟩ _ rfl)).trans (turned_setCell (S := fun d => d = b) _ ⟨b, 3, none⟩ _ rfl)).trans (turned_setCell (S := fun d => d = b) _ ⟨b, 4, none⟩ _ rfl)
theorem Bx.setO {b : Nat} {x : OpV} (q : Bx w1 (some (b, x)) h W) (y : OpV) : Bx w1 (some (b, y)) h (((((W.setCell ⟨b, 0, none⟩ (.int .i64 y.1)).setCell ⟨b, 1, none⟩ (.int .i64 y.2.1)).setCell ⟨b, 2, none⟩ (.int .i64 y.2.2.1)).setCell ⟨b, 3, none⟩ (.int .i64 y.2.2.2.1)).setCell ⟨b, 4, none⟩ (.int .u32 y.2.2.2.2)) := by
  obtain ⟨g1, g2⟩ := q.op b x rfl
  have ht := set5_turned W b (.int .i64 y.1) (.int .i64 y.2.1) (.int .i64 y.2.2.1) (.int .i64 y.2.2.2.1) (.int .u32 y.2.2.2.2)
  refine ⟨q.bel.trans (ht.below q.bel.size (fun j z => by omega)), fun b' x' z => ?_, fun b' v e r z => ?_, fun a x' b' v e r z1 z2 => ?_⟩
  · obtain ⟨rfl, rfl⟩ := Prod.mk.inj (Option.some.inj z)
    exact ⟨g1, set5_heap g2 y⟩
  · obtain ⟨k1, k2⟩ := q.gr b' v e r z
    exact ⟨k1, (ht.block b' (heap_lt k2) (fun z' => q.ne b x b' v e r rfl z z'.symm)).trans k2⟩
  · obtain ⟨rfl, -⟩ := Prod.mk.inj (Option.some.inj z1)
    exact q.ne b x b' v e r rfl z2
theorem Bx.setH {b : Nat} {v e : Value} {r : Int} (q : Bx w1 o (some (b, v, e, r)) W) (v' e' : Value) (r' : Int) : Bx w1 o (some (b, v', e', r')) (set4 W b v' e' (.int .i64 0) (.int .i64 r')) := by
  obtain ⟨g1, g2⟩ := q.gr b v e r rfl
  have hb := set4_below (Below.refl b W) (Nat.le_refl b) v' e' (.int .i64 0) (.int .i64 r')
  refine ⟨set4_below q.bel g1 _ _ _ _, fun b' x z => ?_, fun b' v2 e2 r2 z => ?_, fun a x b' v2 e2 r2 z1 z2 => ?_⟩
  · obtain ⟨k1, k2⟩ := q.op b' x z
    exact ⟨k1, (set4_other (fun z' => q.ne b' x b v e r z rfl z') _ _ _ _).trans k2⟩
  · have z := Option.some.inj z
    injection z with z0 z
    injection z with z1 z
    injection z with z2 z3
    subst z0 z1 z2 z3
    exact ⟨g1, set4G_at g2 _ _ _ _⟩
  · have z2 := Option.some.inj z2
    injection z2 with z2 _
    rw [← z2]
    exact q.ne a x b v e r z1 rfl
end
theorem cellsOpF {w : World} {d : Nat} {k e u v b : Int} (h : w.heap[d]? = some (oOp k e u v b)) : (w.cell? ⟨d, 0, none⟩ = some (.int .i64 k) ∧ w.cell? ⟨d, 1, none⟩ = some (.int .i64 e) ∧ w.cell? ⟨d, 2, none⟩ = some (.int .i64 u) ∧ w.cell? ⟨d, 3, none⟩ = some (.int .i64 v) ∧ w.cell? ⟨d, 4, none⟩ = some (.int .u32 b)) ∧ ∀ o, w.frozen? ⟨d, o, none⟩ = false :=
  ⟨cellsOp h, fun o => frozen_of_row _ _ o _ _ h⟩
theorem Bx.below {w1 W W' : World} {o : Option (Nat × OpV)} {h : Option (Nat × Value × Value × Int)} (q : Bx w1 o h W) (hb : Below W.heap.size W W') : Bx w1 o h W' :=
  ⟨q.bel.trans (hb.mono q.bel.size), fun b x z => ⟨(q.op b x z).1, (hb.block b (heap_lt (q.op b x z).2)).trans (q.op b x z).2⟩, fun b v e r z => ⟨(q.gr b v e r z).1, (hb.block b (heap_lt (q.gr b v e r z).2)).trans (q.gr b v e r z).2⟩, q.ne⟩
/-- Behind a call of play: the call's box, the old graph's and the new one's. -/
structure AtK (ob hb gb : Nat) (k e u v n : Int) (vv ev : Value) (wr : Int) (vs : List Int) (gs : List EdV) (vv' ev' : Value) (wr' : Int) (vs' : List Int) (gs' : List EdV) (W : World) : Prop where
  op : W.heap[ob]? = some (oOp k e u v n)
  old : W.heap[hb]? = some (oG vv ev 0 wr)
  new : W.heap[gb]? = some (oG vv' ev' 0 wr')
  v1 : NRow W vv vs
  e1 : ERow 0 W ev gs
  v2 : NRow W vv' vs'
  e2 : ERow 0 W ev' gs'
theorem AtK.below {ob hb gb : Nat} {k e u v n : Int} {vv ev : Value} {wr : Int} {vs : List Int} {gs : List EdV} {vv' ev' : Value} {wr' : Int} {vs' : List Int} {gs' : List EdV} {W W' : World} (q : AtK ob hb gb k e u v n vv ev wr vs gs vv' ev' wr' vs' gs' W) (h : Below W.heap.size W W') : AtK ob hb gb k e u v n vv ev wr vs gs vv' ev' wr' vs' gs' W' :=
  ⟨(h.block _ (heap_lt q.op)).trans q.op, (h.block _ (heap_lt q.old)).trans q.old, (h.block _ (heap_lt q.new)).trans q.new, nrow_below q.v1 h, rrow_below q.e1 h, nrow_below q.v2 h, rrow_below q.e2 h⟩
theorem atK_of {w w5 w6 : World} {wq : World} {gb p ob hb : Nat} {s tc : Int} {vs vs' : List Int} {gs gs' : List EdV} {T T' : L14.Tr} {N : Nat} {vv ev vv' ev' : Value} {wr wr' tc' : Int} {L L' : Lab} {k e u v n : Int} (hq : LS w gb p s tc vs gs T N vv ev wr L wq) (hx : Bx wq (some (ob, k, e, u, v, n)) (some (hb, vv, ev, wr)) w5) (h6 : LS w gb p s tc' vs' gs' T' (N + 1) vv' ev' wr' L' w6)
    (hkeep : ∀ b, b < w5.heap.size → L b = none → b ≠ gb → w6.heap[b]? = w5.heap[b]?) : AtK ob hb gb k e u v n vv ev wr vs gs vv' ev' wr' vs' gs' w6 := by
  obtain ⟨o1, o2⟩ := hx.op ob _ rfl
  obtain ⟨g1, g2⟩ := hx.gr hb _ _ _ rfl
  have hg := heap_lt hq.box
  have h5 := hq.below hx.bel
  exact ⟨(hkeep ob (heap_lt o2) (hq.k.fr ob o1) (by omega)).trans o2, (hkeep hb (heap_lt g2) (hq.k.fr hb g1) (by omega)).trans g2, h6.box, nrow_kept h5.vs (fun b q => hkeep b (h5.vs.lt b q).2 (h5.lv b q).1 (h5.lv b q).2.1), erow_kept h5.gs (fun b q => hkeep b (h5.gs.lt b q).2 (h5.le b q).1 (h5.le b q).2.1), h6.vs, h6.gs⟩
theorem readyL3 {P : Program} {ops : Array Oper} {Q : Exit → Act → World → Prop} {md : Region.Mode} {S : World → Prop} {T : List Nat} {i j k : Nat} {o o2 o3 : Oper} {fuel : Nat} {listed : Array Bool} {a : Act} {w : World} (hr : Region.ready md ops listed = [i, j, k]) (ho : ops[i]? = some o) (ho2 : ops[j]? = some o2) (ho3 : ops[k]? = some o3)
    (h : ∀ K' : Act → World → Prop, Shut (∀ a w, (T.contains i = false → S w) → wpAnyL P md ops Q S T fuel (listed.setIfInBounds i true) a w → K' a w) → if Region.wanted o (yielded ops a.tmps) = true then Oper.wp P o a w K' Q else K' (a.put o.dst undef) w)
    (h2 : ∀ K' : Act → World → Prop, Shut (∀ a w, (T.contains j = false → S w) → wpAnyL P md ops Q S T fuel (listed.setIfInBounds j true) a w → K' a w) → if Region.wanted o2 (yielded ops a.tmps) = true then Oper.wp P o2 a w K' Q else K' (a.put o2.dst undef) w)
    (h3 : ∀ K' : Act → World → Prop, Shut (∀ a w, (T.contains k = false → S w) → wpAnyL P md ops Q S T fuel (listed.setIfInBounds k true) a w → K' a w) → if Region.wanted o3 (yielded ops a.tmps) = true then Oper.wp P o3 a w K' Q else K' (a.put o3.dst undef) w) :
    wpAnyL P md ops Q S T (fuel + 1) listed a w := by
  refine ⟨fun h0 => (by rw [hr] at h0; cases h0), fun d hd => ?_⟩
  rw [hr] at hd
  rcases List.mem_cons.1 hd with e | e
  · subst e
    exact wpOp_step ho (fun K' hK => h K' (fun a w hS hW => hK a w ⟨hS, hW⟩))
  · rcases List.mem_cons.1 e with e | e
    · subst e
      exact wpOp_step ho2 (fun K' hK => h2 K' (fun a w hS hW => hK a w ⟨hS, hW⟩))
    · obtain rfl : d = k := by simpa using e
      exact wpOp_step ho3 (fun K' hK => h3 K' (fun a w hS hW => hK a w ⟨hS, hW⟩))
end

section
open Go.RowKit Go.Maps
/-- The first region of a piece of code. -/
def firstId : Code → Option Nat
  | .region id _ _ => some id
  | .seq a _ => firstId a
  | .block _ c => firstId c
  | .loop c => firstId c
  | .scope c => firstId c
  | _ => none
/-- The code from the region n on. -/
def fromRegion (n : Nat) : Code → Option Code
  | .seq a b => if firstId a = some n then some (.seq a b) else match fromRegion n a with
    | some c => some c
    | none => fromRegion n b
  | .cond _ a b => match fromRegion n a with
    | some c => some c
    | none => fromRegion n b
  | .block _ c => fromRegion n c
  | .loop c => fromRegion n c
  | .scope c => fromRegion n c
  | _ => none
set_option maxHeartbeats 16000000 in
set_option maxRecDepth 100000 in
theorem bnd29 [Inhabited EntF] {w7 wr : World} {p m nt : Nat} {lb cb ub : Bool} (a0 a1 a2 a3 a4 a6 a7 a8 a9 a10 a12 a13 a14 a17 a19 a20 a21 a22 a23 a24 a25 a26 a27 a28 a29 a30 a31 a32 a33 a34 a35 a36 a37 a38 a39 a40 a41 a42 a43 a44 a45 a46 a47 a48 a49 a50 a51 a52 a53 a54 a55 a56 a57 a58 a59 a60 a61 a62 a63 a64 a65 a66 a67 a68 a69 a70 a71 a72 a73 a74 a75 a76 a77 a78 a79 a80 a81 a82 a83 a84 a85 a86 a87 a88 a89 a90 a91 a92 a93 a94 a95 a96 a97 a98 a99 a100 a101 a102 a103 a104 a105 a106 a107 a108 a109 a110 a111 a112 a113 a114 a115 a116 a117 a118 a119 a120 a121 a122 a123 a124 a125 a126 a127 a128 a129 a130 a131 a132 a133 a134 a135 a136 a137 a138 a139 a140 a141 a142 a143 a144 a145 a146 a147 a148 a149 a150 a151 a152 a153 a154 a155 a156 a157 a158 a159 a160 a161 a162 a163 a164 a165 a166 a167 a168 a169 a170 a171 a172 a173 a174 a175 a176 a177 a178 a179 a180 a181 : Value) (Q : Exit → Act → World → Prop)
    (CT : Hid (∀ W, Below w7.heap.size w7 W → Calls Try.prog 6 #[.pointer (some ⟨p, 0, none⟩)] W fun e w' => e = .returned (.int .i64 nt) ∧ w' = W)) (r1 : ¬ (nt : Int) < 0) (r2 : ¬ (m : Int) < (nt : Int)) (h1 : ub = true → 0 < nt → lb = true) (h2 : ub = false → 0 < nt → cb = true) (HB : Hid (Below w7.heap.size w7 wr))
    (HQ : Hid (∀ (b20 b150 b151 b152 b153 b154 b155 b156 b157 b158 b159 b160 b161 b162 b163 b164 b165 b166 b167 b168 b169 b170 b171 b172 b173 b174 b175 b176 b177 b178 b179 b180 b181 : Value) (wz : World), Below w7.heap.size w7 wz → Q .normal ⟨#[a0, a1, a2, a3, a4, .pointer (some ⟨p, 0, none⟩), a6, a7, a8, a9, a10, .bool lb, a12, a13, a14, .int .i64 (m : Nat), .bool cb, a17, .bool ub, a19, b20, a21, a22, a23, a24, a25, a26, a27, a28, a29, a30, a31, a32, a33, a34, a35, a36, a37, a38, a39, a40, a41, a42, a43, a44, a45, a46, a47, a48, a49, a50, a51, a52, a53, a54, a55, a56, a57, a58, a59, a60, a61, a62, a63, a64, a65, a66, a67, a68, a69, a70, a71, a72, a73, a74, a75, a76, a77, a78, a79, a80, a81, a82, a83, a84, a85, a86, a87, a88, a89, a90, a91, a92, a93, a94, a95, a96, a97, a98, a99, a100, a101, a102, a103, a104, a105, a106, a107, a108, a109, a110, a111, a112, a113, a114, a115, a116, a117, a118, a119, a120, a121, a122, a123, a124, a125, a126, a127, a128, a129, a130, a131, a132, a133, a134, a135, a136, a137, a138, a139, a140, a141, a142, a143, a144, a145, a146, a147, a148, a149, b150, b151, b152, b153, b154, b155, b156, b157, b158, b159, b160, b161, b162, b163, b164, b165, b166, b167, b168, b169, b170, b171, b172, b173, b174, b175, b176, b177, b178, b179, b180, b181], []⟩ wz)) :
    Code.wp Try.prog ((Try.f3.body.bind (fromRegion 29)).getD .skip) Q ⟨#[a0, a1, a2, a3, a4, .pointer (some ⟨p, 0, none⟩), a6, a7, a8, a9, a10, .bool lb, a12, a13, a14, .int .i64 (m : Nat), .bool cb, a17, .bool ub, a19, a20, a21, a22, a23, a24, a25, a26, a27, a28, a29, a30, a31, a32, a33, a34, a35, a36, a37, a38, a39, a40, a41, a42, a43, a44, a45, a46, a47, a48, a49, a50, a51, a52, a53, a54, a55, a56, a57, a58, a59, a60, a61, a62, a63, a64, a65, a66, a67, a68, a69, a70, a71, a72, a73, a74, a75, a76, a77, a78, a79, a80, a81, a82, a83, a84, a85, a86, a87, a88, a89, a90, a91, a92, a93, a94, a95, a96, a97, a98, a99, a100, a101, a102, a103, a104, a105, a106, a107, a108, a109, a110, a111, a112, a113, a114, a115, a116, a117, a118, a119, a120, a121, a122, a123, a124, a125, a126, a127, a128, a129, a130, a131, a132, a133, a134, a135, a136, a137, a138, a139, a140, a141, a142, a143, a144, a145, a146, a147, a148, a149, a150, a151, a152, a153, a154, a155, a156, a157, a158, a159, a160, a161, a162, a163, a164, a165, a166, a167, a168, a169, a170, a171, a172, a173, a174, a175, a176, a177, a178, a179, a180, a181], []⟩ wr := by
  conv => arg 2; whnf
  by_cases hn0 : nt = 0
  · subst hn0
    clear h1 h2
    cases ub with
    | true =>
      cases lb with
      | true =>
        have CT1 := hide (unhide CT wr (unhide HB))
        go_wp2_with fail
        refine (unhide CT1).mono ?_
        rintro e12 w12 ⟨rfl, hw12⟩
        rw [hw12]
        clear CT1 hw12 w12
        go_wp2_with fail
        exact unhide HQ _ _ _ _ _ _ _ _ _ _ _ _ _ _ _ _ _ _ _ _ _ _ _ _ _ _ _ _ _ _ _ _ _ _ (unhide HB)
      | false =>
        have CT1 := hide (unhide CT wr (unhide HB))
        go_wp2_with fail
        refine (unhide CT1).mono ?_
        rintro e12 w12 ⟨rfl, hw12⟩
        rw [hw12]
        clear CT1 hw12 w12
        go_wp2_with fail
        exact unhide HQ _ _ _ _ _ _ _ _ _ _ _ _ _ _ _ _ _ _ _ _ _ _ _ _ _ _ _ _ _ _ _ _ _ _ (unhide HB)
    | false =>
      cases cb with
      | true =>
        have CT1 := hide (unhide CT wr (unhide HB))
        go_wp2_with fail
        refine (unhide CT1).mono ?_
        rintro e12 w12 ⟨rfl, hw12⟩
        rw [hw12]
        clear CT1 hw12 w12
        go_wp2_with fail
        exact unhide HQ _ _ _ _ _ _ _ _ _ _ _ _ _ _ _ _ _ _ _ _ _ _ _ _ _ _ _ _ _ _ _ _ _ _ (unhide HB)
      | false =>
        have CT1 := hide (unhide CT wr (unhide HB))
        go_wp2_with fail
        refine (unhide CT1).mono ?_
        rintro e12 w12 ⟨rfl, hw12⟩
        rw [hw12]
        clear CT1 hw12 w12
        go_wp2_with fail
        exact unhide HQ _ _ _ _ _ _ _ _ _ _ _ _ _ _ _ _ _ _ _ _ _ _ _ _ _ _ _ _ _ _ _ _ _ _ (unhide HB)
  · have hz : ((nt : Int) == 0) = false := by simp; omega
    cases ub with
    | true =>
      obtain rfl : lb = true := h1 rfl (by omega)
      clear h1 h2 hn0
      have CT1 := hide (unhide CT wr (unhide HB))
      go_wp2_with fail
      refine (unhide CT1).mono ?_
      rintro e12 w12 ⟨rfl, hw12⟩
      rw [hw12]
      clear CT1 hw12 w12
      go_wp2_with fail
      exact unhide HQ _ _ _ _ _ _ _ _ _ _ _ _ _ _ _ _ _ _ _ _ _ _ _ _ _ _ _ _ _ _ _ _ _ _ (unhide HB)
    | false =>
      obtain rfl : cb = true := h2 rfl (by omega)
      clear h1 h2 hn0
      have CT1 := hide (unhide CT wr (unhide HB))
      go_wp2_with fail
      refine (unhide CT1).mono ?_
      rintro e12 w12 ⟨rfl, hw12⟩
      rw [hw12]
      clear CT1 hw12 w12
      go_wp2_with fail
      exact unhide HQ _ _ _ _ _ _ _ _ _ _ _ _ _ _ _ _ _ _ _ _ _ _ _ _ _ _ _ _ _ _ _ _ _ _ (unhide HB)
end

end Go.Proofs.Ytbmcibofecigeaa

/- The reference's Through and Cost, along a walk. -/
import Derived.Test.YtbmcibofecigeaaRD13
namespace Go.Proofs.Ytbmcibofecigeaa
open Go.RowKit Go.Maps
theorem row_new (w : World) (x : Array Value) (ks : List Int) (h : x.toList = ks.map (Value.int .i64)) (hl : ks.length ≤ 1000000) : BRow w.heap.size (w.alloc (.cells x 3)) (.slice (some ⟨w.heap.size, 0, none⟩) ks.length ks.length) ks := by
  have hs : x.size = ks.length := by rw [← Array.length_toList, h, List.length_map]
  refine ⟨by simp, .inr ⟨w.heap.size, ks.length, x, rfl, Nat.le_refl _, heap_alloc_new _ _, Nat.le_refl _, by unfold maxLen; omega, by omega, ?_⟩⟩
  rw [h, List.take_of_length_le (by simp)]
theorem readyL2 {P : Program} {ops : Array Oper} {Q : Exit → Act → World → Prop} {md : Region.Mode} {S : World → Prop} {T : List Nat} {i k : Nat} {o o2 : Oper} {fuel : Nat} {listed : Array Bool} {a : Act} {w : World} (hr : Region.ready md ops listed = [i, k]) (ho : ops[i]? = some o) (ho2 : ops[k]? = some o2)
    (h : ∀ K' : Act → World → Prop, Shut (∀ a w, (T.contains i = false → S w) → wpAnyL P md ops Q S T fuel (listed.setIfInBounds i true) a w → K' a w) → if Region.wanted o (yielded ops a.tmps) = true then Oper.wp P o a w K' Q else K' (a.put o.dst undef) w)
    (h2 : ∀ K' : Act → World → Prop, Shut (∀ a w, (T.contains k = false → S w) → wpAnyL P md ops Q S T fuel (listed.setIfInBounds k true) a w → K' a w) → if Region.wanted o2 (yielded ops a.tmps) = true then Oper.wp P o2 a w K' Q else K' (a.put o2.dst undef) w) :
    wpAnyL P md ops Q S T (fuel + 1) listed a w := by
  refine ⟨fun h0 => (by rw [hr] at h0; cases h0), fun j hj => ?_⟩
  rw [hr] at hj
  rcases List.mem_cons.1 hj with e | e
  · subst e
    exact wpOp_step ho (fun K' hK => h K' (fun a w hS hW => hK a w ⟨hS, hW⟩))
  · obtain rfl : j = k := by simpa using e
    exact wpOp_step ho2 (fun K' hK => h2 K' (fun a w hS hW => hK a w ⟨hS, hW⟩))
/-- The four cells of a result, written. -/
def set4 (w : World) (g : Nat) (a b c d : Value) : World := (((w.setCell ⟨g, 0, none⟩ a).setCell ⟨g, 1, none⟩ b).setCell ⟨g, 2, none⟩ c).setCell ⟨g, 3, none⟩ d
theorem set4_at {w : World} {g : Nat} {x0 x1 x2 x3 : Value} (h : w.heap[g]? = some (.cells #[x0, x1, x2, x3] 42 (0, 0))) (a b c d : Value) : (set4 w g a b c d).heap[g]? = some (.cells #[a, b, c, d] 42 (0, 0)) := by
  have e0 : (w.setCell ⟨g, 0, none⟩ a).heap[g]? = some (.cells #[a, x1, x2, x3] 42 (0, 0)) := by rw [heap_setCell_same _ _ _ _ _ _ h]; rfl
  have e1 : ((w.setCell ⟨g, 0, none⟩ a).setCell ⟨g, 1, none⟩ b).heap[g]? = some (.cells #[a, b, x2, x3] 42 (0, 0)) := by rw [heap_setCell_same _ _ _ _ _ _ e0]; rfl
  have e2 : (((w.setCell ⟨g, 0, none⟩ a).setCell ⟨g, 1, none⟩ b).setCell ⟨g, 2, none⟩ c).heap[g]? = some (.cells #[a, b, c, x3] 42 (0, 0)) := by rw [heap_setCell_same _ _ _ _ _ _ e1]; rfl
  unfold set4
  rw [heap_setCell_same _ _ _ _ _ _ e2]; rfl
theorem set4_below {w0 w : World} {g B : Nat} (h : Below B w0 w) (hg : B ≤ g) (a b c d : Value) : Below B w0 (set4 w g a b c d) :=
  (((h.setCell (p := ⟨g, 0, none⟩) hg a).setCell (p := ⟨g, 1, none⟩) hg b).setCell (p := ⟨g, 2, none⟩) hg c).setCell (p := ⟨g, 3, none⟩) hg d
def o34 : Obj := .cells #[.int .i64 0, .int .i64 0, .int .i64 0, .int .u32 0] 42 (0, 0)
theorem set4_other {w : World} {g k : Nat} (hk : k ≠ g) (a b c d : Value) : (set4 w g a b c d).heap[k]? = w.heap[k]? := by
  unfold set4
  rw [heap_setCell_other _ _ _ _ hk, heap_setCell_other _ _ _ _ hk, heap_setCell_other _ _ _ _ hk, heap_setCell_other _ _ _ _ hk]
theorem cells34 {w : World} {g : Nat} {a b c d : Value} (h : w.heap[g]? = some (.cells #[a, b, c, d] 42 (0, 0))) : w.cell? ⟨g, 0, none⟩ = some a ∧ w.cell? ⟨g, 1, none⟩ = some b ∧ w.cell? ⟨g, 2, none⟩ = some c ∧ w.cell? ⟨g, 3, none⟩ = some d ∧ ∀ o, w.frozen? ⟨g, o, none⟩ = false :=
  ⟨(cell_of_row _ _ 0 _ 42 (0, 0) h).trans rfl, (cell_of_row _ _ 1 _ 42 (0, 0) h).trans rfl, (cell_of_row _ _ 2 _ 42 (0, 0) h).trans rfl, (cell_of_row _ _ 3 _ 42 (0, 0) h).trans rfl, fun o => frozen_of_row _ _ o _ _ h⟩
/-- These records are a walk from here. -/
def Wlk (gs : List EdV) : Int → List EdV → Prop
  | _, [] => True
  | a, x :: ms => x ∈ gs ∧ x.2.1 = a ∧ Wlk gs x.2.2.1 ms
def stops (a : Int) (ms : List EdV) : List Int := a :: ms.map (·.2.2.1)
theorem wlk_at {gs : List EdV} : ∀ {ms : List EdV} {a : Int} {i : Nat} {x : EdV}, Wlk gs a ms → ms[i]? = some x → x ∈ gs ∧ (stops a ms)[i]? = some x.2.1
  | [], a, i, x, _, h => by simp at h
  | y :: ms, a, 0, x, ⟨h1, h2, h3⟩, h => by
    have e : y = x := by simpa using h
    subst e
    exact ⟨h1, by rw [h2]; rfl⟩
  | y :: ms, a, i + 1, x, ⟨h1, h2, h3⟩, h => by
    have := wlk_at h3 (i := i) (x := x) (by simpa using h)
    exact this
theorem stops_take {a : Int} {ms : List EdV} {i : Nat} (h : i ≤ ms.length) : (stops a (ms.take i))[i]? = (stops a ms)[i]? := by
  unfold stops
  cases i with
  | zero => rfl
  | succ i => simp
theorem stops_len (a : Int) (ms : List EdV) : (stops a ms).length = ms.length + 1 := by simp [stops]
theorem stops_snoc {a : Int} {ms : List EdV} {i : Nat} {x : EdV} (h : ms[i]? = some x) : stops a (ms.take (i + 1)) = stops a (ms.take i) ++ [x.2.2.1] := by
  unfold stops
  rw [List.take_add_one, h]; simp
def ThrAns (w : World) (l : List Int) (e : Ending) (w' : World) : Prop := ∃ sa sn sc, e = .returned (.tuple #[.slice sa sn sc, .int .i64 0, .int .i64 0]) ∧ BRow w.heap.size w' (.slice sa sn sc) l ∧ Below w.heap.size w w'
set_option maxHeartbeats 4000000 in
set_option maxRecDepth 100000 in
theorem throughR {w : World} {vv ev kv : Value} {rd wr0 a : Int} {gs ms : List EdV} (h : ERow 0 w ev gs) (hn : (gs.map (·.1)).Nodup) (hk : NRow w kv (ms.map (·.1))) (hW : Wlk gs a ms) (hg1 : gs.length ≤ 2000) (hm1 : ms.length ≤ 2000) :
    Calls Try.prog 70 #[.agg #[vv, ev, .int .i64 rd, .int .i64 wr0], .int .i64 a, kv] w fun e w' => Hid (ThrAns w (stops a ms) e w') := by
  have hb := below_new w (oGr vv ev rd wr0)
  have hbx := heap_alloc_new w (oGr vv ev rd wr0)
  obtain ⟨ea, ec, rfl⟩ := rrow_shape h
  obtain ⟨ka, kc, hkv, -⟩ := brow_shape hk
  rw [List.length_map] at hkv
  obtain ⟨m, hm⟩ : ∃ m, m = gs.length := ⟨_, rfl⟩
  obtain ⟨n, hnn⟩ : ∃ n, n = ms.length := ⟨_, rfl⟩
  rw [← hnn] at hkv
  rw [← hm] at h hb hbx ⊢
  obtain ⟨gb, hgb⟩ : ∃ gb, gb = w.heap.size := ⟨_, rfl⟩
  obtain ⟨W1, hW1⟩ : ∃ W1, W1 = w.alloc (oGr vv (.slice ea m ec) rd wr0) := ⟨_, rfl⟩
  rw [← hW1] at hb hbx
  rw [← hgb] at hbx
  have hrow := row_new W1 #[.int .i64 a] [a] rfl (by simp)
  have hb2 := below_new W1 (.cells #[.int .i64 a] 3)
  have HN : Hid (m = gs.length ∧ n = ms.length ∧ m ≤ 2000 ∧ n ≤ 2000 ∧ (gs.map (·.1)).Nodup ∧ Wlk gs a ms) := ⟨hm, hnn, by omega, by omega, hn, hW⟩
  have hgl : gb < W1.heap.size := (Array.getElem?_eq_some_iff.1 hbx).1
  have HX : Hid (∀ W, Below W1.heap.size W1 W → (W.cell? ⟨gb, 0, none⟩ = some vv ∧ W.cell? ⟨gb, 1, none⟩ = some (.slice ea m ec) ∧ W.cell? ⟨gb, 2, none⟩ = some (.int .i64 rd) ∧ W.cell? ⟨gb, 3, none⟩ = some (.int .i64 wr0)) ∧ ERow 0 W (.slice ea m ec) gs ∧ NRow W kv (ms.map (·.1)) ∧ Below w.heap.size w W) := fun W hW' => by
    obtain ⟨c0, c1, c2, c3, -⟩ := cellsGr ((hW'.block gb hgl).trans hbx)
    exact ⟨⟨c0, c1, c2, c3⟩, rrow_below (rrow_below h hb) hW', nrow_below (nrow_below hk hb) hW', hb.trans (hW'.mono hb.size)⟩
  have H2 : Hid (BRow W1.heap.size (W1.alloc (.cells #[.int .i64 a] 3)) (.slice (some ⟨W1.heap.size, 0, none⟩) 1 1) [a] ∧ Below W1.heap.size W1 (W1.alloc (.cells #[.int .i64 a] 3)) ∧ w.heap.size ≤ W1.heap.size) := ⟨hrow, hb2, hb.size⟩
  have HW1 := hide hW1
  have HGB := hide hgb
  clear h hn hk hW hg1 hm1 hb hbx hm hnn hgb hW1 hrow hb2 hgl
  subst hkv
  go_enter Try.func70, Try.ntmps70
  go_upto_region 1 with fail
  rw [show w.alloc (.cells #[vv, .slice ea m ec, .int .i64 rd, .int .i64 wr0] 28 (0, 0)) = W1 from (unhide HW1).symm, ← unhide HGB]
  clear HW1 HGB
  go_wp2_with fail
  obtain ⟨B1, hB1⟩ : ∃ B1, B1 = W1.heap.size := ⟨_, rfl⟩
  rw [← hB1] at H2 HX ⊢
  have HB1 := hide hB1
  clear hB1
  go_loopw [10, 9] (fun s10 s9 wr => ∃ (i : Nat) (y : Option Addr) (yn yc : Nat), s10 = .int .i64 i ∧ s9 = .slice y yn yc ∧ Hid (i ≤ n ∧ BRow B1 wr (.slice y yn yc) (stops a (ms.take i)) ∧ Below B1 W1 wr)) (fun s10 _ _ => n - (intOf s10).toNat)
  case atStart => exact ⟨0, some ⟨B1, 0, none⟩, 1, 1, rfl, rfl, Nat.zero_le _, (unhide H2).1, (unhide H2).2.1⟩
  case round =>
    obtain ⟨i, y, yn, yc, rfl, rfl, HI⟩ := hrel
    obtain ⟨i1, i2, i3⟩ := unhide HI
    obtain ⟨l1, l2, l3, l4, l5, l6⟩ := unhide HN
    have hyn : yn = i + 1 := by
      obtain ⟨_, _, e, -⟩ := brow_shape i2
      injection e with _ e2 _
      rw [e2, stops_len, List.length_take]; omega
    by_cases hlt : i < n
    · obtain ⟨x, hx⟩ : ∃ x, ms[i]? = some x := ⟨_, List.getElem?_eq_getElem (by omega)⟩
      obtain ⟨hxm, hxs⟩ := wlk_at l6 hx
      obtain ⟨k, hk⟩ := List.mem_iff_getElem?.1 hxm
      have hkl := (List.getElem?_eq_some_iff.1 hk).1
      obtain ⟨⟨c0, c1, c2, c3⟩, hE, hK, -⟩ := unhide HX wr i3
      obtain ⟨ge, rfl⟩ := rrow_some hE (by omega)
      have hkx : (ms.map (·.1))[i]? = some x.1 := by rw [List.getElem?_map, hx]; rfl
      obtain ⟨gk, rfl⟩ := brow_some hK (by rw [List.length_map]; omega)
      have kk := brow_at hK hkx
      obtain ⟨gy, rfl⟩ := brow_some i2 (by rw [stops_len]; omega)
      have hsx : (stops a (ms.take i))[i]? = some x.2.1 := by rw [stops_take (by omega)]; exact hxs
      have CA : Hid (∀ W, Below wr.heap.size wr W → Calls Try.prog 11 #[.agg #[vv, .slice (some ⟨ge, 0, none⟩) m ec, .int .i64 rd, .int .i64 wr0], .int .i64 x.1] W fun r w' => r = .returned (.int .i64 (k : Nat)) ∧ Hid (Below W.heap.size W w')) := fun W hW => by
        have := atR (vv := vv) (rd := rd) (wr := wr0) (e := x.1) (rrow_below hE hW) (by omega)
        rwa [atOf_some l5 hk] at this
      have HM : Hid (∀ W, Below wr.heap.size wr W → ((W.cell? ⟨gb, 0, none⟩ = some vv ∧ W.cell? ⟨gb, 1, none⟩ = some (.slice (some ⟨ge, 0, none⟩) m ec) ∧ W.cell? ⟨gb, 2, none⟩ = some (.int .i64 rd) ∧ W.cell? ⟨gb, 3, none⟩ = some (.int .i64 wr0)) ∧ W.cell? ⟨gk, i, none⟩ = some (.int .i64 x.1)) ∧ (W.cell? ⟨ge, k * 4 + 1, none⟩ = some (.int .i64 x.2.1) ∧ W.cell? ⟨ge, k * 4 + 2, none⟩ = some (.int .i64 x.2.2.1) ∧ W.cell? ⟨gy, i, none⟩ = some (.int .i64 x.2.1)) ∧ BRow B1 W (.slice (some ⟨gy, 0, none⟩) yn yc) (stops a (ms.take i)) ∧ Below B1 W1 W) := fun W hW => by
        have h3 : Below B1 W1 W := i3.trans (hW.mono (by have := i3.size; have := unhide HB1; omega))
        obtain ⟨c', hE', hK', -⟩ := unhide HX W h3
        obtain ⟨-, q1, q2, -⟩ := erow_at hE' hk
        have hb' := brow_kept i2 (fun b e => hW.block b (i2.lt b e).2)
        exact ⟨⟨c', brow_at hK' hkx⟩, ⟨q1, q2, brow_at hb' hsx⟩, hb', h3⟩
      obtain ⟨j, hj⟩ : ∃ j, j = i + 1 := ⟨_, rfl⟩
      have zw : Hid (wrap64 ((i : Int) + 1) = (j : Int)) := by show wrap64 ((i : Int) + 1) = (j : Int); unfold wrap64; omega
      have HJ : Hid (j = i + 1 ∧ n - j < n - i ∧ j ≤ n ∧ stops a (ms.take j) = stops a (ms.take i) ++ [x.2.2.1] ∧ (stops a (ms.take i)).length ≤ 3000 ∧ B1 = W1.heap.size) := ⟨hj, by omega, by omega, by rw [hj]; exact stops_snoc hx, by rw [stops_len, List.length_take]; omega, unhide HB1⟩
      have z1 : (i : Int) < (n : Int) := by omega
      have z2 : (k : Int) < (m : Int) := by omega
      have z3 : (i : Int) < (yn : Int) := by omega
      have z4 : ¬ (k : Int) < 0 := by omega
      clear HI i1 i2 i3 l1 l2 l3 l4 l5 l6 hyn hlt hx hxm hxs hk hkl hE hK hkx hsx hj
      go_upto_region 5 with fail
      refine wp_region_noPanic ?_
      refine regionL [] (fun y => (y.cell? ⟨gb, 0, none⟩ = some vv ∧ y.cell? ⟨gb, 1, none⟩ = some (.slice (some ⟨ge, 0, none⟩) m ec) ∧ y.cell? ⟨gb, 2, none⟩ = some (.int .i64 rd) ∧ y.cell? ⟨gb, 3, none⟩ = some (.int .i64 wr0)) ∧ y.cell? ⟨gk, i, none⟩ = some (.int .i64 x.1)) (by kernel_rfl) ⟨⟨c0, c1, c2, c3⟩, kk⟩ (fun hHeld => ?_)
      refine takeL (i := 0) (v := ?t2v0) (some 20) rfl rfl (by kernel_rfl) (by kernel_rfl) (by kernel_rfl) (by kernel_rfl) (by kernel_rfl) (fun _ _ _ h => h) (Or.inl ⟨by rfl, ?t2h0⟩) (by assumption) ?t2r0
      case t2h0 => (intro y hSu; (try dsimp only at hSu); go_simp; first | done | with_reducible rfl)
      (try simp only [Act.put, List.setIfInBounds_toArray, List.set_cons_zero, List.set_cons_succ])
      refine takeL (i := 1) (v := ?t2v1) (some 21) rfl rfl (by kernel_rfl) (by kernel_rfl) (by kernel_rfl) (by kernel_rfl) (by kernel_rfl) (fun _ _ _ h => h) (Or.inl ⟨by rfl, ?t2h1⟩) (by assumption) ?t2r1
      case t2h1 => (intro y hSu; (try dsimp only at hSu); go_simp; first | done | with_reducible rfl)
      (try simp only [Act.put, List.setIfInBounds_toArray, List.set_cons_zero, List.set_cons_succ])
      refine takeL (i := 2) (v := ?t2v2) (some 22) rfl rfl (by kernel_rfl) (by kernel_rfl) (by kernel_rfl) (by kernel_rfl) (by kernel_rfl) (fun _ _ _ h => h) (Or.inl ⟨by rfl, ?t2h2⟩) (by assumption) ?t2r2
      case t2h2 => (intro y hSu; (try dsimp only at hSu); go_simp; first | done | with_reducible rfl)
      (try simp only [Act.put, List.setIfInBounds_toArray, List.set_cons_zero, List.set_cons_succ])
      refine takeL (i := 3) (v := ?t2v3) (some 23) rfl rfl (by kernel_rfl) (by kernel_rfl) (by kernel_rfl) (by kernel_rfl) (by kernel_rfl) (fun _ _ _ h => h) (Or.inl ⟨by rfl, ?t2h3⟩) (by assumption) ?t2r3
      case t2h3 => (intro y hSu; (try dsimp only at hSu); go_simp; first | done | with_reducible rfl)
      (try simp only [Act.put, List.setIfInBounds_toArray, List.set_cons_zero, List.set_cons_succ])
      refine takeL (i := 4) (v := ?t2v4) (some 24) rfl rfl (by kernel_rfl) (by kernel_rfl) (by kernel_rfl) (by kernel_rfl) (by kernel_rfl) (fun _ _ _ h => h) (Or.inl ⟨by rfl, ?t2h4⟩) (by assumption) ?t2r4
      case t2h4 => (intro y hSu; (try dsimp only at hSu); go_simp; first | done | with_reducible rfl)
      (try simp only [Act.put, List.setIfInBounds_toArray, List.set_cons_zero, List.set_cons_succ])
      refine readyL (i := 5) (by kernel_rfl) rfl (fun K hK => ?_)
      go_simp
      refine (unhide CA _ (below_drewN (Below.refl _ _) 1)).mono ?_
      rintro e w5 ⟨rfl, hb5⟩
      have HB5 : Hid (Below wr.heap.size wr w5) := (below_drewN (Below.refl wr.heap.size wr) 1).trans ((unhide hb5).mono (below_drewN (Below.refl wr.heap.size wr) 1).size)
      clear CA hb5
      have HP := hide (unhide HM w5 (unhide HB5))
      (try dsimp only)
      refine hK.out _ _ (fun _ => (unhide HP).1) ?_
      clear hK K
      (try simp only [Act.put, List.setIfInBounds_toArray, List.set_cons_zero, List.set_cons_succ])
      have hH4 := (unhide HP).1
      refine takeL (i := 6) (v := ?t5v6) (some 11) rfl rfl (by kernel_rfl) (by kernel_rfl) (by kernel_rfl) (by kernel_rfl) (by kernel_rfl) (fun _ _ _ h => h) (Or.inl ⟨by rfl, ?t5h6⟩) (by assumption) ?t5r6
      case t5h6 => (intro y hSu; (try dsimp only at hSu); go_simp; first | done | with_reducible rfl)
      (try simp only [Act.put, List.setIfInBounds_toArray, List.set_cons_zero, List.set_cons_succ])
      refine doneL (by kernel_rfl) ?_ _
      refine NoPanic.normal ?_
      clear hHeld c0 c1 c2 c3 kk
      obtain ⟨⟨⟨c0, c1, c2, c3⟩, kk⟩, ⟨q1, q2, q3⟩, -, -⟩ := unhide HP
      have HA : Hid (∀ q, ∃ a' n' c' w', (∀ ty, (Builtin.append_ #[25, 25] ty #[.slice (some ⟨gy, 0, none⟩) yn yc, .slice (some ⟨(w5.drewN q).heap.size, 0, none⟩) 1 1]).run Try.prog ((w5.drewN q).alloc (.cells #[.int .i64 x.2.2.1] 3)) = .ok (.slice a' n' c') w') ∧ BRow B1 w' (.slice a' n' c') (stops a (ms.take j)) ∧ Below B1 W1 w') := fun q => by
        obtain ⟨-, -, hb', h3⟩ := unhide HM (w5.drewN q) (below_drewN (unhide HB5) q)
        obtain ⟨e1, e2, e3, e4, e5, e6⟩ := unhide HJ
        obtain ⟨a', n', c', w', r, g1, g2, -⟩ := run_app8 x.2.2.1 hb' (by have := h3.size; omega) (by omega)
        rw [← e4] at g1
        exact ⟨a', n', c', w', r, g1, h3.trans (g2.below (by have := h3.size; omega) (fun b e => (hb'.lt b e).1))⟩
      clear HP HM HB5
      go_upto_region 8 with fail
      go_quiet (fail)
      obtain ⟨a', n', c', w', r, g1, g2⟩ := unhide HA nq
      have HR := hide r
      have HE2 : Hid (BRow B1 w' (.slice a' n' c') (stops a (ms.take j)) ∧ Below B1 W1 w') := ⟨g1, g2⟩
      clear HA r g1 g2
      go_wp2_with (at_builtin; refine Lib.wpList_append_run _ rfl _ _ 25 25 rfl _ _ rfl rfl _ _ (unhide HR _) ?_)
      (try rw [unhide zw])
      exact ⟨⟨j, a', n', c', by first | rfl | (rw [(unhide HJ).1]; rfl), rfl, (unhide HJ).2.2.1, unhide HE2⟩, by have := unhide HJ; simp [intOf]; omega⟩
    · have z1 : ¬ (i : Int) < (n : Int) := by omega
      have HE : Hid (ThrAns w (stops a ms) (.returned (.tuple #[.slice y yn yc, .int .i64 0, .int .i64 0])) wr) := by
        rw [List.take_of_length_le (by omega)] at i2
        exact ⟨y, yn, yc, rfl, brow_low i2 (by have := (unhide H2).2.2; have := unhide HB1; omega), (unhide HX wr i3).2.2.2⟩
      clear HI i1 i2 i3 l1 l2 l3 l4 l5 l6 hyn hlt
      go_wp2_with fail
      go_ret3
      exact HE
end Go.Proofs.Ytbmcibofecigeaa

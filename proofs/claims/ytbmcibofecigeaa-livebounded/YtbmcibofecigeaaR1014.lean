/- The reference's AddVertex, DropVertex, AddArc of layer 10: what is refused. -/
import Derived.Test.YtbmcibofecigeaaG314
import Derived.Test.YtbmcibofecigeaaG414
namespace Go.Proofs.Ytbmcibofecigeaa

section
open Go.RowKit Go.Maps
/-- One number more. -/
theorem run_appI {B : Nat} {w : World} {v : Value} {ks : List Int} (x : Int) (h : BRow B w v ks) (hB : B ≤ w.heap.size) (hl : ks.length ≤ 2000000) :
    ∃ a' n' c' w', (∀ ty, (Builtin.append_ #[25, 25] ty #[v, .slice (some ⟨w.heap.size, 0, none⟩) 1 1]).run Try.prog (w.alloc (.cells #[.int .i64 x] 3)) = .ok (.slice a' n' c') w') ∧ BRow B w' (.slice a' n' c') (ks ++ [x]) ∧ Below B w w' := by
  have hb := below_new w (.cells #[.int .i64 x] 3)
  have h2 : NRow (w.alloc (.cells #[.int .i64 x] 3)) (.slice (some ⟨w.heap.size, 0, none⟩) 1 1) [x] := ⟨rfl, .inr ⟨w.heap.size, 1, #[.int .i64 x], rfl, Nat.zero_le _, heap_alloc_new _ _, Nat.le_refl _, by unfold maxLen; omega, rfl, rfl⟩⟩
  have h1 : BRow B (w.alloc (.cells #[.int .i64 x] 3)) v ks := brow_kept h (fun b e => hb.block b (h.lt b e).2)
  obtain ⟨v', w', hr, g1, g2⟩ := run_appN (Nat.le_trans hB hb.size) h1 h2 (by simp; omega)
  obtain ⟨a', c', e, -⟩ := brow_shape g1
  subst e
  refine ⟨a', _, c', w', hr, g1, ⟨g2.os.trans hb.os, g2.tape.trans hb.tape, g2.output.trans hb.output, Nat.le_trans hb.size g2.size, fun k hk => (g2.block k (Nat.lt_of_lt_of_le hk (Nat.le_trans hB hb.size)) (fun e => ?_)).trans (hb.block k (Nat.lt_of_lt_of_le hk hB))⟩⟩
  have := (h.lt k e.symm).1
  omega
theorem take_succ_of {α : Type} {l : List α} {i : Nat} {x : α} (h : l[i]? = some x) : l.take (i + 1) = l.take i ++ [x] := by rw [List.take_add_one, h]; rfl
def eOut (es : List EdgeV) (v : Int) : List Int := (es.filter (fun x => decide (x.2.1 = v))).map (·.1)
def eIn (es : List EdgeV) (v : Int) : List Int := (es.filter (fun x => decide (x.2.2.1 = v))).map (·.1)
theorem eOut_snoc_yes {x : EdgeV} {v : Int} (es : List EdgeV) (h : x.2.1 = v) : eOut (es ++ [x]) v = eOut es v ++ [x.1] := by simp [eOut, h]
theorem eOut_snoc_no {x : EdgeV} {v : Int} (es : List EdgeV) (h : x.2.1 ≠ v) : eOut (es ++ [x]) v = eOut es v := by simp [eOut, h]
theorem eIn_snoc_yes {x : EdgeV} {v : Int} (es : List EdgeV) (h : x.2.2.1 = v) : eIn (es ++ [x]) v = eIn es v ++ [x.1] := by simp [eIn, h]
theorem eIn_snoc_no {x : EdgeV} {v : Int} (es : List EdgeV) (h : x.2.2.1 ≠ v) : eIn (es ++ [x]) v = eIn es v := by simp [eIn, h]
theorem len_eOut (es : List EdgeV) (v : Int) : (eOut es v).length ≤ es.length := by unfold eOut; rw [List.length_map]; exact List.length_filter_le _ _
theorem len_eIn (es : List EdgeV) (v : Int) : (eIn es v).length ≤ es.length := by unfold eIn; rw [List.length_map]; exact List.length_filter_le _ _
set_option maxHeartbeats 1000000 in
set_option maxRecDepth 100000 in
theorem refOut {w : World} {vv ev : Value} {rd wr : Int} {es : List EdgeV} {B : Nat} (v : Int) (h : GRow B w ev es) (hl : es.length ≤ 1000000) :
    Calls Try.prog 53 #[.agg #[vv, ev, .int .i64 rd, .int .i64 wr], .int .i64 v] w fun e w' => ∃ r, e = .returned r ∧ Hid (NRow w' r (eOut es v) ∧ Below w.heap.size w w') := by
  have hb := below_new w (oG vv ev rd wr)
  have h1 := grow_below h hb
  obtain ⟨-, c1, -, -, -⟩ := cellsG (heap_alloc_new w (oG vv ev rd wr))
  have HB : Hid (Below w.heap.size w (w.alloc (oG vv ev rd wr)) ∧ w.heap.size < (w.alloc (oG vv ev rd wr)).heap.size) := ⟨hb, by simp⟩
  have HC : Hid (∀ i W, i < es.length → Below (w.alloc (oG vv ev rd wr)).heap.size (w.alloc (oG vv ev rd wr)) W → ∃ g c a, es[i]? = some a ∧ ev = .slice (some ⟨g, 0, none⟩) es.length c ∧ W.cell? ⟨g, i * 4, none⟩ = some (.int .i64 a.1) ∧ W.cell? ⟨g, i * 4 + 1, none⟩ = some (.int .i64 a.2.1) ∧ W.cell? ⟨g, i * 4 + 2, none⟩ = some (.int .i64 a.2.2.1)) := fun i W hi hW => by
    obtain ⟨g, c, e, hc⟩ := grow_at (grow_below h1 hW) (by omega)
    obtain ⟨k1, k2, k3, -⟩ := hc i _ (List.getElem?_eq_getElem hi)
    exact ⟨g, c, _, List.getElem?_eq_getElem hi, e, k1, k2, k3⟩
  have HV : Hid (∀ W, Below (w.alloc (oG vv ev rd wr)).heap.size (w.alloc (oG vv ev rd wr)) W → W.cell? ⟨w.heap.size, 1, none⟩ = some ev) := fun W hW => (cell_of_heap (hW.block w.heap.size (by simp))).trans c1
  obtain ⟨a, n, c, hvv⟩ := grow_shape h1
  have hn : n = es.length := by
    rcases h1.2 with ⟨e, h0⟩ | ⟨g, cap, cur, e, -⟩
    · rw [hvv] at e; cases e; exact h0.symm
    · rw [hvv] at e; cases e; rfl
  have HL := hide hn
  rw [← hn] at HC hl
  have HLB : Hid (n ≤ 1000000 ∧ n = es.length) := ⟨hl, hn⟩
  clear h h1 hb hl hn c1
  subst hvv
  go_enter Try.func53, Try.ntmps53
  go_upto_region 1 with fail
  change Code.wp _ _ _ _ (w.alloc (oG vv (.slice a n c) rd wr))
  generalize w.alloc (oG vv (.slice a n c) rd wr) = wb at *
  generalize hbb : w.heap.size = bb at *
  go_wp2_with fail
  go_loopw [5, 6] (fun sa si wr => ∃ (i : Nat) (aa : Option Addr) (an ac : Nat), si = .int .i64 i ∧ sa = .slice aa an ac ∧ i ≤ n ∧ Hid (BRow wb.heap.size wr (.slice aa an ac) (eOut (es.take i) v) ∧ Below wb.heap.size wb wr)) (fun _ si _ => n - (intOf si).toNat)
  case atStart => exact ⟨0, none, 0, 0, rfl, rfl, by omega, ⟨rfl, .inl ⟨rfl, rfl⟩⟩, Below.refl _ _⟩
  case round =>
    obtain ⟨i, aa, an, ac, rfl, rfl, hi, hS⟩ := hrel
    have c1 := unhide HV wr (unhide hS).2
    by_cases h : i < n
    · obtain ⟨g, c', x, hx, e, hc1, hc2, hc3⟩ := unhide HC i wr h (unhide hS).2
      injection e with e1 e2 e3
      subst e1 e3
      have hz : (i : Int) < (n : Int) := by omega
      obtain ⟨y, hy⟩ : ∃ y, y = x.2.1 := ⟨_, rfl⟩
      rw [← hy] at hc2
      by_cases hxv : y = v
      · rw [hxv] at hc2
        obtain ⟨a', n', c', w', hr, g1, g2⟩ := run_appI x.1 (unhide hS).1 (unhide hS).2.size (by have := unhide HLB; have := len_eOut (es.take i) v; simp at this; omega)
        have HR := hide hr
        have HG : Hid (BRow wb.heap.size w' (.slice a' n' c') (eOut (es.take (i + 1)) v) ∧ Below wb.heap.size wb w') := by
          refine ⟨?_, (unhide hS).2.trans g2⟩
          rw [take_succ_of hx, eOut_snoc_yes _ (hy.symm.trans hxv)]; exact g1
        clear hr g1 g2 hx hy
        go_wp2_with (at_builtin; refine Lib.wpList_append_run _ rfl _ _ 25 25 rfl _ _ rfl rfl _ _ (unhide HR _) ?_)
        have hwi : wrap64 ((i : Int) + 1) = ((i + 1 : Nat) : Int) := by have := unhide HLB; unfold wrap64; omega
        (try rw [hwi])
        exact ⟨⟨i + 1, a', n', c', rfl, rfl, by omega, HG⟩, by simp [intOf]; omega⟩
      · have HG : Hid (BRow wb.heap.size wr (.slice aa an ac) (eOut (es.take (i + 1)) v) ∧ Below wb.heap.size wb wr) := by
          rw [take_succ_of hx, eOut_snoc_no _ (fun e => hxv (hy.trans e))]; exact unhide hS
        clear hx hy
        go_wp2_with fail
        have hwi : wrap64 ((i : Int) + 1) = ((i + 1 : Nat) : Int) := by have := unhide HLB; unfold wrap64; omega
        (try rw [hwi])
        exact ⟨⟨i + 1, aa, an, ac, rfl, rfl, by omega, HG⟩, by simp [intOf]; omega⟩
    · have hz : ¬ (i : Int) < (n : Int) := by omega
      have HF : Hid (NRow wr (.slice aa an ac) (eOut es v) ∧ Below bb w wr) := by
        have e1 : es.take i = es := List.take_of_length_le (by have := unhide HL; omega)
        have h2 := (unhide hS).1
        rw [e1] at h2
        exact ⟨⟨h2.1, h2.2.imp id (fun ⟨g, cap, cur, e, hb', r⟩ => ⟨g, cap, cur, e, Nat.zero_le _, r⟩)⟩, (unhide HB).1.trans ((unhide hS).2.mono (by have := (unhide HB).2; omega))⟩
      go_wp2_with fail
      go_ret
      exact ⟨_, rfl, (unhide HF).1, by first | exact (unhide HF).2 | (rw [hbb]; exact (unhide HF).2)⟩
set_option maxHeartbeats 1000000 in
set_option maxRecDepth 100000 in
theorem refIn {w : World} {vv ev : Value} {rd wr : Int} {es : List EdgeV} {B : Nat} (v : Int) (h : GRow B w ev es) (hl : es.length ≤ 1000000) :
    Calls Try.prog 54 #[.agg #[vv, ev, .int .i64 rd, .int .i64 wr], .int .i64 v] w fun e w' => ∃ r, e = .returned r ∧ Hid (NRow w' r (eIn es v) ∧ Below w.heap.size w w') := by
  have hb := below_new w (oG vv ev rd wr)
  have h1 := grow_below h hb
  obtain ⟨-, c1, -, -, -⟩ := cellsG (heap_alloc_new w (oG vv ev rd wr))
  have HB : Hid (Below w.heap.size w (w.alloc (oG vv ev rd wr)) ∧ w.heap.size < (w.alloc (oG vv ev rd wr)).heap.size) := ⟨hb, by simp⟩
  have HC : Hid (∀ i W, i < es.length → Below (w.alloc (oG vv ev rd wr)).heap.size (w.alloc (oG vv ev rd wr)) W → ∃ g c a, es[i]? = some a ∧ ev = .slice (some ⟨g, 0, none⟩) es.length c ∧ W.cell? ⟨g, i * 4, none⟩ = some (.int .i64 a.1) ∧ W.cell? ⟨g, i * 4 + 1, none⟩ = some (.int .i64 a.2.1) ∧ W.cell? ⟨g, i * 4 + 2, none⟩ = some (.int .i64 a.2.2.1)) := fun i W hi hW => by
    obtain ⟨g, c, e, hc⟩ := grow_at (grow_below h1 hW) (by omega)
    obtain ⟨k1, k2, k3, -⟩ := hc i _ (List.getElem?_eq_getElem hi)
    exact ⟨g, c, _, List.getElem?_eq_getElem hi, e, k1, k2, k3⟩
  have HV : Hid (∀ W, Below (w.alloc (oG vv ev rd wr)).heap.size (w.alloc (oG vv ev rd wr)) W → W.cell? ⟨w.heap.size, 1, none⟩ = some ev) := fun W hW => (cell_of_heap (hW.block w.heap.size (by simp))).trans c1
  obtain ⟨a, n, c, hvv⟩ := grow_shape h1
  have hn : n = es.length := by
    rcases h1.2 with ⟨e, h0⟩ | ⟨g, cap, cur, e, -⟩
    · rw [hvv] at e; cases e; exact h0.symm
    · rw [hvv] at e; cases e; rfl
  have HL := hide hn
  rw [← hn] at HC hl
  have HLB : Hid (n ≤ 1000000 ∧ n = es.length) := ⟨hl, hn⟩
  clear h h1 hb hl hn c1
  subst hvv
  go_enter Try.func54, Try.ntmps54
  go_upto_region 1 with fail
  change Code.wp _ _ _ _ (w.alloc (oG vv (.slice a n c) rd wr))
  generalize w.alloc (oG vv (.slice a n c) rd wr) = wb at *
  generalize hbb : w.heap.size = bb at *
  go_wp2_with fail
  go_loopw [5, 6] (fun sa si wr => ∃ (i : Nat) (aa : Option Addr) (an ac : Nat), si = .int .i64 i ∧ sa = .slice aa an ac ∧ i ≤ n ∧ Hid (BRow wb.heap.size wr (.slice aa an ac) (eIn (es.take i) v) ∧ Below wb.heap.size wb wr)) (fun _ si _ => n - (intOf si).toNat)
  case atStart => exact ⟨0, none, 0, 0, rfl, rfl, by omega, ⟨rfl, .inl ⟨rfl, rfl⟩⟩, Below.refl _ _⟩
  case round =>
    obtain ⟨i, aa, an, ac, rfl, rfl, hi, hS⟩ := hrel
    have c1 := unhide HV wr (unhide hS).2
    by_cases h : i < n
    · obtain ⟨g, c', x, hx, e, hc1, hc2, hc3⟩ := unhide HC i wr h (unhide hS).2
      injection e with e1 e2 e3
      subst e1 e3
      have hz : (i : Int) < (n : Int) := by omega
      obtain ⟨y, hy⟩ : ∃ y, y = x.2.2.1 := ⟨_, rfl⟩
      rw [← hy] at hc3
      by_cases hxv : y = v
      · rw [hxv] at hc3
        obtain ⟨a', n', c', w', hr, g1, g2⟩ := run_appI x.1 (unhide hS).1 (unhide hS).2.size (by have := unhide HLB; have := len_eIn (es.take i) v; simp at this; omega)
        have HR := hide hr
        have HG : Hid (BRow wb.heap.size w' (.slice a' n' c') (eIn (es.take (i + 1)) v) ∧ Below wb.heap.size wb w') := by
          refine ⟨?_, (unhide hS).2.trans g2⟩
          rw [take_succ_of hx, eIn_snoc_yes _ (hy.symm.trans hxv)]; exact g1
        clear hr g1 g2 hx hy
        go_wp2_with (at_builtin; refine Lib.wpList_append_run _ rfl _ _ 25 25 rfl _ _ rfl rfl _ _ (unhide HR _) ?_)
        have hwi : wrap64 ((i : Int) + 1) = ((i + 1 : Nat) : Int) := by have := unhide HLB; unfold wrap64; omega
        (try rw [hwi])
        exact ⟨⟨i + 1, a', n', c', rfl, rfl, by omega, HG⟩, by simp [intOf]; omega⟩
      · have HG : Hid (BRow wb.heap.size wr (.slice aa an ac) (eIn (es.take (i + 1)) v) ∧ Below wb.heap.size wb wr) := by
          rw [take_succ_of hx, eIn_snoc_no _ (fun e => hxv (hy.trans e))]; exact unhide hS
        clear hx hy
        go_wp2_with fail
        have hwi : wrap64 ((i : Int) + 1) = ((i + 1 : Nat) : Int) := by have := unhide HLB; unfold wrap64; omega
        (try rw [hwi])
        exact ⟨⟨i + 1, aa, an, ac, rfl, rfl, by omega, HG⟩, by simp [intOf]; omega⟩
    · have hz : ¬ (i : Int) < (n : Int) := by omega
      have HF : Hid (NRow wr (.slice aa an ac) (eIn es v) ∧ Below bb w wr) := by
        have e1 : es.take i = es := List.take_of_length_le (by have := unhide HL; omega)
        have h2 := (unhide hS).1
        rw [e1] at h2
        exact ⟨⟨h2.1, h2.2.imp id (fun ⟨g, cap, cur, e, hb', r⟩ => ⟨g, cap, cur, e, Nat.zero_le _, r⟩)⟩, (unhide HB).1.trans ((unhide hS).2.mono (by have := (unhide HB).2; omega))⟩
      go_wp2_with fail
      go_ret
      exact ⟨_, rfl, (unhide HF).1, by first | exact (unhide HF).2 | (rw [hbb]; exact (unhide HF).2)⟩
end

section
open Go.RowKit Go.Maps
/-- What a call of the reference answers: a graph and one thing more. -/
def AnsX (w : World) (vv0 ev0 : Value) (vs : List Int) (es : List EdgeV) (rd wr : Int) (x : Value) (e : Ending) (w' : World) : Prop :=
  ∃ vv ev, e = .returned (.tuple #[.agg #[vv, ev, .int .i64 rd, .int .i64 wr], x]) ∧ NRow w' vv vs ∧ GRow 0 w' ev es ∧ Below w.heap.size w w' ∧ Apt w vv0 vv ∧ Apt w ev0 ev
/-- The two boxes of such a call. -/
structure RW (w : World) (bb b1 : Nat) (vv ev : Value) (rd wr : Int) (W : World) : Prop where
  res : W.heap[b1]? = some oZ
  box : W.heap[bb]? = some (oG vv ev rd wr)
  low : Below bb w W
  lt : bb < b1
theorem RW.next {w W W' : World} {bb b1 : Nat} {vv ev : Value} {rd wr : Int} (h : RW w bb b1 vv ev rd wr W) (hb : Below W.heap.size W W') : RW w bb b1 vv ev rd wr W' := by
  have h1 := heap_lt h.res
  have h2 := heap_lt h.box
  exact ⟨(hb.block b1 h1).trans h.res, (hb.block bb h2).trans h.box, h.low.trans (hb.mono (by omega)), h.lt⟩
theorem at_none {es : List EdgeV} {e r : Int} (h : AtIs es e r) (hno : ∀ x ∈ es, x.1 ≠ e) : r = -1 := by
  rcases h with ⟨i, a, rfl, k1, k2, -⟩ | ⟨q, -⟩
  · exact absurd k2 (hno a (List.mem_of_getElem? k1))
  · exact q
theorem at_some {es : List EdgeV} {e r : Int} (h : AtIs es e r) (hs : ∃ x ∈ es, x.1 = e) : ∃ (i : Nat) (a : EdgeV), r = (i : Int) ∧ es[i]? = some a ∧ a.1 = e := by
  rcases h with ⟨i, a, rfl, k1, k2, -⟩ | ⟨-, q⟩
  · exact ⟨i, a, rfl, k1, k2⟩
  · obtain ⟨x, hx, e1⟩ := hs
    obtain ⟨j, hj⟩ := List.getElem?_of_mem hx
    exact absurd e1 (q j x hj)
theorem place_in {V : List Int} {x : Int} (h : x ∈ V) : placeOf V x = (V.idxOf x : Nat) := if_pos h
theorem place_out {V : List Int} {x : Int} (h : x ∉ V) : placeOf V x = -1 := if_neg h
set_option maxHeartbeats 4000000 in
set_option maxRecDepth 100000 in
theorem refAVIn {w : World} {vv ev : Value} {rd wr_0 : Int} {vs : List Int} {es : List EdgeV} {v : Int} (h : NRow w vv vs) (hE : GRow 0 w ev es) (hs : vs.Pairwise (· < ·)) (hl : vs.length ≤ 90000) (hl2 : es.length ≤ 100000) (hv : v ∈ vs) :
    Calls Try.prog 18 #[.agg #[vv, ev, .int .i64 rd, .int .i64 wr_0], .int .i64 v] w fun e w' => Hid (AnsX w vv ev vs es rd wr_0 (.bool false) e w') := by
  obtain ⟨t1, t2, t3, t4⟩ := two_boxes w (oG vv ev rd wr_0)
  obtain ⟨c0, c1, c2, c3, cf⟩ := cellsG t1
  obtain ⟨d0, d1, d2, d3, df⟩ := cellsG (b := w.heap.size + 1) (vv := .slice none 0 0) (ev := .slice none 0 0) (rd := 0) (wr := 0) t2
  have HF : Hid (∀ W, Below w.heap.size w W → NRow W vv vs ∧ GRow 0 W ev es) := fun W hW => ⟨nrow_below h hW, grow_below hE hW⟩
  have HT0 : Hid (RW w w.heap.size (w.heap.size + 1) vv ev rd wr_0 ((w.alloc (oG vv ev rd wr_0)).alloc oZ)) := ⟨t2, t1, t3, by omega⟩
  obtain ⟨va, vc, hvv, -⟩ := brow_shape h
  obtain ⟨vn, hvv', hvn⟩ : ∃ vn, vv = .slice va vn vc ∧ vn = vs.length := ⟨_, hvv, rfl⟩
  obtain ⟨ea, en, ec, hev⟩ := grow_shape hE
  have hne : ¬ w.heap.size = w.heap.size + 1 := by omega
  have hne2 : ¬ w.heap.size + 1 = w.heap.size := by omega
  have HN : Hid (vn = vs.length ∧ vs.length ≤ 90000 ∧ es.length ≤ 100000 ∧ vs.Pairwise (· < ·)) := ⟨hvn, hl, hl2, hs⟩
  obtain ⟨k, hk⟩ : ∃ k : Nat, k = vs.idxOf v := ⟨_, rfl⟩
  have CP : Hid (∀ W, RW w w.heap.size (w.heap.size + 1) vv ev rd wr_0 W → Calls Try.prog 27 #[.agg #[vv, ev, .int .i64 rd, .int .i64 wr_0], .int .i64 v] W fun e w2 => e = .returned (.int .i64 ((k : Nat))) ∧ Hid (Below W.heap.size W w2)) := fun W hW => (placeR (x := v) (nrow_below h hW.low) hs (by omega)).mono fun e w2 hh => ⟨by rw [hh.1]; rw [place_in hv, hk], hh.2⟩
  replace CP := hide (unhide CP _ (unhide HT0))
  have z1 : (0 : Int) ≤ (k : Int) := by omega
  clear hk hv
  clear t1 t2 t3 t4 h hE hvv hvn hl hl2 hs
  subst hvv' hev
  go_enter Try.func18, Try.ntmps18
  go_upto_region 1 with fail
  change Code.wp _ _ _ _ ((w.alloc (oG (.slice va vn vc) (.slice ea en ec) rd wr_0)).alloc oZ)
  generalize (w.alloc (oG (.slice va vn vc) (.slice ea en ec) rd wr_0)).alloc oZ = wb at *
  generalize hb1 : w.heap.size + 1 = b1 at *
  generalize hbb : w.heap.size = bb at *
  go_wp2_with fail
  refine (unhide CP).mono ?_
  rintro e w2 ⟨rfl, hR1⟩
  have HT1 : Hid (RW w bb b1 (.slice va vn vc) (.slice ea en ec) rd wr_0 w2) := (unhide HT0).next (unhide hR1)
  clear c0 c1 c2 c3 cf d0 d1 d2 d3 df CP hR1
  obtain ⟨c0, c1, c2, c3, cf⟩ := cellsG (unhide HT1).box
  obtain ⟨d0, d1, d2, d3, df⟩ := cellsG (vv := .slice none 0 0) (ev := .slice none 0 0) (rd := 0) (wr := 0) (unhide HT1).res
  go_wp2_with fail
  (try simp only [Exit.inBlock, Exit.then])
  change bodyPost _ _ _ _ _ (set4 w2 b1 _ _ _ _)
  refine bodyPost_ret (resG rfl _ _ b1 _ _ _ _ rfl (set4G_at (unhide HT1).res _ _ _ _)) rfl ?_
  have hB := set4_below (unhide HT1).low (by omega : bb ≤ b1) (.slice va vn vc) (.slice ea en ec) (.int .i64 rd) (.int .i64 wr_0)
  exact ⟨_, _, rfl, (unhide HF _ hB).1, (unhide HF _ hB).2, by first | exact hB | (rw [hbb]; exact hB), Apt.refl _ _, Apt.refl _ _⟩
set_option maxHeartbeats 4000000 in
set_option maxRecDepth 100000 in
theorem refDVNone {w : World} {vv ev : Value} {rd wr_0 : Int} {vs : List Int} {es : List EdgeV} {v : Int} (h : NRow w vv vs) (hE : GRow 0 w ev es) (hs : vs.Pairwise (· < ·)) (hl : vs.length ≤ 90000) (hl2 : es.length ≤ 100000) (hv : v ∉ vs) :
    Calls Try.prog 37 #[.agg #[vv, ev, .int .i64 rd, .int .i64 wr_0], .int .i64 v] w fun e w' => Hid (AnsX w vv ev vs es rd wr_0 (.bool false) e w') := by
  obtain ⟨t1, t2, t3, t4⟩ := two_boxes w (oG vv ev rd wr_0)
  obtain ⟨c0, c1, c2, c3, cf⟩ := cellsG t1
  obtain ⟨d0, d1, d2, d3, df⟩ := cellsG (b := w.heap.size + 1) (vv := .slice none 0 0) (ev := .slice none 0 0) (rd := 0) (wr := 0) t2
  have HF : Hid (∀ W, Below w.heap.size w W → NRow W vv vs ∧ GRow 0 W ev es) := fun W hW => ⟨nrow_below h hW, grow_below hE hW⟩
  have HT0 : Hid (RW w w.heap.size (w.heap.size + 1) vv ev rd wr_0 ((w.alloc (oG vv ev rd wr_0)).alloc oZ)) := ⟨t2, t1, t3, by omega⟩
  obtain ⟨va, vc, hvv, -⟩ := brow_shape h
  obtain ⟨vn, hvv', hvn⟩ : ∃ vn, vv = .slice va vn vc ∧ vn = vs.length := ⟨_, hvv, rfl⟩
  obtain ⟨ea, en, ec, hev⟩ := grow_shape hE
  have hne : ¬ w.heap.size = w.heap.size + 1 := by omega
  have hne2 : ¬ w.heap.size + 1 = w.heap.size := by omega
  have HN : Hid (vn = vs.length ∧ vs.length ≤ 90000 ∧ es.length ≤ 100000 ∧ vs.Pairwise (· < ·)) := ⟨hvn, hl, hl2, hs⟩
  have CP : Hid (∀ W, RW w w.heap.size (w.heap.size + 1) vv ev rd wr_0 W → Calls Try.prog 27 #[.agg #[vv, ev, .int .i64 rd, .int .i64 wr_0], .int .i64 v] W fun e w2 => e = .returned (.int .i64 (-1)) ∧ Hid (Below W.heap.size W w2)) := fun W hW => (placeR (x := v) (nrow_below h hW.low) hs (by omega)).mono fun e w2 hh => ⟨by rw [hh.1]; rw [place_out hv], hh.2⟩
  replace CP := hide (unhide CP _ (unhide HT0))
  have z1 : (-1 : Int) < 0 := by omega
  have z2 : decide ((-1 : Int) < 0) = true := by decide
  clear hv
  clear t1 t2 t3 t4 h hE hvv hvn hl hl2 hs
  subst hvv' hev
  go_enter Try.func37, Try.ntmps37
  go_upto_region 1 with fail
  change Code.wp _ _ _ _ ((w.alloc (oG (.slice va vn vc) (.slice ea en ec) rd wr_0)).alloc oZ)
  generalize (w.alloc (oG (.slice va vn vc) (.slice ea en ec) rd wr_0)).alloc oZ = wb at *
  generalize hb1 : w.heap.size + 1 = b1 at *
  generalize hbb : w.heap.size = bb at *
  go_wp2_with fail
  refine (unhide CP).mono ?_
  rintro e w2 ⟨rfl, hR1⟩
  have HT1 : Hid (RW w bb b1 (.slice va vn vc) (.slice ea en ec) rd wr_0 w2) := (unhide HT0).next (unhide hR1)
  clear c0 c1 c2 c3 cf d0 d1 d2 d3 df CP hR1
  obtain ⟨c0, c1, c2, c3, cf⟩ := cellsG (unhide HT1).box
  obtain ⟨d0, d1, d2, d3, df⟩ := cellsG (vv := .slice none 0 0) (ev := .slice none 0 0) (rd := 0) (wr := 0) (unhide HT1).res
  go_upto_region 2 with fail
  have HTQ : Hid (∀ q, RW w bb b1 (.slice va vn vc) (.slice ea en ec) rd wr_0 (w2.drewN q)) := fun q => (unhide HT1).next (below_drewN (Below.refl _ _) q)
  have HBQ : Hid (∀ q, Below bb w (set4 (w2.drewN q) b1 (.slice va vn vc) (.slice ea en ec) (.int .i64 rd) (.int .i64 wr_0))) := fun q => set4_below (unhide HTQ q).low (by omega : bb ≤ b1) _ _ _ _
  go_quiet (fail)
  go_wp2_with fail
  (try simp only [Exit.inBlock, Exit.then])
  change bodyPost _ _ _ _ _ (set4 (w2.drewN _) b1 _ _ _ _)
  refine bodyPost_ret (resG rfl _ _ b1 _ _ _ _ rfl (set4G_at (unhide HTQ _).res _ _ _ _)) rfl ?_
  exact ⟨_, _, rfl, (unhide HF _ (unhide HBQ _)).1, (unhide HF _ (unhide HBQ _)).2, by first | exact (unhide HBQ _) | (rw [hbb]; exact (unhide HBQ _)), Apt.refl _ _, Apt.refl _ _⟩
end

end Go.Proofs.Ytbmcibofecigeaa

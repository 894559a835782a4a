/- The reference's lists of numbers: Edges, Out, In. -/
import Derived.Test.YtagibmgbjhemkaaGreatRefList
namespace Go.Proofs.YtagibmgbjhemkaaGreat
open Go.RowKit Go.Maps

theorem take_succ_of {α : Type} {l : List α} {i : Nat} {x : α} (h : l[i]? = some x) : l.take (i + 1) = l.take i ++ [x] := by rw [List.take_add_one, h]; rfl
/-- The numbers of all; of those that leave v; that enter it. -/
def eAll (es : List EdgeV) : List Int := es.map (·.1)
def eOut (es : List EdgeV) (v : Int) : List Int := (es.filter (fun x => decide (x.2.1 = v))).map (·.1)
def eIn (es : List EdgeV) (v : Int) : List Int := (es.filter (fun x => decide (x.2.2.1 = v))).map (·.1)
theorem eAll_snoc (es : List EdgeV) (x : EdgeV) : eAll (es ++ [x]) = eAll es ++ [x.1] := by simp [eAll]
theorem eOut_snoc_yes {x : EdgeV} {v : Int} (es : List EdgeV) (h : x.2.1 = v) : eOut (es ++ [x]) v = eOut es v ++ [x.1] := by simp [eOut, h]
theorem eOut_snoc_no {x : EdgeV} {v : Int} (es : List EdgeV) (h : x.2.1 ≠ v) : eOut (es ++ [x]) v = eOut es v := by simp [eOut, h]
theorem eIn_snoc_yes {x : EdgeV} {v : Int} (es : List EdgeV) (h : x.2.2.1 = v) : eIn (es ++ [x]) v = eIn es v ++ [x.1] := by simp [eIn, h]
theorem eIn_snoc_no {x : EdgeV} {v : Int} (es : List EdgeV) (h : x.2.2.1 ≠ v) : eIn (es ++ [x]) v = eIn es v := by simp [eIn, h]
theorem len_eAll (es : List EdgeV) : (eAll es).length ≤ es.length := by simp [eAll]
theorem len_eOut (es : List EdgeV) (v : Int) : (eOut es v).length ≤ es.length := by unfold eOut; rw [List.length_map]; exact List.length_filter_le _ _
theorem len_eIn (es : List EdgeV) (v : Int) : (eIn es v).length ≤ es.length := by unfold eIn; rw [List.length_map]; exact List.length_filter_le _ _

set_option maxHeartbeats 1000000 in
set_option maxRecDepth 100000 in
theorem refEdges {w : World} {vv ev : Value} {rd wr : Int} {es : List EdgeV} {B : Nat} (h : GRow B w ev es) (hl : es.length ≤ 1000000) :
    Calls Tryz.prog 56 #[.agg #[vv, ev, .int .i64 rd, .int .i64 wr]] w fun e w' => ∃ r, e = .returned r ∧ Hid (NRow w' r (eAll es) ∧ Below w.heap.size w w') := by
  have hb := below_new w (oG vv ev rd wr)
  have h1 := grow_below h hb
  obtain ⟨-, c1, -, -, -⟩ := cellsG (heap_alloc_new w (oG vv ev rd wr))
  have HB : Hid (Below w.heap.size w (w.alloc (oG vv ev rd wr)) ∧ w.heap.size < (w.alloc (oG vv ev rd wr)).heap.size) := ⟨hb, by simp⟩
  have HC : Hid (∀ i W, i < es.length → Below (w.alloc (oG vv ev rd wr)).heap.size (w.alloc (oG vv ev rd wr)) W → ∃ g c a, es[i]? = some a ∧ ev = .slice (some ⟨g, 0, none⟩) es.length c ∧ W.cell? ⟨g, i * 4, none⟩ = some (.int .i64 a.1) ∧ W.cell? ⟨g, i * 4 + 1, none⟩ = some (.int .i64 a.2.1) ∧ W.cell? ⟨g, i * 4 + 2, none⟩ = some (.int .i64 a.2.2.1)) := fun i W hi hW => by
    obtain ⟨g, c, e, hc⟩ := grow_at (grow_below h1 hW) (by omega)
    obtain ⟨k1, k2, k3, -⟩ := hc i _ (List.getElem?_eq_getElem hi)
    exact ⟨g, c, _, List.getElem?_eq_getElem hi, e, k1, k2, k3⟩
  have HV : Hid (∀ W, Below (w.alloc (oG vv ev rd wr)).heap.size (w.alloc (oG vv ev rd wr)) W → W.cell? ⟨w.heap.size, 1, none⟩ = some ev) := fun W hW => (cell_of_heap (hW.block w.heap.size (by simp))).trans c1
  obtain ⟨a, n, c, hvv⟩ := grow_shape h1
  have hn : n = es.length := by
    rcases h1.2 with ⟨e, h0⟩ | ⟨g, cap, cur, e, -⟩
    · rw [hvv] at e; cases e; exact h0.symm
    · rw [hvv] at e; cases e; rfl
  have HL := hide hn
  rw [← hn] at HC hl
  have HLB : Hid (n ≤ 1000000 ∧ n = es.length) := ⟨hl, hn⟩
  clear h h1 hb hl hn c1
  subst hvv
  go_enter Tryz.func56, Tryz.ntmps56
  go_upto_region 1 with fail
  change Code.wp _ _ _ _ (w.alloc (oG vv (.slice a n c) rd wr))
  generalize w.alloc (oG vv (.slice a n c) rd wr) = wb at *
  generalize hbb : w.heap.size = bb at *
  go_wp2_with fail
  go_loopw [3, 4] (fun sa si wr => ∃ (i : Nat) (aa : Option Addr) (an ac : Nat), si = .int .i64 i ∧ sa = .slice aa an ac ∧ i ≤ n ∧ Hid (BRow wb.heap.size wr (.slice aa an ac) (eAll (es.take i)) ∧ Below wb.heap.size wb wr)) (fun _ si _ => n - (intOf si).toNat)
  case atStart => exact ⟨0, none, 0, 0, rfl, rfl, by omega, ⟨rfl, .inl ⟨rfl, rfl⟩⟩, Below.refl _ _⟩
  case round =>
    obtain ⟨i, aa, an, ac, rfl, rfl, hi, hS⟩ := hrel
    have c1 := unhide HV wr (unhide hS).2
    by_cases h : i < n
    · obtain ⟨g, c', x, hx, e, hc1, hc2, hc3⟩ := unhide HC i wr h (unhide hS).2
      injection e with e1 e2 e3
      subst e1 e3
      have hz : (i : Int) < (n : Int) := by omega
      have hy := hz
      obtain ⟨a', n', c', w', hr, g1, g2⟩ := run_appI x.1 (unhide hS).1 (unhide hS).2.size (by have := unhide HLB; have := len_eAll (es.take i); simp at this; omega)
      have HR := hide hr
      have HG : Hid (BRow wb.heap.size w' (.slice a' n' c') (eAll (es.take (i + 1))) ∧ Below wb.heap.size wb w') := by
        refine ⟨?_, (unhide hS).2.trans g2⟩
        rw [take_succ_of hx, eAll_snoc]; exact g1
      clear hr g1 g2 hx hy
      go_wp2_with (at_builtin; refine Lib.wpList_append_run _ rfl _ _ 25 25 rfl _ _ rfl rfl _ _ (unhide HR _) ?_)
      have hwi : wrap64 ((i : Int) + 1) = ((i + 1 : Nat) : Int) := by have := unhide HLB; unfold wrap64; omega
      (try rw [hwi])
      exact ⟨⟨i + 1, a', n', c', rfl, rfl, by omega, HG⟩, by simp [intOf]; omega⟩
    · have hz : ¬ (i : Int) < (n : Int) := by omega
      have HF : Hid (NRow wr (.slice aa an ac) (eAll es) ∧ Below bb w wr) := by
        have e1 : es.take i = es := List.take_of_length_le (by have := unhide HL; omega)
        have h2 := (unhide hS).1
        rw [e1] at h2
        exact ⟨⟨h2.1, h2.2.imp id (fun ⟨g, cap, cur, e, hb', r⟩ => ⟨g, cap, cur, e, Nat.zero_le _, r⟩)⟩, (unhide HB).1.trans ((unhide hS).2.mono (by have := (unhide HB).2; omega))⟩
      go_wp2_with fail
      go_ret
      exact ⟨_, rfl, (unhide HF).1, by first | exact (unhide HF).2 | (rw [hbb]; exact (unhide HF).2)⟩

set_option maxHeartbeats 1000000 in
set_option maxRecDepth 100000 in
theorem refOut {w : World} {vv ev : Value} {rd wr : Int} {es : List EdgeV} {B : Nat} (v : Int) (h : GRow B w ev es) (hl : es.length ≤ 1000000) :
    Calls Tryz.prog 37 #[.agg #[vv, ev, .int .i64 rd, .int .i64 wr], .int .i64 v] w fun e w' => ∃ r, e = .returned r ∧ Hid (NRow w' r (eOut es v) ∧ Below w.heap.size w w') := by
  have hb := below_new w (oG vv ev rd wr)
  have h1 := grow_below h hb
  obtain ⟨-, c1, -, -, -⟩ := cellsG (heap_alloc_new w (oG vv ev rd wr))
  have HB : Hid (Below w.heap.size w (w.alloc (oG vv ev rd wr)) ∧ w.heap.size < (w.alloc (oG vv ev rd wr)).heap.size) := ⟨hb, by simp⟩
  have HC : Hid (∀ i W, i < es.length → Below (w.alloc (oG vv ev rd wr)).heap.size (w.alloc (oG vv ev rd wr)) W → ∃ g c a, es[i]? = some a ∧ ev = .slice (some ⟨g, 0, none⟩) es.length c ∧ W.cell? ⟨g, i * 4, none⟩ = some (.int .i64 a.1) ∧ W.cell? ⟨g, i * 4 + 1, none⟩ = some (.int .i64 a.2.1) ∧ W.cell? ⟨g, i * 4 + 2, none⟩ = some (.int .i64 a.2.2.1)) := fun i W hi hW => by
    obtain ⟨g, c, e, hc⟩ := grow_at (grow_below h1 hW) (by omega)
    obtain ⟨k1, k2, k3, -⟩ := hc i _ (List.getElem?_eq_getElem hi)
    exact ⟨g, c, _, List.getElem?_eq_getElem hi, e, k1, k2, k3⟩
  have HV : Hid (∀ W, Below (w.alloc (oG vv ev rd wr)).heap.size (w.alloc (oG vv ev rd wr)) W → W.cell? ⟨w.heap.size, 1, none⟩ = some ev) := fun W hW => (cell_of_heap (hW.block w.heap.size (by simp))).trans c1
  obtain ⟨a, n, c, hvv⟩ := grow_shape h1
  have hn : n = es.length := by
    rcases h1.2 with ⟨e, h0⟩ | ⟨g, cap, cur, e, -⟩
    · rw [hvv] at e; cases e; exact h0.symm
    · rw [hvv] at e; cases e; rfl
  have HL := hide hn
  rw [← hn] at HC hl
  have HLB : Hid (n ≤ 1000000 ∧ n = es.length) := ⟨hl, hn⟩
  clear h h1 hb hl hn c1
  subst hvv
  go_enter Tryz.func37, Tryz.ntmps37
  go_upto_region 1 with fail
  change Code.wp _ _ _ _ (w.alloc (oG vv (.slice a n c) rd wr))
  generalize w.alloc (oG vv (.slice a n c) rd wr) = wb at *
  generalize hbb : w.heap.size = bb at *
  go_wp2_with fail
  go_loopw [5, 6] (fun sa si wr => ∃ (i : Nat) (aa : Option Addr) (an ac : Nat), si = .int .i64 i ∧ sa = .slice aa an ac ∧ i ≤ n ∧ Hid (BRow wb.heap.size wr (.slice aa an ac) (eOut (es.take i) v) ∧ Below wb.heap.size wb wr)) (fun _ si _ => n - (intOf si).toNat)
  case atStart => exact ⟨0, none, 0, 0, rfl, rfl, by omega, ⟨rfl, .inl ⟨rfl, rfl⟩⟩, Below.refl _ _⟩
  case round =>
    obtain ⟨i, aa, an, ac, rfl, rfl, hi, hS⟩ := hrel
    have c1 := unhide HV wr (unhide hS).2
    by_cases h : i < n
    · obtain ⟨g, c', x, hx, e, hc1, hc2, hc3⟩ := unhide HC i wr h (unhide hS).2
      injection e with e1 e2 e3
      subst e1 e3
      have hz : (i : Int) < (n : Int) := by omega
      obtain ⟨y, hy⟩ : ∃ y, y = x.2.1 := ⟨_, rfl⟩
      rw [← hy] at hc2
      by_cases hxv : y = v
      · rw [hxv] at hc2
        obtain ⟨a', n', c', w', hr, g1, g2⟩ := run_appI x.1 (unhide hS).1 (unhide hS).2.size (by have := unhide HLB; have := len_eOut (es.take i) v; simp at this; omega)
        have HR := hide hr
        have HG : Hid (BRow wb.heap.size w' (.slice a' n' c') (eOut (es.take (i + 1)) v) ∧ Below wb.heap.size wb w') := by
          refine ⟨?_, (unhide hS).2.trans g2⟩
          rw [take_succ_of hx, eOut_snoc_yes _ (hy.symm.trans hxv)]; exact g1
        clear hr g1 g2 hx hy
        go_wp2_with (at_builtin; refine Lib.wpList_append_run _ rfl _ _ 25 25 rfl _ _ rfl rfl _ _ (unhide HR _) ?_)
        have hwi : wrap64 ((i : Int) + 1) = ((i + 1 : Nat) : Int) := by have := unhide HLB; unfold wrap64; omega
        (try rw [hwi])
        exact ⟨⟨i + 1, a', n', c', rfl, rfl, by omega, HG⟩, by simp [intOf]; omega⟩
      · have HG : Hid (BRow wb.heap.size wr (.slice aa an ac) (eOut (es.take (i + 1)) v) ∧ Below wb.heap.size wb wr) := by
          rw [take_succ_of hx, eOut_snoc_no _ (fun e => hxv (hy.trans e))]; exact unhide hS
        clear hx hy
        go_wp2_with fail
        have hwi : wrap64 ((i : Int) + 1) = ((i + 1 : Nat) : Int) := by have := unhide HLB; unfold wrap64; omega
        (try rw [hwi])
        exact ⟨⟨i + 1, aa, an, ac, rfl, rfl, by omega, HG⟩, by simp [intOf]; omega⟩
    · have hz : ¬ (i : Int) < (n : Int) := by omega
      have HF : Hid (NRow wr (.slice aa an ac) (eOut es v) ∧ Below bb w wr) := by
        have e1 : es.take i = es := List.take_of_length_le (by have := unhide HL; omega)
        have h2 := (unhide hS).1
        rw [e1] at h2
        exact ⟨⟨h2.1, h2.2.imp id (fun ⟨g, cap, cur, e, hb', r⟩ => ⟨g, cap, cur, e, Nat.zero_le _, r⟩)⟩, (unhide HB).1.trans ((unhide hS).2.mono (by have := (unhide HB).2; omega))⟩
      go_wp2_with fail
      go_ret
      exact ⟨_, rfl, (unhide HF).1, by first | exact (unhide HF).2 | (rw [hbb]; exact (unhide HF).2)⟩

set_option maxHeartbeats 1000000 in
set_option maxRecDepth 100000 in
theorem refIn {w : World} {vv ev : Value} {rd wr : Int} {es : List EdgeV} {B : Nat} (v : Int) (h : GRow B w ev es) (hl : es.length ≤ 1000000) :
    Calls Tryz.prog 61 #[.agg #[vv, ev, .int .i64 rd, .int .i64 wr], .int .i64 v] w fun e w' => ∃ r, e = .returned r ∧ Hid (NRow w' r (eIn es v) ∧ Below w.heap.size w w') := by
  have hb := below_new w (oG vv ev rd wr)
  have h1 := grow_below h hb
  obtain ⟨-, c1, -, -, -⟩ := cellsG (heap_alloc_new w (oG vv ev rd wr))
  have HB : Hid (Below w.heap.size w (w.alloc (oG vv ev rd wr)) ∧ w.heap.size < (w.alloc (oG vv ev rd wr)).heap.size) := ⟨hb, by simp⟩
  have HC : Hid (∀ i W, i < es.length → Below (w.alloc (oG vv ev rd wr)).heap.size (w.alloc (oG vv ev rd wr)) W → ∃ g c a, es[i]? = some a ∧ ev = .slice (some ⟨g, 0, none⟩) es.length c ∧ W.cell? ⟨g, i * 4, none⟩ = some (.int .i64 a.1) ∧ W.cell? ⟨g, i * 4 + 1, none⟩ = some (.int .i64 a.2.1) ∧ W.cell? ⟨g, i * 4 + 2, none⟩ = some (.int .i64 a.2.2.1)) := fun i W hi hW => by
    obtain ⟨g, c, e, hc⟩ := grow_at (grow_below h1 hW) (by omega)
    obtain ⟨k1, k2, k3, -⟩ := hc i _ (List.getElem?_eq_getElem hi)
    exact ⟨g, c, _, List.getElem?_eq_getElem hi, e, k1, k2, k3⟩
  have HV : Hid (∀ W, Below (w.alloc (oG vv ev rd wr)).heap.size (w.alloc (oG vv ev rd wr)) W → W.cell? ⟨w.heap.size, 1, none⟩ = some ev) := fun W hW => (cell_of_heap (hW.block w.heap.size (by simp))).trans c1
  obtain ⟨a, n, c, hvv⟩ := grow_shape h1
  have hn : n = es.length := by
    rcases h1.2 with ⟨e, h0⟩ | ⟨g, cap, cur, e, -⟩
    · rw [hvv] at e; cases e; exact h0.symm
    · rw [hvv] at e; cases e; rfl
  have HL := hide hn
  rw [← hn] at HC hl
  have HLB : Hid (n ≤ 1000000 ∧ n = es.length) := ⟨hl, hn⟩
  clear h h1 hb hl hn c1
  subst hvv
  go_enter Tryz.func61, Tryz.ntmps61
  go_upto_region 1 with fail
  change Code.wp _ _ _ _ (w.alloc (oG vv (.slice a n c) rd wr))
  generalize w.alloc (oG vv (.slice a n c) rd wr) = wb at *
  generalize hbb : w.heap.size = bb at *
  go_wp2_with fail
  go_loopw [5, 6] (fun sa si wr => ∃ (i : Nat) (aa : Option Addr) (an ac : Nat), si = .int .i64 i ∧ sa = .slice aa an ac ∧ i ≤ n ∧ Hid (BRow wb.heap.size wr (.slice aa an ac) (eIn (es.take i) v) ∧ Below wb.heap.size wb wr)) (fun _ si _ => n - (intOf si).toNat)
  case atStart => exact ⟨0, none, 0, 0, rfl, rfl, by omega, ⟨rfl, .inl ⟨rfl, rfl⟩⟩, Below.refl _ _⟩
  case round =>
    obtain ⟨i, aa, an, ac, rfl, rfl, hi, hS⟩ := hrel
    have c1 := unhide HV wr (unhide hS).2
    by_cases h : i < n
    · obtain ⟨g, c', x, hx, e, hc1, hc2, hc3⟩ := unhide HC i wr h (unhide hS).2
      injection e with e1 e2 e3
      subst e1 e3
      have hz : (i : Int) < (n : Int) := by omega
      obtain ⟨y, hy⟩ : ∃ y, y = x.2.2.1 := ⟨_, rfl⟩
      rw [← hy] at hc3
      by_cases hxv : y = v
      · rw [hxv] at hc3
        obtain ⟨a', n', c', w', hr, g1, g2⟩ := run_appI x.1 (unhide hS).1 (unhide hS).2.size (by have := unhide HLB; have := len_eIn (es.take i) v; simp at this; omega)
        have HR := hide hr
        have HG : Hid (BRow wb.heap.size w' (.slice a' n' c') (eIn (es.take (i + 1)) v) ∧ Below wb.heap.size wb w') := by
          refine ⟨?_, (unhide hS).2.trans g2⟩
          rw [take_succ_of hx, eIn_snoc_yes _ (hy.symm.trans hxv)]; exact g1
        clear hr g1 g2 hx hy
        go_wp2_with (at_builtin; refine Lib.wpList_append_run _ rfl _ _ 25 25 rfl _ _ rfl rfl _ _ (unhide HR _) ?_)
        have hwi : wrap64 ((i : Int) + 1) = ((i + 1 : Nat) : Int) := by have := unhide HLB; unfold wrap64; omega
        (try rw [hwi])
        exact ⟨⟨i + 1, a', n', c', rfl, rfl, by omega, HG⟩, by simp [intOf]; omega⟩
      · have HG : Hid (BRow wb.heap.size wr (.slice aa an ac) (eIn (es.take (i + 1)) v) ∧ Below wb.heap.size wb wr) := by
          rw [take_succ_of hx, eIn_snoc_no _ (fun e => hxv (hy.trans e))]; exact unhide hS
        clear hx hy
        go_wp2_with fail
        have hwi : wrap64 ((i : Int) + 1) = ((i + 1 : Nat) : Int) := by have := unhide HLB; unfold wrap64; omega
        (try rw [hwi])
        exact ⟨⟨i + 1, aa, an, ac, rfl, rfl, by omega, HG⟩, by simp [intOf]; omega⟩
    · have hz : ¬ (i : Int) < (n : Int) := by omega
      have HF : Hid (NRow wr (.slice aa an ac) (eIn es v) ∧ Below bb w wr) := by
        have e1 : es.take i = es := List.take_of_length_le (by have := unhide HL; omega)
        have h2 := (unhide hS).1
        rw [e1] at h2
        exact ⟨⟨h2.1, h2.2.imp id (fun ⟨g, cap, cur, e, hb', r⟩ => ⟨g, cap, cur, e, Nat.zero_le _, r⟩)⟩, (unhide HB).1.trans ((unhide hS).2.mono (by have := (unhide HB).2; omega))⟩
      go_wp2_with fail
      go_ret
      exact ⟨_, rfl, (unhide HF).1, by first | exact (unhide HF).2 | (rw [hbb]; exact (unhide HF).2)⟩
end Go.Proofs.YtagibmgbjhemkaaGreat

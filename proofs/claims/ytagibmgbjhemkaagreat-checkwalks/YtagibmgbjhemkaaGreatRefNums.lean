/- The reference's lists of numbers: Edges, Out, In. -/
import Derived.Test.YtagibmgbjhemkaaGreatStDropV
namespace Go.Proofs.YtagibmgbjhemkaaGreat

section
open Go.RowKit Go.Maps
def oG (vv ev : Value) (rd wr : Int) : Obj := .cells #[vv, ev, .int .i64 rd, .int .i64 wr] 28 (0, 0)
theorem cellsG {w : World} {b : Nat} {vv ev : Value} {rd wr : Int} (h : w.heap[b]? = some (oG vv ev rd wr)) : w.cell? ⟨b, 0, none⟩ = some vv ∧ w.cell? ⟨b, 1, none⟩ = some ev ∧ w.cell? ⟨b, 2, none⟩ = some (.int .i64 rd) ∧ w.cell? ⟨b, 3, none⟩ = some (.int .i64 wr) ∧ ∀ o, w.frozen? ⟨b, o, none⟩ = false :=
  ⟨(cell_of_row _ _ 0 _ _ (0, 0) h).trans rfl, (cell_of_row _ _ 1 _ _ (0, 0) h).trans rfl, (cell_of_row _ _ 2 _ _ (0, 0) h).trans rfl, (cell_of_row _ _ 3 _ _ (0, 0) h).trans rfl, fun o => frozen_of_row _ _ o _ _ h⟩
theorem below_new (w : World) (o : Obj) : Below w.heap.size w (w.alloc o) := (Below.refl _ _).alloc (Nat.le_refl _) _
theorem nrow_below {w w' : World} {v : Value} {ks : List Int} (h : NRow w v ks) (hb : Below w.heap.size w w') : NRow w' v ks := nrow_kept h (fun b e => hb.block b (h.lt b e).2)
theorem grow_below {B : Nat} {w w' : World} {v : Value} {gs : List EdgeV} (h : GRow B w v gs) (hb : Below w.heap.size w w') : GRow B w' v gs := grow_kept h (fun b e => hb.block b (h.lt b e).2)
theorem grow_at {B : Nat} {w : World} {v : Value} {gs : List EdgeV} (h : GRow B w v gs) (h0 : 0 < gs.length) : ∃ g c, v = .slice (some ⟨g, 0, none⟩) gs.length c ∧ ∀ (i : Nat) (a : EdgeV), gs[i]? = some a → w.cell? ⟨g, i * 4, none⟩ = some (.int .i64 a.1) ∧ w.cell? ⟨g, i * 4 + 1, none⟩ = some (.int .i64 a.2.1) ∧ w.cell? ⟨g, i * 4 + 2, none⟩ = some (.int .i64 a.2.2.1) ∧ w.cell? ⟨g, i * 4 + 3, none⟩ = some (.int .u32 a.2.2.2) := by
  have henc : ∀ (gs : List EdgeV) (i : Nat) (a : EdgeV), gs[i]? = some a → (encG gs)[i * 4]? = some (.int .i64 a.1) ∧ (encG gs)[i * 4 + 1]? = some (.int .i64 a.2.1) ∧ (encG gs)[i * 4 + 2]? = some (.int .i64 a.2.2.1) ∧ (encG gs)[i * 4 + 3]? = some (.int .u32 a.2.2.2) := by
    intro gs
    induction gs with
    | nil => intro i a h; simp at h
    | cons r rs ih =>
      intro i a h
      cases i with
      | zero => simp at h; subst h; simp [encG]
      | succ i =>
        have := ih i a (by simpa using h)
        have e : encG (r :: rs) = .int .i64 r.1 :: .int .i64 r.2.1 :: .int .i64 r.2.2.1 :: .int .u32 r.2.2.2 :: encG rs := by simp [encG]
        rw [e, show (i + 1) * 4 = i * 4 + 1 + 1 + 1 + 1 by omega, show i * 4 + 1 + 1 + 1 + 1 + 1 = (i * 4 + 1) + 1 + 1 + 1 + 1 by omega, show i * 4 + 1 + 1 + 1 + 1 + 2 = (i * 4 + 2) + 1 + 1 + 1 + 1 by omega, show i * 4 + 1 + 1 + 1 + 1 + 3 = (i * 4 + 3) + 1 + 1 + 1 + 1 by omega]
        simpa only [List.getElem?_cons_succ] using this
  rcases h.2 with ⟨-, h1⟩ | ⟨g, cap, cur, rfl, -⟩
  · omega
  · refine ⟨g, cap, rfl, fun i a hi => ?_⟩
    obtain ⟨e1, e2, e3, e4⟩ := henc gs i a hi; have add : ∀ j, (⟨g, 0, none⟩ : Addr).add j = ⟨g, j, none⟩ := fun j => by unfold Addr.add; split <;> simp_all
    have f1 := h.cells (g := g) rfl _ _ e1; have f2 := h.cells (g := g) rfl _ _ e2; have f3 := h.cells (g := g) rfl _ _ e3; have f4 := h.cells (g := g) rfl _ _ e4; rw [add] at f1 f2 f3 f4; exact ⟨f1, f2, f3, f4⟩
theorem mem_iff_getD {ks : List Int} {v : Int} : v ∈ ks ↔ ∃ j, j < ks.length ∧ ks.getD j 0 = v := by
  rw [List.mem_iff_getElem]; constructor
  · rintro ⟨j, hj, e⟩; exact ⟨j, hj, by simpa [List.getD, hj] using e⟩
  · rintro ⟨j, hj, e⟩; exact ⟨j, hj, by simpa [List.getD, hj] using e⟩
set_option maxHeartbeats 1000000 in
set_option maxRecDepth 100000 in
theorem refHas {w : World} {vv ev : Value} {rd wr : Int} {vs : List Int} (v : Int) (h : NRow w vv vs) (hl : vs.length ≤ 1000000) :
    Calls Tryz.prog 19 #[.agg #[vv, ev, .int .i64 rd, .int .i64 wr], .int .i64 v] w fun e w' => e = .returned (.bool (decide (v ∈ vs))) ∧ Below w.heap.size w w' := by
  have hb := below_new w (oG vv ev rd wr); have h1 := nrow_below h hb; obtain ⟨c0, -, -, -, -⟩ := cellsG (heap_alloc_new w (oG vv ev rd wr)); have HB := hide hb; have HC : Hid (∀ i, i < vs.length → ∃ g c, vv = .slice (some ⟨g, 0, none⟩) vs.length c ∧ (w.alloc (oG vv ev rd wr)).cell? ⟨g, i, none⟩ = some (.int .i64 (vs.getD i 0))) := fun i hi => by
    rcases nrow_shape h1 with ⟨-, rfl⟩ | ⟨g, c, rfl⟩
    · simp at hi
    · exact ⟨g, c, rfl, (nrow_some h1).2.2.2.2 i hi⟩
  obtain ⟨a, c, hvv, -⟩ := brow_shape h1; obtain ⟨L, hL⟩ : ∃ L, L = vs.length := ⟨_, rfl⟩; rw [← hL] at hvv HC hl; have HL := hide hL; have HLB : Hid (L ≤ 1000000) := hl; clear h h1 hb hl hL; subst hvv
  go_enter Tryz.func19, Tryz.ntmps19
  go_upto_region 1 with fail
  change Code.wp _ _ _ _ (w.alloc (oG (.slice a L c) ev rd wr)); generalize w.alloc (oG (.slice a L c) ev rd wr) = wb at *; generalize hbb : w.heap.size = bb at *
  go_wp2_with fail
  go_loopw [5] (fun s5 wr => ∃ i : Nat, s5 = .int .i64 i ∧ i ≤ L ∧ Hid (∀ j, j < i → vs.getD j 0 ≠ v) ∧ wr = wb) (fun s5 _ => L - (intOf s5).toNat)
  case atStart => exact ⟨0, rfl, by omega, fun j hj => absurd hj (Nat.not_lt_zero _), rfl⟩
  case round =>
    obtain ⟨i, rfl, hi, hno, rfl⟩ := hrel
    by_cases h : i < L
    · obtain ⟨g, c', e, hc⟩ := unhide HC i h; injection e with e1 e2 e3
      subst e1 e3; obtain ⟨x, hx⟩ : ∃ x, x = vs.getD i 0 := ⟨_, rfl⟩; rw [← hx] at hc; have hz : (i : Int) < (L : Int) := by omega
      by_cases hxv : x = v
      · have HF : Hid (decide (v ∈ vs) = true) := decide_eq_true (mem_iff_getD.2 ⟨i, by have := unhide HL; omega, hx.symm.trans hxv⟩)
        clear hx; subst hxv
        go_wp2_with fail
        go_ret
        exact ⟨by rw [unhide HF]; rfl, by first | exact unhide HB | (rw [hbb]; exact unhide HB)⟩
      · have HN : Hid (∀ j, j < i + 1 → vs.getD j 0 ≠ v) := fun j hj => by
          rcases Nat.lt_or_ge j i with h' | h'
          · exact unhide hno j h'
          · obtain rfl : j = i := by omega
            rw [← hx]; exact hxv
        clear hx
        go_wp2_with fail
        have hwi : wrap64 ((i : Int) + 1) = ((i + 1 : Nat) : Int) := by have := unhide HLB; unfold wrap64; omega
        (try rw [hwi])
        exact ⟨⟨i + 1, rfl, by omega, HN, by trivial⟩, by simp [intOf]; omega⟩
    · have hz : ¬ (i : Int) < (L : Int) := by omega
      have HF : Hid (decide (v ∈ vs) = false) := decide_eq_false (fun hm => by
        obtain ⟨j, hj, e⟩ := mem_iff_getD.1 hm; exact unhide hno j (by have := unhide HL; omega) e)
      go_wp2_with fail
      go_ret
      exact ⟨by rw [unhide HF]; rfl, by first | exact unhide HB | (rw [hbb]; exact unhide HB)⟩
end

section
open Go.RowKit Go.Maps
def AtIs (es : List EdgeV) (e r : Int) : Prop := (∃ (i : Nat) (a : EdgeV), r = (i : Int) ∧ es[i]? = some a ∧ a.1 = e ∧ ∀ (j : Nat) (b : EdgeV), j < i → es[j]? = some b → b.1 ≠ e) ∨ (r = -1 ∧ ∀ (j : Nat) (b : EdgeV), es[j]? = some b → b.1 ≠ e)
set_option maxHeartbeats 1000000 in
set_option maxRecDepth 100000 in
theorem refAt {w : World} {vv ev : Value} {rd wr : Int} {es : List EdgeV} {B : Nat} (v : Int) (h : GRow B w ev es) (hl : es.length ≤ 1000000) :
    Calls Tryz.prog 38 #[.agg #[vv, ev, .int .i64 rd, .int .i64 wr], .int .i64 v] w fun e w' => ∃ r, e = .returned (.int .i64 r) ∧ Hid (AtIs es v r ∧ Below w.heap.size w w') := by
  have hb := below_new w (oG vv ev rd wr); have h1 := grow_below h hb; obtain ⟨-, c1, -, -, -⟩ := cellsG (heap_alloc_new w (oG vv ev rd wr)); have HB := hide hb; have HC : Hid (∀ i, i < es.length → ∃ g c a, es[i]? = some a ∧ ev = .slice (some ⟨g, 0, none⟩) es.length c ∧ (w.alloc (oG vv ev rd wr)).cell? ⟨g, i * 4, none⟩ = some (.int .i64 a.1)) := fun i hi => by
    obtain ⟨g, c, e, hc⟩ := grow_at h1 (by omega)
    exact ⟨g, c, _, List.getElem?_eq_getElem hi, e, (hc i _ (List.getElem?_eq_getElem hi)).1⟩
  obtain ⟨a, n, c, hvv⟩ := grow_shape h1; have hn : n = es.length := by
    rcases h1.2 with ⟨e, h0⟩ | ⟨g, cap, cur, e, -⟩
    · rw [hvv] at e; cases e; exact h0.symm
    · rw [hvv] at e; cases e; rfl
  have HL := hide hn; rw [← hn] at HC hl; have HLB : Hid (n ≤ 1000000) := hl; clear h h1 hb hl hn; subst hvv
  go_enter Tryz.func38, Tryz.ntmps38
  go_upto_region 1 with fail
  change Code.wp _ _ _ _ (w.alloc (oG vv (.slice a n c) rd wr)); generalize w.alloc (oG vv (.slice a n c) rd wr) = wb at *; generalize hbb : w.heap.size = bb at *
  go_wp2_with fail
  go_loopw [5] (fun s5 wr => ∃ i : Nat, s5 = .int .i64 i ∧ i ≤ n ∧ Hid (∀ (j : Nat) (b : EdgeV), j < i → es[j]? = some b → b.1 ≠ v) ∧ wr = wb) (fun s5 _ => n - (intOf s5).toNat)
  case atStart => exact ⟨0, rfl, by omega, fun j b hj => absurd hj (Nat.not_lt_zero _), rfl⟩
  case round =>
    obtain ⟨i, rfl, hi, hno, rfl⟩ := hrel
    by_cases h : i < n
    · obtain ⟨g, c', x, hx, e, hc⟩ := unhide HC i h; injection e with e1 e2 e3
      subst e1 e3; have hz : (i : Int) < (n : Int) := by omega
      obtain ⟨y, hy⟩ : ∃ y, y = x.1 := ⟨_, rfl⟩; rw [← hy] at hc
      by_cases hxv : y = v
      · have HF : Hid (AtIs es v i) := .inl ⟨i, x, rfl, hx, hy.symm.trans hxv, unhide hno⟩; clear hx hy; subst hxv
        go_wp2_with fail
        go_ret
        exact ⟨_, rfl, unhide HF, by first | exact unhide HB | (rw [hbb]; exact unhide HB)⟩
      · have HN : Hid (∀ (j : Nat) (b : EdgeV), j < i + 1 → es[j]? = some b → b.1 ≠ v) := fun j b hj hjb => by
          rcases Nat.lt_or_ge j i with h' | h'
          · exact unhide hno j b h' hjb
          · obtain rfl : j = i := by omega
            rw [hx] at hjb
            cases hjb
            rw [← hy]; exact hxv
        clear hx hy
        go_wp2_with fail
        have hwi : wrap64 ((i : Int) + 1) = ((i + 1 : Nat) : Int) := by have := unhide HLB; unfold wrap64; omega
        (try rw [hwi])
        exact ⟨⟨i + 1, rfl, by omega, HN, by trivial⟩, by simp [intOf]; omega⟩
    · have hz : ¬ (i : Int) < (n : Int) := by omega
      have HF : Hid (AtIs es v (-1)) := .inr ⟨rfl, fun j b hjb => unhide hno j b (by have := (List.getElem?_eq_some_iff.1 hjb).1; have := unhide HL; omega) hjb⟩
      go_wp2_with fail
      go_ret
      exact ⟨_, rfl, unhide HF, by first | exact unhide HB | (rw [hbb]; exact unhide HB)⟩
theorem run_appI {B : Nat} {w : World} {v : Value} {ks : List Int} (x : Int) (h : BRow B w v ks) (hB : B ≤ w.heap.size) (hl : ks.length ≤ 2000000) :
    ∃ a' n' c' w', (∀ ty, (Builtin.append_ #[25, 25] ty #[v, .slice (some ⟨w.heap.size, 0, none⟩) 1 1]).run Tryz.prog (w.alloc (.cells #[.int .i64 x] 3)) = .ok (.slice a' n' c') w') ∧ BRow B w' (.slice a' n' c') (ks ++ [x]) ∧ Below B w w' := by
  have hb := below_new w (.cells #[.int .i64 x] 3); have h2 : NRow (w.alloc (.cells #[.int .i64 x] 3)) (.slice (some ⟨w.heap.size, 0, none⟩) 1 1) [x] := ⟨rfl, .inr ⟨w.heap.size, 1, #[.int .i64 x], rfl, Nat.zero_le _, heap_alloc_new _ _, Nat.le_refl _, by unfold maxLen; omega, rfl, rfl⟩⟩
  have h1 : BRow B (w.alloc (.cells #[.int .i64 x] 3)) v ks := brow_kept h (fun b e => hb.block b (h.lt b e).2)
  obtain ⟨v', w', hr, g1, g2⟩ := run_appN (Nat.le_trans hB hb.size) h1 h2 (by simp; omega)
  obtain ⟨a', c', e, -⟩ := brow_shape g1; subst e; refine ⟨a', _, c', w', hr, g1, ⟨g2.os.trans hb.os, g2.tape.trans hb.tape, g2.output.trans hb.output, Nat.le_trans hb.size g2.size, fun k hk => (g2.block k (Nat.lt_of_lt_of_le hk (Nat.le_trans hB hb.size)) (fun e => ?_)).trans (hb.block k (Nat.lt_of_lt_of_le hk hB))⟩⟩
  have := (h.lt k e.symm).1; omega
end

section
open Go.RowKit Go.Maps
theorem take_succ_of {α : Type} {l : List α} {i : Nat} {x : α} (h : l[i]? = some x) : l.take (i + 1) = l.take i ++ [x] := by rw [List.take_add_one, h]; rfl
def eAll (es : List EdgeV) : List Int := es.map (·.1)
def eOut (es : List EdgeV) (v : Int) : List Int := (es.filter (fun x => decide (x.2.1 = v))).map (·.1)
def eIn (es : List EdgeV) (v : Int) : List Int := (es.filter (fun x => decide (x.2.2.1 = v))).map (·.1)
theorem eAll_snoc (es : List EdgeV) (x : EdgeV) : eAll (es ++ [x]) = eAll es ++ [x.1] := by simp [eAll]
theorem eOut_snoc_yes {x : EdgeV} {v : Int} (es : List EdgeV) (h : x.2.1 = v) : eOut (es ++ [x]) v = eOut es v ++ [x.1] := by simp [eOut, h]
theorem eOut_snoc_no {x : EdgeV} {v : Int} (es : List EdgeV) (h : x.2.1 ≠ v) : eOut (es ++ [x]) v = eOut es v := by simp [eOut, h]
theorem eIn_snoc_yes {x : EdgeV} {v : Int} (es : List EdgeV) (h : x.2.2.1 = v) : eIn (es ++ [x]) v = eIn es v ++ [x.1] := by simp [eIn, h]
theorem eIn_snoc_no {x : EdgeV} {v : Int} (es : List EdgeV) (h : x.2.2.1 ≠ v) : eIn (es ++ [x]) v = eIn es v := by simp [eIn, h]
theorem len_eAll (es : List EdgeV) : (eAll es).length ≤ es.length := by simp [eAll]
theorem len_eOut (es : List EdgeV) (v : Int) : (eOut es v).length ≤ es.length := by unfold eOut; rw [List.length_map]; exact List.length_filter_le _ _
theorem len_eIn (es : List EdgeV) (v : Int) : (eIn es v).length ≤ es.length := by unfold eIn; rw [List.length_map]; exact List.length_filter_le _ _
set_option maxHeartbeats 1000000 in
set_option maxRecDepth 100000 in
theorem refEdges {w : World} {vv ev : Value} {rd wr : Int} {es : List EdgeV} {B : Nat} (h : GRow B w ev es) (hl : es.length ≤ 1000000) :
    Calls Tryz.prog 56 #[.agg #[vv, ev, .int .i64 rd, .int .i64 wr]] w fun e w' => ∃ r, e = .returned r ∧ Hid (NRow w' r (eAll es) ∧ Below w.heap.size w w') := by
  have hb := below_new w (oG vv ev rd wr); have h1 := grow_below h hb; obtain ⟨-, c1, -, -, -⟩ := cellsG (heap_alloc_new w (oG vv ev rd wr)); have HB : Hid (Below w.heap.size w (w.alloc (oG vv ev rd wr)) ∧ w.heap.size < (w.alloc (oG vv ev rd wr)).heap.size) := ⟨hb, by simp⟩
  have HC : Hid (∀ i W, i < es.length → Below (w.alloc (oG vv ev rd wr)).heap.size (w.alloc (oG vv ev rd wr)) W → ∃ g c a, es[i]? = some a ∧ ev = .slice (some ⟨g, 0, none⟩) es.length c ∧ W.cell? ⟨g, i * 4, none⟩ = some (.int .i64 a.1) ∧ W.cell? ⟨g, i * 4 + 1, none⟩ = some (.int .i64 a.2.1) ∧ W.cell? ⟨g, i * 4 + 2, none⟩ = some (.int .i64 a.2.2.1)) := fun i W hi hW => by
    obtain ⟨g, c, e, hc⟩ := grow_at (grow_below h1 hW) (by omega)
    obtain ⟨k1, k2, k3, -⟩ := hc i _ (List.getElem?_eq_getElem hi); exact ⟨g, c, _, List.getElem?_eq_getElem hi, e, k1, k2, k3⟩
  have HV : Hid (∀ W, Below (w.alloc (oG vv ev rd wr)).heap.size (w.alloc (oG vv ev rd wr)) W → W.cell? ⟨w.heap.size, 1, none⟩ = some ev) := fun W hW => (cell_of_heap (hW.block w.heap.size (by simp))).trans c1
  obtain ⟨a, n, c, hvv⟩ := grow_shape h1; have hn : n = es.length := by
    rcases h1.2 with ⟨e, h0⟩ | ⟨g, cap, cur, e, -⟩
    · rw [hvv] at e; cases e; exact h0.symm
    · rw [hvv] at e; cases e; rfl
  have HL := hide hn; rw [← hn] at HC hl; have HLB : Hid (n ≤ 1000000 ∧ n = es.length) := ⟨hl, hn⟩; clear h h1 hb hl hn c1; subst hvv
  go_enter Tryz.func56, Tryz.ntmps56
  go_upto_region 1 with fail
  change Code.wp _ _ _ _ (w.alloc (oG vv (.slice a n c) rd wr)); generalize w.alloc (oG vv (.slice a n c) rd wr) = wb at *; generalize hbb : w.heap.size = bb at *
  go_wp2_with fail
  go_loopw [3, 4] (fun sa si wr => ∃ (i : Nat) (aa : Option Addr) (an ac : Nat), si = .int .i64 i ∧ sa = .slice aa an ac ∧ i ≤ n ∧ Hid (BRow wb.heap.size wr (.slice aa an ac) (eAll (es.take i)) ∧ Below wb.heap.size wb wr)) (fun _ si _ => n - (intOf si).toNat)
  case atStart => exact ⟨0, none, 0, 0, rfl, rfl, by omega, ⟨rfl, .inl ⟨rfl, rfl⟩⟩, Below.refl _ _⟩
  case round =>
    obtain ⟨i, aa, an, ac, rfl, rfl, hi, hS⟩ := hrel; have c1 := unhide HV wr (unhide hS).2
    by_cases h : i < n
    · obtain ⟨g, c', x, hx, e, hc1, hc2, hc3⟩ := unhide HC i wr h (unhide hS).2; injection e with e1 e2 e3
      subst e1 e3; have hz : (i : Int) < (n : Int) := by omega
      have hy := hz; obtain ⟨a', n', c', w', hr, g1, g2⟩ := run_appI x.1 (unhide hS).1 (unhide hS).2.size (by have := unhide HLB; have := len_eAll (es.take i); simp at this; omega)
      have HR := hide hr; have HG : Hid (BRow wb.heap.size w' (.slice a' n' c') (eAll (es.take (i + 1))) ∧ Below wb.heap.size wb w') := by
        refine ⟨?_, (unhide hS).2.trans g2⟩; rw [take_succ_of hx, eAll_snoc]; exact g1
      clear hr g1 g2 hx hy
      go_wp2_with (at_builtin; refine Lib.wpList_append_run _ rfl _ _ 25 25 rfl _ _ rfl rfl _ _ (unhide HR _) ?_)
      have hwi : wrap64 ((i : Int) + 1) = ((i + 1 : Nat) : Int) := by have := unhide HLB; unfold wrap64; omega
      (try rw [hwi])
      exact ⟨⟨i + 1, a', n', c', rfl, rfl, by omega, HG⟩, by simp [intOf]; omega⟩
    · have hz : ¬ (i : Int) < (n : Int) := by omega
      have HF : Hid (NRow wr (.slice aa an ac) (eAll es) ∧ Below bb w wr) := by
        have e1 : es.take i = es := List.take_of_length_le (by have := unhide HL; omega)
        have h2 := (unhide hS).1; rw [e1] at h2; exact ⟨⟨h2.1, h2.2.imp id (fun ⟨g, cap, cur, e, hb', r⟩ => ⟨g, cap, cur, e, Nat.zero_le _, r⟩)⟩, (unhide HB).1.trans ((unhide hS).2.mono (by have := (unhide HB).2; omega))⟩
      go_wp2_with fail
      go_ret
      exact ⟨_, rfl, (unhide HF).1, by first | exact (unhide HF).2 | (rw [hbb]; exact (unhide HF).2)⟩
set_option maxHeartbeats 1000000 in
set_option maxRecDepth 100000 in
theorem refOut {w : World} {vv ev : Value} {rd wr : Int} {es : List EdgeV} {B : Nat} (v : Int) (h : GRow B w ev es) (hl : es.length ≤ 1000000) :
    Calls Tryz.prog 37 #[.agg #[vv, ev, .int .i64 rd, .int .i64 wr], .int .i64 v] w fun e w' => ∃ r, e = .returned r ∧ Hid (NRow w' r (eOut es v) ∧ Below w.heap.size w w') := by
  have hb := below_new w (oG vv ev rd wr); have h1 := grow_below h hb; obtain ⟨-, c1, -, -, -⟩ := cellsG (heap_alloc_new w (oG vv ev rd wr)); have HB : Hid (Below w.heap.size w (w.alloc (oG vv ev rd wr)) ∧ w.heap.size < (w.alloc (oG vv ev rd wr)).heap.size) := ⟨hb, by simp⟩
  have HC : Hid (∀ i W, i < es.length → Below (w.alloc (oG vv ev rd wr)).heap.size (w.alloc (oG vv ev rd wr)) W → ∃ g c a, es[i]? = some a ∧ ev = .slice (some ⟨g, 0, none⟩) es.length c ∧ W.cell? ⟨g, i * 4, none⟩ = some (.int .i64 a.1) ∧ W.cell? ⟨g, i * 4 + 1, none⟩ = some (.int .i64 a.2.1) ∧ W.cell? ⟨g, i * 4 + 2, none⟩ = some (.int .i64 a.2.2.1)) := fun i W hi hW => by
    obtain ⟨g, c, e, hc⟩ := grow_at (grow_below h1 hW) (by omega)
    obtain ⟨k1, k2, k3, -⟩ := hc i _ (List.getElem?_eq_getElem hi); exact ⟨g, c, _, List.getElem?_eq_getElem hi, e, k1, k2, k3⟩
  have HV : Hid (∀ W, Below (w.alloc (oG vv ev rd wr)).heap.size (w.alloc (oG vv ev rd wr)) W → W.cell? ⟨w.heap.size, 1, none⟩ = some ev) := fun W hW => (cell_of_heap (hW.block w.heap.size (by simp))).trans c1
  obtain ⟨a, n, c, hvv⟩ := grow_shape h1; have hn : n = es.length := by
    rcases h1.2 with ⟨e, h0⟩ | ⟨g, cap, cur, e, -⟩
    · rw [hvv] at e; cases e; exact h0.symm
    · rw [hvv] at e; cases e; rfl
  have HL := hide hn; rw [← hn] at HC hl; have HLB : Hid (n ≤ 1000000 ∧ n = es.length) := ⟨hl, hn⟩; clear h h1 hb hl hn c1; subst hvv
  go_enter Tryz.func37, Tryz.ntmps37
  go_upto_region 1 with fail
  change Code.wp _ _ _ _ (w.alloc (oG vv (.slice a n c) rd wr)); generalize w.alloc (oG vv (.slice a n c) rd wr) = wb at *; generalize hbb : w.heap.size = bb at *
  go_wp2_with fail
  go_loopw [5, 6] (fun sa si wr => ∃ (i : Nat) (aa : Option Addr) (an ac : Nat), si = .int .i64 i ∧ sa = .slice aa an ac ∧ i ≤ n ∧ Hid (BRow wb.heap.size wr (.slice aa an ac) (eOut (es.take i) v) ∧ Below wb.heap.size wb wr)) (fun _ si _ => n - (intOf si).toNat)
  case atStart => exact ⟨0, none, 0, 0, rfl, rfl, by omega, ⟨rfl, .inl ⟨rfl, rfl⟩⟩, Below.refl _ _⟩
  case round =>
    obtain ⟨i, aa, an, ac, rfl, rfl, hi, hS⟩ := hrel; have c1 := unhide HV wr (unhide hS).2
    by_cases h : i < n
    · obtain ⟨g, c', x, hx, e, hc1, hc2, hc3⟩ := unhide HC i wr h (unhide hS).2; injection e with e1 e2 e3
      subst e1 e3; have hz : (i : Int) < (n : Int) := by omega
      obtain ⟨y, hy⟩ : ∃ y, y = x.2.1 := ⟨_, rfl⟩; rw [← hy] at hc2
      by_cases hxv : y = v
      · rw [hxv] at hc2; obtain ⟨a', n', c', w', hr, g1, g2⟩ := run_appI x.1 (unhide hS).1 (unhide hS).2.size (by have := unhide HLB; have := len_eOut (es.take i) v; simp at this; omega)
        have HR := hide hr; have HG : Hid (BRow wb.heap.size w' (.slice a' n' c') (eOut (es.take (i + 1)) v) ∧ Below wb.heap.size wb w') := by
          refine ⟨?_, (unhide hS).2.trans g2⟩; rw [take_succ_of hx, eOut_snoc_yes _ (hy.symm.trans hxv)]; exact g1
        clear hr g1 g2 hx hy
        go_wp2_with (at_builtin; refine Lib.wpList_append_run _ rfl _ _ 25 25 rfl _ _ rfl rfl _ _ (unhide HR _) ?_)
        have hwi : wrap64 ((i : Int) + 1) = ((i + 1 : Nat) : Int) := by have := unhide HLB; unfold wrap64; omega
        (try rw [hwi])
        exact ⟨⟨i + 1, a', n', c', rfl, rfl, by omega, HG⟩, by simp [intOf]; omega⟩
      · have HG : Hid (BRow wb.heap.size wr (.slice aa an ac) (eOut (es.take (i + 1)) v) ∧ Below wb.heap.size wb wr) := by
          rw [take_succ_of hx, eOut_snoc_no _ (fun e => hxv (hy.trans e))]; exact unhide hS
        clear hx hy
        go_wp2_with fail
        have hwi : wrap64 ((i : Int) + 1) = ((i + 1 : Nat) : Int) := by have := unhide HLB; unfold wrap64; omega
        (try rw [hwi])
        exact ⟨⟨i + 1, aa, an, ac, rfl, rfl, by omega, HG⟩, by simp [intOf]; omega⟩
    · have hz : ¬ (i : Int) < (n : Int) := by omega
      have HF : Hid (NRow wr (.slice aa an ac) (eOut es v) ∧ Below bb w wr) := by
        have e1 : es.take i = es := List.take_of_length_le (by have := unhide HL; omega)
        have h2 := (unhide hS).1; rw [e1] at h2; exact ⟨⟨h2.1, h2.2.imp id (fun ⟨g, cap, cur, e, hb', r⟩ => ⟨g, cap, cur, e, Nat.zero_le _, r⟩)⟩, (unhide HB).1.trans ((unhide hS).2.mono (by have := (unhide HB).2; omega))⟩
      go_wp2_with fail
      go_ret
      exact ⟨_, rfl, (unhide HF).1, by first | exact (unhide HF).2 | (rw [hbb]; exact (unhide HF).2)⟩
set_option maxHeartbeats 1000000 in
set_option maxRecDepth 100000 in
theorem refIn {w : World} {vv ev : Value} {rd wr : Int} {es : List EdgeV} {B : Nat} (v : Int) (h : GRow B w ev es) (hl : es.length ≤ 1000000) :
    Calls Tryz.prog 61 #[.agg #[vv, ev, .int .i64 rd, .int .i64 wr], .int .i64 v] w fun e w' => ∃ r, e = .returned r ∧ Hid (NRow w' r (eIn es v) ∧ Below w.heap.size w w') := by
  have hb := below_new w (oG vv ev rd wr); have h1 := grow_below h hb; obtain ⟨-, c1, -, -, -⟩ := cellsG (heap_alloc_new w (oG vv ev rd wr)); have HB : Hid (Below w.heap.size w (w.alloc (oG vv ev rd wr)) ∧ w.heap.size < (w.alloc (oG vv ev rd wr)).heap.size) := ⟨hb, by simp⟩
  have HC : Hid (∀ i W, i < es.length → Below (w.alloc (oG vv ev rd wr)).heap.size (w.alloc (oG vv ev rd wr)) W → ∃ g c a, es[i]? = some a ∧ ev = .slice (some ⟨g, 0, none⟩) es.length c ∧ W.cell? ⟨g, i * 4, none⟩ = some (.int .i64 a.1) ∧ W.cell? ⟨g, i * 4 + 1, none⟩ = some (.int .i64 a.2.1) ∧ W.cell? ⟨g, i * 4 + 2, none⟩ = some (.int .i64 a.2.2.1)) := fun i W hi hW => by
    obtain ⟨g, c, e, hc⟩ := grow_at (grow_below h1 hW) (by omega)
    obtain ⟨k1, k2, k3, -⟩ := hc i _ (List.getElem?_eq_getElem hi); exact ⟨g, c, _, List.getElem?_eq_getElem hi, e, k1, k2, k3⟩
  have HV : Hid (∀ W, Below (w.alloc (oG vv ev rd wr)).heap.size (w.alloc (oG vv ev rd wr)) W → W.cell? ⟨w.heap.size, 1, none⟩ = some ev) := fun W hW => (cell_of_heap (hW.block w.heap.size (by simp))).trans c1
  obtain ⟨a, n, c, hvv⟩ := grow_shape h1; have hn : n = es.length := by
    rcases h1.2 with ⟨e, h0⟩ | ⟨g, cap, cur, e, -⟩
    · rw [hvv] at e; cases e; exact h0.symm
    · rw [hvv] at e; cases e; rfl
  have HL := hide hn; rw [← hn] at HC hl; have HLB : Hid (n ≤ 1000000 ∧ n = es.length) := ⟨hl, hn⟩; clear h h1 hb hl hn c1; subst hvv
  go_enter Tryz.func61, Tryz.ntmps61
  go_upto_region 1 with fail
  change Code.wp _ _ _ _ (w.alloc (oG vv (.slice a n c) rd wr)); generalize w.alloc (oG vv (.slice a n c) rd wr) = wb at *; generalize hbb : w.heap.size = bb at *
  go_wp2_with fail
  go_loopw [5, 6] (fun sa si wr => ∃ (i : Nat) (aa : Option Addr) (an ac : Nat), si = .int .i64 i ∧ sa = .slice aa an ac ∧ i ≤ n ∧ Hid (BRow wb.heap.size wr (.slice aa an ac) (eIn (es.take i) v) ∧ Below wb.heap.size wb wr)) (fun _ si _ => n - (intOf si).toNat)
  case atStart => exact ⟨0, none, 0, 0, rfl, rfl, by omega, ⟨rfl, .inl ⟨rfl, rfl⟩⟩, Below.refl _ _⟩
  case round =>
    obtain ⟨i, aa, an, ac, rfl, rfl, hi, hS⟩ := hrel; have c1 := unhide HV wr (unhide hS).2
    by_cases h : i < n
    · obtain ⟨g, c', x, hx, e, hc1, hc2, hc3⟩ := unhide HC i wr h (unhide hS).2; injection e with e1 e2 e3
      subst e1 e3; have hz : (i : Int) < (n : Int) := by omega
      obtain ⟨y, hy⟩ : ∃ y, y = x.2.2.1 := ⟨_, rfl⟩; rw [← hy] at hc3
      by_cases hxv : y = v
      · rw [hxv] at hc3; obtain ⟨a', n', c', w', hr, g1, g2⟩ := run_appI x.1 (unhide hS).1 (unhide hS).2.size (by have := unhide HLB; have := len_eIn (es.take i) v; simp at this; omega)
        have HR := hide hr; have HG : Hid (BRow wb.heap.size w' (.slice a' n' c') (eIn (es.take (i + 1)) v) ∧ Below wb.heap.size wb w') := by
          refine ⟨?_, (unhide hS).2.trans g2⟩; rw [take_succ_of hx, eIn_snoc_yes _ (hy.symm.trans hxv)]; exact g1
        clear hr g1 g2 hx hy
        go_wp2_with (at_builtin; refine Lib.wpList_append_run _ rfl _ _ 25 25 rfl _ _ rfl rfl _ _ (unhide HR _) ?_)
        have hwi : wrap64 ((i : Int) + 1) = ((i + 1 : Nat) : Int) := by have := unhide HLB; unfold wrap64; omega
        (try rw [hwi])
        exact ⟨⟨i + 1, a', n', c', rfl, rfl, by omega, HG⟩, by simp [intOf]; omega⟩
      · have HG : Hid (BRow wb.heap.size wr (.slice aa an ac) (eIn (es.take (i + 1)) v) ∧ Below wb.heap.size wb wr) := by
          rw [take_succ_of hx, eIn_snoc_no _ (fun e => hxv (hy.trans e))]; exact unhide hS
        clear hx hy
        go_wp2_with fail
        have hwi : wrap64 ((i : Int) + 1) = ((i + 1 : Nat) : Int) := by have := unhide HLB; unfold wrap64; omega
        (try rw [hwi])
        exact ⟨⟨i + 1, aa, an, ac, rfl, rfl, by omega, HG⟩, by simp [intOf]; omega⟩
    · have hz : ¬ (i : Int) < (n : Int) := by omega
      have HF : Hid (NRow wr (.slice aa an ac) (eIn es v) ∧ Below bb w wr) := by
        have e1 : es.take i = es := List.take_of_length_le (by have := unhide HL; omega)
        have h2 := (unhide hS).1; rw [e1] at h2; exact ⟨⟨h2.1, h2.2.imp id (fun ⟨g, cap, cur, e, hb', r⟩ => ⟨g, cap, cur, e, Nat.zero_le _, r⟩)⟩, (unhide HB).1.trans ((unhide hS).2.mono (by have := (unhide HB).2; omega))⟩
      go_wp2_with fail
      go_ret
      exact ⟨_, rfl, (unhide HF).1, by first | exact (unhide HF).2 | (rw [hbb]; exact (unhide HF).2)⟩
end

end Go.Proofs.YtagibmgbjhemkaaGreat

/- The reference's Edge. -/
import Derived.Test.YtagibmgbjhemkaaGreatRefAddV2
import Derived.Test.YtagibmgbjhemkaaGreatTail
namespace Go.Proofs.YtagibmgbjhemkaaGreat

section
open Go.RowKit Go.Maps
theorem refAdmit (n : Int) (w : World) : Calls Tryz.prog 99 #[.int .u32 n] w fun e w' => e = .returned (ansK (kept n)) ∧ w' = w := by
  unfold kept
  by_cases h1 : n = 2147483648
  · subst h1; rw [if_pos rfl]
    go_enter Tryz.func99, Tryz.ntmps99
    go_wp2
    go_ret2
    exact ⟨rfl, rfl⟩
  · rw [if_neg h1]
    by_cases h2 : 2139095040 ≤ n
    · rw [if_pos h2]
      go_enter Tryz.func99, Tryz.ntmps99
      go_wp2
      go_ret2
      exact ⟨rfl, rfl⟩
    · rw [if_neg h2]
      go_enter Tryz.func99, Tryz.ntmps99
      go_wp2
      go_ret2
      exact ⟨rfl, rfl⟩
def HasNo (es : List EdgeV) (e : Int) : Prop := ∃ (i : Nat) (a : EdgeV), es[i]? = some a ∧ a.1 = e
theorem at_has {es : List EdgeV} {e r : Int} (h : AtIs es e r) : (r < 0 ↔ ¬ HasNo es e) := by
  rcases h with ⟨i, a, rfl, h1, h2, -⟩ | ⟨rfl, h1⟩
  · exact ⟨fun h => by omega, fun h => absurd ⟨i, a, h1, h2⟩ h⟩
  · exact ⟨fun _ ⟨j, b, hb, e⟩ => h1 j b hb e, fun _ => by omega⟩
def RFree (es : List EdgeV) (r : Int) : Prop := (∃ j : Nat, j < 1024 ∧ r = (j : Int) + 1 ∧ (∀ i : Nat, i < j → HasNo es ((i : Int) + 1)) ∧ ¬ HasNo es ((j : Int) + 1)) ∨ (r = 0 ∧ ∀ i : Nat, i < 1024 → HasNo es ((i : Int) + 1))
set_option maxHeartbeats 2000000 in
set_option maxRecDepth 100000 in
theorem refFree {w : World} {vv ev : Value} {rd wr_0 : Int} {es : List EdgeV} {B : Nat} (h : GRow B w ev es) (hl : es.length ≤ 1000000) (hv : ∃ a n c, vv = .slice a n c) :
    Calls Tryz.prog 58 #[.agg #[vv, ev, .int .i64 rd, .int .i64 wr_0]] w fun e w' => ∃ r, e = .returned (.int .i64 r) ∧ Hid (RFree es r ∧ Below w.heap.size w w') := by
  have hb := below_new w (oG vv ev rd wr_0); have h1 := grow_below h hb; have hbx := heap_alloc_new w (oG vv ev rd wr_0); have HB : Hid (Below w.heap.size w (w.alloc (oG vv ev rd wr_0)) ∧ w.heap.size < (w.alloc (oG vv ev rd wr_0)).heap.size) := ⟨hb, by simp⟩
  have HC : Hid (∀ W, Below (w.alloc (oG vv ev rd wr_0)).heap.size (w.alloc (oG vv ev rd wr_0)) W → (W.cell? ⟨w.heap.size, 0, none⟩ = some vv ∧ W.cell? ⟨w.heap.size, 1, none⟩ = some ev ∧ W.cell? ⟨w.heap.size, 2, none⟩ = some (.int .i64 rd) ∧ W.cell? ⟨w.heap.size, 3, none⟩ = some (.int .i64 wr_0)) ∧ ∀ e, Calls Tryz.prog 38 #[.agg #[vv, ev, .int .i64 rd, .int .i64 wr_0], .int .i64 e] W fun r w' => ∃ x, r = .returned (.int .i64 x) ∧ Hid (AtIs es e x ∧ Below (w.alloc (oG vv ev rd wr_0)).heap.size (w.alloc (oG vv ev rd wr_0)) w')) := fun W hW => by
    have hbw := (hW.block w.heap.size (by simp)).trans hbx
    obtain ⟨k0, k1, k2, k3, -⟩ := cellsG hbw; refine ⟨⟨k0, k1, k2, k3⟩, fun e => ?_⟩
    refine (refAt e (grow_below h1 hW) hl).mono ?_
    rintro r w' ⟨x, rfl, hh⟩
    exact ⟨x, rfl, (unhide hh).1, hW.trans ((unhide hh).2.mono hW.size)⟩
  obtain ⟨a, n, c, rfl⟩ := hv; obtain ⟨ea, en, ec, rfl⟩ := grow_shape h1; clear h h1 hb hl hbx
  go_enter Tryz.func58, Tryz.ntmps58
  go_upto_region 1 with fail
  change Code.wp _ _ _ _ (w.alloc (oG (.slice a n c) (.slice ea en ec) rd wr_0)); generalize w.alloc (oG (.slice a n c) (.slice ea en ec) rd wr_0) = wb at *; generalize hbb : w.heap.size = bb at *
  go_wp2_with fail
  go_loopw [3] (fun s3 wr => ∃ j : Nat, s3 = .int .i64 ((j : Int) + 1) ∧ j ≤ 1024 ∧ Hid ((∀ i : Nat, i < j → HasNo es ((i : Int) + 1)) ∧ Below wb.heap.size wb wr)) (fun s3 _ => 1025 - (intOf s3).toNat)
  case atStart => exact ⟨0, rfl, by omega, fun i hi => absurd hi (Nat.not_lt_zero _), Below.refl _ _⟩
  case round =>
    obtain ⟨j, rfl, hj, hS⟩ := hrel
    by_cases h : j < 1024
    · have hz : (j : Int) + 1 ≤ 1024 := by omega
      obtain ⟨⟨k0, k1, k2, k3⟩, hA⟩ := unhide HC wr (unhide hS).2; have CA := hide (hA ((j : Int) + 1)); clear hA
      go_wp2_with fail
      refine (unhide CA).mono ?_
      rintro e w2 ⟨x, rfl, hh⟩
      by_cases hx : x < 0
      · have HF : Hid (RFree es ((j : Int) + 1) ∧ Below bb w w2) := ⟨.inl ⟨j, h, rfl, (unhide hS).1, (at_has (unhide hh).1).1 hx⟩, (unhide HB).1.trans ((unhide hh).2.mono (by have := (unhide HB).2; omega))⟩
        clear CA hh
        go_wp2_with fail
        go_ret
        exact ⟨_, rfl, (unhide HF).1, by first | exact (unhide HF).2 | (rw [hbb]; exact (unhide HF).2)⟩
      · have HF : Hid ((∀ i : Nat, i < j + 1 → HasNo es ((i : Int) + 1)) ∧ Below wb.heap.size wb w2) := ⟨fun i hi => by
          rcases Nat.lt_or_ge i j with h' | h'
          · exact (unhide hS).1 i h'
          · obtain rfl : i = j := by omega
            exact Classical.byContradiction (fun hn => hx ((at_has (unhide hh).1).2 hn)), (unhide hh).2⟩
        clear CA hh
        go_wp2_with fail
        have hwi : wrap64 ((j : Int) + 1 + 1) = ((j + 1 : Nat) : Int) + 1 := by unfold wrap64; omega
        (try rw [hwi])
        exact ⟨⟨j + 1, rfl, by omega, HF⟩, by simp [intOf]; omega⟩
    · have hz : ¬ (j : Int) + 1 ≤ 1024 := by omega
      have HF : Hid (RFree es 0 ∧ Below bb w wr) := ⟨.inr ⟨rfl, fun i hi => (unhide hS).1 i (by omega)⟩, (unhide HB).1.trans ((unhide hS).2.mono (by have := (unhide HB).2; omega))⟩
      go_wp2_with fail
      go_ret
      exact ⟨_, rfl, (unhide HF).1, by first | exact (unhide HF).2 | (rw [hbb]; exact (unhide HF).2)⟩
theorem list_eq_getD {a b : List Int} (hl : a.length = b.length) (h : ∀ j, j < a.length → a.getD j 0 = b.getD j 0) : a = b := by
  refine List.ext_getElem hl (fun j h1 h2 => ?_)
  have := h j h1; simpa [List.getD, h1, h2] using this
set_option maxHeartbeats 2000000 in
set_option maxRecDepth 100000 in
theorem refSame {w : World} {v1 v2 : Value} {a b : List Int} (h1 : NRow w v1 a) (h2 : NRow w v2 b) (hl : a.length ≤ 1000000) :
    Calls Tryz.prog 23 #[v1, v2] w fun e w' => e = .returned (.bool (decide (a = b))) ∧ Hid (Like w w') := by
  obtain ⟨x1, c1, e1, -⟩ := brow_shape h1; obtain ⟨x2, c2, e2, -⟩ := brow_shape h2; obtain ⟨n1, e1', hn1⟩ : ∃ n1, v1 = .slice x1 n1 c1 ∧ n1 = a.length := ⟨_, e1, rfl⟩; obtain ⟨n2, e2', hn2⟩ : ∃ n2, v2 = .slice x2 n2 c2 ∧ n2 = b.length := ⟨_, e2, rfl⟩; have HN : Hid (n1 = a.length ∧ n2 = b.length ∧ n1 ≤ 1000000) := ⟨hn1, hn2, by omega⟩
  have HC : Hid (∀ W i, Like w W → i < n1 → i < n2 → ∃ g1 g2, x1 = some ⟨g1, 0, none⟩ ∧ x2 = some ⟨g2, 0, none⟩ ∧ W.cell? ⟨g1, i, none⟩ = some (.int .i64 (a.getD i 0)) ∧ W.cell? ⟨g2, i, none⟩ = some (.int .i64 (b.getD i 0))) := fun W i hW i1 i2 => by
    have r1 : NRow W (.slice x1 n1 c1) a := by rw [← e1']; exact nrow_below h1 (hW.below _)
    have r2 : NRow W (.slice x2 n2 c2) b := by rw [← e2']; exact nrow_below h2 (hW.below _)
    obtain ⟨g1, hg1⟩ := brow_some r1 (by omega)
    obtain ⟨g2, hg2⟩ := brow_some r2 (by omega)
    subst hg1 hg2; exact ⟨g1, g2, rfl, rfl, (nrow_some r1).2.2.2.2 i (by omega), (nrow_some r2).2.2.2.2 i (by omega)⟩
  clear h1 h2 hl e1 e2 hn1 hn2; subst e1' e2'
  by_cases hlen : n1 = n2
  · subst hlen
    go_enter Tryz.func23, Tryz.ntmps23
    go_wp2_with fail
    go_loopw [13] (fun s13 wr => ∃ i : Nat, s13 = .int .i64 i ∧ i ≤ n1 ∧ Hid ((∀ j, j < i → a.getD j 0 = b.getD j 0) ∧ Like w wr)) (fun s13 _ => n1 - (intOf s13).toNat)
    case atStart => exact ⟨0, rfl, by omega, fun j hj => absurd hj (Nat.not_lt_zero _), rfl, rfl, rfl, rfl⟩
    case round =>
      obtain ⟨i, rfl, hi, hS⟩ := hrel
      by_cases h : i < n1
      · obtain ⟨g1, g2, rfl, rfl, hc1, hc2⟩ := unhide HC wr i (unhide hS).2 h h; have hz : (i : Int) < (n1 : Int) := by omega
        obtain ⟨y1, hy1⟩ : ∃ y, y = a.getD i 0 := ⟨_, rfl⟩; obtain ⟨y2, hy2⟩ : ∃ y, y = b.getD i 0 := ⟨_, rfl⟩; rw [← hy1] at hc1; rw [← hy2] at hc2; have HY : Hid (y1 = a.getD i 0 ∧ y2 = b.getD i 0) := ⟨hy1, hy2⟩; have HW : Hid (Like w wr) := (unhide hS).2; clear hy1 hy2
        by_cases hyy : y1 = y2
        · subst hyy
          go_upto_region 6 with fail
          refine wp_region_noPanic ?_; refine regionL [] (fun y => y.cell? ⟨g1, i, none⟩ = some (.int .i64 y1) ∧ y.cell? ⟨g2, i, none⟩ = some (.int .i64 y1)) (by kernel_rfl) ⟨hc1, hc2⟩ (fun hHeld => ?_)
          refine takeN 0 16 rfl ?_
          (try simp only [sl])
          refine takeN 1 17 rfl ?_
          (try simp only [sl])
          refine takeN 2 18 rfl ?_
          (try simp only [sl])
          refine takeN 3 19 rfl ?_
          (try simp only [sl])
          refine takeN 4 20 rfl ?_
          (try simp only [sl])
          refine takeN 5 21 rfl ?_
          (try simp only [sl])
          refine takeN 6 22 rfl ?_
          (try simp only [sl])
          refine takeN 7 23 rfl ?_
          (try simp only [sl])
          refine takeN 8 24 rfl ?_
          (try simp only [sl])
          refine doneL (by kernel_rfl) ?_ _
          refine NoPanic.normal ?_; have HG : Hid ((∀ j, j < i + 1 → a.getD j 0 = b.getD j 0) ∧ Like w wr.drew) := ⟨fun j hj => by
            rcases Nat.lt_or_ge j i with h' | h'
            · exact (unhide hS).1 j h'
            · obtain rfl : j = i := by omega
              exact (unhide HY).1.symm.trans (unhide HY).2, ⟨(unhide HW).1, (unhide HW).2.1, (unhide HW).2.2.1, (unhide HW).2.2.2⟩⟩
          clear hc1 hc2 hHeld
          go_wp2_with fail
          have hwi : wrap64 ((i : Int) + 1) = ((i + 1 : Nat) : Int) := by have := (unhide HN).2.2; unfold wrap64; omega
          (try rw [hwi])
          exact ⟨⟨i + 1, rfl, by omega, HG⟩, by simp [intOf]; omega⟩
        · go_upto_region 6 with fail
          refine wp_region_noPanic ?_; refine regionL [] (fun y => y.cell? ⟨g1, i, none⟩ = some (.int .i64 y1) ∧ y.cell? ⟨g2, i, none⟩ = some (.int .i64 y2)) (by kernel_rfl) ⟨hc1, hc2⟩ (fun hHeld => ?_)
          refine takeN 0 16 rfl ?_
          (try simp only [sl])
          refine takeN 1 17 rfl ?_
          (try simp only [sl])
          refine takeN 2 18 rfl ?_
          (try simp only [sl])
          refine takeN 3 19 rfl ?_
          (try simp only [sl])
          refine takeN 4 20 rfl ?_
          (try simp only [sl])
          refine takeN 5 21 rfl ?_
          (try simp only [sl])
          refine takeN 6 22 rfl ?_
          (try simp only [sl])
          refine takeN 7 23 rfl ?_
          (try simp only [sl])
          refine takeN 8 24 rfl ?_
          (try simp only [sl])
          refine doneL (by kernel_rfl) ?_ _
          refine NoPanic.normal ?_; have HF : Hid (decide (a = b) = false) := decide_eq_false (fun e => hyy (by rw [(unhide HY).1, (unhide HY).2, e]))
          clear hc1 hc2 hHeld
          go_wp2_with fail
          go_ret
          exact ⟨by rw [unhide HF]; rfl, (unhide HW).1, (unhide HW).2.1, (unhide HW).2.2.1, (unhide HW).2.2.2⟩
      · have hz : ¬ (i : Int) < (n1 : Int) := by omega
        have HF : Hid (decide (a = b) = true) := decide_eq_true (list_eq_getD (by have := unhide HN; omega) (fun j hj => (unhide hS).1 j (by have := unhide HN; omega)))
        go_wp2_with fail
        go_ret
        exact ⟨by rw [unhide HF]; rfl, (unhide hS).2⟩
  · have hlz : ¬ (n1 : Int) = (n2 : Int) := by omega
    have HF : Hid (decide (a = b) = false) := decide_eq_false (fun e => hlen (by have := unhide HN; rw [e] at this; omega))
    clear hlen HC
    go_enter Tryz.func23, Tryz.ntmps23
    go_wp2_with fail
    go_ret
    exact ⟨by rw [unhide HF]; rfl, rfl, rfl, rfl, rfl⟩
end

section
open Go.RowKit Go.Maps
theorem results_cell_cell_tmp {fn : Func} {p q u : Tmp} {ty ty2 : TypeId} (h : fn.results = #[.cell p ty, .cell q ty2, .tmp u]) (tmps : Array Value) (P : Program) (w : World) (x y : Addr) (vx vy : Value) (hp : tmps.getD p undef = .pointer (some x)) (hq : tmps.getD q undef = .pointer (some y)) (hx : (loadVar ty x).run P w = .ok vx w) (hy : (loadVar ty2 y).run P w = .ok vy w) :
    (results fn tmps).run P w = .ok (.tuple #[vx, vy, tmps.getD u undef]) w := by
  have hp' : tmps[p]?.getD undef = .pointer (some x) := by simpa using hp
  have hq' : tmps[q]?.getD undef = .pointer (some y) := by simpa using hq
  simp [results, h, hp', hq', asAddr, hx, hy]
theorem drewAt {w : World} {b : Nat} {o : Obj} (h : w.heap[b]? = some o) : w.drew.heap[b]? = some o := h
theorem three_boxes (w : World) (o : Obj) : (((w.alloc o).alloc oZ).alloc o34).heap[w.heap.size]? = some o ∧ (((w.alloc o).alloc oZ).alloc o34).heap[w.heap.size + 1]? = some oZ ∧ (((w.alloc o).alloc oZ).alloc o34).heap[w.heap.size + 2]? = some o34 ∧ Below w.heap.size w (((w.alloc o).alloc oZ).alloc o34) ∧ (((w.alloc o).alloc oZ).alloc o34).heap.size = w.heap.size + 3 := by
  obtain ⟨h1, h2, h3, h4⟩ := two_boxes w o; refine ⟨(heap_alloc_old _ _ (by omega)).trans h1, (heap_alloc_old _ _ (by omega)).trans h2, ?_, h3.trans ((below_new _ _).mono (by omega)), by simp⟩
  have := heap_alloc_new ((w.alloc o).alloc oZ) o34
  rwa [h4] at this
def AnsGE (w : World) (vv0 ev0 : Value) (vs : List Int) (es : List EdgeV) (rd wr : Int) (x : EdgeV) (code : Int) (e : Ending) (w' : World) : Prop :=
  ∃ vv ev, e = .returned (.tuple #[.agg #[vv, ev, .int .i64 rd, .int .i64 wr], .agg #[.int .i64 x.1, .int .i64 x.2.1, .int .i64 x.2.2.1, .int .u32 x.2.2.2], .int .i64 code]) ∧ NRow w' vv vs ∧ GRow 0 w' ev es ∧ Below w.heap.size w w' ∧ Apt w vv0 vv ∧ Apt w ev0 ev
set_option maxHeartbeats 2000000 in
set_option maxRecDepth 100000 in
theorem refEdgeNo {w : World} {vv ev : Value} {rd wr_0 : Int} {vs : List Int} {es : List EdgeV} (v : Int) (h : NRow w vv vs) (hE : GRow 0 w ev es) (hl : es.length ≤ 1000000) (hno : ¬ HasNo es v) :
    Calls Tryz.prog 74 #[.agg #[vv, ev, .int .i64 rd, .int .i64 wr_0], .int .i64 v] w fun e w' => Hid (AnsGE w vv ev vs es rd wr_0 (0, 0, 0, 0) 6 e w') := by
  obtain ⟨t1, t2, t3, t4, t5⟩ := three_boxes w (oG vv ev rd wr_0); obtain ⟨c0, c1, c2, c3, cf⟩ := cellsG t1; have HF : Hid (∀ W, Below w.heap.size w W → NRow W vv vs ∧ GRow 0 W ev es) := fun W hW => ⟨nrow_below h hW, grow_below hE hW⟩
  have CH : Hid (Calls Tryz.prog 38 #[.agg #[vv, ev, .int .i64 rd, .int .i64 wr_0], .int .i64 v] (((w.alloc (oG vv ev rd wr_0)).alloc oZ).alloc o34) fun e w2 => e = .returned (.int .i64 (-1)) ∧ Hid (w2.heap[w.heap.size + 1]? = some oZ ∧ w2.heap[w.heap.size + 2]? = some o34 ∧ w2.heap[w.heap.size]? = some (oG vv ev rd wr_0) ∧ Below w.heap.size w w2)) := by
    refine (refAt v (grow_below hE t4) hl).mono ?_
    rintro e w2 ⟨r, rfl, g⟩
    obtain ⟨g1, g2⟩ := unhide g; have hr : r = -1 := by
      rcases g1 with ⟨i, a, rfl, k1, k2, -⟩ | ⟨e, -⟩
      · exact absurd ⟨i, a, k1, k2⟩ hno
      · exact e
    subst hr; have gs := g2.size; exact ⟨rfl, (g2.block _ (by omega)).trans t2, (g2.block _ (by omega)).trans t3, (g2.block _ (by omega)).trans t1, t4.trans (g2.mono (by omega))⟩
  obtain ⟨va, vc, hvv, -⟩ := brow_shape h; obtain ⟨vn, hvv'⟩ : ∃ vn, vv = .slice va vn vc := ⟨_, hvv⟩; obtain ⟨ea, en, ec, hev⟩ := grow_shape hE; clear t1 t2 t3 t4 t5 h hE hvv hl hno; subst hvv' hev
  go_enter Tryz.func74, Tryz.ntmps74
  go_upto_region 1 with fail
  change Code.wp _ _ _ _ (((w.alloc (oG (.slice va vn vc) (.slice ea en ec) rd wr_0)).alloc oZ).alloc o34); generalize ((w.alloc (oG (.slice va vn vc) (.slice ea en ec) rd wr_0)).alloc oZ).alloc o34 = wb at *; have hne1 : ¬ w.heap.size = w.heap.size + 1 := by omega
  generalize hb2 : w.heap.size + 2 = b2 at *; generalize hb1 : w.heap.size + 1 = b1 at *; generalize hbb : w.heap.size = bb at *
  go_wp2_with fail
  refine (unhide CH).mono ?_
  rintro e w2 ⟨rfl, h2⟩
  obtain ⟨k1, k2, k3, k4⟩ := unhide h2; clear c0 c1 c2 c3 cf CH h2; obtain ⟨c0, c1, c2, c3, cf⟩ := cellsG k3; obtain ⟨d0, d1, d2, d3, df⟩ := cellsG (vv := .slice none 0 0) (ev := .slice none 0 0) (rd := 0) (wr := 0) k1; obtain ⟨x0, x1, x2, x3, xf⟩ := cells34 k2; have HT1 := hide k1; have HT2 := hide k2; have HB := hide k4; have n1 : ¬ bb = b1 := by omega
  have n2 : ¬ b1 = bb := by omega
  have n3 : ¬ bb = b2 := by omega
  have n4 : ¬ b2 = bb := by omega
  have n5 : ¬ b1 = b2 := by omega
  have n6 : ¬ b2 = b1 := by omega
  clear k1 k2 k3 k4
  go_wp2_with fail
  (try simp only [Exit.inBlock, Exit.then])
  change bodyPost _ _ _ _ _ (set4 (set4 w2 b1 _ _ _ _) b2 _ _ _ _); refine bodyPost_ret (results_cell_cell_tmp rfl _ _ _ ⟨b1, 0, none⟩ ⟨b2, 0, none⟩ _ _ rfl rfl (loadG _ _ _ _ _ _ ((set4_other n5 _ _ _ _).trans (set4G_at (unhide HT1) _ _ _ _))) (load34 _ _ _ _ _ _ (set4_at ((set4_other n6 _ _ _ _).trans (unhide HT2)) _ _ _ _))) rfl ?_; have hB := set4_below (set4_below (unhide HB) (by omega : bb ≤ b1) (.slice va vn vc) (.slice ea en ec) (.int .i64 rd) (.int .i64 wr_0)) (by omega : bb ≤ b2) (.int .i64 0) (.int .i64 0) (.int .i64 0) (.int .u32 0)
  exact ⟨_, _, rfl, (unhide HF _ hB).1, (unhide HF _ hB).2, by first | exact hB | (rw [hbb]; exact hB), Apt.refl _ _, Apt.refl _ _⟩
set_option maxHeartbeats 2000000 in
set_option maxRecDepth 100000 in
theorem refEdge {w : World} {vv ev : Value} {rd wr_0 : Int} {vs : List Int} {es : List EdgeV} (v : Int) (h : NRow w vv vs) (hE : GRow 0 w ev es) (hl : es.length ≤ 1000000) (hr0 : 0 ≤ rd) (hr1 : rd ≤ 1000000000) {x : EdgeV} (hx : ∃ i : Nat, es[i]? = some x) (hxv : x.1 = v) (hone : ∀ (i j : Nat) (a b : EdgeV), es[i]? = some a → es[j]? = some b → a.1 = b.1 → a = b) :
    Calls Tryz.prog 74 #[.agg #[vv, ev, .int .i64 rd, .int .i64 wr_0], .int .i64 v] w fun e w' => Hid (AnsGE w vv ev vs es (rd + 1) wr_0 x 0 e w') := by
  obtain ⟨t1, t2, t3, t4, t5⟩ := three_boxes w (oG vv ev rd wr_0); obtain ⟨c0, c1, c2, c3, cf⟩ := cellsG t1; have HF : Hid (∀ W, Below w.heap.size w W → NRow W vv vs ∧ GRow 0 W ev es) := fun W hW => ⟨nrow_below h hW, grow_below hE hW⟩
  have CH : Hid (Calls Tryz.prog 38 #[.agg #[vv, ev, .int .i64 rd, .int .i64 wr_0], .int .i64 v] (((w.alloc (oG vv ev rd wr_0)).alloc oZ).alloc o34) fun e w2 => ∃ (i : Nat) (g : Nat) (c : Nat), e = .returned (.int .i64 (i : Int)) ∧ (ev = .slice (some ⟨g, 0, none⟩) es.length c ∧ i < es.length ∧ g < w.heap.size ∧ w2.cell? ⟨g, i * 4, none⟩ = some (.int .i64 x.1) ∧ w2.cell? ⟨g, i * 4 + 1, none⟩ = some (.int .i64 x.2.1) ∧ w2.cell? ⟨g, i * 4 + 2, none⟩ = some (.int .i64 x.2.2.1) ∧ w2.cell? ⟨g, i * 4 + 3, none⟩ = some (.int .u32 x.2.2.2)) ∧ Hid (w2.heap[w.heap.size + 1]? = some oZ ∧ w2.heap[w.heap.size + 2]? = some o34 ∧ w2.heap[w.heap.size]? = some (oG vv ev rd wr_0) ∧ Below w.heap.size w w2)) := by
    refine (refAt v (grow_below hE t4) hl).mono ?_
    rintro e w2 ⟨r, rfl, g⟩
    obtain ⟨g1, g2⟩ := unhide g; obtain ⟨i0, hi0⟩ := hx; obtain ⟨i, a, rfl, k1, k2, -⟩ : ∃ (i : Nat) (a : EdgeV), r = (i : Int) ∧ es[i]? = some a ∧ a.1 = v ∧ ∀ (j : Nat) (b : EdgeV), j < i → es[j]? = some b → b.1 ≠ v := by
      rcases g1 with h | ⟨-, h⟩
      · exact h
      · exact absurd hxv (h i0 x hi0)
    have hax : a = x := hone i i0 a x k1 hi0 (k2.trans hxv.symm); subst hax; have hil := (List.getElem?_eq_some_iff.1 k1).1; have hEw := grow_below (grow_below hE t4) g2; obtain ⟨g, c, eg, hc⟩ := grow_at hEw (by omega)
    have hgw : g < w.heap.size := (hE.lt g (by rw [eg]; rfl)).2
    obtain ⟨y0, y1, y2, y3⟩ := hc i a k1; have gs := g2.size; exact ⟨i, g, c, rfl, ⟨eg, hil, hgw, y0, y1, y2, y3⟩, (g2.block _ (by omega)).trans t2, (g2.block _ (by omega)).trans t3, (g2.block _ (by omega)).trans t1, t4.trans (g2.mono (by omega))⟩
  obtain ⟨va, vc, hvv, -⟩ := brow_shape h; obtain ⟨vn, hvv'⟩ : ∃ vn, vv = .slice va vn vc := ⟨_, hvv⟩; obtain ⟨ea, en, ec, hev⟩ := grow_shape hE; have hwr : IntKind.i64.wrap (rd + 1) = rd + 1 := by rw [IntKind.wrap_i64]; omega
  have HLE : Hid (es.length ≤ 1000000) := hl; clear t1 t2 t3 t4 t5 h hE hvv hl hx hxv hone hr0 hr1; subst hvv' hev
  go_enter Tryz.func74, Tryz.ntmps74
  go_upto_region 1 with fail
  change Code.wp _ _ _ _ (((w.alloc (oG (.slice va vn vc) (.slice ea en ec) rd wr_0)).alloc oZ).alloc o34); generalize ((w.alloc (oG (.slice va vn vc) (.slice ea en ec) rd wr_0)).alloc oZ).alloc o34 = wb at *; have hne1 : ¬ w.heap.size = w.heap.size + 1 := by omega
  generalize hb2 : w.heap.size + 2 = b2 at *; generalize hb1 : w.heap.size + 1 = b1 at *; generalize hbb : w.heap.size = bb at *
  go_wp2_with fail
  refine (unhide CH).mono ?_
  rintro e w2 ⟨i, g, c, rfl, ⟨eg, hil, hgw, y0, y1, y2, y3⟩, h2⟩
  injection eg with eg1 eg2 eg3
  subst eg1 eg2 eg3; obtain ⟨k1, k2, k3, k4⟩ := unhide h2; clear c0 c1 c2 c3 cf CH h2; obtain ⟨c0, c1, c2, c3, cf⟩ := cellsG k3; have HT1 := hide k1; have HT2 := hide k2; have HT3 := hide k3; have HB := hide k4; have n1 : ¬ bb = b1 := by omega
  have n2 : ¬ b1 = bb := by omega
  have n3 : ¬ bb = b2 := by omega
  have n4 : ¬ b2 = bb := by omega
  have n5 : ¬ b1 = b2 := by omega
  have n6 : ¬ b2 = b1 := by omega
  have n7 : ¬ g = bb := by omega
  have n8 : ¬ bb = g := by omega
  have n9 : ¬ g = b1 := by omega
  have n10 : ¬ g = b2 := by omega
  have hz : (i : Int) < (es.length : Int) := by omega
  have hi0 : ¬ (i : Int) < 0 := by omega
  clear k1 k2 k3 k4
  go_upto_region 5 with fail
  have e1 : (w2.setCell ⟨bb, 2, none⟩ (.int .i64 (rd + 1))).heap[b1]? = some oZ := (heap_setCell_other _ _ _ _ n2).trans (unhide HT1); have e2 : (w2.setCell ⟨bb, 2, none⟩ (.int .i64 (rd + 1))).heap[b2]? = some o34 := (heap_setCell_other _ _ _ _ n4).trans (unhide HT2); have e3 : (w2.setCell ⟨bb, 2, none⟩ (.int .i64 (rd + 1))).heap[bb]? = some (oG (.slice va vn vc) (.slice (some ⟨g, 0, none⟩) es.length ec) (rd + 1) wr_0) := by rw [heap_setCell_same _ _ _ _ _ _ (unhide HT3)]; rfl
  have e4 : ∀ o, (w2.setCell ⟨bb, 2, none⟩ (.int .i64 (rd + 1))).cell? ⟨g, o, none⟩ = w2.cell? ⟨g, o, none⟩ := fun o => cell_of_heap (heap_setCell_other _ _ _ _ n7)
  have HB3 : Hid (Below bb w (w2.setCell ⟨bb, 2, none⟩ (.int .i64 (rd + 1)))) := (unhide HB).setCell (p := ⟨bb, 2, none⟩) (Nat.le_refl _) _; rw [← e4] at y0 y1 y2 y3; clear e4 HT1 HT2 HT3 HB c0 c1 c2 c3 cf; generalize w2.setCell ⟨bb, 2, none⟩ (.int .i64 (rd + 1)) = w3 at *; obtain ⟨c0, c1, c2, c3, cf⟩ := cellsG e3; obtain ⟨d0, d1, d2, d3, df⟩ := cellsG (vv := .slice none 0 0) (ev := .slice none 0 0) (rd := 0) (wr := 0) e1; obtain ⟨x0, x1, x2, x3, xf⟩ := cells34 e2; have HT1 := hide e1; have HT2 := hide e2; have HB := hide (unhide HB3); clear e1 e2 e3 HB3
  go_region
  all_goals
    go_wp2_with fail
    change bodyPost _ _ _ _ _ (set4 (set4 w3 b1 (.slice va vn vc) (.slice (some ⟨g, 0, none⟩) es.length ec) (.int .i64 (rd + 1)) (.int .i64 wr_0)) b2 (.int .i64 x.1) (.int .i64 x.2.1) (.int .i64 x.2.2.1) (.int .u32 x.2.2.2)).drew; have hB : Below bb w (set4 (set4 w3 b1 (.slice va vn vc) (.slice (some ⟨g, 0, none⟩) es.length ec) (.int .i64 (rd + 1)) (.int .i64 wr_0)) b2 (.int .i64 x.1) (.int .i64 x.2.1) (.int .i64 x.2.2.1) (.int .u32 x.2.2.2)).drew := (set4_below (set4_below (unhide HB) (by omega : bb ≤ b1) _ _ _ _) (by omega : bb ≤ b2) _ _ _ _).drew
    have e1 : ((set4 (set4 w3 b1 (.slice va vn vc) (.slice (some ⟨g, 0, none⟩) es.length ec) (.int .i64 (rd + 1)) (.int .i64 wr_0)) b2 (.int .i64 x.1) (.int .i64 x.2.1) (.int .i64 x.2.2.1) (.int .u32 x.2.2.2)).drew).heap[b1]? = some (oG (.slice va vn vc) (.slice (some ⟨g, 0, none⟩) es.length ec) (rd + 1) wr_0) := drewAt ((set4_other n5 _ _ _ _).trans (set4G_at (unhide HT1) _ _ _ _)); have e2 : ((set4 (set4 w3 b1 (.slice va vn vc) (.slice (some ⟨g, 0, none⟩) es.length ec) (.int .i64 (rd + 1)) (.int .i64 wr_0)) b2 (.int .i64 x.1) (.int .i64 x.2.1) (.int .i64 x.2.2.1) (.int .u32 x.2.2.2)).drew).heap[b2]? = some (.cells #[.int .i64 x.1, .int .i64 x.2.1, .int .i64 x.2.2.1, .int .u32 x.2.2.2] 64 (0, 0)) := drewAt (set4_at ((set4_other n6 _ _ _ _).trans (unhide HT2)) _ _ _ _); generalize (set4 (set4 w3 b1 (.slice va vn vc) (.slice (some ⟨g, 0, none⟩) es.length ec) (.int .i64 (rd + 1)) (.int .i64 wr_0)) b2 (.int .i64 x.1) (.int .i64 x.2.1) (.int .i64 x.2.2.1) (.int .u32 x.2.2.2)).drew = w4 at *; clear HT1 HT2 HB c0 c1 c2 c3 cf d0 d1 d2 d3 df x0 x1 x2 x3 xf y0 y1 y2 y3; refine bodyPost_ret (results_cell_cell_tmp rfl _ _ _ ⟨b1, 0, none⟩ ⟨b2, 0, none⟩ _ _ rfl rfl (loadG _ _ _ _ _ _ e1) (load34 _ _ _ _ _ _ e2)) rfl ?_; have hF := unhide HF _ hB; exact ⟨_, _, rfl, hF.1, hF.2, by rw [hbb]; exact hB, Apt.refl _ _, Apt.refl _ _⟩
end

end Go.Proofs.YtagibmgbjhemkaaGreat

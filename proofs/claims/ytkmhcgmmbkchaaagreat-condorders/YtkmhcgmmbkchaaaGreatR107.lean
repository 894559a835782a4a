/- The reference's DropArc of layer 10. -/
import Derived.Test.YtkmhcgmmbkchaaaGreatG2
import Derived.Test.YtkmhcgmmbkchaaaGreatEd10
namespace Go.Proofs.YtkmhcgmmbkchaaaGreat

section
open Go.RowKit Go.Maps T9
/-- What a call of the reference answers: a graph and one thing more. -/
def AnsX (w : World) (vv0 ev0 : Value) (vs : List Int) (es : List EdgeV) (rd wr : Int) (x : Value) (e : Ending) (w' : World) : Prop :=
  ∃ vv ev, e = .returned (.tuple #[.agg #[vv, ev, .int .i64 rd, .int .i64 wr], x]) ∧ NRow w' vv vs ∧ GRow 0 w' ev es ∧ Below w.heap.size w w' ∧ Apt w vv0 vv ∧ Apt w ev0 ev
/-- The two boxes of such a call. -/
structure RW (w : World) (bb b1 : Nat) (vv ev : Value) (rd wr : Int) (W : World) : Prop where
  res : W.heap[b1]? = some oZ
  box : W.heap[bb]? = some (oG vv ev rd wr)
  low : Below bb w W
  lt : bb < b1
theorem RW.next {w W W' : World} {bb b1 : Nat} {vv ev : Value} {rd wr : Int} (h : RW w bb b1 vv ev rd wr W) (hb : Below W.heap.size W W') : RW w bb b1 vv ev rd wr W' := by
  have h1 := heap_lt h.res
  have h2 := heap_lt h.box
  exact ⟨(hb.block b1 h1).trans h.res, (hb.block bb h2).trans h.box, h.low.trans (hb.mono (by omega)), h.lt⟩
theorem at_none {es : List EdgeV} {e r : Int} (h : AtIs es e r) (hno : ∀ x ∈ es, x.1 ≠ e) : r = -1 := by
  rcases h with ⟨i, a, rfl, k1, k2, -⟩ | ⟨q, -⟩
  · exact absurd k2 (hno a (List.mem_of_getElem? k1))
  · exact q
theorem at_some {es : List EdgeV} {e r : Int} (h : AtIs es e r) (hs : ∃ x ∈ es, x.1 = e) : ∃ (i : Nat) (a : EdgeV), r = (i : Int) ∧ es[i]? = some a ∧ a.1 = e := by
  rcases h with ⟨i, a, rfl, k1, k2, -⟩ | ⟨-, q⟩
  · exact ⟨i, a, rfl, k1, k2⟩
  · obtain ⟨x, hx, e1⟩ := hs
    obtain ⟨j, hj⟩ := List.getElem?_of_mem hx
    exact absurd e1 (q j x hj)
theorem place_in {V : List Int} {x : Int} (h : x ∈ V) : placeOf V x = (V.idxOf x : Nat) := if_pos h
theorem place_out {V : List Int} {x : Int} (h : x ∉ V) : placeOf V x = -1 := if_neg h
set_option maxHeartbeats 4000000 in
set_option maxRecDepth 100000 in
theorem refAVIn {w : World} {vv ev : Value} {rd wr_0 : Int} {vs : List Int} {es : List EdgeV} {v : Int} (h : NRow w vv vs) (hE : GRow 0 w ev es) (hs : vs.Pairwise (· < ·)) (hl : vs.length ≤ 90000) (hl2 : es.length ≤ 100000) (hv : v ∈ vs) :
    Calls Tryz.prog 24 #[.agg #[vv, ev, .int .i64 rd, .int .i64 wr_0], .int .i64 v] w fun e w' => Hid (AnsX w vv ev vs es rd wr_0 (.bool false) e w') := by
  obtain ⟨t1, t2, t3, t4⟩ := two_boxes w (oG vv ev rd wr_0)
  obtain ⟨c0, c1, c2, c3, cf⟩ := cellsG t1
  obtain ⟨d0, d1, d2, d3, df⟩ := cellsG (b := w.heap.size + 1) (vv := .slice none 0 0) (ev := .slice none 0 0) (rd := 0) (wr := 0) t2
  have HF : Hid (∀ W, Below w.heap.size w W → NRow W vv vs ∧ GRow 0 W ev es) := fun W hW => ⟨nrow_below h hW, grow_below hE hW⟩
  have HT0 : Hid (RW w w.heap.size (w.heap.size + 1) vv ev rd wr_0 ((w.alloc (oG vv ev rd wr_0)).alloc oZ)) := ⟨t2, t1, t3, by omega⟩
  obtain ⟨va, vc, hvv, -⟩ := brow_shape h
  obtain ⟨vn, hvv', hvn⟩ : ∃ vn, vv = .slice va vn vc ∧ vn = vs.length := ⟨_, hvv, rfl⟩
  obtain ⟨ea, en, ec, hev⟩ := grow_shape hE
  have hne : ¬ w.heap.size = w.heap.size + 1 := by omega
  have hne2 : ¬ w.heap.size + 1 = w.heap.size := by omega
  have HN : Hid (vn = vs.length ∧ vs.length ≤ 90000 ∧ es.length ≤ 100000 ∧ vs.Pairwise (· < ·)) := ⟨hvn, hl, hl2, hs⟩
  obtain ⟨k, hk⟩ : ∃ k : Nat, k = vs.idxOf v := ⟨_, rfl⟩
  have CP : Hid (∀ W, RW w w.heap.size (w.heap.size + 1) vv ev rd wr_0 W → Calls Tryz.prog 47 #[.agg #[vv, ev, .int .i64 rd, .int .i64 wr_0], .int .i64 v] W fun e w2 => e = .returned (.int .i64 ((k : Nat))) ∧ Hid (Below W.heap.size W w2)) := fun W hW => (placeS (x := v) (nrow_below h hW.low) hs (by omega)).mono fun e w2 hh => ⟨by rw [hh.1]; rw [place_in hv, hk], hh.2⟩
  replace CP := hide (unhide CP _ (unhide HT0))
  have z1 : (0 : Int) ≤ (k : Int) := by omega
  clear hk hv
  clear t1 t2 t3 t4 h hE hvv hvn hl hl2 hs
  subst hvv' hev
  go_enter Tryz.func24, Tryz.ntmps24
  go_upto_region 1 with fail
  change Code.wp _ _ _ _ ((w.alloc (oG (.slice va vn vc) (.slice ea en ec) rd wr_0)).alloc oZ)
  generalize (w.alloc (oG (.slice va vn vc) (.slice ea en ec) rd wr_0)).alloc oZ = wb at *
  generalize hb1 : w.heap.size + 1 = b1 at *
  generalize hbb : w.heap.size = bb at *
  go_wp2_with fail
  refine (unhide CP).mono ?_
  rintro e w2 ⟨rfl, hR1⟩
  have HT1 : Hid (RW w bb b1 (.slice va vn vc) (.slice ea en ec) rd wr_0 w2) := (unhide HT0).next (unhide hR1)
  clear c0 c1 c2 c3 cf d0 d1 d2 d3 df CP hR1
  obtain ⟨c0, c1, c2, c3, cf⟩ := cellsG (unhide HT1).box
  obtain ⟨d0, d1, d2, d3, df⟩ := cellsG (vv := .slice none 0 0) (ev := .slice none 0 0) (rd := 0) (wr := 0) (unhide HT1).res
  go_wp2_with fail
  (try simp only [Exit.inBlock, Exit.then])
  change bodyPost _ _ _ _ _ (set4 w2 b1 _ _ _ _)
  refine bodyPost_ret (resG rfl _ _ b1 _ _ _ _ rfl (set4G_at (unhide HT1).res _ _ _ _)) rfl ?_
  have hB := set4_below (unhide HT1).low (by omega : bb ≤ b1) (.slice va vn vc) (.slice ea en ec) (.int .i64 rd) (.int .i64 wr_0)
  exact ⟨_, _, rfl, (unhide HF _ hB).1, (unhide HF _ hB).2, by first | exact hB | (rw [hbb]; exact hB), Apt.refl _ _, Apt.refl _ _⟩
set_option maxHeartbeats 4000000 in
set_option maxRecDepth 100000 in
theorem refDVNone {w : World} {vv ev : Value} {rd wr_0 : Int} {vs : List Int} {es : List EdgeV} {v : Int} (h : NRow w vv vs) (hE : GRow 0 w ev es) (hs : vs.Pairwise (· < ·)) (hl : vs.length ≤ 90000) (hl2 : es.length ≤ 100000) (hv : v ∉ vs) :
    Calls Tryz.prog 25 #[.agg #[vv, ev, .int .i64 rd, .int .i64 wr_0], .int .i64 v] w fun e w' => Hid (AnsX w vv ev vs es rd wr_0 (.bool false) e w') := by
  obtain ⟨t1, t2, t3, t4⟩ := two_boxes w (oG vv ev rd wr_0)
  obtain ⟨c0, c1, c2, c3, cf⟩ := cellsG t1
  obtain ⟨d0, d1, d2, d3, df⟩ := cellsG (b := w.heap.size + 1) (vv := .slice none 0 0) (ev := .slice none 0 0) (rd := 0) (wr := 0) t2
  have HF : Hid (∀ W, Below w.heap.size w W → NRow W vv vs ∧ GRow 0 W ev es) := fun W hW => ⟨nrow_below h hW, grow_below hE hW⟩
  have HT0 : Hid (RW w w.heap.size (w.heap.size + 1) vv ev rd wr_0 ((w.alloc (oG vv ev rd wr_0)).alloc oZ)) := ⟨t2, t1, t3, by omega⟩
  obtain ⟨va, vc, hvv, -⟩ := brow_shape h
  obtain ⟨vn, hvv', hvn⟩ : ∃ vn, vv = .slice va vn vc ∧ vn = vs.length := ⟨_, hvv, rfl⟩
  obtain ⟨ea, en, ec, hev⟩ := grow_shape hE
  have hne : ¬ w.heap.size = w.heap.size + 1 := by omega
  have hne2 : ¬ w.heap.size + 1 = w.heap.size := by omega
  have HN : Hid (vn = vs.length ∧ vs.length ≤ 90000 ∧ es.length ≤ 100000 ∧ vs.Pairwise (· < ·)) := ⟨hvn, hl, hl2, hs⟩
  have CP : Hid (∀ W, RW w w.heap.size (w.heap.size + 1) vv ev rd wr_0 W → Calls Tryz.prog 47 #[.agg #[vv, ev, .int .i64 rd, .int .i64 wr_0], .int .i64 v] W fun e w2 => e = .returned (.int .i64 (-1)) ∧ Hid (Below W.heap.size W w2)) := fun W hW => (placeS (x := v) (nrow_below h hW.low) hs (by omega)).mono fun e w2 hh => ⟨by rw [hh.1]; rw [place_out hv], hh.2⟩
  replace CP := hide (unhide CP _ (unhide HT0))
  have z1 : (-1 : Int) < 0 := by omega
  have z2 : decide ((-1 : Int) < 0) = true := by decide
  clear hv
  clear t1 t2 t3 t4 h hE hvv hvn hl hl2 hs
  subst hvv' hev
  go_enter Tryz.func25, Tryz.ntmps25
  go_upto_region 1 with fail
  change Code.wp _ _ _ _ ((w.alloc (oG (.slice va vn vc) (.slice ea en ec) rd wr_0)).alloc oZ)
  generalize (w.alloc (oG (.slice va vn vc) (.slice ea en ec) rd wr_0)).alloc oZ = wb at *
  generalize hb1 : w.heap.size + 1 = b1 at *
  generalize hbb : w.heap.size = bb at *
  go_wp2_with fail
  refine (unhide CP).mono ?_
  rintro e w2 ⟨rfl, hR1⟩
  have HT1 : Hid (RW w bb b1 (.slice va vn vc) (.slice ea en ec) rd wr_0 w2) := (unhide HT0).next (unhide hR1)
  clear c0 c1 c2 c3 cf d0 d1 d2 d3 df CP hR1
  obtain ⟨c0, c1, c2, c3, cf⟩ := cellsG (unhide HT1).box
  obtain ⟨d0, d1, d2, d3, df⟩ := cellsG (vv := .slice none 0 0) (ev := .slice none 0 0) (rd := 0) (wr := 0) (unhide HT1).res
  go_upto_region 2 with fail
  have HTQ : Hid (∀ q, RW w bb b1 (.slice va vn vc) (.slice ea en ec) rd wr_0 (w2.drewN q)) := fun q => (unhide HT1).next (below_drewN (Below.refl _ _) q)
  have HBQ : Hid (∀ q, Below bb w (set4 (w2.drewN q) b1 (.slice va vn vc) (.slice ea en ec) (.int .i64 rd) (.int .i64 wr_0))) := fun q => set4_below (unhide HTQ q).low (by omega : bb ≤ b1) _ _ _ _
  go_quiet (fail)
  go_wp2_with fail
  (try simp only [Exit.inBlock, Exit.then])
  change bodyPost _ _ _ _ _ (set4 (w2.drewN _) b1 _ _ _ _)
  refine bodyPost_ret (resG rfl _ _ b1 _ _ _ _ rfl (set4G_at (unhide HTQ _).res _ _ _ _)) rfl ?_
  exact ⟨_, _, rfl, (unhide HF _ (unhide HBQ _)).1, (unhide HF _ (unhide HBQ _)).2, by first | exact (unhide HBQ _) | (rw [hbb]; exact (unhide HBQ _)), Apt.refl _ _, Apt.refl _ _⟩
set_option maxHeartbeats 4000000 in
set_option maxRecDepth 100000 in
theorem refAATwice {w : World} {vv ev : Value} {rd wr_0 : Int} {vs : List Int} {es : List EdgeV} {e u v : Int} (h : NRow w vv vs) (hE : GRow 0 w ev es) (hs : vs.Pairwise (· < ·)) (hl : vs.length ≤ 90000) (hl2 : es.length ≤ 100000) (hv : ∃ x ∈ es, x.1 = e) :
    Calls Tryz.prog 27 #[.agg #[vv, ev, .int .i64 rd, .int .i64 wr_0], .int .i64 e, .int .i64 u, .int .i64 v] w fun r w' => Hid (AnsX w vv ev vs es rd wr_0 (.int .i64 2) r w') := by
  obtain ⟨t1, t2, t3, t4⟩ := two_boxes w (oG vv ev rd wr_0)
  obtain ⟨c0, c1, c2, c3, cf⟩ := cellsG t1
  obtain ⟨d0, d1, d2, d3, df⟩ := cellsG (b := w.heap.size + 1) (vv := .slice none 0 0) (ev := .slice none 0 0) (rd := 0) (wr := 0) t2
  have HF : Hid (∀ W, Below w.heap.size w W → NRow W vv vs ∧ GRow 0 W ev es) := fun W hW => ⟨nrow_below h hW, grow_below hE hW⟩
  have HT0 : Hid (RW w w.heap.size (w.heap.size + 1) vv ev rd wr_0 ((w.alloc (oG vv ev rd wr_0)).alloc oZ)) := ⟨t2, t1, t3, by omega⟩
  obtain ⟨va, vc, hvv, -⟩ := brow_shape h
  obtain ⟨vn, hvv', hvn⟩ : ∃ vn, vv = .slice va vn vc ∧ vn = vs.length := ⟨_, hvv, rfl⟩
  obtain ⟨ea, en, ec, hev⟩ := grow_shape hE
  have hne : ¬ w.heap.size = w.heap.size + 1 := by omega
  have hne2 : ¬ w.heap.size + 1 = w.heap.size := by omega
  have HN : Hid (vn = vs.length ∧ vs.length ≤ 90000 ∧ es.length ≤ 100000 ∧ vs.Pairwise (· < ·)) := ⟨hvn, hl, hl2, hs⟩
  have CP : Hid (Calls Tryz.prog 14 #[.agg #[vv, ev, .int .i64 rd, .int .i64 wr_0], .int .i64 e] ((w.alloc (oG vv ev rd wr_0)).alloc oZ) fun r w2 => ∃ k : Nat, r = .returned (.int .i64 (k : Nat)) ∧ Hid (Below ((w.alloc (oG vv ev rd wr_0)).alloc oZ).heap.size ((w.alloc (oG vv ev rd wr_0)).alloc oZ) w2)) := (refAt e (grow_below hE t3) (by omega)).mono fun r w2 hh => by
    obtain ⟨r, rfl, g⟩ := hh
    obtain ⟨g1, g2⟩ := unhide g
    obtain ⟨i, a, rfl, -, -⟩ := at_some g1 hv
    exact ⟨i, rfl, g2⟩
  clear hv
  clear t1 t2 t3 t4 h hE hvv hvn hl hl2 hs
  subst hvv' hev
  go_enter Tryz.func27, Tryz.ntmps27
  go_upto_region 1 with fail
  change Code.wp _ _ _ _ ((w.alloc (oG (.slice va vn vc) (.slice ea en ec) rd wr_0)).alloc oZ)
  generalize (w.alloc (oG (.slice va vn vc) (.slice ea en ec) rd wr_0)).alloc oZ = wb at *
  generalize hb1 : w.heap.size + 1 = b1 at *
  generalize hbb : w.heap.size = bb at *
  go_wp2_with fail
  refine (unhide CP).mono ?_
  rintro r w2 ⟨k, rfl, hR1⟩
  have z1 : (0 : Int) ≤ (k : Int) := by omega
  have HT1 : Hid (RW w bb b1 (.slice va vn vc) (.slice ea en ec) rd wr_0 w2) := (unhide HT0).next (unhide hR1)
  clear c0 c1 c2 c3 cf d0 d1 d2 d3 df CP hR1
  obtain ⟨c0, c1, c2, c3, cf⟩ := cellsG (unhide HT1).box
  obtain ⟨d0, d1, d2, d3, df⟩ := cellsG (vv := .slice none 0 0) (ev := .slice none 0 0) (rd := 0) (wr := 0) (unhide HT1).res
  go_wp2_with fail
  (try simp only [Exit.inBlock, Exit.then])
  change bodyPost _ _ _ _ _ (set4 w2 b1 _ _ _ _)
  refine bodyPost_ret (resG rfl _ _ b1 _ _ _ _ rfl (set4G_at (unhide HT1).res _ _ _ _)) rfl ?_
  have hB := set4_below (unhide HT1).low (by omega : bb ≤ b1) (.slice va vn vc) (.slice ea en ec) (.int .i64 rd) (.int .i64 wr_0)
  exact ⟨_, _, rfl, (unhide HF _ hB).1, (unhide HF _ hB).2, by first | exact hB | (rw [hbb]; exact hB), Apt.refl _ _, Apt.refl _ _⟩
set_option maxHeartbeats 4000000 in
set_option maxRecDepth 100000 in
theorem refAANoU {w : World} {vv ev : Value} {rd wr_0 : Int} {vs : List Int} {es : List EdgeV} {e u v : Int} (h : NRow w vv vs) (hE : GRow 0 w ev es) (hs : vs.Pairwise (· < ·)) (hl : vs.length ≤ 90000) (hl2 : es.length ≤ 100000) (hno : ∀ x ∈ es, x.1 ≠ e) (hu : u ∉ vs) :
    Calls Tryz.prog 27 #[.agg #[vv, ev, .int .i64 rd, .int .i64 wr_0], .int .i64 e, .int .i64 u, .int .i64 v] w fun r w' => Hid (AnsX w vv ev vs es rd wr_0 (.int .i64 5) r w') := by
  obtain ⟨t1, t2, t3, t4⟩ := two_boxes w (oG vv ev rd wr_0)
  obtain ⟨c0, c1, c2, c3, cf⟩ := cellsG t1
  obtain ⟨d0, d1, d2, d3, df⟩ := cellsG (b := w.heap.size + 1) (vv := .slice none 0 0) (ev := .slice none 0 0) (rd := 0) (wr := 0) t2
  have HF : Hid (∀ W, Below w.heap.size w W → NRow W vv vs ∧ GRow 0 W ev es) := fun W hW => ⟨nrow_below h hW, grow_below hE hW⟩
  have HT0 : Hid (RW w w.heap.size (w.heap.size + 1) vv ev rd wr_0 ((w.alloc (oG vv ev rd wr_0)).alloc oZ)) := ⟨t2, t1, t3, by omega⟩
  obtain ⟨va, vc, hvv, -⟩ := brow_shape h
  obtain ⟨vn, hvv', hvn⟩ : ∃ vn, vv = .slice va vn vc ∧ vn = vs.length := ⟨_, hvv, rfl⟩
  obtain ⟨ea, en, ec, hev⟩ := grow_shape hE
  have hne : ¬ w.heap.size = w.heap.size + 1 := by omega
  have hne2 : ¬ w.heap.size + 1 = w.heap.size := by omega
  have HN : Hid (vn = vs.length ∧ vs.length ≤ 90000 ∧ es.length ≤ 100000 ∧ vs.Pairwise (· < ·)) := ⟨hvn, hl, hl2, hs⟩
  have CA : Hid (∀ W, RW w w.heap.size (w.heap.size + 1) vv ev rd wr_0 W → Calls Tryz.prog 14 #[.agg #[vv, ev, .int .i64 rd, .int .i64 wr_0], .int .i64 e] W fun e w2 => e = .returned (.int .i64 (-1)) ∧ Hid (Below W.heap.size W w2)) := fun W hW => (refAt e (grow_below hE hW.low) (by omega)).mono fun e w2 hh => by
    obtain ⟨r, rfl, g⟩ := hh
    obtain ⟨g1, g2⟩ := unhide g
    obtain rfl := at_none g1 hno
    exact ⟨rfl, g2⟩
  have CU : Hid (∀ W, RW w w.heap.size (w.heap.size + 1) vv ev rd wr_0 W → Calls Tryz.prog 47 #[.agg #[vv, ev, .int .i64 rd, .int .i64 wr_0], .int .i64 u] W fun e w2 => e = .returned (.int .i64 (-1)) ∧ Hid (Below W.heap.size W w2)) := fun W hW => (placeS (x := u) (nrow_below h hW.low) hs (by omega)).mono fun e w2 hh => ⟨by rw [hh.1]; rw [place_out hu], hh.2⟩
  have z1 : ¬ (0 : Int) ≤ -1 := by omega
  replace CA := hide (unhide CA _ (unhide HT0))
  clear hno hu
  clear t1 t2 t3 t4 h hE hvv hvn hl hl2 hs
  subst hvv' hev
  go_enter Tryz.func27, Tryz.ntmps27
  go_upto_region 1 with fail
  change Code.wp _ _ _ _ ((w.alloc (oG (.slice va vn vc) (.slice ea en ec) rd wr_0)).alloc oZ)
  generalize (w.alloc (oG (.slice va vn vc) (.slice ea en ec) rd wr_0)).alloc oZ = wb at *
  generalize hb1 : w.heap.size + 1 = b1 at *
  generalize hbb : w.heap.size = bb at *
  go_wp2_with fail
  refine (unhide CA).mono ?_
  rintro e w2 ⟨rfl, hR1⟩
  have HT1 : Hid (RW w bb b1 (.slice va vn vc) (.slice ea en ec) rd wr_0 w2) := (unhide HT0).next (unhide hR1)
  clear c0 c1 c2 c3 cf d0 d1 d2 d3 df CA hR1
  obtain ⟨c0, c1, c2, c3, cf⟩ := cellsG (unhide HT1).box
  obtain ⟨d0, d1, d2, d3, df⟩ := cellsG (vv := .slice none 0 0) (ev := .slice none 0 0) (rd := 0) (wr := 0) (unhide HT1).res
  replace CU := hide (unhide CU _ (unhide HT1))
  go_wp2_with fail
  refine (unhide CU).mono ?_
  rintro e w3 ⟨rfl, hR2⟩
  have HT2 : Hid (RW w bb b1 (.slice va vn vc) (.slice ea en ec) rd wr_0 w3) := (unhide HT1).next (unhide hR2)
  clear c0 c1 c2 c3 cf d0 d1 d2 d3 df CU hR2
  obtain ⟨c0, c1, c2, c3, cf⟩ := cellsG (unhide HT2).box
  obtain ⟨d0, d1, d2, d3, df⟩ := cellsG (vv := .slice none 0 0) (ev := .slice none 0 0) (rd := 0) (wr := 0) (unhide HT2).res
  go_wp2_with fail
  (try simp only [Exit.inBlock, Exit.then])
  change bodyPost _ _ _ _ _ (set4 w3 b1 _ _ _ _)
  refine bodyPost_ret (resG rfl _ _ b1 _ _ _ _ rfl (set4G_at (unhide HT2).res _ _ _ _)) rfl ?_
  have hB := set4_below (unhide HT2).low (by omega : bb ≤ b1) (.slice va vn vc) (.slice ea en ec) (.int .i64 rd) (.int .i64 wr_0)
  exact ⟨_, _, rfl, (unhide HF _ hB).1, (unhide HF _ hB).2, by first | exact hB | (rw [hbb]; exact hB), Apt.refl _ _, Apt.refl _ _⟩
set_option maxHeartbeats 4000000 in
set_option maxRecDepth 100000 in
theorem refAANoV {w : World} {vv ev : Value} {rd wr_0 : Int} {vs : List Int} {es : List EdgeV} {e u v : Int} (h : NRow w vv vs) (hE : GRow 0 w ev es) (hs : vs.Pairwise (· < ·)) (hl : vs.length ≤ 90000) (hl2 : es.length ≤ 100000) (hno : ∀ x ∈ es, x.1 ≠ e) (hu : u ∈ vs) (hv : v ∉ vs) :
    Calls Tryz.prog 27 #[.agg #[vv, ev, .int .i64 rd, .int .i64 wr_0], .int .i64 e, .int .i64 u, .int .i64 v] w fun r w' => Hid (AnsX w vv ev vs es rd wr_0 (.int .i64 5) r w') := by
  obtain ⟨t1, t2, t3, t4⟩ := two_boxes w (oG vv ev rd wr_0)
  obtain ⟨c0, c1, c2, c3, cf⟩ := cellsG t1
  obtain ⟨d0, d1, d2, d3, df⟩ := cellsG (b := w.heap.size + 1) (vv := .slice none 0 0) (ev := .slice none 0 0) (rd := 0) (wr := 0) t2
  have HF : Hid (∀ W, Below w.heap.size w W → NRow W vv vs ∧ GRow 0 W ev es) := fun W hW => ⟨nrow_below h hW, grow_below hE hW⟩
  have HT0 : Hid (RW w w.heap.size (w.heap.size + 1) vv ev rd wr_0 ((w.alloc (oG vv ev rd wr_0)).alloc oZ)) := ⟨t2, t1, t3, by omega⟩
  obtain ⟨va, vc, hvv, -⟩ := brow_shape h
  obtain ⟨vn, hvv', hvn⟩ : ∃ vn, vv = .slice va vn vc ∧ vn = vs.length := ⟨_, hvv, rfl⟩
  obtain ⟨ea, en, ec, hev⟩ := grow_shape hE
  have hne : ¬ w.heap.size = w.heap.size + 1 := by omega
  have hne2 : ¬ w.heap.size + 1 = w.heap.size := by omega
  have HN : Hid (vn = vs.length ∧ vs.length ≤ 90000 ∧ es.length ≤ 100000 ∧ vs.Pairwise (· < ·)) := ⟨hvn, hl, hl2, hs⟩
  have CA : Hid (∀ W, RW w w.heap.size (w.heap.size + 1) vv ev rd wr_0 W → Calls Tryz.prog 14 #[.agg #[vv, ev, .int .i64 rd, .int .i64 wr_0], .int .i64 e] W fun e w2 => e = .returned (.int .i64 (-1)) ∧ Hid (Below W.heap.size W w2)) := fun W hW => (refAt e (grow_below hE hW.low) (by omega)).mono fun e w2 hh => by
    obtain ⟨r, rfl, g⟩ := hh
    obtain ⟨g1, g2⟩ := unhide g
    obtain rfl := at_none g1 hno
    exact ⟨rfl, g2⟩
  obtain ⟨k, hk⟩ : ∃ k : Nat, k = vs.idxOf u := ⟨_, rfl⟩
  have CU : Hid (∀ W, RW w w.heap.size (w.heap.size + 1) vv ev rd wr_0 W → Calls Tryz.prog 47 #[.agg #[vv, ev, .int .i64 rd, .int .i64 wr_0], .int .i64 u] W fun e w2 => e = .returned (.int .i64 ((k : Nat))) ∧ Hid (Below W.heap.size W w2)) := fun W hW => (placeS (x := u) (nrow_below h hW.low) hs (by omega)).mono fun e w2 hh => ⟨by rw [hh.1]; rw [place_in hu, hk], hh.2⟩
  have CV : Hid (∀ W, RW w w.heap.size (w.heap.size + 1) vv ev rd wr_0 W → Calls Tryz.prog 47 #[.agg #[vv, ev, .int .i64 rd, .int .i64 wr_0], .int .i64 v] W fun e w2 => e = .returned (.int .i64 (-1)) ∧ Hid (Below W.heap.size W w2)) := fun W hW => (placeS (x := v) (nrow_below h hW.low) hs (by omega)).mono fun e w2 hh => ⟨by rw [hh.1]; rw [place_out hv], hh.2⟩
  have z2 : ¬ (k : Int) < 0 := by omega
  clear hk hv
  have z1 : ¬ (0 : Int) ≤ -1 := by omega
  replace CA := hide (unhide CA _ (unhide HT0))
  clear hno hu
  clear t1 t2 t3 t4 h hE hvv hvn hl hl2 hs
  subst hvv' hev
  go_enter Tryz.func27, Tryz.ntmps27
  go_upto_region 1 with fail
  change Code.wp _ _ _ _ ((w.alloc (oG (.slice va vn vc) (.slice ea en ec) rd wr_0)).alloc oZ)
  generalize (w.alloc (oG (.slice va vn vc) (.slice ea en ec) rd wr_0)).alloc oZ = wb at *
  generalize hb1 : w.heap.size + 1 = b1 at *
  generalize hbb : w.heap.size = bb at *
  go_wp2_with fail
  refine (unhide CA).mono ?_
  rintro e w2 ⟨rfl, hR1⟩
  have HT1 : Hid (RW w bb b1 (.slice va vn vc) (.slice ea en ec) rd wr_0 w2) := (unhide HT0).next (unhide hR1)
  clear c0 c1 c2 c3 cf d0 d1 d2 d3 df CA hR1
  obtain ⟨c0, c1, c2, c3, cf⟩ := cellsG (unhide HT1).box
  obtain ⟨d0, d1, d2, d3, df⟩ := cellsG (vv := .slice none 0 0) (ev := .slice none 0 0) (rd := 0) (wr := 0) (unhide HT1).res
  replace CU := hide (unhide CU _ (unhide HT1))
  go_wp2_with fail
  refine (unhide CU).mono ?_
  rintro e w3 ⟨rfl, hR2⟩
  have HT2 : Hid (RW w bb b1 (.slice va vn vc) (.slice ea en ec) rd wr_0 w3) := (unhide HT1).next (unhide hR2)
  clear c0 c1 c2 c3 cf d0 d1 d2 d3 df CU hR2
  obtain ⟨c0, c1, c2, c3, cf⟩ := cellsG (unhide HT2).box
  obtain ⟨d0, d1, d2, d3, df⟩ := cellsG (vv := .slice none 0 0) (ev := .slice none 0 0) (rd := 0) (wr := 0) (unhide HT2).res
  replace CV := hide (unhide CV _ (unhide HT2))
  go_wp2_with fail
  refine (unhide CV).mono ?_
  rintro e w4 ⟨rfl, hR3⟩
  have HT3 : Hid (RW w bb b1 (.slice va vn vc) (.slice ea en ec) rd wr_0 w4) := (unhide HT2).next (unhide hR3)
  clear c0 c1 c2 c3 cf d0 d1 d2 d3 df CV hR3
  obtain ⟨c0, c1, c2, c3, cf⟩ := cellsG (unhide HT3).box
  obtain ⟨d0, d1, d2, d3, df⟩ := cellsG (vv := .slice none 0 0) (ev := .slice none 0 0) (rd := 0) (wr := 0) (unhide HT3).res
  go_wp2_with fail
  (try simp only [Exit.inBlock, Exit.then])
  change bodyPost _ _ _ _ _ (set4 w4 b1 _ _ _ _)
  refine bodyPost_ret (resG rfl _ _ b1 _ _ _ _ rfl (set4G_at (unhide HT3).res _ _ _ _)) rfl ?_
  have hB := set4_below (unhide HT3).low (by omega : bb ≤ b1) (.slice va vn vc) (.slice ea en ec) (.int .i64 rd) (.int .i64 wr_0)
  exact ⟨_, _, rfl, (unhide HF _ hB).1, (unhide HF _ hB).2, by first | exact hB | (rw [hbb]; exact hB), Apt.refl _ _, Apt.refl _ _⟩
end

section
open Go.RowKit Go.Maps T9
theorem run_append_zeroI (w : World) (base base2 : Option Addr) (l c c2 : Nat) (hlc : l ≤ c) (ty : TypeId) : (Builtin.append_ #[25, 25] ty #[.slice base l c, .slice base2 0 c2]).run Tryz.prog w = .ok (.slice base l c) w := by
  obtain ⟨i, hi, hz, hs, hb⟩ := info_parts info3
  have hl : ∀ (x : Addr), (loadCells x 0).run Tryz.prog w = .ok #[] w := fun x => by simpa using run_loadCells_list (P := Tryz.prog) w x [] (by simp)
  cases base <;> cases base2 <;> simp [Builtin.append_, run_underlying Tryz.underlying25, sizeOf, typeInfo, hi, Builtin.lenOf, Builtin.firstCells, hlc, storeCells, hl]
theorem run_appT10 {B : Nat} {w : World} (hB : B ≤ w.heap.size) {v : Value} {a ks : List Int} {g c i : Nat} (h1 : BRow B w v a) (h2 : NRow w (.slice (some ⟨g, 0, none⟩) ks.length c) ks) (hi : i < ks.length) (hl : a.length + ks.length ≤ 4000000) (c2 : Nat) :
    ∃ v' w', (∀ ty, (Builtin.append_ #[25, 25] ty #[v, .slice (some ⟨g, i, none⟩) (ks.length - i) c2]).run Tryz.prog w = .ok v' w') ∧ BRow B w' v' (a ++ ks.drop i) ∧ w.grownBy w' v.ownBlock := by
  obtain ⟨i0, hi0, hz, hs, hb⟩ := info_parts info3
  obtain ⟨v', w', hr, g1, g2, -, -⟩ := run_append_own_at (P := Tryz.prog) w B 25 0 3 i0 _ 1 8 Tryz.underlying25 hi0 hz hs hb rfl (by omega) v a.length (a.map (Value.int .i64)) h1 ⟨g, i, none⟩ (ks.length - i) c2 ((ks.drop i).map (Value.int .i64)) (by simp)
    (fun j u hj => by
      have hj' : j < ks.length - i := by have := (List.getElem?_eq_some_iff.1 hj).1; simpa using this
      have := (nrow_some h2).2.2.2.2 (i + j) (by omega)
      rw [addr_off, this]
      rw [List.getElem?_map, List.getElem?_drop, List.getElem?_eq_getElem (by omega)] at hj
      simpa [List.getD, show i + j < ks.length by omega] using hj) (ints_one _) (by unfold maxLen; omega) (by omega) hB
  refine ⟨v', w', fun ty => hr, ?_, g2⟩
  have e1 : a.map (Value.int .i64) ++ (ks.drop i).map (Value.int .i64) = (a ++ ks.drop i).map (Value.int .i64) := by simp
  have e2 : a.length + (ks.length - i) = (a ++ ks.drop i).length := by simp
  rw [e1, e2] at g1
  exact g1
theorem brow_nil_new (w : World) : BRow w.heap.size (w.alloc (.cells #[] 3)) (.slice (some ⟨w.heap.size, 0, none⟩) 0 0) [] :=
  ⟨rfl, .inr ⟨w.heap.size, 0, #[], rfl, Nat.le_refl _, heap_alloc_new w _, Nat.le_refl _, by unfold maxLen; omega, rfl, rfl⟩⟩
theorem grow_nil_new (w : World) : GRow w.heap.size (w.alloc (.cells #[] 45)) (.slice (some ⟨w.heap.size, 0, none⟩) 0 0) [] :=
  ⟨rfl, .inr ⟨w.heap.size, 0, #[], rfl, Nat.le_refl _, heap_alloc_new w _, Nat.le_refl _, by unfold maxLen; omega, rfl, rfl⟩⟩
theorem grown_below {w w' : World} {v : Value} {B : Nat} (h : w.grownBy w' v.ownBlock) (hB : B ≤ w.heap.size) (hv : ∀ b, v.ownBlock = some b → B ≤ b) : Below B w w' :=
  ⟨h.os, h.tape, h.output, h.size, fun k hk => h.block k (by omega) (fun e => by have := hv k e.symm; omega)⟩
theorem addV10_mem {w2 : World} {vv : Value} {vs : List Int} (hR : NRow w2 vv vs) (hl : vs.length ≤ 100000) (x : Int) :
    ∃ a4 n4 c4 w4, (∀ ty, (Builtin.append_ #[25, 25] ty #[.slice (some ⟨w2.heap.size, 0, none⟩) 0 0, vv]).run Tryz.prog (w2.alloc (.cells #[] 3)) = .ok (.slice a4 n4 c4) w4) ∧ Below w2.heap.size w2 w4 ∧
      ∃ a5 n5 c5 w5, (∀ ty, (Builtin.append_ #[25, 25] ty #[.slice a4 n4 c4, .slice (some ⟨w4.heap.size, 0, none⟩) 1 1]).run Tryz.prog (w4.alloc (.cells #[.int .i64 x] 3)) = .ok (.slice a5 n5 c5) w5) ∧ BRow w2.heap.size w5 (.slice a5 n5 c5) (vs ++ [x]) ∧ Below w2.heap.size w2 w5 := by
  have hb1 := below_new w2 (.cells #[] 3)
  have h0 := brow_nil_new w2
  obtain ⟨v4, w4, r4, g4, gg4⟩ := run_appN hb1.size h0 (nrow_below hR hb1) (by simp; omega)
  obtain ⟨a4, c4, rfl, -⟩ := brow_shape g4
  have hB4 : Below w2.heap.size w2 w4 := hb1.trans (grown_below gg4 hb1.size (fun b e => (h0.lt b e).1))
  rw [List.nil_append] at g4 r4
  obtain ⟨a5, n5, c5, w5, r5, g5, hB5⟩ := run_appI x g4 hB4.size (by omega)
  exact ⟨a4, _, c4, w4, r4, hB4, a5, n5, c5, w5, r5, g5, hB4.trans hB5⟩
theorem dropV10_mem {w2 : World} {g vc i : Nat} {vs : List Int} (hR : NRow w2 (.slice (some ⟨g, 0, none⟩) vs.length vc) vs) (hi : i < vs.length) (hl : vs.length ≤ 100000) :
    ∃ a5 n5 c5 w5, (∀ ty, (Builtin.append_ #[25, 25] ty #[.slice (some ⟨w2.heap.size, 0, none⟩) 0 0, .slice (some ⟨g, 0, none⟩) i vc]).run Tryz.prog (w2.alloc (.cells #[] 3)) = .ok (.slice a5 n5 c5) w5) ∧ Below w2.heap.size w2 w5 ∧
      ∃ a6 n6 c6 w6, (∀ b c2 ty, (b = some ⟨g, i + 1, none⟩ ∧ c2 = vc - (i + 1) ∨ vs.length = i + 1) → (Builtin.append_ #[25, 25] ty #[.slice a5 n5 c5, .slice b (vs.length - (i + 1)) c2]).run Tryz.prog w5 = .ok (.slice a6 n6 c6) w6) ∧ BRow w2.heap.size w6 (.slice a6 n6 c6) (vs.take i ++ vs.drop (i + 1)) ∧ Below w2.heap.size w2 w6 := by
  have hb1 := below_new w2 (.cells #[] 3)
  have h0 := brow_nil_new w2
  have hR1 := nrow_below hR hb1
  have ht : NRow (w2.alloc (.cells #[] 3)) (.slice (some ⟨g, 0, none⟩) i vc) (vs.take i) := brow_take hR1 (by omega)
  obtain ⟨v5, w5, r5, g5, gg5⟩ := run_appN hb1.size h0 ht (by simp; omega)
  obtain ⟨a5, c5, rfl, hc5⟩ := brow_shape g5
  have hB5 : Below w2.heap.size w2 w5 := hb1.trans (grown_below gg5 hb1.size (fun b e => (h0.lt b e).1))
  rw [List.nil_append] at g5 r5 hc5
  refine ⟨a5, _, c5, w5, r5, hB5, ?_⟩
  by_cases hz : vs.length = i + 1
  · refine ⟨a5, (vs.take i).length, c5, w5, fun b c2 ty _ => ?_, ?_, hB5⟩
    · rw [show vs.length - (i + 1) = 0 by omega]
      exact run_append_zeroI w5 a5 b _ c5 _ hc5 ty
    · rw [List.drop_eq_nil_of_le (by omega : vs.length ≤ i + 1), List.append_nil]; exact g5
  · obtain ⟨v6, w6, r6, g6, gg6⟩ := run_appT10 (i := i + 1) hB5.size g5 (nrow_below hR hB5) (by omega) (by rw [List.length_take]; omega) (vc - (i + 1))
    obtain ⟨a6, c6, rfl, -⟩ := brow_shape g6
    refine ⟨a6, _, c6, w6, fun b c2 ty hb => ?_, g6, hB5.trans (grown_below gg6 hB5.size (fun b e => (g5.lt b e).1))⟩
    rcases hb with ⟨rfl, rfl⟩ | e
    · exact r6 ty
    · exact absurd e hz
theorem addA10_mem {w2 : World} {ev : Value} {es : List EdgeV} (hR : GRow 0 w2 ev es) (hl : es.length ≤ 100000) (x : EdgeV) :
    ∃ a4 n4 c4 w4, (∀ ty, (Builtin.append_ #[26, 26] ty #[.slice (some ⟨w2.heap.size, 0, none⟩) 0 0, ev]).run Tryz.prog (w2.alloc (.cells #[] 45)) = .ok (.slice a4 n4 c4) w4) ∧ Below w2.heap.size w2 w4 ∧
      ∃ a5 n5 c5 w5, (∀ ty, (Builtin.append_ #[26, 26] ty #[.slice a4 n4 c4, .slice (some ⟨w4.heap.size, 0, none⟩) 1 1]).run Tryz.prog (w4.alloc (oEd x)) = .ok (.slice a5 n5 c5) w5) ∧ GRow w2.heap.size w5 (.slice a5 n5 c5) (es ++ [x]) ∧ Below w2.heap.size w2 w5 := by
  have hb1 := below_new w2 (.cells #[] 45)
  have h0 := grow_nil_new w2
  have hR1 := grow_below hR hb1
  obtain ⟨v4, w4, r4, g4, gg4⟩ : ∃ v4 w4, (∀ ty, (Builtin.append_ #[26, 26] ty #[.slice (some ⟨w2.heap.size, 0, none⟩) 0 0, ev]).run Tryz.prog (w2.alloc (.cells #[] 45)) = .ok v4 w4) ∧ GRow w2.heap.size w4 v4 es ∧ (w2.alloc (.cells #[] 45)).grownBy w4 (Value.slice (some ⟨w2.heap.size, 0, none⟩) 0 0).ownBlock := by
    rcases hR1.2 with ⟨e, h00⟩ | ⟨g, cap, cur, e, -⟩
    · obtain rfl := List.eq_nil_of_length_eq_zero h00
      rw [e]
      exact ⟨_, _, fun ty => run_appG_zero _ _ _ 0 0 0 (Nat.le_refl _) ty, h0, ⟨rfl, rfl, rfl, Nat.le_refl _, fun _ _ _ => rfl⟩⟩
    · rw [e] at hR1 ⊢
      obtain ⟨v4, w4, r, g4, gg⟩ := run_appGS (i := 0) (m := es.length) hb1.size h0 hR1 (by omega) (by simp; omega) cap
      rw [List.drop_zero, List.take_length, List.nil_append] at g4
      exact ⟨v4, w4, r, g4, gg⟩
  obtain ⟨a4, n4, c4, rfl⟩ := grow_shape g4
  have hB4 : Below w2.heap.size w2 w4 := hb1.trans (grown_below gg4 hb1.size (fun b e => (h0.lt b e).1))
  obtain ⟨a5, n5, c5, w5, r5, g5, t5, -⟩ := run_appE x (show ERow w2.heap.size w4 (.slice a4 n4 c4) es from g4) hB4.size (by omega)
  exact ⟨a4, n4, c4, w4, r4, hB4, a5, n5, c5, w5, r5, g5, hB4.trans (t5.below hB4.size (fun b e => (g4.lt b e).1))⟩
/-- The list of vertices stored anew, and the graph answered. -/
theorem rw_setV {w W w6 : World} {bb b1 : Nat} {vv ev : Value} {rd wr : Int} (h : RW w bb b1 vv ev rd wr W) (hb : Below W.heap.size W w6) {a6 : Option Addr} {n6 c6 : Nat} {fs : List Int} {es : List EdgeV} (g6 : BRow W.heap.size w6 (.slice a6 n6 c6) fs) (hF : ∀ W, Below bb w W → GRow 0 W ev es) :
    w6.heap[bb]? = some (oG vv ev rd wr) ∧ (w6.setCell ⟨bb, 0, none⟩ (.slice a6 n6 c6)).heap[bb]? = some (oG (.slice a6 n6 c6) ev rd wr) ∧ (w6.setCell ⟨bb, 0, none⟩ (.slice a6 n6 c6)).heap[b1]? = some oZ ∧
    ∀ x0 x1 x2 x3, NRow (set4 (w6.setCell ⟨bb, 0, none⟩ (.slice a6 n6 c6)) b1 x0 x1 x2 x3) (.slice a6 n6 c6) fs ∧ GRow 0 (set4 (w6.setCell ⟨bb, 0, none⟩ (.slice a6 n6 c6)) b1 x0 x1 x2 x3) ev es ∧ Below bb w (set4 (w6.setCell ⟨bb, 0, none⟩ (.slice a6 n6 c6)) b1 x0 x1 x2 x3) ∧ ∀ b, (Value.slice a6 n6 c6).ownBlock = some b → bb ≤ b := by
  have l1 := heap_lt h.res
  have l2 := heap_lt h.box
  have hlt := h.lt
  have hbx := (hb.block bb l2).trans h.box
  refine ⟨hbx, by rw [heap_setCell_same _ _ _ _ _ _ hbx]; rfl, (heap_setCell_other _ _ _ _ (by show b1 ≠ bb; omega)).trans ((hb.block b1 l1).trans h.res), fun x0 x1 x2 x3 => ?_⟩
  have hBw : Below bb w (set4 (w6.setCell ⟨bb, 0, none⟩ (.slice a6 n6 c6)) b1 x0 x1 x2 x3) := set4_below (((h.low.trans (hb.mono (by omega))).setCell (p := ⟨bb, 0, none⟩) (Nat.le_refl _) _)) (by omega) _ _ _ _
  refine ⟨nrow_kept (brow_at0 g6) (fun k hk => ?_), hF _ hBw, hBw, fun b e => by have := (g6.lt b e).1; omega⟩
  have hk2 := (g6.lt k hk).1
  rw [set4_other (by omega), heap_setCell_other _ _ _ _ (by show k ≠ bb; omega)]
theorem rw_setE {w W w6 : World} {bb b1 : Nat} {vv ev : Value} {rd wr : Int} (h : RW w bb b1 vv ev rd wr W) (hb : Below W.heap.size W w6) {a6 : Option Addr} {n6 c6 : Nat} {fs : List EdgeV} {vs : List Int} (g6 : GRow W.heap.size w6 (.slice a6 n6 c6) fs) (hF : ∀ W, Below bb w W → NRow W vv vs) :
    w6.heap[bb]? = some (oG vv ev rd wr) ∧ (w6.setCell ⟨bb, 1, none⟩ (.slice a6 n6 c6)).heap[bb]? = some (oG vv (.slice a6 n6 c6) rd wr) ∧ (w6.setCell ⟨bb, 1, none⟩ (.slice a6 n6 c6)).heap[b1]? = some oZ ∧
    ∀ x0 x1 x2 x3, NRow (set4 (w6.setCell ⟨bb, 1, none⟩ (.slice a6 n6 c6)) b1 x0 x1 x2 x3) vv vs ∧ GRow 0 (set4 (w6.setCell ⟨bb, 1, none⟩ (.slice a6 n6 c6)) b1 x0 x1 x2 x3) (.slice a6 n6 c6) fs ∧ Below bb w (set4 (w6.setCell ⟨bb, 1, none⟩ (.slice a6 n6 c6)) b1 x0 x1 x2 x3) ∧ ∀ b, (Value.slice a6 n6 c6).ownBlock = some b → bb ≤ b := by
  have l1 := heap_lt h.res
  have l2 := heap_lt h.box
  have hlt := h.lt
  have hbx := (hb.block bb l2).trans h.box
  refine ⟨hbx, by rw [heap_setCell_same _ _ _ _ _ _ hbx]; rfl, (heap_setCell_other _ _ _ _ (by show b1 ≠ bb; omega)).trans ((hb.block b1 l1).trans h.res), fun x0 x1 x2 x3 => ?_⟩
  have hBw : Below bb w (set4 (w6.setCell ⟨bb, 1, none⟩ (.slice a6 n6 c6)) b1 x0 x1 x2 x3) := set4_below (((h.low.trans (hb.mono (by omega))).setCell (p := ⟨bb, 1, none⟩) (Nat.le_refl _) _)) (by omega) _ _ _ _
  refine ⟨hF _ hBw, erow_zero (show ERow W.heap.size _ (.slice a6 n6 c6) fs from grow_kept g6 (fun k hk => ?_)), hBw, fun b e => by have := (g6.lt b e).1; omega⟩
  have hk2 := (g6.lt k hk).1
  rw [set4_other (by omega), heap_setCell_other _ _ _ _ (by show k ≠ bb; omega)]
end

section
open Go.RowKit Go.Maps T9
theorem da_fin {w W : World} {bb b1 : Nat} {vv ev : Value} {rd wr : Int} (h : RW w bb b1 vv ev rd wr W) {vs : List Int} {es : List EdgeV} {v1 e1 : Value} (hv : NRow W v1 vs) (he : GRow 0 W e1 es) (n1 : ∀ b, v1.ownBlock = some b → b ≠ bb ∧ b ≠ b1) (n2 : ∀ b, e1.ownBlock = some b → b ≠ bb ∧ b ≠ b1) (x0 x1 x2 x3 y0 y1 y2 y3 z0 z1 z2 z3 : Value) (W3 : World) (hW3 : W3 = set4 (set4 (W.alloc o34) bb x0 x1 x2 x3) W.heap.size y0 y1 y2 y3) :
    W3.heap[bb]? = some (.cells #[x0, x1, x2, x3] 28 (0, 0)) ∧ W3.heap[b1]? = some oZ ∧ NRow (set4 W3 b1 z0 z1 z2 z3) v1 vs ∧ GRow 0 (set4 W3 b1 z0 z1 z2 z3) e1 es ∧ Below bb w (set4 W3 b1 z0 z1 z2 z3) := by
  have l1 := heap_lt h.res
  have l2 := heap_lt h.box
  have hlt := h.lt
  have hb := below_new W o34
  have hbx := (hb.block bb l2).trans h.box
  have q1 := set4G_at (show (W.alloc o34).heap[bb]? = some (.cells #[vv, ev, .int .i64 rd, .int .i64 wr] 28 (0, 0)) from hbx) x0 x1 x2 x3
  have old : ∀ b, b < W.heap.size → b ≠ bb → W3.heap[b]? = W.heap[b]? := fun b h1 h2 => by
    rw [hW3, set4_other (by omega), set4_other h2]; exact hb.block b h1
  have hB3 : Below bb w W3 := by
    rw [hW3]
    exact set4_below (set4_below (h.low.trans (hb.mono (by omega))) (Nat.le_refl _) _ _ _ _) (by omega) _ _ _ _
  refine ⟨by rw [hW3, set4_other (by omega)]; exact q1, (old b1 l1 (by omega)).trans h.res, nrow_kept hv (fun b e => ?_), grow_kept he (fun b e => ?_), set4_below hB3 (by omega) _ _ _ _⟩
  · rw [set4_other (n1 b e).2]; exact old b (hv.lt b e).2 (n1 b e).1
  · rw [set4_other (n2 b e).2]; exact old b (he.lt b e).2 (n2 b e).1
set_option maxHeartbeats 4000000 in
set_option maxRecDepth 100000 in
theorem refDANo {w : World} {vv ev : Value} {rd wr_0 : Int} {vs : List Int} {es : List EdgeV} {e : Int} (h : NRow w vv vs) (hE : GRow 0 w ev es) (hs : vs.Pairwise (· < ·)) (hl : vs.length ≤ 90000) (hl2 : es.length ≤ 100000) (hno : ∀ x ∈ es, x.1 ≠ e) :
    Calls Tryz.prog 28 #[.agg #[vv, ev, .int .i64 rd, .int .i64 wr_0], .int .i64 e] w fun r w' => Hid (AnsX w vv ev vs es rd wr_0 (.int .i64 6) r w') := by
  obtain ⟨t1, t2, t3, t4⟩ := two_boxes w (oG vv ev rd wr_0)
  obtain ⟨c0, c1, c2, c3, cf⟩ := cellsG t1
  obtain ⟨d0, d1, d2, d3, df⟩ := cellsG (b := w.heap.size + 1) (vv := .slice none 0 0) (ev := .slice none 0 0) (rd := 0) (wr := 0) t2
  have HF : Hid (∀ W, Below w.heap.size w W → NRow W vv vs ∧ GRow 0 W ev es) := fun W hW => ⟨nrow_below h hW, grow_below hE hW⟩
  have HT0 : Hid (RW w w.heap.size (w.heap.size + 1) vv ev rd wr_0 ((w.alloc (oG vv ev rd wr_0)).alloc oZ)) := ⟨t2, t1, t3, by omega⟩
  obtain ⟨va, vc, hvv, -⟩ := brow_shape h
  obtain ⟨vn, hvv', hvn⟩ : ∃ vn, vv = .slice va vn vc ∧ vn = vs.length := ⟨_, hvv, rfl⟩
  obtain ⟨ea, en, ec, hev⟩ := grow_shape hE
  have hne : ¬ w.heap.size = w.heap.size + 1 := by omega
  have hne2 : ¬ w.heap.size + 1 = w.heap.size := by omega
  have HN : Hid (vn = vs.length ∧ vs.length ≤ 90000 ∧ es.length ≤ 100000 ∧ vs.Pairwise (· < ·)) := ⟨hvn, hl, hl2, hs⟩
  have HAP : Hid (∀ b, ((Value.ownBlock vv = some b → b < w.heap.size) ∧ (Value.ownBlock ev = some b → b < w.heap.size))) := fun b => ⟨fun e => (h.lt b e).2, fun e => (hE.lt b e).2⟩
  have CD := hide (refDropENo (rd := rd) (wr_0 := wr_0) e (nrow_below h t3) (grow_below hE t3) (by omega) (fun ⟨i, a, k1, k2⟩ => hno a (List.mem_of_getElem? k1) k2))
  clear hno
  clear t1 t2 t3 t4 h hE hvv hvn hl hl2 hs
  subst hvv' hev
  go_enter Tryz.func28, Tryz.ntmps28
  go_upto_region 1 with fail
  change Code.wp _ _ _ _ ((w.alloc (oG (.slice va vn vc) (.slice ea en ec) rd wr_0)).alloc oZ)
  generalize (w.alloc (oG (.slice va vn vc) (.slice ea en ec) rd wr_0)).alloc oZ = wb at *
  generalize hb1 : w.heap.size + 1 = b1 at *
  generalize hbb : w.heap.size = bb at *
  go_wp2_with fail
  refine (unhide CD).mono ?_
  intro r w2 hh
  obtain ⟨v1, e1, rfl, y1, y2, y3, y4, y5⟩ := unhide hh
  have HT1 : Hid (RW w bb b1 (.slice va vn vc) (.slice ea en ec) rd wr_0 w2) := (unhide HT0).next y3
  obtain ⟨va1, vc1, hv1, -⟩ := brow_shape y1
  obtain ⟨vn1, hv1'⟩ : ∃ vn1, v1 = .slice va1 vn1 vc1 := ⟨_, hv1⟩
  obtain ⟨ea1, en1, ec1, he1⟩ := grow_shape y2
  clear hv1
  subst hv1' he1
  have hsz : b1 < wb.heap.size := heap_lt (unhide HT0).res
  have s1 : ∀ b, (Value.slice va1 vn1 vc1).ownBlock = some b → b ≠ bb ∧ b ≠ b1 := fun b e => by
    rcases y4 b e with q | q
    · have := (unhide HAP b).1 q; omega
    · omega
  have s2 : ∀ b, (Value.slice ea1 en1 ec1).ownBlock = some b → b ≠ bb ∧ b ≠ b1 := fun b e => by
    rcases y5 b e with q | q
    · have := (unhide HAP b).2 q; omega
    · omega
  have HA : Hid (Apt w (.slice va vn vc) (.slice va1 vn1 vc1) ∧ Apt w (.slice ea en ec) (.slice ea1 en1 ec1)) := ⟨fun b e => (y4 b e).imp id (fun q => by omega), fun b e => (y5 b e).imp id (fun q => by omega)⟩
  have HFIN := hide (fun z0 z1 z2 z3 => da_fin (unhide HT1) y1 y2 s1 s2 (.slice va1 vn1 vc1) (.slice ea1 en1 ec1) (.int .i64 rd) (.int .i64 wr_0) (.int .i64 0) (.int .i64 0) (.int .i64 0) (.int .u32 0) z0 z1 z2 z3 _ rfl)
  have hbx := heap_lt (unhide HT1).box
  have o1 : (w2.alloc (.cells #[.int .i64 0, .int .i64 0, .int .i64 0, .int .u32 0] 45 (0, 0))).heap[bb]? = some (oG (.slice va vn vc) (.slice ea en ec) rd wr_0) := (heap_alloc_old w2 _ hbx).trans (unhide HT1).box
  have nb : ¬ bb = w2.heap.size := by omega
  have nb2 : ¬ w2.heap.size = bb := by omega
  clear c0 c1 c2 c3 cf d0 d1 d2 d3 df CD hh y1 y2 y3 y4 y5 s1 s2 hsz hbx
  obtain ⟨c0, c1, c2, c3, cf⟩ := cellsG o1
  clear o1
  go_upto_region 2 with fail
  change Code.wp _ _ _ _ (set4 (set4 (w2.alloc o34) bb (.slice va1 vn1 vc1) (.slice ea1 en1 ec1) (.int .i64 rd) (.int .i64 wr_0)) w2.heap.size (.int .i64 0) (.int .i64 0) (.int .i64 0) (.int .u32 0))
  clear c0 c1 c2 c3 cf
  generalize set4 (set4 (w2.alloc o34) bb (.slice va1 vn1 vc1) (.slice ea1 en1 ec1) (.int .i64 rd) (.int .i64 wr_0)) w2.heap.size (.int .i64 0) (.int .i64 0) (.int .i64 0) (.int .u32 0) = w3 at *
  obtain ⟨q1, q2, -⟩ := unhide HFIN (.slice va1 vn1 vc1) (.slice ea1 en1 ec1) (.int .i64 rd) (.int .i64 wr_0)
  obtain ⟨c0, c1, c2, c3, cf⟩ := cellsG q1
  obtain ⟨d0, d1, d2, d3, df⟩ := cellsG (vv := .slice none 0 0) (ev := .slice none 0 0) (rd := 0) (wr := 0) q2
  have HT9 := hide q2
  clear q1 q2 nb nb2
  go_wp2_with fail
  (try simp only [Exit.inBlock, Exit.then])
  change bodyPost _ _ _ _ _ (set4 w3 b1 _ _ _ _)
  refine bodyPost_ret (resG rfl _ _ b1 _ _ _ _ rfl (set4G_at (unhide HT9) _ _ _ _)) rfl ?_
  obtain ⟨-, -, r1, r2, r3⟩ := unhide HFIN (.slice va1 vn1 vc1) (.slice ea1 en1 ec1) (.int .i64 rd) (.int .i64 wr_0)
  exact ⟨_, _, rfl, r1, r2, by first | exact r3 | (rw [hbb]; exact r3), (unhide HA).1, (unhide HA).2⟩
set_option maxHeartbeats 4000000 in
set_option maxRecDepth 100000 in
theorem refDAYes {w : World} {vv ev : Value} {rd wr_0 : Int} {vs : List Int} {es : List EdgeV} {e : Int} (h : NRow w vv vs) (hE : GRow 0 w ev es) (hs : vs.Pairwise (· < ·)) (hl : vs.length ≤ 90000) (hl2 : es.length ≤ 100000) (hw0 : 0 ≤ wr_0) (hw1 : wr_0 ≤ 1000000000) (hu : (es.map (·.1)).Nodup) {u v b : Int} (hx : (e, u, v, b) ∈ es) :
    Calls Tryz.prog 28 #[.agg #[vv, ev, .int .i64 rd, .int .i64 wr_0], .int .i64 e] w fun r w' => Hid (∃ i : Nat, es[i]? = some (e, u, v, b) ∧ AnsX w vv ev vs (es.take i ++ es.drop (i + 1)) rd (wr_0 + 1) (.int .i64 0) r w') := by
  obtain ⟨t1, t2, t3, t4⟩ := two_boxes w (oG vv ev rd wr_0)
  obtain ⟨c0, c1, c2, c3, cf⟩ := cellsG t1
  obtain ⟨d0, d1, d2, d3, df⟩ := cellsG (b := w.heap.size + 1) (vv := .slice none 0 0) (ev := .slice none 0 0) (rd := 0) (wr := 0) t2
  have HF : Hid (∀ W, Below w.heap.size w W → NRow W vv vs ∧ GRow 0 W ev es) := fun W hW => ⟨nrow_below h hW, grow_below hE hW⟩
  have HT0 : Hid (RW w w.heap.size (w.heap.size + 1) vv ev rd wr_0 ((w.alloc (oG vv ev rd wr_0)).alloc oZ)) := ⟨t2, t1, t3, by omega⟩
  obtain ⟨va, vc, hvv, -⟩ := brow_shape h
  obtain ⟨vn, hvv', hvn⟩ : ∃ vn, vv = .slice va vn vc ∧ vn = vs.length := ⟨_, hvv, rfl⟩
  obtain ⟨ea, en, ec, hev⟩ := grow_shape hE
  have hne : ¬ w.heap.size = w.heap.size + 1 := by omega
  have hne2 : ¬ w.heap.size + 1 = w.heap.size := by omega
  have HN : Hid (vn = vs.length ∧ vs.length ≤ 90000 ∧ es.length ≤ 100000 ∧ vs.Pairwise (· < ·)) := ⟨hvn, hl, hl2, hs⟩
  have HAP : Hid (∀ b, ((Value.ownBlock vv = some b → b < w.heap.size) ∧ (Value.ownBlock ev = some b → b < w.heap.size))) := fun b => ⟨fun e => (h.lt b e).2, fun e => (hE.lt b e).2⟩
  have CD := hide (refDropE (rd := rd) (x := (e, u, v, b)) e (nrow_below h t3) (grow_below hE t3) (by omega) hw0 hw1 (List.getElem?_of_mem hx) rfl (fun i j a b k1 k2 k3 => uni_eq hu (List.mem_of_getElem? k1) (List.mem_of_getElem? k2) k3))
  clear hw0 hw1 hu hx
  clear t1 t2 t3 t4 h hE hvv hvn hl hl2 hs
  subst hvv' hev
  go_enter Tryz.func28, Tryz.ntmps28
  go_upto_region 1 with fail
  change Code.wp _ _ _ _ ((w.alloc (oG (.slice va vn vc) (.slice ea en ec) rd wr_0)).alloc oZ)
  generalize (w.alloc (oG (.slice va vn vc) (.slice ea en ec) rd wr_0)).alloc oZ = wb at *
  generalize hb1 : w.heap.size + 1 = b1 at *
  generalize hbb : w.heap.size = bb at *
  go_wp2_with fail
  refine (unhide CD).mono ?_
  intro r w2 hh
  obtain ⟨i, hi, ⟨v1, e1, rfl, y1, y2, y3, y4, y5⟩⟩ := unhide hh
  have HI := hide hi
  clear hi
  have HT1 : Hid (RW w bb b1 (.slice va vn vc) (.slice ea en ec) rd wr_0 w2) := (unhide HT0).next y3
  obtain ⟨va1, vc1, hv1, -⟩ := brow_shape y1
  obtain ⟨vn1, hv1'⟩ : ∃ vn1, v1 = .slice va1 vn1 vc1 := ⟨_, hv1⟩
  obtain ⟨ea1, en1, ec1, he1⟩ := grow_shape y2
  clear hv1
  subst hv1' he1
  have hsz : b1 < wb.heap.size := heap_lt (unhide HT0).res
  have s1 : ∀ b, (Value.slice va1 vn1 vc1).ownBlock = some b → b ≠ bb ∧ b ≠ b1 := fun b e => by
    rcases y4 b e with q | q
    · have := (unhide HAP b).1 q; omega
    · omega
  have s2 : ∀ b, (Value.slice ea1 en1 ec1).ownBlock = some b → b ≠ bb ∧ b ≠ b1 := fun b e => by
    rcases y5 b e with q | q
    · have := (unhide HAP b).2 q; omega
    · omega
  have HA : Hid (Apt w (.slice va vn vc) (.slice va1 vn1 vc1) ∧ Apt w (.slice ea en ec) (.slice ea1 en1 ec1)) := ⟨fun b e => (y4 b e).imp id (fun q => by omega), fun b e => (y5 b e).imp id (fun q => by omega)⟩
  have HFIN := hide (fun z0 z1 z2 z3 => da_fin (unhide HT1) y1 y2 s1 s2 (.slice va1 vn1 vc1) (.slice ea1 en1 ec1) (.int .i64 rd) (.int .i64 (wr_0 + 1)) (.int .i64 e) (.int .i64 u) (.int .i64 v) (.int .u32 b) z0 z1 z2 z3 _ rfl)
  have hbx := heap_lt (unhide HT1).box
  have o1 : (w2.alloc (.cells #[.int .i64 0, .int .i64 0, .int .i64 0, .int .u32 0] 45 (0, 0))).heap[bb]? = some (oG (.slice va vn vc) (.slice ea en ec) rd wr_0) := (heap_alloc_old w2 _ hbx).trans (unhide HT1).box
  have nb : ¬ bb = w2.heap.size := by omega
  have nb2 : ¬ w2.heap.size = bb := by omega
  clear c0 c1 c2 c3 cf d0 d1 d2 d3 df CD hh y1 y2 y3 y4 y5 s1 s2 hsz hbx
  obtain ⟨c0, c1, c2, c3, cf⟩ := cellsG o1
  clear o1
  go_upto_region 2 with fail
  change Code.wp _ _ _ _ (set4 (set4 (w2.alloc o34) bb (.slice va1 vn1 vc1) (.slice ea1 en1 ec1) (.int .i64 rd) (.int .i64 (wr_0 + 1))) w2.heap.size (.int .i64 e) (.int .i64 u) (.int .i64 v) (.int .u32 b))
  clear c0 c1 c2 c3 cf
  generalize set4 (set4 (w2.alloc o34) bb (.slice va1 vn1 vc1) (.slice ea1 en1 ec1) (.int .i64 rd) (.int .i64 (wr_0 + 1))) w2.heap.size (.int .i64 e) (.int .i64 u) (.int .i64 v) (.int .u32 b) = w3 at *
  obtain ⟨q1, q2, -⟩ := unhide HFIN (.slice va1 vn1 vc1) (.slice ea1 en1 ec1) (.int .i64 rd) (.int .i64 (wr_0 + 1))
  obtain ⟨c0, c1, c2, c3, cf⟩ := cellsG q1
  obtain ⟨d0, d1, d2, d3, df⟩ := cellsG (vv := .slice none 0 0) (ev := .slice none 0 0) (rd := 0) (wr := 0) q2
  have HT9 := hide q2
  clear q1 q2 nb nb2
  go_wp2_with fail
  (try simp only [Exit.inBlock, Exit.then])
  change bodyPost _ _ _ _ _ (set4 w3 b1 _ _ _ _)
  refine bodyPost_ret (resG rfl _ _ b1 _ _ _ _ rfl (set4G_at (unhide HT9) _ _ _ _)) rfl ?_
  obtain ⟨-, -, r1, r2, r3⟩ := unhide HFIN (.slice va1 vn1 vc1) (.slice ea1 en1 ec1) (.int .i64 rd) (.int .i64 (wr_0 + 1))
  exact ⟨i, unhide HI, _, _, rfl, r1, r2, by first | exact r3 | (rw [hbb]; exact r3), (unhide HA).1, (unhide HA).2⟩
end

end Go.Proofs.YtkmhcgmmbkchaaaGreat

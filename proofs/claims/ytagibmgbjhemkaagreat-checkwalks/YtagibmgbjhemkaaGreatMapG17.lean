/- Maps of int to plain elements of one kind, as functions. -/
import Derived.Test.YtagibmgbjhemkaaGreatRefEdge
import Derived.Laws.StructEq
import Derived.Test.YtagibmgbjhemkaaGreatStDropV
import Derived.Handy
import Derived.Test.YtagibmgbjhemkaaGreatStAt
namespace Go.Proofs.YtagibmgbjhemkaaGreat

section
open Go.RowKit Go.Maps
theorem results_cell_tmp_tmp {fn : Func} {p u q : Tmp} {ty : TypeId} (h : fn.results = #[.cell p ty, .tmp u, .tmp q]) (tmps : Array Value) (P : Program) (w : World) (x : Addr) (vx : Value) (hp : tmps.getD p undef = .pointer (some x)) (hx : (loadVar ty x).run P w = .ok vx w) :
    (results fn tmps).run P w = .ok (.tuple #[vx, tmps.getD u undef, tmps.getD q undef]) w := by
  have hp' : tmps[p]?.getD undef = .pointer (some x) := by simpa using hp
  simp [results, h, hp', asAddr, hx]
def AnsGU (w : World) (vv0 ev0 : Value) (vs : List Int) (es : List EdgeV) (rd wr n code : Int) (e : Ending) (w' : World) : Prop :=
  ∃ vv ev, e = .returned (.tuple #[.agg #[vv, ev, .int .i64 rd, .int .i64 wr], .int .u32 n, .int .i64 code]) ∧ NRow w' vv vs ∧ GRow 0 w' ev es ∧ Below w.heap.size w w' ∧ Apt w vv0 vv ∧ Apt w ev0 ev
set_option maxHeartbeats 2000000 in
set_option maxRecDepth 100000 in
theorem refDropENo {w : World} {vv ev : Value} {rd wr_0 : Int} {vs : List Int} {es : List EdgeV} (v : Int) (h : NRow w vv vs) (hE : GRow 0 w ev es) (hl : es.length ≤ 1000000) (hno : ¬ HasNo es v) :
    Calls Tryz.prog 70 #[.agg #[vv, ev, .int .i64 rd, .int .i64 wr_0], .int .i64 v] w fun e w' => Hid (AnsGE w vv ev vs es rd wr_0 (0, 0, 0, 0) 6 e w') := by
  obtain ⟨t1, t2, t3, t4, t5⟩ := three_boxes w (oG vv ev rd wr_0); obtain ⟨c0, c1, c2, c3, cf⟩ := cellsG t1; have HF : Hid (∀ W, Below w.heap.size w W → NRow W vv vs ∧ GRow 0 W ev es) := fun W hW => ⟨nrow_below h hW, grow_below hE hW⟩
  have CH : Hid (Calls Tryz.prog 38 #[.agg #[vv, ev, .int .i64 rd, .int .i64 wr_0], .int .i64 v] (((w.alloc (oG vv ev rd wr_0)).alloc oZ).alloc o34) fun e w2 => e = .returned (.int .i64 (-1)) ∧ Hid (w2.heap[w.heap.size + 1]? = some oZ ∧ w2.heap[w.heap.size + 2]? = some o34 ∧ w2.heap[w.heap.size]? = some (oG vv ev rd wr_0) ∧ Below w.heap.size w w2)) := by
    refine (refAt v (grow_below hE t4) hl).mono ?_
    rintro e w2 ⟨r, rfl, g⟩
    obtain ⟨g1, g2⟩ := unhide g; have hr : r = -1 := by
      rcases g1 with ⟨i, a, rfl, k1, k2, -⟩ | ⟨e, -⟩
      · exact absurd ⟨i, a, k1, k2⟩ hno
      · exact e
    subst hr; have gs := g2.size; exact ⟨rfl, (g2.block _ (by omega)).trans t2, (g2.block _ (by omega)).trans t3, (g2.block _ (by omega)).trans t1, t4.trans (g2.mono (by omega))⟩
  obtain ⟨va, vc, hvv, -⟩ := brow_shape h; obtain ⟨vn, hvv'⟩ : ∃ vn, vv = .slice va vn vc := ⟨_, hvv⟩; obtain ⟨ea, en, ec, hev⟩ := grow_shape hE; clear t1 t2 t3 t4 t5 h hE hvv hl hno; subst hvv' hev
  go_enter Tryz.func70, Tryz.ntmps70
  go_upto_region 1 with fail
  change Code.wp _ _ _ _ (((w.alloc (oG (.slice va vn vc) (.slice ea en ec) rd wr_0)).alloc oZ).alloc o34); generalize ((w.alloc (oG (.slice va vn vc) (.slice ea en ec) rd wr_0)).alloc oZ).alloc o34 = wb at *; have hne1 : ¬ w.heap.size = w.heap.size + 1 := by omega
  generalize hb2 : w.heap.size + 2 = b2 at *; generalize hb1 : w.heap.size + 1 = b1 at *; generalize hbb : w.heap.size = bb at *
  go_wp2_with fail
  refine (unhide CH).mono ?_
  rintro e w2 ⟨rfl, h2⟩
  obtain ⟨k1, k2, k3, k4⟩ := unhide h2; clear c0 c1 c2 c3 cf CH h2; obtain ⟨c0, c1, c2, c3, cf⟩ := cellsG k3; obtain ⟨d0, d1, d2, d3, df⟩ := cellsG (vv := .slice none 0 0) (ev := .slice none 0 0) (rd := 0) (wr := 0) k1; obtain ⟨x0, x1, x2, x3, xf⟩ := cells34 k2; have HT1 := hide k1; have HT2 := hide k2; have HB := hide k4; have n1 : ¬ bb = b1 := by omega
  have n2 : ¬ b1 = bb := by omega
  have n3 : ¬ bb = b2 := by omega
  have n4 : ¬ b2 = bb := by omega
  have n5 : ¬ b1 = b2 := by omega
  have n6 : ¬ b2 = b1 := by omega
  clear k1 k2 k3 k4
  go_wp2_with fail
  (try simp only [Exit.inBlock, Exit.then])
  change bodyPost _ _ _ _ _ (set4 (set4 w2 b1 _ _ _ _) b2 _ _ _ _); refine bodyPost_ret (results_cell_cell_tmp rfl _ _ _ ⟨b1, 0, none⟩ ⟨b2, 0, none⟩ _ _ rfl rfl (loadG _ _ _ _ _ _ ((set4_other n5 _ _ _ _).trans (set4G_at (unhide HT1) _ _ _ _))) (load34 _ _ _ _ _ _ (set4_at ((set4_other n6 _ _ _ _).trans (unhide HT2)) _ _ _ _))) rfl ?_; have hB := set4_below (set4_below (unhide HB) (by omega : bb ≤ b1) (.slice va vn vc) (.slice ea en ec) (.int .i64 rd) (.int .i64 wr_0)) (by omega : bb ≤ b2) (.int .i64 0) (.int .i64 0) (.int .i64 0) (.int .u32 0)
  exact ⟨_, _, rfl, (unhide HF _ hB).1, (unhide HF _ hB).2, by first | exact hB | (rw [hbb]; exact hB), Apt.refl _ _, Apt.refl _ _⟩
set_option maxHeartbeats 2000000 in
set_option maxRecDepth 100000 in
theorem refReweighNo {w : World} {vv ev : Value} {rd wr_0 : Int} {vs : List Int} {es : List EdgeV} (v n : Int) (h : NRow w vv vs) (hE : GRow 0 w ev es) (hl : es.length ≤ 1000000) (hno : ¬ HasNo es v) :
    Calls Tryz.prog 72 #[.agg #[vv, ev, .int .i64 rd, .int .i64 wr_0], .int .i64 v, .int .u32 n] w fun e w' => Hid (AnsGU w vv ev vs es rd wr_0 0 6 e w') := by
  obtain ⟨t1, t2, t4, t5⟩ := two_boxes w (oG vv ev rd wr_0); obtain ⟨c0, c1, c2, c3, cf⟩ := cellsG t1; have HF : Hid (∀ W, Below w.heap.size w W → NRow W vv vs ∧ GRow 0 W ev es) := fun W hW => ⟨nrow_below h hW, grow_below hE hW⟩
  have CH : Hid (Calls Tryz.prog 38 #[.agg #[vv, ev, .int .i64 rd, .int .i64 wr_0], .int .i64 v] ((w.alloc (oG vv ev rd wr_0)).alloc oZ) fun e w2 => e = .returned (.int .i64 (-1)) ∧ Hid (w2.heap[w.heap.size + 1]? = some oZ ∧ w2.heap[w.heap.size]? = some (oG vv ev rd wr_0) ∧ Below w.heap.size w w2)) := by
    refine (refAt v (grow_below hE t4) hl).mono ?_
    rintro e w2 ⟨r, rfl, g⟩
    obtain ⟨g1, g2⟩ := unhide g; have hr : r = -1 := by
      rcases g1 with ⟨i, a, rfl, k1, k2, -⟩ | ⟨e, -⟩
      · exact absurd ⟨i, a, k1, k2⟩ hno
      · exact e
    subst hr; have gs := g2.size; exact ⟨rfl, (g2.block _ (by omega)).trans t2, (g2.block _ (by omega)).trans t1, t4.trans (g2.mono (by omega))⟩
  obtain ⟨va, vc, hvv, -⟩ := brow_shape h; obtain ⟨vn, hvv'⟩ : ∃ vn, vv = .slice va vn vc := ⟨_, hvv⟩; obtain ⟨ea, en, ec, hev⟩ := grow_shape hE; clear t1 t2 t4 t5 h hE hvv hl hno; subst hvv' hev
  go_enter Tryz.func72, Tryz.ntmps72
  go_upto_region 1 with fail
  change Code.wp _ _ _ _ ((w.alloc (oG (.slice va vn vc) (.slice ea en ec) rd wr_0)).alloc oZ); generalize (w.alloc (oG (.slice va vn vc) (.slice ea en ec) rd wr_0)).alloc oZ = wb at *; have hne1 : ¬ w.heap.size = w.heap.size + 1 := by omega
  generalize hb1 : w.heap.size + 1 = b1 at *; generalize hbb : w.heap.size = bb at *
  go_wp2_with fail
  refine (unhide CH).mono ?_
  rintro e w2 ⟨rfl, h2⟩
  obtain ⟨k1, k3, k4⟩ := unhide h2; clear c0 c1 c2 c3 cf CH h2; obtain ⟨c0, c1, c2, c3, cf⟩ := cellsG k3; obtain ⟨d0, d1, d2, d3, df⟩ := cellsG (vv := .slice none 0 0) (ev := .slice none 0 0) (rd := 0) (wr := 0) k1; have HT1 := hide k1; have HB := hide k4; have n1 : ¬ bb = b1 := by omega
  have n2 : ¬ b1 = bb := by omega
  clear k1 k3 k4
  go_wp2_with fail
  (try simp only [Exit.inBlock, Exit.then])
  change bodyPost _ _ _ _ _ (set4 w2 b1 _ _ _ _); refine bodyPost_ret (results_cell_tmp_tmp rfl _ _ _ ⟨b1, 0, none⟩ _ rfl (loadG _ _ _ _ _ _ (set4G_at (unhide HT1) _ _ _ _))) rfl ?_; have hB := set4_below (unhide HB) (by omega : bb ≤ b1) (.slice va vn vc) (.slice ea en ec) (.int .i64 rd) (.int .i64 wr_0)
  exact ⟨_, _, rfl, (unhide HF _ hB).1, (unhide HF _ hB).2, by first | exact hB | (rw [hbb]; exact hB), Apt.refl _ _, Apt.refl _ _⟩
end

section
open Go.RowKit Go.Maps
theorem eqE (x y : EdgeV) (w : World) : (Op.equalIn 10000 64 (.agg #[.int .i64 x.1, .int .i64 x.2.1, .int .i64 x.2.2.1, .int .u32 x.2.2.2]) (.agg #[.int .i64 y.1, .int .i64 y.2.1, .int .i64 y.2.2.1, .int .u32 y.2.2.2])).run Tryz.prog w = .ok (decide (x = y)) w := by
  have hS : Tryz.prog.underlying 64 = some (.struct (Tryz.prog.fieldsOf 64)) := by kernel_rfl
  have hp : Tryz.prog.stoodInHeld 64 = false := by kernel_rfl
  rw [show (10000 : Nat) = 9999 + 1 from rfl, run_equalIn_agg w 9999 64 _ _ hS hp]
  simp only [Program.fieldsOf, Tryz.underlying64]
  go_simp
  obtain ⟨a, b, c, d⟩ := x; obtain ⟨a', b', c', d'⟩ := y
  by_cases h1 : a = a' <;> by_cases h2 : b = b' <;> by_cases h3 : c = c' <;> by_cases h4 : d = d' <;> simp [h1, h2, h3, h4]
theorem grow_len {B : Nat} {w : World} {v : Value} {gs : List EdgeV} (h : GRow B w v gs) : ∃ a c, v = .slice a gs.length c := by
  rcases h.2 with ⟨e, h0⟩ | ⟨g, cap, cur, e, -⟩
  · exact ⟨_, _, by rw [e, h0]⟩
  · exact ⟨_, _, e⟩
theorem listE_eq_getD {a b : List EdgeV} (hl : a.length = b.length) (h : ∀ j, j < a.length → a.getD j (0, 0, 0, 0) = b.getD j (0, 0, 0, 0)) : a = b := by
  refine List.ext_getElem hl (fun j h1 h2 => ?_)
  have := h j h1; simpa [List.getD, h1, h2] using this
set_option maxHeartbeats 2000000 in
set_option maxRecDepth 100000 in
theorem refSameE {w : World} {v1 v2 : Value} {a b : List EdgeV} (h1 : GRow 0 w v1 a) (h2 : GRow 0 w v2 b) (hl : a.length ≤ 1000000) :
    Calls Tryz.prog 66 #[v1, v2] w fun e w' => e = .returned (.bool (decide (a = b))) ∧ Hid (Like w w') := by
  obtain ⟨x1, c1, e1⟩ := grow_len h1; obtain ⟨x2, c2, e2⟩ := grow_len h2; obtain ⟨n1, e1', hn1⟩ : ∃ n1, v1 = .slice x1 n1 c1 ∧ n1 = a.length := ⟨_, e1, rfl⟩; obtain ⟨n2, e2', hn2⟩ : ∃ n2, v2 = .slice x2 n2 c2 ∧ n2 = b.length := ⟨_, e2, rfl⟩; have HN : Hid (n1 = a.length ∧ n2 = b.length ∧ n1 ≤ 1000000) := ⟨hn1, hn2, by omega⟩
  have HC : Hid (∀ W i, Like w W → i < n1 → i < n2 → ∃ g1 g2, x1 = some ⟨g1, 0, none⟩ ∧ x2 = some ⟨g2, 0, none⟩ ∧ (W.cell? ⟨g1, i * 4, none⟩ = some (.int .i64 (a.getD i (0, 0, 0, 0)).1) ∧ W.cell? ⟨g1, i * 4 + 1, none⟩ = some (.int .i64 (a.getD i (0, 0, 0, 0)).2.1) ∧ W.cell? ⟨g1, i * 4 + 2, none⟩ = some (.int .i64 (a.getD i (0, 0, 0, 0)).2.2.1) ∧ W.cell? ⟨g1, i * 4 + 3, none⟩ = some (.int .u32 (a.getD i (0, 0, 0, 0)).2.2.2)) ∧ (W.cell? ⟨g2, i * 4, none⟩ = some (.int .i64 (b.getD i (0, 0, 0, 0)).1) ∧ W.cell? ⟨g2, i * 4 + 1, none⟩ = some (.int .i64 (b.getD i (0, 0, 0, 0)).2.1) ∧ W.cell? ⟨g2, i * 4 + 2, none⟩ = some (.int .i64 (b.getD i (0, 0, 0, 0)).2.2.1) ∧ W.cell? ⟨g2, i * 4 + 3, none⟩ = some (.int .u32 (b.getD i (0, 0, 0, 0)).2.2.2))) := fun W i hW i1 i2 => by
    have r1 := grow_below h1 (hW.below _); have r2 := grow_below h2 (hW.below _); obtain ⟨g1, d1, q1, z1⟩ := grow_at r1 (by omega)
    obtain ⟨g2, d2, q2, z2⟩ := grow_at r2 (by omega)
    rw [e1'] at q1; rw [e2'] at q2; injection q1 with q1 _ _
    injection q2 with q2 _ _
    refine ⟨g1, g2, q1, q2, ?_, ?_⟩
    · exact z1 i _ (by rw [List.getElem?_eq_getElem (by omega : i < a.length)]; simp [List.getD, show i < a.length by omega])
    · exact z2 i _ (by rw [List.getElem?_eq_getElem (by omega : i < b.length)]; simp [List.getD, show i < b.length by omega])
  clear h1 h2 hl e1 e2 hn1 hn2; subst e1' e2'
  by_cases hlen : n1 = n2
  · subst hlen
    go_enter Tryz.func66, Tryz.ntmps66
    go_wp2_with fail
    go_loopw [13] (fun s13 wr => ∃ i : Nat, s13 = .int .i64 i ∧ i ≤ n1 ∧ Hid ((∀ j, j < i → a.getD j (0, 0, 0, 0) = b.getD j (0, 0, 0, 0)) ∧ Like w wr)) (fun s13 _ => n1 - (intOf s13).toNat)
    case atStart => exact ⟨0, rfl, by omega, fun j hj => absurd hj (Nat.not_lt_zero _), rfl, rfl, rfl, rfl⟩
    case round =>
      obtain ⟨i, rfl, hi, hS⟩ := hrel
      by_cases h : i < n1
      · obtain ⟨g1, g2, rfl, rfl, hcs⟩ := unhide HC wr i (unhide hS).2 h h; have hz : (i : Int) < (n1 : Int) := by omega
        obtain ⟨y1, hy1⟩ : ∃ y, y = a.getD i (0, 0, 0, 0) := ⟨_, rfl⟩; obtain ⟨y2, hy2⟩ : ∃ y, y = b.getD i (0, 0, 0, 0) := ⟨_, rfl⟩; rw [← hy1, ← hy2] at hcs; obtain ⟨⟨hc0, hc1, hc2, hc3⟩, ⟨hd0, hd1, hd2, hd3⟩⟩ := hcs; have HY : Hid (y1 = a.getD i (0, 0, 0, 0) ∧ y2 = b.getD i (0, 0, 0, 0)) := ⟨hy1, hy2⟩; have HW : Hid (Like w wr) := (unhide hS).2; clear hy1 hy2
        by_cases hyy : y1 = y2
        · subst hyy; have hq : ∀ W : World, (Op.equalIn 10000 64 (.agg #[.int .i64 y1.1, .int .i64 y1.2.1, .int .i64 y1.2.2.1, .int .u32 y1.2.2.2]) (.agg #[.int .i64 y1.1, .int .i64 y1.2.1, .int .i64 y1.2.2.1, .int .u32 y1.2.2.2])).run Tryz.prog W = .ok true W := fun W => by rw [eqE y1 y1 W, decide_eq_true rfl]
          go_upto_region 6 with fail
          refine wp_region_noPanic ?_; refine regionL [] (fun y => (y.cell? ⟨g1, i * 4, none⟩ = some (.int .i64 y1.1) ∧ y.cell? ⟨g1, i * 4 + 1, none⟩ = some (.int .i64 y1.2.1) ∧ y.cell? ⟨g1, i * 4 + 2, none⟩ = some (.int .i64 y1.2.2.1) ∧ y.cell? ⟨g1, i * 4 + 3, none⟩ = some (.int .u32 y1.2.2.2)) ∧ y.cell? ⟨g2, i * 4, none⟩ = some (.int .i64 y1.1) ∧ y.cell? ⟨g2, i * 4 + 1, none⟩ = some (.int .i64 y1.2.1) ∧ y.cell? ⟨g2, i * 4 + 2, none⟩ = some (.int .i64 y1.2.2.1) ∧ y.cell? ⟨g2, i * 4 + 3, none⟩ = some (.int .u32 y1.2.2.2)) (by kernel_rfl) ⟨⟨hc0, hc1, hc2, hc3⟩, hd0, hd1, hd2, hd3⟩ (fun hHeld => ?_)
          refine takeN 0 16 rfl ?_
          (try simp only [sl])
          refine takeN 1 17 rfl ?_
          (try simp only [sl])
          refine takeN 2 18 rfl ?_
          (try simp only [sl])
          refine takeN 3 19 rfl ?_
          (try simp only [sl])
          refine takeN 4 20 rfl ?_
          (try simp only [sl])
          refine takeN 5 21 rfl ?_
          (try simp only [sl])
          refine takeN 6 22 rfl ?_
          (try simp only [sl])
          refine takeN 7 23 rfl ?_
          (try simp only [sl])
          refine takeN 8 24 rfl ?_
          (try simp only [sl])
          refine doneL (by kernel_rfl) ?_ _
          refine NoPanic.normal ?_; have HG : Hid ((∀ j, j < i + 1 → a.getD j (0, 0, 0, 0) = b.getD j (0, 0, 0, 0)) ∧ Like w wr.drew) := ⟨fun j hj => by
            rcases Nat.lt_or_ge j i with h' | h'
            · exact (unhide hS).1 j h'
            · obtain rfl : j = i := by omega
              exact (unhide HY).1.symm.trans (unhide HY).2, ⟨(unhide HW).1, (unhide HW).2.1, (unhide HW).2.2.1, (unhide HW).2.2.2⟩⟩
          clear hc0 hc1 hc2 hc3 hd0 hd1 hd2 hd3 hHeld hq
          go_wp2_with fail
          have hwi : wrap64 ((i : Int) + 1) = ((i + 1 : Nat) : Int) := by have := (unhide HN).2.2; unfold wrap64; omega
          (try rw [hwi])
          exact ⟨⟨i + 1, rfl, by omega, HG⟩, by simp [intOf]; omega⟩
        · have hq : ∀ W : World, (Op.equalIn 10000 64 (.agg #[.int .i64 y1.1, .int .i64 y1.2.1, .int .i64 y1.2.2.1, .int .u32 y1.2.2.2]) (.agg #[.int .i64 y2.1, .int .i64 y2.2.1, .int .i64 y2.2.2.1, .int .u32 y2.2.2.2])).run Tryz.prog W = .ok false W := fun W => by rw [eqE y1 y2 W, decide_eq_false hyy]
          go_upto_region 6 with fail
          refine wp_region_noPanic ?_; refine regionL [] (fun y => (y.cell? ⟨g1, i * 4, none⟩ = some (.int .i64 y1.1) ∧ y.cell? ⟨g1, i * 4 + 1, none⟩ = some (.int .i64 y1.2.1) ∧ y.cell? ⟨g1, i * 4 + 2, none⟩ = some (.int .i64 y1.2.2.1) ∧ y.cell? ⟨g1, i * 4 + 3, none⟩ = some (.int .u32 y1.2.2.2)) ∧ y.cell? ⟨g2, i * 4, none⟩ = some (.int .i64 y2.1) ∧ y.cell? ⟨g2, i * 4 + 1, none⟩ = some (.int .i64 y2.2.1) ∧ y.cell? ⟨g2, i * 4 + 2, none⟩ = some (.int .i64 y2.2.2.1) ∧ y.cell? ⟨g2, i * 4 + 3, none⟩ = some (.int .u32 y2.2.2.2)) (by kernel_rfl) ⟨⟨hc0, hc1, hc2, hc3⟩, hd0, hd1, hd2, hd3⟩ (fun hHeld => ?_)
          refine takeN 0 16 rfl ?_
          (try simp only [sl])
          refine takeN 1 17 rfl ?_
          (try simp only [sl])
          refine takeN 2 18 rfl ?_
          (try simp only [sl])
          refine takeN 3 19 rfl ?_
          (try simp only [sl])
          refine takeN 4 20 rfl ?_
          (try simp only [sl])
          refine takeN 5 21 rfl ?_
          (try simp only [sl])
          refine takeN 6 22 rfl ?_
          (try simp only [sl])
          refine takeN 7 23 rfl ?_
          (try simp only [sl])
          refine takeN 8 24 rfl ?_
          (try simp only [sl])
          refine doneL (by kernel_rfl) ?_ _
          refine NoPanic.normal ?_; have HF : Hid (decide (a = b) = false) := decide_eq_false (fun e => hyy (by rw [(unhide HY).1, (unhide HY).2, e]))
          clear hc0 hc1 hc2 hc3 hd0 hd1 hd2 hd3 hHeld hq
          go_wp2_with fail
          go_ret
          exact ⟨by rw [unhide HF]; rfl, (unhide HW).1, (unhide HW).2.1, (unhide HW).2.2.1, (unhide HW).2.2.2⟩
      · have hz : ¬ (i : Int) < (n1 : Int) := by omega
        have HF : Hid (decide (a = b) = true) := decide_eq_true (listE_eq_getD (by have := unhide HN; omega) (fun j hj => (unhide hS).1 j (by have := unhide HN; omega)))
        go_wp2_with fail
        go_ret
        exact ⟨by rw [unhide HF]; rfl, (unhide hS).2⟩
  · have hlz : ¬ (n1 : Int) = (n2 : Int) := by omega
    have HF : Hid (decide (a = b) = false) := decide_eq_false (fun e => hlen (by have := unhide HN; rw [e] at this; omega))
    clear hlen HC
    go_enter Tryz.func66, Tryz.ntmps66
    go_wp2_with fail
    go_ret
    exact ⟨by rw [unhide HF]; rfl, rfl, rfl, rfl, rfl⟩
end

section
open Go.RowKit Go.Maps
def SRow (w : World) (v : Value) (ks : List Int) : Prop := ∃ a c, v = .slice a ks.length c ∧ ∀ (j : Nat) (k : Int), ks[j]? = some k → ∃ g o, a = some ⟨g, o, none⟩ ∧ w.cell? ⟨g, o + j, none⟩ = some (.int .i64 k)
def blkOf : Value → Option Nat
  | .slice (some x) _ _ => some x.block
  | _ => none
theorem SRow.turned {S : Nat → Prop} {w w' : World} {v : Value} {ks : List Int} (h : SRow w v ks) (hT : Turned S w w') (hS : ∀ b, blkOf v = some b → b < w.heap.size → ¬ S b) : SRow w' v ks := by
  obtain ⟨a, c, rfl, h2⟩ := h; refine ⟨a, c, rfl, fun j k hj => ?_⟩
  obtain ⟨g, o, rfl, hc⟩ := h2 j k hj; have hl : g < w.heap.size := World.block_lt_of_cell? _ _ hc; exact ⟨g, o, rfl, (cell_of_heap (x := ⟨g, o + j, none⟩) (hT.block g hl (hS g rfl hl))).trans hc⟩
theorem SRow.below {w w' : World} {v : Value} {ks : List Int} (h : SRow w v ks) (hb : Below w.heap.size w w') : SRow w' v ks := h.turned (S := fun _ => False) (turned_of_below hb) (fun _ _ _ h => h)
end

section
open Go.RowKit Go.Maps
structure StepFn (fv : Value) (N : Nat) (Q : EdgeV → Prop) (P : List EdgeV → (Nat → Prop) → World → Prop) : Prop where
  fn : ∃ (g : Nat) (cb : Array Value), fv = .func (.func g) #[] cb ∧ (∀ args w, (callFunc g args).run Tryz.prog w = .ok (.enter g args) w) ∧
    ∀ (d : List EdgeV) (x : EdgeV) (A : Nat → Prop) (w : World), d.length < N → Q x → P d A w → Calls Tryz.prog g (#[.int .i64 x.1, .agg #[.int .i64 x.1, .int .i64 x.2.1, .int .i64 x.2.2.1, .int .u32 x.2.2.2]] ++ cb) w fun e w' => e = .returned (.tuple #[]) ∧ Hid (∃ A', P (d ++ [x]) A' w' ∧ Turned A w w' ∧ ∀ b, A' b → A b ∨ w.heap.size ≤ b)
  keep : ∀ d A w w', P d A w → (∀ b, A b → w'.heap[b]? = w.heap[b]?) → w.heap.size ≤ w'.heap.size → P d A w'
  lt : ∀ d A w b, P d A w → A b → b < w.heap.size
structure Mid [Inhabited EntI] (P : List EdgeV → (Nat → Prop) → World → Prop) (w : World) (X : Sto) (A : Nat → Prop) (n : Nat) (d : List EdgeV) (A' : Nat → Prop) (w' : World) : Prop where
  st : StAt w' { X with rd := X.rd + (n : Int) }
  pic : P d A' w'
  turned : Turned (fun b => X.L b ≠ none ∨ A b) w w'
  own : ∀ b, A' b → A b ∨ w.heap.size ≤ b
  off : ∀ b, A' b → X.L b = none
section
variable [Inhabited EntI] {P : List EdgeV → (Nat → Prop) → World → Prop} {w w' w2 : World} {X : Sto} {A A' : Nat → Prop} {n N : Nat} {d : List EdgeV} {Q : EdgeV → Prop} {fv : Value}
theorem Mid.below (hF : StepFn fv N Q P) (h : Mid P w X A n d A' w') (hb : Below w'.heap.size w' w2) : Mid P w X A n d A' w2 :=
  ⟨h.st.below hb, hF.keep _ _ _ _ h.pic (fun b hb' => hb.block b (hF.lt _ _ _ b h.pic hb')) hb.size, h.turned.trans (turned_of_below hb), h.own, h.off⟩
theorem Mid.read (hF : StepFn fv N Q P) (h : Mid P w X A n d A' w') (hS : Step w' { X with rd := X.rd + (n : Int) } w2 { X with rd := X.rd + (n : Int) + 1 }) : Mid P w X A (n + 1) d A' w2 := by
  obtain ⟨h1, -, h3⟩ := hS; refine ⟨?_, hF.keep _ _ _ _ h.pic (fun b hb' => (h3.old (hF.lt _ _ _ b h.pic hb') (h.off b hb')).1) h3.1.size, h.turned.trans (h3.1.mono (fun b _ hb => .inl hb)), h.own, h.off⟩
  have e : X.rd + ((n + 1 : Nat) : Int) = X.rd + (n : Int) + 1 := by omega
  rw [e]; exact h1
theorem Mid.step {x : EdgeV} {A2 : Nat → Prop} (h : Mid P w X A n d A' w') (hP : P (d ++ [x]) A2 w2) (hT : Turned A' w' w2) (ho : ∀ b, A2 b → A' b ∨ w'.heap.size ≤ b) : Mid P w X A n (d ++ [x]) A2 w2 := by
  refine ⟨h.st.kept (fun b hb => hT.block b (h.st.mem.lt b hb) (fun ha => hb (h.off b ha))) hT.size, hP, h.turned.then_ hT (fun b hb ha => ?_), fun b hb => ?_, fun b hb => ?_⟩
  · rcases h.own b ha with e | e
    · exact .inr e
    · exact absurd hb (Nat.not_lt.2 e)
  · rcases ho b hb with e | e
    · exact h.own b e
    · exact .inr (Nat.le_trans h.turned.size e)
  · rcases ho b hb with e | e
    · exact h.off b e
    · exact h.st.mem.new e
def AlongAns (P : List EdgeV → (Nat → Prop) → World → Prop) (w : World) (X : Sto) (A : Nat → Prop) (t : List EdgeV × Option Int) (w' : World) : Prop := ∃ A', Mid P w X A (tReads t) t.1 A' w'
set_option maxHeartbeats 2000000 in
set_option maxRecDepth 100000 in
theorem alongS (hF : StepFn fv N Q P) (from_ : Int) {ev : Value} {es : List Int} (h : StAt w X) (hr : SRow w ev es) (hl : es.length ≤ N) (hN : N ≤ 100000) (hx0 : 0 ≤ X.rd) (hx1 : X.rd ≤ 100000000)
    (hQ : ∀ (i : Nat) (x : EdgeV), X.ps[i]? = some (x, true) → Q x)
    (hP : P [] A w) (hA : ∀ b, A b → X.L b = none) (hb : ∀ b, blkOf ev = some b → b < w.heap.size → X.L b = none ∧ ¬ A b) :
    Calls Tryz.prog 40 #[.iface 24 (.pointer (some ⟨X.s, 0, none⟩)), .int .i64 from_, ev, fv] w fun e w' => e = .returned (.tuple #[.int .i64 (tPlace (trip X.ps from_ es)), .int .i64 (tCode (trip X.ps from_ es))]) ∧ Hid (AlongAns P w X A (trip X.ps from_ es) w') := by
  obtain ⟨g, cb, rfl, eg, hC⟩ := hF.fn; have HC := hide hC; have HF := hide hF; have HM0 : Hid (Mid P w X A 0 [] A w) := ⟨by simpa using h, hP, Turned.refl _ _, fun b hb => .inl hb, hA⟩
  obtain ⟨ea, ec, rfl, hcell⟩ := hr; have HROW : Hid (∀ n d A' W, Mid P w X A n d A' W → ∀ (j : Nat) (k : Int), es[j]? = some k → ∃ g o, ea = some ⟨g, o, none⟩ ∧ W.cell? ⟨g, o + j, none⟩ = some (.int .i64 k)) := fun n d A' W hM j k hj => by
    have := SRow.turned ⟨ea, ec, rfl, hcell⟩ hM.turned (fun b hbk hlt hor => hor.elim (fun e => e (hb b hbk hlt).1) (hb b hbk hlt).2)
    obtain ⟨a, c, e, h2⟩ := this; injection e with e1 e2 e3
    subst e1; exact h2 j k hj
  obtain ⟨len, hlen⟩ : ∃ len, len = es.length := ⟨_, rfl⟩; have HLEN : Hid (len = es.length ∧ len ≤ N ∧ N ≤ 100000 ∧ 0 ≤ X.rd ∧ X.rd ≤ 100000000) := ⟨hlen, by omega, hN, hx0, hx1⟩
  rw [← hlen]; have HQ : Hid (∀ (i : Nat) (x : EdgeV), X.ps[i]? = some (x, true) → Q x ∧ x.1 = (i : Int) + 1) := fun i x hi => ⟨hQ i x hi, (h.edge i x hi).1⟩
  -- one round's calls, over the store's own words
  have HNO : Hid (∀ n d A' W e, Mid P w X A n d A' W → lk X.ps e = none → Calls Tryz.prog 73 #[.pointer (some ⟨X.s, 0, none⟩), .int .i64 e] W fun r w' => r = .returned (.tuple #[.agg #[.int .i64 0, .int .i64 0, .int .i64 0, .int .u32 0], .int .i64 6]) ∧ Hid (Mid P w X A n d A' (w'.alloc (oE (0, 0, 0, 0))))) := fun n d A' W e hM hk => by
    refine (edgeNo e hM.st (fun i a he => lk_none hk i a he)).mono ?_
    rintro r w' ⟨rfl, hbw⟩
    exact ⟨rfl, (hM.below hF hbw).below hF (below_new _ _)⟩
  have HYES : Hid (∀ n d A' W e x, n ≤ N → Mid P w X A n d A' W → lk X.ps e = some x → Calls Tryz.prog 73 #[.pointer (some ⟨X.s, 0, none⟩), .int .i64 e] W fun r w' => r = .returned (.tuple #[.agg #[.int .i64 x.1, .int .i64 x.2.1, .int .i64 x.2.2.1, .int .u32 x.2.2.2], .int .i64 0]) ∧ Hid (Mid P w X A (n + 1) d A' (w'.alloc (oE x)) ∧ ∀ b, A' b → b < w'.heap.size)) := fun n d A' W e x hn hM hk => by
    obtain ⟨i, rfl, hi⟩ := lk_some hk; have q1 := (unhide HLEN); refine (edgeS i hM.st hi (by show 0 ≤ X.rd + (n : Int); omega) (by show X.rd + (n : Int) ≤ 1000000000; omega)).mono ?_
    rintro r w' ⟨rfl, hh⟩
    have h1 := hM.read hF (unhide hh); exact ⟨rfl, h1.below hF (below_new _ _), fun b hb' => hF.lt _ _ _ b h1.pic hb'⟩
  generalize hsx : X.s = s at *; clear hC hF h hP hA hb hcell hlen hl hN hx0 hx1 hQ hsx
  go_enter Tryz.func40, Tryz.ntmps40
  go_wp2_with fail
  go_loopw [10, 18] (fun sa si wr => ∃ (i : Nat) (d : List EdgeV) (at_ : Int), si = .int .i64 i ∧ sa = .int .i64 at_ ∧ i ≤ len ∧ Hid (∃ A', Mid P w X A i d A' wr ∧ Way X.ps from_ (es.take i) d ∧ at_ = endOf from_ d)) (fun _ si _ => len - (intOf si).toNat)
  case atStart => exact ⟨0, [], from_, rfl, rfl, Nat.zero_le _, A, unhide HM0, rfl, rfl⟩
  case round =>
    obtain ⟨i, d, at_, rfl, rfl, hi, hS⟩ := hrel; clear HM0
    by_cases hlt : i < len
    · have hz : (i : Int) < (len : Int) := by omega
      obtain ⟨A', hM, hW, hat⟩ := unhide hS; obtain ⟨e, he⟩ : ∃ e, es[i]? = some e := ⟨_, List.getElem?_eq_getElem (by have := (unhide HLEN).1; omega)⟩
      obtain ⟨eb, eo, rfl, hce⟩ := unhide HROW i d A' wr hM i e he; have hwi : wrap64 ((i : Int) + 1) = ((i + 1 : Nat) : Int) := by have := unhide HLEN; unfold wrap64; omega
      have HWI := hide hwi; have HT : Hid (trip X.ps from_ es = (d ++ (trip X.ps at_ (es.drop i)).1, (trip X.ps at_ (es.drop i)).2) ∧ es.drop i = e :: es.drop (i + 1) ∧ d.length = i) := by
        have h1 := Way.trip (es.drop i) hW; rw [List.take_append_drop] at h1; refine ⟨by rw [hat]; exact h1, ?_, ?_⟩
        · obtain ⟨hj, hj2⟩ := List.getElem?_eq_some_iff.1 he; rw [List.drop_eq_getElem_cons hj, hj2]
        · have := hW.len; rw [List.length_take] at this; have := (unhide HLEN).1; omega
      clear hwi
      cases hk : lk X.ps e with
      | none =>
        have C1 := hide (unhide HNO i d A' wr e hM hk); have HRES : Hid (trip X.ps from_ es = (d, some 6) ∧ d.length = i) := by
          obtain ⟨t1, t2, t3⟩ := unhide HT; rw [t1, t2, trip, hk]; exact ⟨by simp, t3⟩
        clear hS hM hW hat he hk HT
        go_wp2_with fail
        refine (unhide C1).mono ?_
        rintro r w1 ⟨rfl, h1⟩
        go_upto_region 6 with fail
        change Code.wp _ _ _ _ (w1.alloc (oE (0, 0, 0, 0))); generalize w1.alloc (oE (0, 0, 0, 0)) = w2 at *; clear C1 hce
        go_wp2_with fail
        go_ret2
        obtain ⟨t1, t2⟩ := unhide HRES; rw [t1]; refine ⟨by simp [tPlace, tCode, t2], A', ?_⟩
        have e1 : tReads (d, some 6) = i := by simp [tReads, t2]
        rw [e1]; exact unhide h1
      | some x =>
        obtain ⟨ii, hii, hps⟩ := lk_some hk; obtain ⟨hq, hx1⟩ := unhide HQ ii x hps; obtain ⟨xe, xu, xv, xb⟩ := x; have hxe : xe = e := by have h' : xe = (ii : Int) + 1 := hx1; rw [h', hii]
        subst hxe; have C1 := hide (unhide HYES i d A' wr xe (xe, xu, xv, xb) (by have := unhide HLEN; omega) hM hk)
        by_cases hu : xu = at_
        · have HRES : Hid (Way X.ps from_ (es.take (i + 1)) (d ++ [(xe, xu, xv, xb)]) ∧ endOf from_ (d ++ [(xe, xu, xv, xb)]) = xv ∧ d.length < N ∧ Q (xe, xu, xv, xb)) := by
            refine ⟨?_, endOf_snoc _ _ _, by have := (unhide HT).2.2; have := unhide HLEN; omega, hq⟩
            rw [take_succ_of he]; exact hW.snoc hk (hu.trans hat)
          clear hS hM hW hat he hk HT hq hx1 hii hps; subst hu
          go_wp2_with fail
          refine (unhide C1).mono ?_
          rintro r w1 ⟨rfl, h1⟩
          clear C1 hce
          go_upto_region 6 with fail
          change Code.wp _ _ _ _ (w1.alloc (oE (xe, xu, xv, xb))); obtain ⟨x0, x1, x2, x3, -⟩ := box_cells (heap_alloc_new w1 (oE (xe, xu, xv, xb))); have CS : Hid (Calls Tryz.prog g (#[.int .i64 xe, .agg #[.int .i64 xe, .int .i64 xu, .int .i64 xv, .int .u32 xb]] ++ cb) (w1.alloc (oE (xe, xu, xv, xb))) fun e w' => e = .returned (.tuple #[]) ∧ w'.cell? ⟨w1.heap.size, 2, none⟩ = some (.int .i64 xv) ∧ Hid (∃ A2, Mid P w X A (i + 1) (d ++ [(xe, xu, xv, xb)]) A2 w')) := by
            obtain ⟨q1, q2, q3, q4⟩ := unhide HRES; obtain ⟨m1, m2⟩ := unhide h1; have := unhide HC d (xe, xu, xv, xb) A' _ q3 q4 m1.pic; refine this.mono ?_
            rintro r w' ⟨rfl, hh⟩
            obtain ⟨A2, p1, p2, p3⟩ := unhide hh; refine ⟨rfl, ?_, A2, m1.step p1 p2 p3⟩; exact (cell_of_heap (x := ⟨w1.heap.size, 2, none⟩) (p2.block _ (by simp) (fun ha => Nat.lt_irrefl _ (m2 _ ha)))).trans x2
          clear h1; simp only at x0 x1 x2 x3; generalize w1.alloc (oE (xe, xu, xv, xb)) = w2 at *; generalize w1.heap.size = bx at *
          go_wp2_with fail
          refine (unhide CS).mono ?_
          rintro r w3 ⟨rfl, c3, h3⟩
          clear CS x0 x1 x2 x3
          go_wp2_with fail
          (try rw [unhide HWI])
          obtain ⟨A2, h4⟩ := unhide h3; obtain ⟨q1, q2, q3, q4⟩ := unhide HRES; exact ⟨⟨i + 1, d ++ [(xe, xu, xv, xb)], xv, rfl, rfl, by omega, A2, h4, q1, q2.symm⟩, by simp [intOf]; omega⟩
        · have HRES : Hid (trip X.ps from_ es = (d, some 80) ∧ d.length = i) := by
            obtain ⟨t1, t2, t3⟩ := unhide HT; rw [t1, t2, trip, hk]; simp only; rw [if_neg hu]; exact ⟨by simp, t3⟩
          have hu2 : (xu == at_) = false := by simp [hu]
          clear hS hM hW hat he hk HT hq hx1 hii hps
          go_wp2_with fail
          refine (unhide C1).mono ?_
          rintro r w1 ⟨rfl, h1⟩
          clear C1 hce
          go_upto_region 6 with fail
          change Code.wp _ _ _ _ (w1.alloc (oE (xe, xu, xv, xb))); obtain ⟨x0, x1, x2, x3, -⟩ := box_cells (heap_alloc_new w1 (oE (xe, xu, xv, xb))); simp only at x0 x1 x2 x3; generalize w1.alloc (oE (xe, xu, xv, xb)) = w2 at *; generalize w1.heap.size = bx at *
          go_wp2_with fail
          go_ret2
          obtain ⟨t1, t2⟩ := unhide HRES; rw [t1]; refine ⟨by simp [tPlace, tCode, t2], A', ?_⟩
          have e1 : tReads (d, some 80) = i + 1 := by simp [tReads, t2]
          rw [e1]; exact (unhide h1).1
    · have hz : ¬ (i : Int) < (len : Int) := by omega
      obtain ⟨A', hM, hW, hat⟩ := unhide hS; have e1 : es.take i = es := List.take_of_length_le (by have := (unhide HLEN).1; omega)
      have HRES : Hid (trip X.ps from_ es = (d, none) ∧ ∃ A', Mid P w X A (tReads (d, none)) d A' wr) := by
        rw [e1] at hW; refine ⟨hW.all, A', ?_⟩; have e2 : tReads (d, none) = i := by
          have h1 := hW.len; have := (unhide HLEN).1; simp [tReads]; omega
        rw [e2]; exact hM
      clear hS hM hW hat e1
      go_wp2_with fail
      go_ret2
      obtain ⟨t1, t2⟩ := unhide HRES; rw [t1]; exact ⟨by simp [tPlace, tCode], t2⟩
end
end

section
open Go.RowKit Go.Maps
structure ElKit (X : Type) (ev : X → Value) (ed : X → DataW Unit) (R : Value → Option (DataW Unit × List MemPlace)) : Prop where
  rd : ∀ x, R (ev x) = some (ed x, [])
  inv : ∀ v z, R v = some z → ∃ x, v = ev x ∧ z = (ed x, [])
  inj : ∀ a b, ed a = ed b → a = b
def MapG {X : Type} (ed : X → DataW Unit) (R : Value → Option (DataW Unit × List MemPlace)) (x0 : X) (w : World) (m : Nat) (f : Int → Option X) (n : Nat) : Prop :=
  ∃ D, w.ownsMap Tryz.prog 3 R m n D ∧ Maps.Tidy D ∧ Maps.size D = n ∧ ∀ k, okN k → D.atKey (klN k) (ed x0) = ed ((f k).getD x0) ∧ Maps.has D (klN k) = (f k).isSome
def putG {X : Type} (f : Int → Option X) (k : Int) (o : Option X) : Int → Option X := fun x => if x = k then o else f x
section
variable {X : Type} {ev : X → Value} {ed : X → DataW Unit} {R : Value → Option (DataW Unit × List MemPlace)} {x0 : X} {w w' : World} {m n : Nat} {f : Int → Option X} {t e : TypeId}
theorem MapG.lt (h : MapG ed R x0 w m f n) : m < w.heap.size := by obtain ⟨D, h1, -⟩ := h; exact h1.lt
theorem MapG.kept (h : MapG ed R x0 w m f n) (hk : w'.heap[m]? = w.heap[m]?) : MapG ed R x0 w' m f n := by
  obtain ⟨D, ⟨es, clock, h1, h2⟩, h3⟩ := h; exact ⟨D, ⟨es, clock, hk.trans h1, h2⟩, h3⟩
theorem MapG.congr {g : Int → Option X} (h : MapG ed R x0 w m f n) (hg : ∀ k, okN k → g k = f k) : MapG ed R x0 w m g n := by
  obtain ⟨D, h1, h2, h3, h4⟩ := h; exact ⟨D, h1, h2, h3, fun k hk => by rw [hg k hk]; exact h4 k hk⟩
theorem MapG.look (h : MapG ed R x0 w m f n) (kk : ElKit X ev ed R) (ht : Tryz.prog.underlying t = some (.map 3 e)) (hz : ∀ w, (zeroValue e).run Tryz.prog w = .ok (ev x0) w) {k : Int} (hk : okN k) :
    (Instr.lookup t (.map (some m)) (.int .i64 k) false).run Tryz.prog w = .ok (ev ((f k).getD x0)) w := by
  obtain ⟨D, h1, h2, h3, h4⟩ := h; obtain ⟨v, ps, hrun, hv⟩ := h1.lookup kitN.law ht (hz w) (kk.rd x0) (kitN.key k hk); obtain ⟨o, rfl, ho⟩ := kk.inv _ _ hv; have h5 : ed ((f k).getD x0) = ed o := by rw [← (h4 k hk).1]; exact congrArg Prod.fst ho
  rw [kk.inj _ _ h5]; exact hrun
theorem MapG.look2 (h : MapG ed R x0 w m f n) (kk : ElKit X ev ed R) (ht : Tryz.prog.underlying t = some (.map 3 e)) (hz : ∀ w, (zeroValue e).run Tryz.prog w = .ok (ev x0) w) {k : Int} (hk : okN k) :
    (Instr.lookup t (.map (some m)) (.int .i64 k) true).run Tryz.prog w = .ok (.tuple #[ev ((f k).getD x0), .bool (f k).isSome]) w := by
  obtain ⟨D, h1, h2, h3, h4⟩ := h; obtain ⟨v, ps, hrun, hv⟩ := h1.look_ok kitN.law ht (hz w) (kk.rd x0) (kitN.key k hk); obtain ⟨o, rfl, ho⟩ := kk.inv _ _ hv; have h5 : ed ((f k).getD x0) = ed o := by rw [← (h4 k hk).1]; exact congrArg Prod.fst ho
  rw [kk.inj _ _ h5, ← (h4 k hk).2]; exact hrun
theorem MapG.put (h : MapG ed R x0 w m f n) (kk : ElKit X ev ed R) (ht : Tryz.prog.underlying t = some (.map 3 e)) (hn : n < maxLen) {k : Int} (hk : okN k) (x : X) :
    ∃ w', (Instr.mapUpdate t (.map (some m)) (.int .i64 k) (ev x)).run Tryz.prog w = .ok () w' ∧ MapG ed R x0 w' m (putG f k (some x)) (if (f k).isSome then n else n + 1) ∧ w.mapTurned w' m := by
  obtain ⟨D, h1, h2, h3, h4⟩ := h; obtain ⟨w', hrun, g1, g2⟩ := h1.store kitN.law ht hn (kitN.key k hk) (kk.rd x); have hs : Maps.size (D.put (klN k) (ed x)) = if (f k).isSome then n else n + 1 := by rw [size_put h2, h3, (h4 k hk).2]
  refine ⟨w', hrun, ⟨_, hs ▸ ownsMap_size g1, h2.put (kitN.lit k) _, hs, fun y hy => ?_⟩, g2⟩
  by_cases e : y = k
  · subst e; rw [atKey_put_same h2.isMap (kitN.lit y), has_put_same h2.isMap (kitN.lit y)]; simp [putG]
  · have hne : klN y ≠ klN k := fun he => e (kitN.inj _ _ he)
    rw [atKey_put_other hne, has_put_other hne]; simp only [putG, if_neg e]; exact h4 y hy
theorem mapG_made (w : World) : MapG ed R x0 (w.alloc (.map #[] 0)) w.heap.size (fun _ => none) 0 :=
  ⟨.map [], World.ownsMap_made w _ _ _, tidy_empty, rfl, fun _ _ => ⟨rfl, rfl⟩⟩
end
/-! ### records of edges as a map's elements -/
def evEd (x : EdgeV) : Value := .agg #[.int .i64 x.1, .int .i64 x.2.1, .int .i64 x.2.2.1, .int .u32 x.2.2.2]
def edEd (x : EdgeV) : DataW Unit := .agg [.lit (.int .i64 x.1), .lit (.int .i64 x.2.1), .lit (.int .i64 x.2.2.1), .lit (.int .u32 x.2.2.2)]
def rdEd : Value → Option (DataW Unit × List MemPlace)
  | .agg ⟨[.int .i64 e, .int .i64 u, .int .i64 v, .int .u32 b]⟩ => some (.agg [.lit (.int .i64 e), .lit (.int .i64 u), .lit (.int .i64 v), .lit (.int .u32 b)], [])
  | _ => none
theorem kitEd : ElKit EdgeV evEd edEd rdEd := by
  refine ⟨fun _ => rfl, fun v z h => ?_, fun a b h => ?_⟩
  · unfold rdEd at h; split at h
    · rename_i e u v b; exact ⟨(e, u, v, b), rfl, (Option.some.inj h).symm⟩
    · cases h
  · obtain ⟨a1, a2, a3, a4⟩ := a; obtain ⟨b1, b2, b3, b4⟩ := b; simp only [edEd, DataW.agg.injEq, List.cons.injEq, DataW.lit.injEq, Lit.int.injEq, true_and, and_true] at h; rw [h.1, h.2.1, h.2.2.1, h.2.2.2]
theorem zeroEd (w : World) : (zeroValue 64).run Tryz.prog w = .ok (evEd (0, 0, 0, 0)) w := by kernel_rfl
def Kn (ps : List (EdgeV × Bool)) (c : Nat) (w : World) (m : Nat) : Prop := ∃ f n, MapG edEd rdEd ((0, 0, 0, 0) : EdgeV) w m f n ∧ n ≤ c ∧ ∀ e x, okN e → f e = some x → lk ps e = some x
end

end Go.Proofs.YtagibmgbjhemkaaGreat

/- The reference's AddVertex. -/
import Derived.Test.YtagibmgbjhemkaaGreatRefNums
import Derived.Laws.ResultCell
namespace Go.Proofs.YtagibmgbjhemkaaGreat
open Go.RowKit Go.Maps

theorem loadG (w : World) (g : Nat) (a b c d : Value) (h : w.heap[g]? = some (.cells #[a, b, c, d] 28 (0, 0))) : (loadVar 28 ⟨g, 0, none⟩).run Tryz.prog w = .ok (.agg #[a, b, c, d]) w :=
  run_loadVar_mid (P := Tryz.prog) w g 0 28 [a, b, c, d] _ (fun j v hj => by
    match j with
    | 0 => simp at hj; subst hj; exact (cell_of_row _ _ 0 _ 28 (0, 0) h).trans rfl
    | 1 => simp at hj; subst hj; exact (cell_of_row _ _ 1 _ 28 (0, 0) h).trans rfl
    | 2 => simp at hj; subst hj; exact (cell_of_row _ _ 2 _ 28 (0, 0) h).trans rfl
    | 3 => simp at hj; subst hj; exact (cell_of_row _ _ 3 _ 28 (0, 0) h).trans rfl
    | j + 4 => simp at hj) Tryz.underlying28 rfl (by kernel_rfl)
theorem resG {fn : Func} {p u : Tmp} (h : fn.results = #[.cell p 28, .tmp u]) (tmps : Array Value) (w : World) (g : Nat) (a b c d : Value) (hp : tmps.getD p undef = .pointer (some ⟨g, 0, none⟩)) (hg : w.heap[g]? = some (.cells #[a, b, c, d] 28 (0, 0))) :
    (results fn tmps).run Tryz.prog w = .ok (.tuple #[.agg #[a, b, c, d], tmps.getD u undef]) w := by
  rw [results_cell_tmp h, hp]
  simp only [asAddr, Sem.run_pure, Result.andThen_ok, loadG w g a b c d hg]
theorem set4G_at {w : World} {g : Nat} {x0 x1 x2 x3 : Value} (h : w.heap[g]? = some (.cells #[x0, x1, x2, x3] 28 (0, 0))) (a b c d : Value) : (set4 w g a b c d).heap[g]? = some (.cells #[a, b, c, d] 28 (0, 0)) := by
  have e0 : (w.setCell ⟨g, 0, none⟩ a).heap[g]? = some (.cells #[a, x1, x2, x3] 28 (0, 0)) := by rw [heap_setCell_same _ _ _ _ _ _ h]; rfl
  have e1 : ((w.setCell ⟨g, 0, none⟩ a).setCell ⟨g, 1, none⟩ b).heap[g]? = some (.cells #[a, b, x2, x3] 28 (0, 0)) := by rw [heap_setCell_same _ _ _ _ _ _ e0]; rfl
  have e2 : (((w.setCell ⟨g, 0, none⟩ a).setCell ⟨g, 1, none⟩ b).setCell ⟨g, 2, none⟩ c).heap[g]? = some (.cells #[a, b, c, x3] 28 (0, 0)) := by rw [heap_setCell_same _ _ _ _ _ _ e1]; rfl
  unfold set4
  rw [heap_setCell_same _ _ _ _ _ _ e2]; rfl
/-- A graph's box and the box of the result. -/
def oZ : Obj := .cells #[.slice none 0 0, .slice none 0 0, .int .i64 0, .int .i64 0] 28 (0, 0)
theorem two_boxes (w : World) (o : Obj) : ((w.alloc o).alloc oZ).heap[w.heap.size]? = some o ∧ ((w.alloc o).alloc oZ).heap[w.heap.size + 1]? = some oZ ∧ Below w.heap.size w ((w.alloc o).alloc oZ) ∧ ((w.alloc o).alloc oZ).heap.size = w.heap.size + 2 := by
  have h1 : (w.alloc o).heap.size = w.heap.size + 1 := by simp
  refine ⟨(heap_alloc_old _ _ (by omega)).trans (heap_alloc_new _ _), ?_, (below_new w o).trans ((below_new _ _).mono (by omega)), by simp⟩
  have := heap_alloc_new (w.alloc o) oZ
  rwa [h1] at this

theorem cnt_of {ks : List Int} {v : Int} {i : Nat} (hr : Rising ltN ks) (hi : i ≤ ks.length) (h1 : ∀ j, j < i → ks.getD j 0 < v) (h2 : i = ks.length ∨ ¬ ks.getD i 0 < v) : cnt ltN ks v = i := by
  obtain ⟨p1, p2⟩ := cnt_parts linN v hr
  have hc := cnt_le (lt := ltN) ks v
  rcases Nat.lt_trichotomy (cnt ltN ks v) i with e | e | e
  · exfalso
    have hm : ks[cnt ltN ks v]'(by omega) ∈ ks.drop (cnt ltN ks v) := List.mem_iff_getElem.2 ⟨0, by simp; omega, by simp⟩
    have := p2 _ hm
    have h3 := h1 _ e
    simp only [ltN, decide_eq_false_iff_not] at this
    simp [List.getD, show cnt ltN ks v < ks.length by omega] at h3
    omega
  · exact e
  · exfalso
    rcases h2 with h2 | h2
    · omega
    · have hm : ks[i]'(by omega) ∈ ks.take (cnt ltN ks v) := List.mem_iff_getElem.2 ⟨i, by simp; omega, by simp⟩
      have := p1 _ hm
      simp only [ltN, decide_eq_true_eq] at this
      simp [List.getD, show i < ks.length by omega] at h2
      omega

/-- The block of a list is the former one's or new. -/
def Apt (w : World) (v v' : Value) : Prop := ∀ b, v'.ownBlock = some b → v.ownBlock = some b ∨ w.heap.size ≤ b
theorem Apt.refl (w : World) (v : Value) : Apt w v v := fun _ h => .inl h
theorem Apt.new {w : World} {v v' : Value} {B : Nat} (h : ∀ b, v'.ownBlock = some b → B ≤ b) (hB : w.heap.size ≤ B) : Apt w v v' := fun b hb => .inr (Nat.le_trans hB (h b hb))

/-- What a call of the reference answers: a graph and a code. -/
def AnsG (w : World) (vv0 ev0 : Value) (vs : List Int) (es : List EdgeV) (rd wr code : Int) (e : Ending) (w' : World) : Prop :=
  ∃ vv ev, e = .returned (.tuple #[.agg #[vv, ev, .int .i64 rd, .int .i64 wr], .int .i64 code]) ∧ NRow w' vv vs ∧ GRow 0 w' ev es ∧ Below w.heap.size w w' ∧ Apt w vv0 vv ∧ Apt w ev0 ev

set_option maxHeartbeats 2000000 in
set_option maxRecDepth 100000 in
theorem refAddVBad {w : World} {vv ev : Value} {rd wr : Int} {vs : List Int} {es : List EdgeV} (v : Int) (h : NRow w vv vs) (hE : GRow 0 w ev es) (hv : v < 0 ∨ 2147483647 < v) :
    Calls Tryz.prog 63 #[.agg #[vv, ev, .int .i64 rd, .int .i64 wr], .int .i64 v] w fun e w' => Hid (AnsG w vv ev vs es rd wr 4 e w') := by
  obtain ⟨t1, t2, t3, t4⟩ := two_boxes w (oG vv ev rd wr)
  obtain ⟨c0, c1, c2, c3, cf⟩ := cellsG t1
  obtain ⟨d0, d1, d2, d3, df⟩ := cellsG (b := w.heap.size + 1) (vv := .slice none 0 0) (ev := .slice none 0 0) (rd := 0) (wr := 0) t2
  have HT := hide t2
  have HT1 := hide t1
  have HF : Hid (∀ W, Below w.heap.size w W → NRow W vv vs ∧ GRow 0 W ev es) := fun W hW => ⟨nrow_below h hW, grow_below hE hW⟩
  have HB := hide t3
  obtain ⟨va, vc, hvv, -⟩ := brow_shape h
  obtain ⟨vn, hvv', hvn⟩ : ∃ vn, vv = .slice va vn vc ∧ vn = vs.length := ⟨_, hvv, rfl⟩
  obtain ⟨ea, en, ec, hev⟩ := grow_shape hE
  have hne : ¬ w.heap.size = w.heap.size + 1 := by omega
  have hne2 : ¬ w.heap.size + 1 = w.heap.size := by omega
  have HN := hide hvn
  have HS4 := hide t4
  clear t1 t2 t3 t4 h hE hvv hvn
  subst hvv' hev
  by_cases h1 : v < 0
  · clear hv
    go_enter Tryz.func63, Tryz.ntmps63
    go_upto_region 1 with fail
    change Code.wp _ _ _ _ ((w.alloc (oG (.slice va vn vc) (.slice ea en ec) rd wr)).alloc oZ)
    generalize (w.alloc (oG (.slice va vn vc) (.slice ea en ec) rd wr)).alloc oZ = wb at *
    generalize hb1 : w.heap.size + 1 = b1 at *
    generalize hbb : w.heap.size = bb at *
    go_wp2_with fail
    (try simp only [Exit.inBlock, Exit.then])
    change bodyPost _ _ _ _ _ (set4 wb b1 _ _ _ _)
    refine bodyPost_ret (resG rfl _ _ b1 _ _ _ _ rfl (set4G_at (unhide HT) _ _ _ _)) rfl ?_
    have hB := set4_below (unhide HB) (by omega : bb ≤ b1) (.slice va vn vc) (.slice ea en ec) (.int .i64 rd) (.int .i64 wr)
    exact ⟨_, _, rfl, (unhide HF _ hB).1, (unhide HF _ hB).2, by first | exact hB | (rw [hbb]; exact hB), Apt.refl _ _, Apt.refl _ _⟩
  · have h2 : 2147483647 < v := hv.resolve_left h1
    clear hv
    go_enter Tryz.func63, Tryz.ntmps63
    go_upto_region 1 with fail
    change Code.wp _ _ _ _ ((w.alloc (oG (.slice va vn vc) (.slice ea en ec) rd wr)).alloc oZ)
    generalize (w.alloc (oG (.slice va vn vc) (.slice ea en ec) rd wr)).alloc oZ = wb at *
    generalize hb1 : w.heap.size + 1 = b1 at *
    generalize hbb : w.heap.size = bb at *
    go_wp2_with fail
    (try simp only [Exit.inBlock, Exit.then])
    change bodyPost _ _ _ _ _ (set4 wb b1 _ _ _ _)
    refine bodyPost_ret (resG rfl _ _ b1 _ _ _ _ rfl (set4G_at (unhide HT) _ _ _ _)) rfl ?_
    have hB := set4_below (unhide HB) (by omega : bb ≤ b1) (.slice va vn vc) (.slice ea en ec) (.int .i64 rd) (.int .i64 wr)
    exact ⟨_, _, rfl, (unhide HF _ hB).1, (unhide HF _ hB).2, by first | exact hB | (rw [hbb]; exact hB), Apt.refl _ _, Apt.refl _ _⟩

set_option maxHeartbeats 2000000 in
set_option maxRecDepth 100000 in
theorem refAddVTwice {w : World} {vv ev : Value} {rd wr : Int} {vs : List Int} {es : List EdgeV} (v : Int) (h : NRow w vv vs) (hE : GRow 0 w ev es) (hl : vs.length ≤ 1000000) (h0 : 0 ≤ v) (h1 : v ≤ 2147483647) (hv : v ∈ vs) :
    Calls Tryz.prog 63 #[.agg #[vv, ev, .int .i64 rd, .int .i64 wr], .int .i64 v] w fun e w' => Hid (AnsG w vv ev vs es rd wr 2 e w') := by
  obtain ⟨t1, t2, t3, t4⟩ := two_boxes w (oG vv ev rd wr)
  obtain ⟨c0, c1, c2, c3, cf⟩ := cellsG t1
  obtain ⟨d0, d1, d2, d3, df⟩ := cellsG (b := w.heap.size + 1) (vv := .slice none 0 0) (ev := .slice none 0 0) (rd := 0) (wr := 0) t2
  have HT := hide t2
  have HT1 := hide t1
  have HF : Hid (∀ W, Below w.heap.size w W → NRow W vv vs ∧ GRow 0 W ev es) := fun W hW => ⟨nrow_below h hW, grow_below hE hW⟩
  have HB := hide t3
  obtain ⟨va, vc, hvv, -⟩ := brow_shape h
  obtain ⟨vn, hvv', hvn⟩ : ∃ vn, vv = .slice va vn vc ∧ vn = vs.length := ⟨_, hvv, rfl⟩
  obtain ⟨ea, en, ec, hev⟩ := grow_shape hE
  have hne : ¬ w.heap.size = w.heap.size + 1 := by omega
  have hne2 : ¬ w.heap.size + 1 = w.heap.size := by omega
  have HN := hide hvn
  have HS4 := hide t4
  have CH : Hid (Calls Tryz.prog 19 #[.agg #[vv, ev, .int .i64 rd, .int .i64 wr], .int .i64 v] ((w.alloc (oG vv ev rd wr)).alloc oZ) fun e w2 => e = .returned (.bool (decide (v ∈ vs))) ∧ Hid (w2.heap[w.heap.size + 1]? = some oZ ∧ w2.heap[w.heap.size]? = some (oG vv ev rd wr) ∧ Below w.heap.size w w2 ∧ w.heap.size + 2 ≤ w2.heap.size)) := by
    refine (refHas v (nrow_below h t3) hl).mono ?_
    rintro e w2 ⟨rfl, g⟩
    have gs := g.size
    exact ⟨rfl, (g.block _ (by omega)).trans t2, (g.block _ (by omega)).trans t1, t3.trans (g.mono (by omega)), by omega⟩
  rw [decide_eq_true hv] at CH
  have n0 : ¬ v < 0 := by omega
  have n1 : ¬ 2147483647 < v := by omega
  clear t1 t2 t3 t4 h hE hvv hvn hl h0 h1 hv
  subst hvv' hev
  go_enter Tryz.func63, Tryz.ntmps63
  go_upto_region 1 with fail
  change Code.wp _ _ _ _ ((w.alloc (oG (.slice va vn vc) (.slice ea en ec) rd wr)).alloc oZ)
  generalize (w.alloc (oG (.slice va vn vc) (.slice ea en ec) rd wr)).alloc oZ = wb at *
  generalize hb1 : w.heap.size + 1 = b1 at *
  generalize hbb : w.heap.size = bb at *
  go_wp2_with fail
  refine (unhide CH).mono ?_
  rintro e w2 ⟨rfl, h2⟩
  obtain ⟨k1, k2, k3, k4⟩ := unhide h2
  clear c0 c1 c2 c3 cf d0 d1 d2 d3 df CH HT HT1 HB h2
  obtain ⟨c0, c1, c2, c3, cf⟩ := cellsG k2
  obtain ⟨d0, d1, d2, d3, df⟩ := cellsG (vv := .slice none 0 0) (ev := .slice none 0 0) (rd := 0) (wr := 0) k1
  have HT := hide k1
  have HB := hide k3
  clear k1 k2 k3 k4
  go_wp2_with fail
  (try simp only [Exit.inBlock, Exit.then])
  change bodyPost _ _ _ _ _ (set4 w2 b1 _ _ _ _)
  refine bodyPost_ret (resG rfl _ _ b1 _ _ _ _ rfl (set4G_at (unhide HT) _ _ _ _)) rfl ?_
  have hB := set4_below (unhide HB) (by omega : bb ≤ b1) (.slice va vn vc) (.slice ea en ec) (.int .i64 rd) (.int .i64 wr)
  exact ⟨_, _, rfl, (unhide HF _ hB).1, (unhide HF _ hB).2, by first | exact hB | (rw [hbb]; exact hB), Apt.refl _ _, Apt.refl _ _⟩

set_option maxHeartbeats 2000000 in
set_option maxRecDepth 100000 in
theorem refAddVMany {w : World} {vv ev : Value} {rd wr : Int} {vs : List Int} {es : List EdgeV} (v : Int) (h : NRow w vv vs) (hE : GRow 0 w ev es) (hl : vs.length ≤ 1000000) (h0 : 0 ≤ v) (h1 : v ≤ 2147483647) (hv : v ∉ vs) (hN : 256 ≤ vs.length) :
    Calls Tryz.prog 63 #[.agg #[vv, ev, .int .i64 rd, .int .i64 wr], .int .i64 v] w fun e w' => Hid (AnsG w vv ev vs es rd wr 8 e w') := by
  obtain ⟨t1, t2, t3, t4⟩ := two_boxes w (oG vv ev rd wr)
  obtain ⟨c0, c1, c2, c3, cf⟩ := cellsG t1
  obtain ⟨d0, d1, d2, d3, df⟩ := cellsG (b := w.heap.size + 1) (vv := .slice none 0 0) (ev := .slice none 0 0) (rd := 0) (wr := 0) t2
  have HT := hide t2
  have HT1 := hide t1
  have HF : Hid (∀ W, Below w.heap.size w W → NRow W vv vs ∧ GRow 0 W ev es) := fun W hW => ⟨nrow_below h hW, grow_below hE hW⟩
  have HB := hide t3
  obtain ⟨va, vc, hvv, -⟩ := brow_shape h
  obtain ⟨vn, hvv', hvn⟩ : ∃ vn, vv = .slice va vn vc ∧ vn = vs.length := ⟨_, hvv, rfl⟩
  obtain ⟨ea, en, ec, hev⟩ := grow_shape hE
  have hne : ¬ w.heap.size = w.heap.size + 1 := by omega
  have hne2 : ¬ w.heap.size + 1 = w.heap.size := by omega
  have HN := hide hvn
  have HS4 := hide t4
  have CH : Hid (Calls Tryz.prog 19 #[.agg #[vv, ev, .int .i64 rd, .int .i64 wr], .int .i64 v] ((w.alloc (oG vv ev rd wr)).alloc oZ) fun e w2 => e = .returned (.bool (decide (v ∈ vs))) ∧ Hid (w2.heap[w.heap.size + 1]? = some oZ ∧ w2.heap[w.heap.size]? = some (oG vv ev rd wr) ∧ Below w.heap.size w w2 ∧ w.heap.size + 2 ≤ w2.heap.size)) := by
    refine (refHas v (nrow_below h t3) hl).mono ?_
    rintro e w2 ⟨rfl, g⟩
    have gs := g.size
    exact ⟨rfl, (g.block _ (by omega)).trans t2, (g.block _ (by omega)).trans t1, t3.trans (g.mono (by omega)), by omega⟩
  rw [decide_eq_false hv] at CH
  have n0 : ¬ v < 0 := by omega
  have n1 : ¬ 2147483647 < v := by omega
  have n2 : (256 : Int) ≤ (vn : Int) := by omega
  clear t1 t2 t3 t4 h hE hvv hvn hl h0 h1 hv hN
  subst hvv' hev
  go_enter Tryz.func63, Tryz.ntmps63
  go_upto_region 1 with fail
  change Code.wp _ _ _ _ ((w.alloc (oG (.slice va vn vc) (.slice ea en ec) rd wr)).alloc oZ)
  generalize (w.alloc (oG (.slice va vn vc) (.slice ea en ec) rd wr)).alloc oZ = wb at *
  generalize hb1 : w.heap.size + 1 = b1 at *
  generalize hbb : w.heap.size = bb at *
  go_wp2_with fail
  refine (unhide CH).mono ?_
  rintro e w2 ⟨rfl, h2⟩
  obtain ⟨k1, k2, k3, k4⟩ := unhide h2
  clear c0 c1 c2 c3 cf d0 d1 d2 d3 df CH HT HT1 HB h2
  obtain ⟨c0, c1, c2, c3, cf⟩ := cellsG k2
  obtain ⟨d0, d1, d2, d3, df⟩ := cellsG (vv := .slice none 0 0) (ev := .slice none 0 0) (rd := 0) (wr := 0) k1
  have HT := hide k1
  have HB := hide k3
  clear k1 k2 k3 k4
  go_wp2_with fail
  (try simp only [Exit.inBlock, Exit.then])
  change bodyPost _ _ _ _ _ (set4 w2 b1 _ _ _ _)
  refine bodyPost_ret (resG rfl _ _ b1 _ _ _ _ rfl (set4G_at (unhide HT) _ _ _ _)) rfl ?_
  have hB := set4_below (unhide HB) (by omega : bb ≤ b1) (.slice va vn vc) (.slice ea en ec) (.int .i64 rd) (.int .i64 wr)
  exact ⟨_, _, rfl, (unhide HF _ hB).1, (unhide HF _ hB).2, by first | exact hB | (rw [hbb]; exact hB), Apt.refl _ _, Apt.refl _ _⟩
end Go.Proofs.YtagibmgbjhemkaaGreat

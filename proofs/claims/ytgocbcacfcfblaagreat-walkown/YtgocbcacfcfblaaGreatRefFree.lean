/- The reference's Admit, Free, SameInts. -/
import Derived.Test.YtgocbcacfcfblaaGreatRefNums
import Derived.Laws.ResultCell
import Derived.Test.YtgocbcacfcfblaaGreatTail
namespace Go.Proofs.YtgocbcacfcfblaaGreat

section
open Go.RowKit Go.Maps
theorem loadG (w : World) (g : Nat) (a b c d : Value) (h : w.heap[g]? = some (.cells #[a, b, c, d] 27 (0, 0))) : (loadVar 27 ⟨g, 0, none⟩).run Tryz.prog w = .ok (.agg #[a, b, c, d]) w :=
  run_loadVar_mid (P := Tryz.prog) w g 0 27 [a, b, c, d] _ (fun j v hj => by
    match j with
    | 0 => simp at hj; subst hj; exact (cell_of_row _ _ 0 _ 27 (0, 0) h).trans rfl
    | 1 => simp at hj; subst hj; exact (cell_of_row _ _ 1 _ 27 (0, 0) h).trans rfl
    | 2 => simp at hj; subst hj; exact (cell_of_row _ _ 2 _ 27 (0, 0) h).trans rfl
    | 3 => simp at hj; subst hj; exact (cell_of_row _ _ 3 _ 27 (0, 0) h).trans rfl
    | j + 4 => simp at hj) Tryz.underlying27 rfl (by kernel_rfl)
theorem resG {fn : Func} {p u : Tmp} (h : fn.results = #[.cell p 27, .tmp u]) (tmps : Array Value) (w : World) (g : Nat) (a b c d : Value) (hp : tmps.getD p undef = .pointer (some ⟨g, 0, none⟩)) (hg : w.heap[g]? = some (.cells #[a, b, c, d] 27 (0, 0))) :
    (results fn tmps).run Tryz.prog w = .ok (.tuple #[.agg #[a, b, c, d], tmps.getD u undef]) w := by
  rw [results_cell_tmp h, hp]
  simp only [asAddr, Sem.run_pure, Result.andThen_ok, loadG w g a b c d hg]
theorem set4G_at {w : World} {g : Nat} {x0 x1 x2 x3 : Value} (h : w.heap[g]? = some (.cells #[x0, x1, x2, x3] 27 (0, 0))) (a b c d : Value) : (set4 w g a b c d).heap[g]? = some (.cells #[a, b, c, d] 27 (0, 0)) := by
  have e0 : (w.setCell ⟨g, 0, none⟩ a).heap[g]? = some (.cells #[a, x1, x2, x3] 27 (0, 0)) := by rw [heap_setCell_same _ _ _ _ _ _ h]; rfl
  have e1 : ((w.setCell ⟨g, 0, none⟩ a).setCell ⟨g, 1, none⟩ b).heap[g]? = some (.cells #[a, b, x2, x3] 27 (0, 0)) := by rw [heap_setCell_same _ _ _ _ _ _ e0]; rfl
  have e2 : (((w.setCell ⟨g, 0, none⟩ a).setCell ⟨g, 1, none⟩ b).setCell ⟨g, 2, none⟩ c).heap[g]? = some (.cells #[a, b, c, x3] 27 (0, 0)) := by rw [heap_setCell_same _ _ _ _ _ _ e1]; rfl
  unfold set4
  rw [heap_setCell_same _ _ _ _ _ _ e2]; rfl
/-- A graph's box and the box of the result. -/
def oZ : Obj := .cells #[.slice none 0 0, .slice none 0 0, .int .i64 0, .int .i64 0] 27 (0, 0)
theorem two_boxes (w : World) (o : Obj) : ((w.alloc o).alloc oZ).heap[w.heap.size]? = some o ∧ ((w.alloc o).alloc oZ).heap[w.heap.size + 1]? = some oZ ∧ Below w.heap.size w ((w.alloc o).alloc oZ) ∧ ((w.alloc o).alloc oZ).heap.size = w.heap.size + 2 := by
  have h1 : (w.alloc o).heap.size = w.heap.size + 1 := by simp
  refine ⟨(heap_alloc_old _ _ (by omega)).trans (heap_alloc_new _ _), ?_, (below_new w o).trans ((below_new _ _).mono (by omega)), by simp⟩
  have := heap_alloc_new (w.alloc o) oZ
  rwa [h1] at this

theorem cnt_of {ks : List Int} {v : Int} {i : Nat} (hr : Rising ltN ks) (hi : i ≤ ks.length) (h1 : ∀ j, j < i → ks.getD j 0 < v) (h2 : i = ks.length ∨ ¬ ks.getD i 0 < v) : cnt ltN ks v = i := by
  obtain ⟨p1, p2⟩ := cnt_parts linN v hr
  have hc := cnt_le (lt := ltN) ks v
  rcases Nat.lt_trichotomy (cnt ltN ks v) i with e | e | e
  · exfalso
    have hm : ks[cnt ltN ks v]'(by omega) ∈ ks.drop (cnt ltN ks v) := List.mem_iff_getElem.2 ⟨0, by simp; omega, by simp⟩
    have := p2 _ hm
    have h3 := h1 _ e
    simp only [ltN, decide_eq_false_iff_not] at this
    simp [List.getD, show cnt ltN ks v < ks.length by omega] at h3
    omega
  · exact e
  · exfalso
    rcases h2 with h2 | h2
    · omega
    · have hm : ks[i]'(by omega) ∈ ks.take (cnt ltN ks v) := List.mem_iff_getElem.2 ⟨i, by simp; omega, by simp⟩
      have := p1 _ hm
      simp only [ltN, decide_eq_true_eq] at this
      simp [List.getD, show i < ks.length by omega] at h2
      omega

/-- The block of a list is the former one's or new. -/
def Apt (w : World) (v v' : Value) : Prop := ∀ b, v'.ownBlock = some b → v.ownBlock = some b ∨ w.heap.size ≤ b
theorem Apt.refl (w : World) (v : Value) : Apt w v v := fun _ h => .inl h
theorem Apt.new {w : World} {v v' : Value} {B : Nat} (h : ∀ b, v'.ownBlock = some b → B ≤ b) (hB : w.heap.size ≤ B) : Apt w v v' := fun b hb => .inr (Nat.le_trans hB (h b hb))

/-- What a call of the reference answers: a graph and a code. -/
def AnsG (w : World) (vv0 ev0 : Value) (vs : List Int) (es : List EdgeV) (rd wr code : Int) (e : Ending) (w' : World) : Prop :=
  ∃ vv ev, e = .returned (.tuple #[.agg #[vv, ev, .int .i64 rd, .int .i64 wr], .int .i64 code]) ∧ NRow w' vv vs ∧ GRow 0 w' ev es ∧ Below w.heap.size w w' ∧ Apt w vv0 vv ∧ Apt w ev0 ev

set_option maxHeartbeats 2000000 in
set_option maxRecDepth 100000 in
theorem refAddVBad {w : World} {vv ev : Value} {rd wr : Int} {vs : List Int} {es : List EdgeV} (v : Int) (h : NRow w vv vs) (hE : GRow 0 w ev es) (hv : v < 0 ∨ 2147483647 < v) :
    Calls Tryz.prog 52 #[.agg #[vv, ev, .int .i64 rd, .int .i64 wr], .int .i64 v] w fun e w' => Hid (AnsG w vv ev vs es rd wr 4 e w') := by
  obtain ⟨t1, t2, t3, t4⟩ := two_boxes w (oG vv ev rd wr)
  obtain ⟨c0, c1, c2, c3, cf⟩ := cellsG t1
  obtain ⟨d0, d1, d2, d3, df⟩ := cellsG (b := w.heap.size + 1) (vv := .slice none 0 0) (ev := .slice none 0 0) (rd := 0) (wr := 0) t2
  have HT := hide t2
  have HT1 := hide t1
  have HF : Hid (∀ W, Below w.heap.size w W → NRow W vv vs ∧ GRow 0 W ev es) := fun W hW => ⟨nrow_below h hW, grow_below hE hW⟩
  have HB := hide t3
  obtain ⟨va, vc, hvv, -⟩ := brow_shape h
  obtain ⟨vn, hvv', hvn⟩ : ∃ vn, vv = .slice va vn vc ∧ vn = vs.length := ⟨_, hvv, rfl⟩
  obtain ⟨ea, en, ec, hev⟩ := grow_shape hE
  have hne : ¬ w.heap.size = w.heap.size + 1 := by omega
  have hne2 : ¬ w.heap.size + 1 = w.heap.size := by omega
  have HN := hide hvn
  have HS4 := hide t4
  clear t1 t2 t3 t4 h hE hvv hvn
  subst hvv' hev
  by_cases h1 : v < 0
  · clear hv
    go_enter Tryz.func52, Tryz.ntmps52
    go_upto_region 1 with fail
    change Code.wp _ _ _ _ ((w.alloc (oG (.slice va vn vc) (.slice ea en ec) rd wr)).alloc oZ)
    generalize (w.alloc (oG (.slice va vn vc) (.slice ea en ec) rd wr)).alloc oZ = wb at *
    generalize hb1 : w.heap.size + 1 = b1 at *
    generalize hbb : w.heap.size = bb at *
    go_wp2_with fail
    (try simp only [Exit.inBlock, Exit.then])
    change bodyPost _ _ _ _ _ (set4 wb b1 _ _ _ _)
    refine bodyPost_ret (resG rfl _ _ b1 _ _ _ _ rfl (set4G_at (unhide HT) _ _ _ _)) rfl ?_
    have hB := set4_below (unhide HB) (by omega : bb ≤ b1) (.slice va vn vc) (.slice ea en ec) (.int .i64 rd) (.int .i64 wr)
    exact ⟨_, _, rfl, (unhide HF _ hB).1, (unhide HF _ hB).2, by first | exact hB | (rw [hbb]; exact hB), Apt.refl _ _, Apt.refl _ _⟩
  · have h2 : 2147483647 < v := hv.resolve_left h1
    clear hv
    go_enter Tryz.func52, Tryz.ntmps52
    go_upto_region 1 with fail
    change Code.wp _ _ _ _ ((w.alloc (oG (.slice va vn vc) (.slice ea en ec) rd wr)).alloc oZ)
    generalize (w.alloc (oG (.slice va vn vc) (.slice ea en ec) rd wr)).alloc oZ = wb at *
    generalize hb1 : w.heap.size + 1 = b1 at *
    generalize hbb : w.heap.size = bb at *
    go_wp2_with fail
    (try simp only [Exit.inBlock, Exit.then])
    change bodyPost _ _ _ _ _ (set4 wb b1 _ _ _ _)
    refine bodyPost_ret (resG rfl _ _ b1 _ _ _ _ rfl (set4G_at (unhide HT) _ _ _ _)) rfl ?_
    have hB := set4_below (unhide HB) (by omega : bb ≤ b1) (.slice va vn vc) (.slice ea en ec) (.int .i64 rd) (.int .i64 wr)
    exact ⟨_, _, rfl, (unhide HF _ hB).1, (unhide HF _ hB).2, by first | exact hB | (rw [hbb]; exact hB), Apt.refl _ _, Apt.refl _ _⟩

set_option maxHeartbeats 2000000 in
set_option maxRecDepth 100000 in
theorem refAddVTwice {w : World} {vv ev : Value} {rd wr : Int} {vs : List Int} {es : List EdgeV} (v : Int) (h : NRow w vv vs) (hE : GRow 0 w ev es) (hl : vs.length ≤ 1000000) (h0 : 0 ≤ v) (h1 : v ≤ 2147483647) (hv : v ∈ vs) :
    Calls Tryz.prog 52 #[.agg #[vv, ev, .int .i64 rd, .int .i64 wr], .int .i64 v] w fun e w' => Hid (AnsG w vv ev vs es rd wr 2 e w') := by
  obtain ⟨t1, t2, t3, t4⟩ := two_boxes w (oG vv ev rd wr)
  obtain ⟨c0, c1, c2, c3, cf⟩ := cellsG t1
  obtain ⟨d0, d1, d2, d3, df⟩ := cellsG (b := w.heap.size + 1) (vv := .slice none 0 0) (ev := .slice none 0 0) (rd := 0) (wr := 0) t2
  have HT := hide t2
  have HT1 := hide t1
  have HF : Hid (∀ W, Below w.heap.size w W → NRow W vv vs ∧ GRow 0 W ev es) := fun W hW => ⟨nrow_below h hW, grow_below hE hW⟩
  have HB := hide t3
  obtain ⟨va, vc, hvv, -⟩ := brow_shape h
  obtain ⟨vn, hvv', hvn⟩ : ∃ vn, vv = .slice va vn vc ∧ vn = vs.length := ⟨_, hvv, rfl⟩
  obtain ⟨ea, en, ec, hev⟩ := grow_shape hE
  have hne : ¬ w.heap.size = w.heap.size + 1 := by omega
  have hne2 : ¬ w.heap.size + 1 = w.heap.size := by omega
  have HN := hide hvn
  have HS4 := hide t4
  have CH : Hid (Calls Tryz.prog 46 #[.agg #[vv, ev, .int .i64 rd, .int .i64 wr], .int .i64 v] ((w.alloc (oG vv ev rd wr)).alloc oZ) fun e w2 => e = .returned (.bool (decide (v ∈ vs))) ∧ Hid (w2.heap[w.heap.size + 1]? = some oZ ∧ w2.heap[w.heap.size]? = some (oG vv ev rd wr) ∧ Below w.heap.size w w2 ∧ w.heap.size + 2 ≤ w2.heap.size)) := by
    refine (refHas v (nrow_below h t3) hl).mono ?_
    rintro e w2 ⟨rfl, g⟩
    have gs := g.size
    exact ⟨rfl, (g.block _ (by omega)).trans t2, (g.block _ (by omega)).trans t1, t3.trans (g.mono (by omega)), by omega⟩
  rw [decide_eq_true hv] at CH
  have n0 : ¬ v < 0 := by omega
  have n1 : ¬ 2147483647 < v := by omega
  clear t1 t2 t3 t4 h hE hvv hvn hl h0 h1 hv
  subst hvv' hev
  go_enter Tryz.func52, Tryz.ntmps52
  go_upto_region 1 with fail
  change Code.wp _ _ _ _ ((w.alloc (oG (.slice va vn vc) (.slice ea en ec) rd wr)).alloc oZ)
  generalize (w.alloc (oG (.slice va vn vc) (.slice ea en ec) rd wr)).alloc oZ = wb at *
  generalize hb1 : w.heap.size + 1 = b1 at *
  generalize hbb : w.heap.size = bb at *
  go_wp2_with fail
  refine (unhide CH).mono ?_
  rintro e w2 ⟨rfl, h2⟩
  obtain ⟨k1, k2, k3, k4⟩ := unhide h2
  clear c0 c1 c2 c3 cf d0 d1 d2 d3 df CH HT HT1 HB h2
  obtain ⟨c0, c1, c2, c3, cf⟩ := cellsG k2
  obtain ⟨d0, d1, d2, d3, df⟩ := cellsG (vv := .slice none 0 0) (ev := .slice none 0 0) (rd := 0) (wr := 0) k1
  have HT := hide k1
  have HB := hide k3
  clear k1 k2 k3 k4
  go_wp2_with fail
  (try simp only [Exit.inBlock, Exit.then])
  change bodyPost _ _ _ _ _ (set4 w2 b1 _ _ _ _)
  refine bodyPost_ret (resG rfl _ _ b1 _ _ _ _ rfl (set4G_at (unhide HT) _ _ _ _)) rfl ?_
  have hB := set4_below (unhide HB) (by omega : bb ≤ b1) (.slice va vn vc) (.slice ea en ec) (.int .i64 rd) (.int .i64 wr)
  exact ⟨_, _, rfl, (unhide HF _ hB).1, (unhide HF _ hB).2, by first | exact hB | (rw [hbb]; exact hB), Apt.refl _ _, Apt.refl _ _⟩

set_option maxHeartbeats 2000000 in
set_option maxRecDepth 100000 in
theorem refAddVMany {w : World} {vv ev : Value} {rd wr : Int} {vs : List Int} {es : List EdgeV} (v : Int) (h : NRow w vv vs) (hE : GRow 0 w ev es) (hl : vs.length ≤ 1000000) (h0 : 0 ≤ v) (h1 : v ≤ 2147483647) (hv : v ∉ vs) (hN : 256 ≤ vs.length) :
    Calls Tryz.prog 52 #[.agg #[vv, ev, .int .i64 rd, .int .i64 wr], .int .i64 v] w fun e w' => Hid (AnsG w vv ev vs es rd wr 8 e w') := by
  obtain ⟨t1, t2, t3, t4⟩ := two_boxes w (oG vv ev rd wr)
  obtain ⟨c0, c1, c2, c3, cf⟩ := cellsG t1
  obtain ⟨d0, d1, d2, d3, df⟩ := cellsG (b := w.heap.size + 1) (vv := .slice none 0 0) (ev := .slice none 0 0) (rd := 0) (wr := 0) t2
  have HT := hide t2
  have HT1 := hide t1
  have HF : Hid (∀ W, Below w.heap.size w W → NRow W vv vs ∧ GRow 0 W ev es) := fun W hW => ⟨nrow_below h hW, grow_below hE hW⟩
  have HB := hide t3
  obtain ⟨va, vc, hvv, -⟩ := brow_shape h
  obtain ⟨vn, hvv', hvn⟩ : ∃ vn, vv = .slice va vn vc ∧ vn = vs.length := ⟨_, hvv, rfl⟩
  obtain ⟨ea, en, ec, hev⟩ := grow_shape hE
  have hne : ¬ w.heap.size = w.heap.size + 1 := by omega
  have hne2 : ¬ w.heap.size + 1 = w.heap.size := by omega
  have HN := hide hvn
  have HS4 := hide t4
  have CH : Hid (Calls Tryz.prog 46 #[.agg #[vv, ev, .int .i64 rd, .int .i64 wr], .int .i64 v] ((w.alloc (oG vv ev rd wr)).alloc oZ) fun e w2 => e = .returned (.bool (decide (v ∈ vs))) ∧ Hid (w2.heap[w.heap.size + 1]? = some oZ ∧ w2.heap[w.heap.size]? = some (oG vv ev rd wr) ∧ Below w.heap.size w w2 ∧ w.heap.size + 2 ≤ w2.heap.size)) := by
    refine (refHas v (nrow_below h t3) hl).mono ?_
    rintro e w2 ⟨rfl, g⟩
    have gs := g.size
    exact ⟨rfl, (g.block _ (by omega)).trans t2, (g.block _ (by omega)).trans t1, t3.trans (g.mono (by omega)), by omega⟩
  rw [decide_eq_false hv] at CH
  have n0 : ¬ v < 0 := by omega
  have n1 : ¬ 2147483647 < v := by omega
  have n2 : (256 : Int) ≤ (vn : Int) := by omega
  clear t1 t2 t3 t4 h hE hvv hvn hl h0 h1 hv hN
  subst hvv' hev
  go_enter Tryz.func52, Tryz.ntmps52
  go_upto_region 1 with fail
  change Code.wp _ _ _ _ ((w.alloc (oG (.slice va vn vc) (.slice ea en ec) rd wr)).alloc oZ)
  generalize (w.alloc (oG (.slice va vn vc) (.slice ea en ec) rd wr)).alloc oZ = wb at *
  generalize hb1 : w.heap.size + 1 = b1 at *
  generalize hbb : w.heap.size = bb at *
  go_wp2_with fail
  refine (unhide CH).mono ?_
  rintro e w2 ⟨rfl, h2⟩
  obtain ⟨k1, k2, k3, k4⟩ := unhide h2
  clear c0 c1 c2 c3 cf d0 d1 d2 d3 df CH HT HT1 HB h2
  obtain ⟨c0, c1, c2, c3, cf⟩ := cellsG k2
  obtain ⟨d0, d1, d2, d3, df⟩ := cellsG (vv := .slice none 0 0) (ev := .slice none 0 0) (rd := 0) (wr := 0) k1
  have HT := hide k1
  have HB := hide k3
  clear k1 k2 k3 k4
  go_wp2_with fail
  (try simp only [Exit.inBlock, Exit.then])
  change bodyPost _ _ _ _ _ (set4 w2 b1 _ _ _ _)
  refine bodyPost_ret (resG rfl _ _ b1 _ _ _ _ rfl (set4G_at (unhide HT) _ _ _ _)) rfl ?_
  have hB := set4_below (unhide HB) (by omega : bb ≤ b1) (.slice va vn vc) (.slice ea en ec) (.int .i64 rd) (.int .i64 wr)
  exact ⟨_, _, rfl, (unhide HF _ hB).1, (unhide HF _ hB).2, by first | exact hB | (rw [hbb]; exact hB), Apt.refl _ _, Apt.refl _ _⟩
end

section
open Go.RowKit Go.Maps
theorem run_append_zero (w : World) (base base2 : Option Addr) (l c c2 : Nat) (hlc : l ≤ c) (ty : TypeId) : (Builtin.append_ #[23, 23] ty #[.slice base l c, .slice base2 0 c2]).run Tryz.prog w = .ok (.slice base l c) w := by
  obtain ⟨i, hi, hz, hs, hb⟩ := info_parts info3
  have hl : ∀ (x : Addr), (loadCells x 0).run Tryz.prog w = .ok #[] w := fun x => by simpa using run_loadCells_list (P := Tryz.prog) w x [] (by simp)
  cases base <;> cases base2 <;> simp [Builtin.append_, run_underlying Tryz.underlying23, sizeOf, typeInfo, hi, Builtin.lenOf, Builtin.firstCells, hlc, storeCells, hl]

/-- The tail of a row is appended. -/
theorem run_appT {B : Nat} {w : World} (hB : B ≤ w.heap.size) {v : Value} {a ks : List Int} {g c i : Nat} (h1 : BRow B w v a) (h2 : NRow w (.slice (some ⟨g, 0, none⟩) ks.length c) ks) (hi : i < ks.length) (hl : a.length + ks.length ≤ 4000000) (c2 : Nat) :
    ∃ v' w', (∀ ty, (Builtin.append_ #[23, 23] ty #[v, .slice (some ⟨g, i, none⟩) (ks.length - i) c2]).run Tryz.prog w = .ok v' w') ∧ BRow B w' v' (a ++ ks.drop i) ∧ w.grownBy w' v.ownBlock := by
  obtain ⟨i0, hi0, hz, hs, hb⟩ := info_parts info3
  obtain ⟨v', w', hr, g1, g2, -, -⟩ := run_append_own_at (P := Tryz.prog) w B 23 0 3 i0 _ 1 8 Tryz.underlying23 hi0 hz hs hb rfl (by omega) v a.length (a.map (Value.int .i64)) h1 ⟨g, i, none⟩ (ks.length - i) c2 ((ks.drop i).map (Value.int .i64)) (by simp)
    (fun j u hj => by
      have hj' : j < ks.length - i := by have := (List.getElem?_eq_some_iff.1 hj).1; simpa using this
      have := (nrow_some h2).2.2.2.2 (i + j) (by omega)
      rw [Addr.add_lit, this]
      rw [List.getElem?_map, List.getElem?_drop, List.getElem?_eq_getElem (by omega)] at hj
      simpa [List.getD, show i + j < ks.length by omega] using hj) (ints_one _) (by unfold maxLen; omega) (by omega) hB
  refine ⟨v', w', fun ty => hr, ?_, g2⟩
  have e1 : a.map (Value.int .i64) ++ (ks.drop i).map (Value.int .i64) = (a ++ ks.drop i).map (Value.int .i64) := by simp
  have e2 : a.length + (ks.length - i) = (a ++ ks.drop i).length := by simp
  rw [e1, e2] at g1
  exact g1

theorem addV_tail {w2 w3 : World} {a3 : Option Addr} {n3 c3 g vn vc i : Nat} {v : Int} {vs : List Int} (g1 : BRow w2.heap.size w3 (.slice a3 n3 c3) (vs.take i ++ [v])) (g2 : Below w2.heap.size w2 w3) (hR : NRow w3 (.slice (some ⟨g, 0, none⟩) vn vc) vs) (hvl : vn = vs.length) (hi : i < vn) (h256 : vn < 256) :
    ∃ a4 n4 c4 w4, (∀ ty, (Builtin.append_ #[23, 23] ty #[.slice a3 n3 c3, .slice (some ⟨g, i, none⟩) (vn - i) (vc - i)]).run Tryz.prog w3 = .ok (.slice a4 n4 c4) w4) ∧ BRow w2.heap.size w4 (.slice a4 n4 c4) (vs.take i ++ [v] ++ vs.drop i) ∧ Below w2.heap.size w2 w4 := by
  subst hvl
  have hlen : (vs.take i ++ [v]).length + vs.length ≤ 4000000 := by rw [List.length_append, List.length_take, List.length_singleton]; omega
  obtain ⟨v4, w4, hr4, g4, gg⟩ := run_appT g2.size g1 hR hi hlen (vc - i)
  obtain ⟨a4, c4, e4, -⟩ := brow_shape g4
  subst e4
  refine ⟨a4, _, c4, w4, hr4, g4, g2.trans ⟨gg.os, gg.tape, gg.output, gg.size, fun k hk => gg.block k (Nat.lt_of_lt_of_le hk g2.size) (fun e => ?_)⟩⟩
  have := (g1.lt k e.symm).1
  omega
theorem addV_none {w2 w3 : World} {a3 b3 : Option Addr} {n3 c3 c2 i : Nat} {v : Int} {vs : List Int} (g1 : BRow w2.heap.size w3 (.slice a3 n3 c3) (vs.take i ++ [v])) (g2 : Below w2.heap.size w2 w3) (hi : vs.length ≤ i) :
    (∀ ty, (Builtin.append_ #[23, 23] ty #[.slice a3 n3 c3, .slice b3 0 c2]).run Tryz.prog w3 = .ok (.slice a3 n3 c3) w3) ∧ BRow w2.heap.size w3 (.slice a3 n3 c3) (vs.take i ++ [v] ++ vs.drop i) ∧ Below w2.heap.size w2 w3 := by
  obtain ⟨x, c, e, hc⟩ := brow_shape g1
  injection e with e1 e2 e3
  refine ⟨fun ty => run_append_zero w3 a3 b3 n3 c3 c2 (by omega) ty, ?_, g2⟩
  rw [List.drop_eq_nil_of_le hi, List.append_nil]; exact g1
theorem addV_fin {w w2 w4 : World} {bb b1 : Nat} {a4 : Option Addr} {n4 c4 i : Nat} {vv ev : Value} {rd wr v : Int} {vs : List Int} {es : List EdgeV} (hI : cnt ltN vs v = i) (q1 : w2.heap[b1]? = some oZ) (q2 : w2.heap[bb]? = some (oG vv ev rd wr)) (q3 : Below bb w w2) (q4 : b1 < w2.heap.size) (hbe : bb < b1) (hF : ∀ W, Below bb w W → GRow 0 W ev es) (g4 : BRow w2.heap.size w4 (.slice a4 n4 c4) (vs.take i ++ [v] ++ vs.drop i)) (hB4 : Below w2.heap.size w2 w4) :
    (w4.cell? ⟨bb, 0, none⟩ = some vv ∧ ∀ o, w4.frozen? ⟨bb, o, none⟩ = false) ∧ (w4.setCell ⟨bb, 0, none⟩ (.slice a4 n4 c4)).heap[b1]? = some oZ ∧ (w4.setCell ⟨bb, 0, none⟩ (.slice a4 n4 c4)).heap[bb]? = some (oG (.slice a4 n4 c4) ev rd wr) ∧
    ∀ x0 x1 x2 x3, NRow (set4 (w4.setCell ⟨bb, 0, none⟩ (.slice a4 n4 c4)) b1 x0 x1 x2 x3) (.slice a4 n4 c4) (plus vs v) ∧ GRow 0 (set4 (w4.setCell ⟨bb, 0, none⟩ (.slice a4 n4 c4)) b1 x0 x1 x2 x3) ev es ∧ Below bb w (set4 (w4.setCell ⟨bb, 0, none⟩ (.slice a4 n4 c4)) b1 x0 x1 x2 x3) ∧ ∀ b, (Value.slice a4 n4 c4).ownBlock = some b → bb ≤ b := by
  have hbx := (hB4.block bb (by omega)).trans q2
  refine ⟨⟨(cellsG hbx).1, (cellsG hbx).2.2.2.2⟩, (heap_setCell_other _ _ _ _ (by show b1 ≠ bb; omega)).trans ((hB4.block b1 q4).trans q1), ?_, fun x0 x1 x2 x3 => ?_⟩
  · rw [heap_setCell_same _ _ _ _ _ _ hbx]; rfl
  · have hBw : Below bb w (set4 (w4.setCell ⟨bb, 0, none⟩ (.slice a4 n4 c4)) b1 x0 x1 x2 x3) := set4_below (((q3.trans (hB4.mono (by omega))).setCell (p := ⟨bb, 0, none⟩) (Nat.le_refl _) _)) (by omega) _ _ _ _
    refine ⟨?_, hF _ hBw, hBw, fun b hb => by have := (g4.lt b hb).1; omega⟩
    have e1 : plus vs v = vs.take i ++ [v] ++ vs.drop i := by unfold plus; rw [hI]
    rw [e1]
    have g5 : NRow w4 (.slice a4 n4 c4) (vs.take i ++ [v] ++ vs.drop i) := ⟨g4.1, g4.2.imp id (fun ⟨g, cap, cur, e, hb', r⟩ => ⟨g, cap, cur, e, Nat.zero_le _, r⟩)⟩
    refine nrow_kept g5 (fun k hk => ?_)
    have hk2 := (g4.lt k hk).1
    rw [set4_other (by omega), heap_setCell_other _ _ _ _ (by show k ≠ bb; omega)]

set_option maxHeartbeats 4000000 in
set_option maxRecDepth 100000 in
theorem refAddV {w : World} {vv ev : Value} {rd wr_0 : Int} {vs : List Int} {es : List EdgeV} (v : Int) (h : NRow w vv vs) (hE : GRow 0 w ev es) (hl : vs.length ≤ 1000000) (h0 : 0 ≤ v) (h1 : v ≤ 2147483647) (hv : v ∉ vs) (hN : vs.length < 256) (hr : Rising ltN vs) :
    Calls Tryz.prog 52 #[.agg #[vv, ev, .int .i64 rd, .int .i64 wr_0], .int .i64 v] w fun e w' => Hid (AnsG w vv ev (plus vs v) es rd wr_0 0 e w') := by
  obtain ⟨t1, t2, t3, t4⟩ := two_boxes w (oG vv ev rd wr_0)
  obtain ⟨c0, c1, c2, c3, cf⟩ := cellsG t1
  obtain ⟨d0, d1, d2, d3, df⟩ := cellsG (b := w.heap.size + 1) (vv := .slice none 0 0) (ev := .slice none 0 0) (rd := 0) (wr := 0) t2
  have HT := hide t2
  have HT1 := hide t1
  have HF : Hid (∀ W, Below w.heap.size w W → NRow W vv vs ∧ GRow 0 W ev es) := fun W hW => ⟨nrow_below h hW, grow_below hE hW⟩
  have HB := hide t3
  obtain ⟨va, vc, hvv, -⟩ := brow_shape h
  obtain ⟨vn, hvv', hvn⟩ : ∃ vn, vv = .slice va vn vc ∧ vn = vs.length := ⟨_, hvv, rfl⟩
  obtain ⟨ea, en, ec, hev⟩ := grow_shape hE
  have hne : ¬ w.heap.size = w.heap.size + 1 := by omega
  have hne2 : ¬ w.heap.size + 1 = w.heap.size := by omega
  have HN := hide hvn
  have HS4 := hide t4
  have CH : Hid (Calls Tryz.prog 46 #[.agg #[vv, ev, .int .i64 rd, .int .i64 wr_0], .int .i64 v] ((w.alloc (oG vv ev rd wr_0)).alloc oZ) fun e w2 => e = .returned (.bool (decide (v ∈ vs))) ∧ Hid (w2.heap[w.heap.size + 1]? = some oZ ∧ w2.heap[w.heap.size]? = some (oG vv ev rd wr_0) ∧ Below w.heap.size w w2 ∧ w.heap.size + 2 ≤ w2.heap.size)) := by
    refine (refHas v (nrow_below h t3) hl).mono ?_
    rintro e w2 ⟨rfl, g⟩
    have gs := g.size
    exact ⟨rfl, (g.block _ (by omega)).trans t2, (g.block _ (by omega)).trans t1, t3.trans (g.mono (by omega)), by omega⟩
  rw [decide_eq_false hv] at CH
  have n0 : ¬ v < 0 := by omega
  have n1 : ¬ 2147483647 < v := by omega
  have n2 : ¬ (256 : Int) ≤ (vn : Int) := by omega
  have HRV : Hid (Rising ltN vs ∧ vn < 256) := ⟨hr, by omega⟩
  have HROW : Hid (∀ W, Below w.heap.size w W → NRow W (.slice va vn vc) vs) := fun W hW => by rw [← hvv']; exact nrow_below h hW
  clear t1 t2 t3 t4 h hE hvv hvn hl h0 h1 hv hN hr
  subst hvv' hev
  go_enter Tryz.func52, Tryz.ntmps52
  go_upto_region 1 with fail
  change Code.wp _ _ _ _ ((w.alloc (oG (.slice va vn vc) (.slice ea en ec) rd wr_0)).alloc oZ)
  generalize (w.alloc (oG (.slice va vn vc) (.slice ea en ec) rd wr_0)).alloc oZ = wb at *
  generalize hb1 : w.heap.size + 1 = b1 at *
  generalize hbb : w.heap.size = bb at *
  go_wp2_with fail
  refine (unhide CH).mono ?_
  rintro e w2 ⟨rfl, h2⟩
  obtain ⟨k1, k2, k3, k4⟩ := unhide h2
  clear c0 c1 c2 c3 cf d0 d1 d2 d3 df CH HT HT1 HB h2
  have HW2 : Hid (w2.heap[b1]? = some oZ ∧ w2.heap[bb]? = some (oG (.slice va vn vc) (.slice ea en ec) rd wr_0) ∧ Below bb w w2 ∧ b1 < w2.heap.size) := ⟨k1, k2, k3, by omega⟩
  have HV : Hid (∀ W, Below w2.heap.size w2 W → W.cell? ⟨bb, 0, none⟩ = some (.slice va vn vc)) := fun W hW => (cell_of_heap (hW.block bb (by omega))).trans (cellsG k2).1
  have HC : Hid (∀ i W, i < vn → Below w2.heap.size w2 W → ∃ g, va = some ⟨g, 0, none⟩ ∧ W.cell? ⟨g, i, none⟩ = some (.int .i64 (vs.getD i 0))) := fun i W hi hW => by
    have hR := unhide HROW W (k3.trans (hW.mono (by omega)))
    obtain ⟨g, hg⟩ := brow_some hR (by have := unhide HN; omega)
    subst hg
    exact ⟨g, rfl, (nrow_some hR).2.2.2.2 i (by have := unhide HN; omega)⟩
  have c0 := unhide HV w2 (Below.refl _ _)
  clear k1 k2 k3 k4
  go_wp2_with fail
  clear c0
  go_loopw [6, 7] (fun sa si wr => ∃ (i : Nat) (aa : Option Addr) (ac : Nat), si = .int .i64 i ∧ sa = .slice aa i ac ∧ i ≤ vn ∧ Hid (BRow w2.heap.size wr (.slice aa i ac) (vs.take i) ∧ Below w2.heap.size w2 wr ∧ ∀ j, j < i → vs.getD j 0 < v)) (fun _ si _ => vn - (intOf si).toNat)
  case atStart => exact ⟨0, none, 0, rfl, rfl, by omega, ⟨rfl, .inl ⟨rfl, rfl⟩⟩, Below.refl _ _, fun j hj => absurd hj (Nat.not_lt_zero _)⟩
  case round =>
    obtain ⟨i, aa, ac, rfl, rfl, hi, hS⟩ := hrel
    have c0 := unhide HV wr (unhide hS).2.1
    by_cases hgo : i < vn ∧ vs.getD i 0 < v
    · obtain ⟨hlt, hxv⟩ := hgo
      obtain ⟨g, rfl, hc⟩ := unhide HC i wr hlt (unhide hS).2.1
      have hx : vs[i]? = some (vs.getD i 0) := by have := unhide HN; rw [List.getElem?_eq_getElem (by omega)]; simp [List.getD, show i < vs.length by omega]
      have hz : (i : Int) < (vn : Int) := by omega
      obtain ⟨a', n', c', w', hr, g1, g2⟩ := run_appI (vs.getD i 0) (unhide hS).1 (unhide hS).2.1.size (by have := unhide HRV; have := List.length_take_le i vs; omega)
      rw [← take_succ_of hx] at g1
      have hn' : n' = i + 1 := by
        have := g1.1
        rcases g1.2 with ⟨e, h0⟩ | ⟨g, cap, cur, e, -⟩
        · injection e with e1 e2 e3; have := unhide HN; rw [List.length_take] at h0; omega
        · injection e with e1 e2 e3; have := unhide HN; rw [List.length_take] at e2; omega
      subst hn'
      have HG : Hid (BRow w2.heap.size w' (.slice a' (i + 1) c') (vs.take (i + 1)) ∧ Below w2.heap.size w2 w' ∧ ∀ j, j < i + 1 → vs.getD j 0 < v) := ⟨g1, (unhide hS).2.1.trans g2, fun j hj => by
        rcases Nat.lt_or_ge j i with h' | h'
        · exact (unhide hS).2.2 j h'
        · obtain rfl : j = i := by omega
          exact hxv⟩
      have HR := hide hr
      generalize vs.getD i 0 = x at *
      clear hr g1 g2 hx
      go_wp2_with (at_builtin; refine Lib.wpList_append_run _ rfl _ _ 23 23 rfl _ _ rfl rfl _ _ (unhide HR _) ?_)
      have hwi : wrap64 ((i : Int) + 1) = ((i + 1 : Nat) : Int) := by have := unhide HRV; unfold wrap64; omega
      (try rw [hwi])
      exact ⟨⟨i + 1, a', c', rfl, rfl, by omega, HG⟩, by simp [intOf]; omega⟩
    · have HI : Hid (cnt ltN vs v = i) := cnt_of (unhide HRV).1 (by have := unhide HN; omega) (unhide hS).2.2 (by
        have := unhide HN
        by_cases h' : i < vn
        · exact .inr (fun e => hgo ⟨h', e⟩)
        · exact .inl (by omega))
      obtain ⟨a3, n3, c3, w3, hr3, g1, g2⟩ := run_appI v (unhide hS).1 (unhide hS).2.1.size (by have := unhide HRV; have := List.length_take_le i vs; omega)
      have hB3 := (unhide hS).2.1.trans g2
      have HR3 := hide hr3
      have HW3 : Hid (BRow w2.heap.size w3 (.slice a3 n3 c3) (vs.take i ++ [v]) ∧ Below w2.heap.size w2 w3) := ⟨g1, hB3⟩
      have k0 := unhide HV w3 hB3
      clear hr3 g1 g2 hB3
      by_cases h' : i < vn
      · have hz : (i : Int) < (vn : Int) := by omega
        obtain ⟨g, rfl, hc⟩ := unhide HC i wr h' (unhide hS).2.1
        have hge : ¬ vs.getD i 0 < v := fun e => hgo ⟨h', e⟩
        have hge2 : decide (vs.getD i 0 < v) = false := decide_eq_false hge
        obtain ⟨x, hx⟩ : ∃ x, x = vs.getD i 0 := ⟨_, rfl⟩
        rw [← hx] at hc hge hge2
        have hcap : ¬ vc = i := fun e => by have hR := unhide HROW w3 ((unhide HW2).2.2.1.trans ((unhide HW3).2.mono (by have := (unhide HW2).2.2.2; omega))); have := (nrow_some hR).2.1; omega
        clear hx hgo
        obtain ⟨a4, n4, c4, w4, hr4, g4, hB4⟩ := addV_tail (unhide HW3).1 (unhide HW3).2 (unhide HROW w3 ((unhide HW2).2.2.1.trans ((unhide HW3).2.mono (by have := (unhide HW2).2.2.2; omega)))) (unhide HN) h' (unhide HRV).2
        obtain ⟨⟨k4, kf⟩, HB1⟩ := addV_fin (unhide HI) (unhide HW2).1 (unhide HW2).2.1 (unhide HW2).2.2.1 (unhide HW2).2.2.2 (by omega) (fun W hW => (unhide HF W (by first | exact hW | (rw [hbb]; exact hW))).2) g4 hB4
        have HB2 := hide HB1
        have HR4 := hide hr4
        have hcv : ¬ vc = i := hcap
        have hiv : i ≤ vn := by omega
        clear hr4 g4 hB4 HW3 HW2 HV HC HROW HB1 hcap
        go_upto_region 13 with fail
        go_upto_region 14 with (at_builtin; refine Lib.wpList_append_run _ rfl _ _ 23 23 rfl _ _ rfl rfl _ _ (unhide HR3 _) ?_)
        clear HR3
        go_upto_region 15 with (at_builtin; refine Lib.wpList_append_run _ rfl _ _ 23 23 rfl _ _ rfl rfl _ _ (unhide HR4 _) ?_)
        clear HR4
        obtain ⟨q1, q2, q3⟩ := unhide HB2
        have HQ3 := hide q3
        have HT := hide q1
        clear HB2 q3 k4 kf k0
        generalize w4.setCell ⟨bb, 0, none⟩ (.slice a4 n4 c4) = w5 at *
        obtain ⟨c0', c1', c2', c3', -⟩ := cellsG q2
        obtain ⟨d0', d1', d2', d3', df'⟩ := cellsG (vv := .slice none 0 0) (ev := .slice none 0 0) (rd := 0) (wr := 0) q1
        have hne : ¬ bb = b1 := by omega
        have hne2 : ¬ b1 = bb := by omega
        clear q1 q2
        go_wp2_with fail
        (try simp only [Exit.inBlock, Exit.then])
        change bodyPost _ _ _ _ _ (set4 w5 b1 _ _ _ _)
        refine bodyPost_ret (resG rfl _ _ b1 _ _ _ _ rfl (set4G_at (unhide HT) _ _ _ _)) rfl ?_
        obtain ⟨z1, z2, z3, z4⟩ := unhide HQ3 (.slice a4 n4 c4) (.slice ea en ec) (.int .i64 rd) (.int .i64 wr_0)
        exact ⟨_, _, rfl, z1, z2, by first | exact z3 | (rw [hbb]; exact z3), Apt.new z4 (by omega), Apt.refl _ _⟩
      · have hz : ¬ (i : Int) < (vn : Int) := by omega
        obtain rfl : i = vn := by omega
        have hle : vs.length ≤ i := by have := unhide HN; omega
        clear hgo
        obtain ⟨⟨k4, kf⟩, HB1⟩ := addV_fin (unhide HI) (unhide HW2).1 (unhide HW2).2.1 (unhide HW2).2.2.1 (unhide HW2).2.2.2 (by omega) (fun W hW => (unhide HF W (by first | exact hW | (rw [hbb]; exact hW))).2) (addV_none (b3 := none) (c2 := 0) (unhide HW3).1 (unhide HW3).2 hle).2.1 (unhide HW3).2
        have HB2 := hide HB1
        have HR4 : Hid (∀ b3 c2 ty, (Builtin.append_ #[23, 23] ty #[.slice a3 n3 c3, .slice b3 0 c2]).run Tryz.prog w3 = .ok (.slice a3 n3 c3) w3) := fun b3 c2 ty => (addV_none (b3 := b3) (c2 := c2) (unhide HW3).1 (unhide HW3).2 hle).1 ty
        have hiv : i ≤ vc := by
          rcases (unhide HROW w3 ((unhide HW2).2.2.1.trans ((unhide HW3).2.mono (by have := (unhide HW2).2.2.2; omega)))).2 with ⟨e, h0⟩ | ⟨g, cap, cur, e, -, -, hc, -⟩
          · injection e with e1 e2 e3; omega
          · injection e with e1 e2 e3; omega
        have hsh : (va = none ∧ vc = 0 ∧ i = 0) ∨ ∃ g, va = some ⟨g, 0, none⟩ := by
          rcases (unhide HROW w3 ((unhide HW2).2.2.1.trans ((unhide HW3).2.mono (by have := (unhide HW2).2.2.2; omega)))).2 with ⟨e, h0⟩ | ⟨g, cap, cur, e, -⟩
          · injection e with e1 e2 e3; exact .inl ⟨e1, e3, e2⟩
          · injection e with e1 e2 e3; exact .inr ⟨g, e1⟩
        clear HW3 HW2 HV HC HROW HB1 hle h'
        rcases hsh with ⟨rfl, rfl, rfl⟩ | ⟨g, rfl⟩
        · simp only [Int.natCast_zero] at *
          go_upto_region 13 with fail
          go_upto_region 14 with (at_builtin; refine Lib.wpList_append_run _ rfl _ _ 23 23 rfl _ _ rfl rfl _ _ (unhide HR3 _) ?_)
          clear HR3
          go_upto_region 15 with (at_builtin; refine Lib.wpList_append_run _ rfl _ _ 23 23 rfl _ _ rfl rfl _ _ (unhide HR4 _ _ _) ?_)
          clear HR4
          obtain ⟨q1, q2, q3⟩ := unhide HB2
          have HQ3 := hide q3
          have HT := hide q1
          clear HB2 q3 k4 kf k0
          generalize w3.setCell ⟨bb, 0, none⟩ (.slice a3 n3 c3) = w5 at *
          obtain ⟨c0', c1', c2', c3', -⟩ := cellsG q2
          obtain ⟨d0', d1', d2', d3', df'⟩ := cellsG (vv := .slice none 0 0) (ev := .slice none 0 0) (rd := 0) (wr := 0) q1
          have hne : ¬ bb = b1 := by omega
          have hne2 : ¬ b1 = bb := by omega
          clear q1 q2
          go_wp2_with fail
          (try simp only [Exit.inBlock, Exit.then])
          change bodyPost _ _ _ _ _ (set4 w5 b1 _ _ _ _)
          refine bodyPost_ret (resG rfl _ _ b1 _ _ _ _ rfl (set4G_at (unhide HT) _ _ _ _)) rfl ?_
          obtain ⟨z1, z2, z3, z4⟩ := unhide HQ3 (.slice a3 n3 c3) (.slice ea en ec) (.int .i64 rd) (.int .i64 wr_0)
          exact ⟨_, _, rfl, z1, z2, by first | exact z3 | (rw [hbb]; exact z3), Apt.new z4 (by omega), Apt.refl _ _⟩
        · by_cases hci : vc = i
          · subst hci
            go_upto_region 13 with fail
            go_upto_region 14 with (at_builtin; refine Lib.wpList_append_run _ rfl _ _ 23 23 rfl _ _ rfl rfl _ _ (unhide HR3 _) ?_)
            clear HR3
            go_upto_region 15 with (at_builtin; refine Lib.wpList_append_run _ rfl _ _ 23 23 rfl _ _ rfl rfl _ _ (unhide HR4 _ _ _) ?_)
            clear HR4
            obtain ⟨q1, q2, q3⟩ := unhide HB2
            have HQ3 := hide q3
            have HT := hide q1
            clear HB2 q3 k4 kf k0
            generalize w3.setCell ⟨bb, 0, none⟩ (.slice a3 n3 c3) = w5 at *
            obtain ⟨c0', c1', c2', c3', -⟩ := cellsG q2
            obtain ⟨d0', d1', d2', d3', df'⟩ := cellsG (vv := .slice none 0 0) (ev := .slice none 0 0) (rd := 0) (wr := 0) q1
            have hne : ¬ bb = b1 := by omega
            have hne2 : ¬ b1 = bb := by omega
            clear q1 q2
            go_wp2_with fail
            (try simp only [Exit.inBlock, Exit.then])
            change bodyPost _ _ _ _ _ (set4 w5 b1 _ _ _ _)
            refine bodyPost_ret (resG rfl _ _ b1 _ _ _ _ rfl (set4G_at (unhide HT) _ _ _ _)) rfl ?_
            obtain ⟨z1, z2, z3, z4⟩ := unhide HQ3 (.slice a3 n3 c3) (.slice ea en ec) (.int .i64 rd) (.int .i64 wr_0)
            exact ⟨_, _, rfl, z1, z2, by first | exact z3 | (rw [hbb]; exact z3), Apt.new z4 (by omega), Apt.refl _ _⟩
          · have hci2 : ¬ vc = i := hci
            go_upto_region 13 with fail
            go_upto_region 14 with (at_builtin; refine Lib.wpList_append_run _ rfl _ _ 23 23 rfl _ _ rfl rfl _ _ (unhide HR3 _) ?_)
            clear HR3
            go_upto_region 15 with (at_builtin; refine Lib.wpList_append_run _ rfl _ _ 23 23 rfl _ _ rfl rfl _ _ (unhide HR4 _ _ _) ?_)
            clear HR4
            obtain ⟨q1, q2, q3⟩ := unhide HB2
            have HQ3 := hide q3
            have HT := hide q1
            clear HB2 q3 k4 kf k0
            generalize w3.setCell ⟨bb, 0, none⟩ (.slice a3 n3 c3) = w5 at *
            obtain ⟨c0', c1', c2', c3', -⟩ := cellsG q2
            obtain ⟨d0', d1', d2', d3', df'⟩ := cellsG (vv := .slice none 0 0) (ev := .slice none 0 0) (rd := 0) (wr := 0) q1
            have hne : ¬ bb = b1 := by omega
            have hne2 : ¬ b1 = bb := by omega
            clear q1 q2
            go_wp2_with fail
            (try simp only [Exit.inBlock, Exit.then])
            change bodyPost _ _ _ _ _ (set4 w5 b1 _ _ _ _)
            refine bodyPost_ret (resG rfl _ _ b1 _ _ _ _ rfl (set4G_at (unhide HT) _ _ _ _)) rfl ?_
            obtain ⟨z1, z2, z3, z4⟩ := unhide HQ3 (.slice a3 n3 c3) (.slice ea en ec) (.int .i64 rd) (.int .i64 wr_0)
            exact ⟨_, _, rfl, z1, z2, by first | exact z3 | (rw [hbb]; exact z3), Apt.new z4 (by omega), Apt.refl _ _⟩
end

section
open Go.RowKit Go.Maps
theorem refAdmit (n : Int) (w : World) : Calls Tryz.prog 82 #[.int .u32 n] w fun e w' => e = .returned (ansK (kept n)) ∧ w' = w := by
  unfold kept
  by_cases h1 : n = 2147483648
  · subst h1
    rw [if_pos rfl]
    go_enter Tryz.func82, Tryz.ntmps82
    go_wp2
    go_ret2
    exact ⟨rfl, rfl⟩
  · rw [if_neg h1]
    by_cases h2 : 2139095040 ≤ n
    · rw [if_pos h2]
      go_enter Tryz.func82, Tryz.ntmps82
      go_wp2
      go_ret2
      exact ⟨rfl, rfl⟩
    · rw [if_neg h2]
      go_enter Tryz.func82, Tryz.ntmps82
      go_wp2
      go_ret2
      exact ⟨rfl, rfl⟩

/-- There is an edge of this number. -/
def HasNo (es : List EdgeV) (e : Int) : Prop := ∃ (i : Nat) (a : EdgeV), es[i]? = some a ∧ a.1 = e
theorem at_has {es : List EdgeV} {e r : Int} (h : AtIs es e r) : (r < 0 ↔ ¬ HasNo es e) := by
  rcases h with ⟨i, a, rfl, h1, h2, -⟩ | ⟨rfl, h1⟩
  · exact ⟨fun h => by omega, fun h => absurd ⟨i, a, h1, h2⟩ h⟩
  · exact ⟨fun _ ⟨j, b, hb, e⟩ => h1 j b hb e, fun _ => by omega⟩
/-- The least free number; 0: none is free. -/
def RFree (es : List EdgeV) (r : Int) : Prop := (∃ j : Nat, j < 1024 ∧ r = (j : Int) + 1 ∧ (∀ i : Nat, i < j → HasNo es ((i : Int) + 1)) ∧ ¬ HasNo es ((j : Int) + 1)) ∨ (r = 0 ∧ ∀ i : Nat, i < 1024 → HasNo es ((i : Int) + 1))

set_option maxHeartbeats 2000000 in
set_option maxRecDepth 100000 in
theorem refFree {w : World} {vv ev : Value} {rd wr_0 : Int} {es : List EdgeV} {B : Nat} (h : GRow B w ev es) (hl : es.length ≤ 1000000) (hv : ∃ a n c, vv = .slice a n c) :
    Calls Tryz.prog 44 #[.agg #[vv, ev, .int .i64 rd, .int .i64 wr_0]] w fun e w' => ∃ r, e = .returned (.int .i64 r) ∧ Hid (RFree es r ∧ Below w.heap.size w w') := by
  have hb := below_new w (oG vv ev rd wr_0)
  have h1 := grow_below h hb
  have hbx := heap_alloc_new w (oG vv ev rd wr_0)
  have HB : Hid (Below w.heap.size w (w.alloc (oG vv ev rd wr_0)) ∧ w.heap.size < (w.alloc (oG vv ev rd wr_0)).heap.size) := ⟨hb, by simp⟩
  have HC : Hid (∀ W, Below (w.alloc (oG vv ev rd wr_0)).heap.size (w.alloc (oG vv ev rd wr_0)) W → (W.cell? ⟨w.heap.size, 0, none⟩ = some vv ∧ W.cell? ⟨w.heap.size, 1, none⟩ = some ev ∧ W.cell? ⟨w.heap.size, 2, none⟩ = some (.int .i64 rd) ∧ W.cell? ⟨w.heap.size, 3, none⟩ = some (.int .i64 wr_0)) ∧ ∀ e, Calls Tryz.prog 26 #[.agg #[vv, ev, .int .i64 rd, .int .i64 wr_0], .int .i64 e] W fun r w' => ∃ x, r = .returned (.int .i64 x) ∧ Hid (AtIs es e x ∧ Below (w.alloc (oG vv ev rd wr_0)).heap.size (w.alloc (oG vv ev rd wr_0)) w')) := fun W hW => by
    have hbw := (hW.block w.heap.size (by simp)).trans hbx
    obtain ⟨k0, k1, k2, k3, -⟩ := cellsG hbw
    refine ⟨⟨k0, k1, k2, k3⟩, fun e => ?_⟩
    refine (refAt e (grow_below h1 hW) hl).mono ?_
    rintro r w' ⟨x, rfl, hh⟩
    exact ⟨x, rfl, (unhide hh).1, hW.trans ((unhide hh).2.mono hW.size)⟩
  obtain ⟨a, n, c, rfl⟩ := hv
  obtain ⟨ea, en, ec, rfl⟩ := grow_shape h1
  clear h h1 hb hl hbx
  go_enter Tryz.func44, Tryz.ntmps44
  go_upto_region 1 with fail
  change Code.wp _ _ _ _ (w.alloc (oG (.slice a n c) (.slice ea en ec) rd wr_0))
  generalize w.alloc (oG (.slice a n c) (.slice ea en ec) rd wr_0) = wb at *
  generalize hbb : w.heap.size = bb at *
  go_wp2_with fail
  go_loopw [3] (fun s3 wr => ∃ j : Nat, s3 = .int .i64 ((j : Int) + 1) ∧ j ≤ 1024 ∧ Hid ((∀ i : Nat, i < j → HasNo es ((i : Int) + 1)) ∧ Below wb.heap.size wb wr)) (fun s3 _ => 1025 - (intOf s3).toNat)
  case atStart => exact ⟨0, rfl, by omega, fun i hi => absurd hi (Nat.not_lt_zero _), Below.refl _ _⟩
  case round =>
    obtain ⟨j, rfl, hj, hS⟩ := hrel
    by_cases h : j < 1024
    · have hz : (j : Int) + 1 ≤ 1024 := by omega
      obtain ⟨⟨k0, k1, k2, k3⟩, hA⟩ := unhide HC wr (unhide hS).2
      have CA := hide (hA ((j : Int) + 1))
      clear hA
      go_wp2_with fail
      refine (unhide CA).mono ?_
      rintro e w2 ⟨x, rfl, hh⟩
      by_cases hx : x < 0
      · have HF : Hid (RFree es ((j : Int) + 1) ∧ Below bb w w2) := ⟨.inl ⟨j, h, rfl, (unhide hS).1, (at_has (unhide hh).1).1 hx⟩, (unhide HB).1.trans ((unhide hh).2.mono (by have := (unhide HB).2; omega))⟩
        clear CA hh
        go_wp2_with fail
        go_ret
        exact ⟨_, rfl, (unhide HF).1, by first | exact (unhide HF).2 | (rw [hbb]; exact (unhide HF).2)⟩
      · have HF : Hid ((∀ i : Nat, i < j + 1 → HasNo es ((i : Int) + 1)) ∧ Below wb.heap.size wb w2) := ⟨fun i hi => by
          rcases Nat.lt_or_ge i j with h' | h'
          · exact (unhide hS).1 i h'
          · obtain rfl : i = j := by omega
            exact Classical.byContradiction (fun hn => hx ((at_has (unhide hh).1).2 hn)), (unhide hh).2⟩
        clear CA hh
        go_wp2_with fail
        have hwi : wrap64 ((j : Int) + 1 + 1) = ((j + 1 : Nat) : Int) + 1 := by unfold wrap64; omega
        (try rw [hwi])
        exact ⟨⟨j + 1, rfl, by omega, HF⟩, by simp [intOf]; omega⟩
    · have hz : ¬ (j : Int) + 1 ≤ 1024 := by omega
      have HF : Hid (RFree es 0 ∧ Below bb w wr) := ⟨.inr ⟨rfl, fun i hi => (unhide hS).1 i (by omega)⟩, (unhide HB).1.trans ((unhide hS).2.mono (by have := (unhide HB).2; omega))⟩
      go_wp2_with fail
      go_ret
      exact ⟨_, rfl, (unhide HF).1, by first | exact (unhide HF).2 | (rw [hbb]; exact (unhide HF).2)⟩

theorem list_eq_getD {a b : List Int} (hl : a.length = b.length) (h : ∀ j, j < a.length → a.getD j 0 = b.getD j 0) : a = b := by
  refine List.ext_getElem hl (fun j h1 h2 => ?_)
  have := h j h1
  simpa [List.getD, h1, h2] using this

set_option maxHeartbeats 2000000 in
set_option maxRecDepth 100000 in
theorem refSame {w : World} {v1 v2 : Value} {a b : List Int} (h1 : NRow w v1 a) (h2 : NRow w v2 b) (hl : a.length ≤ 1000000) :
    Calls Tryz.prog 16 #[v1, v2] w fun e w' => e = .returned (.bool (decide (a = b))) ∧ Hid (Like w w') := by
  obtain ⟨x1, c1, e1, -⟩ := brow_shape h1
  obtain ⟨x2, c2, e2, -⟩ := brow_shape h2
  obtain ⟨n1, e1', hn1⟩ : ∃ n1, v1 = .slice x1 n1 c1 ∧ n1 = a.length := ⟨_, e1, rfl⟩
  obtain ⟨n2, e2', hn2⟩ : ∃ n2, v2 = .slice x2 n2 c2 ∧ n2 = b.length := ⟨_, e2, rfl⟩
  have HN : Hid (n1 = a.length ∧ n2 = b.length ∧ n1 ≤ 1000000) := ⟨hn1, hn2, by omega⟩
  have HC : Hid (∀ W i, Like w W → i < n1 → i < n2 → ∃ g1 g2, x1 = some ⟨g1, 0, none⟩ ∧ x2 = some ⟨g2, 0, none⟩ ∧ W.cell? ⟨g1, i, none⟩ = some (.int .i64 (a.getD i 0)) ∧ W.cell? ⟨g2, i, none⟩ = some (.int .i64 (b.getD i 0))) := fun W i hW i1 i2 => by
    have r1 : NRow W (.slice x1 n1 c1) a := by rw [← e1']; exact nrow_below h1 (hW.below _)
    have r2 : NRow W (.slice x2 n2 c2) b := by rw [← e2']; exact nrow_below h2 (hW.below _)
    obtain ⟨g1, hg1⟩ := brow_some r1 (by omega)
    obtain ⟨g2, hg2⟩ := brow_some r2 (by omega)
    subst hg1 hg2
    exact ⟨g1, g2, rfl, rfl, (nrow_some r1).2.2.2.2 i (by omega), (nrow_some r2).2.2.2.2 i (by omega)⟩
  clear h1 h2 hl e1 e2 hn1 hn2
  subst e1' e2'
  by_cases hlen : n1 = n2
  · subst hlen
    go_enter Tryz.func16, Tryz.ntmps16
    go_wp2_with fail
    go_loopw [13] (fun s13 wr => ∃ i : Nat, s13 = .int .i64 i ∧ i ≤ n1 ∧ Hid ((∀ j, j < i → a.getD j 0 = b.getD j 0) ∧ Like w wr)) (fun s13 _ => n1 - (intOf s13).toNat)
    case atStart => exact ⟨0, rfl, by omega, fun j hj => absurd hj (Nat.not_lt_zero _), rfl, rfl, rfl, rfl⟩
    case round =>
      obtain ⟨i, rfl, hi, hS⟩ := hrel
      by_cases h : i < n1
      · obtain ⟨g1, g2, rfl, rfl, hc1, hc2⟩ := unhide HC wr i (unhide hS).2 h h
        have hz : (i : Int) < (n1 : Int) := by omega
        obtain ⟨y1, hy1⟩ : ∃ y, y = a.getD i 0 := ⟨_, rfl⟩
        obtain ⟨y2, hy2⟩ : ∃ y, y = b.getD i 0 := ⟨_, rfl⟩
        rw [← hy1] at hc1
        rw [← hy2] at hc2
        have HY : Hid (y1 = a.getD i 0 ∧ y2 = b.getD i 0) := ⟨hy1, hy2⟩
        have HW : Hid (Like w wr) := (unhide hS).2
        clear hy1 hy2
        by_cases hyy : y1 = y2
        · subst hyy
          go_upto_region 6 with fail
          refine wp_region_noPanic ?_
          refine regionL [] (fun y => y.cell? ⟨g1, i, none⟩ = some (.int .i64 y1) ∧ y.cell? ⟨g2, i, none⟩ = some (.int .i64 y1)) (by kernel_rfl) ⟨hc1, hc2⟩ (fun hHeld => ?_)
          refine takeL (i := 0) (v := ?t2v0) (some 16) rfl rfl (by kernel_rfl) (by kernel_rfl) (by kernel_rfl) (by kernel_rfl) (by kernel_rfl) (fun _ _ _ h => h) (Or.inl ⟨by rfl, ?t2h0⟩) (by assumption) ?t2r0
          case t2h0 => (intro y hSu; (try dsimp only at hSu); go_simp; first | done | with_reducible rfl)
          (try simp only [Act.put, List.setIfInBounds_toArray, List.set_cons_zero, List.set_cons_succ])
          refine takeL (i := 1) (v := ?t2v1) (some 17) rfl rfl (by kernel_rfl) (by kernel_rfl) (by kernel_rfl) (by kernel_rfl) (by kernel_rfl) (fun _ _ _ h => h) (Or.inl ⟨by rfl, ?t2h1⟩) (by assumption) ?t2r1
          case t2h1 => (intro y hSu; (try dsimp only at hSu); go_simp; first | done | with_reducible rfl)
          (try simp only [Act.put, List.setIfInBounds_toArray, List.set_cons_zero, List.set_cons_succ])
          refine takeL (i := 2) (v := ?t2v2) (some 18) rfl rfl (by kernel_rfl) (by kernel_rfl) (by kernel_rfl) (by kernel_rfl) (by kernel_rfl) (fun _ _ _ h => h) (Or.inl ⟨by rfl, ?t2h2⟩) (by assumption) ?t2r2
          case t2h2 => (intro y hSu; (try dsimp only at hSu); go_simp; first | done | with_reducible rfl)
          (try simp only [Act.put, List.setIfInBounds_toArray, List.set_cons_zero, List.set_cons_succ])
          refine takeL (i := 3) (v := ?t2v3) (some 19) rfl rfl (by kernel_rfl) (by kernel_rfl) (by kernel_rfl) (by kernel_rfl) (by kernel_rfl) (fun _ _ _ h => h) (Or.inl ⟨by rfl, ?t2h3⟩) (by assumption) ?t2r3
          case t2h3 => (intro y hSu; (try dsimp only at hSu); go_simp; first | done | with_reducible rfl)
          (try simp only [Act.put, List.setIfInBounds_toArray, List.set_cons_zero, List.set_cons_succ])
          refine takeL (i := 4) (v := ?t2v4) (some 20) rfl rfl (by kernel_rfl) (by kernel_rfl) (by kernel_rfl) (by kernel_rfl) (by kernel_rfl) (fun _ _ _ h => h) (Or.inl ⟨by rfl, ?t2h4⟩) (by assumption) ?t2r4
          case t2h4 => (intro y hSu; (try dsimp only at hSu); go_simp; first | done | with_reducible rfl)
          (try simp only [Act.put, List.setIfInBounds_toArray, List.set_cons_zero, List.set_cons_succ])
          refine takeL (i := 5) (v := ?t2v5) (some 21) rfl rfl (by kernel_rfl) (by kernel_rfl) (by kernel_rfl) (by kernel_rfl) (by kernel_rfl) (fun _ _ _ h => h) (Or.inl ⟨by rfl, ?t2h5⟩) (by assumption) ?t2r5
          case t2h5 => (intro y hSu; (try dsimp only at hSu); go_simp; first | done | with_reducible rfl)
          (try simp only [Act.put, List.setIfInBounds_toArray, List.set_cons_zero, List.set_cons_succ])
          refine takeL (i := 6) (v := ?t2v6) (some 22) rfl rfl (by kernel_rfl) (by kernel_rfl) (by kernel_rfl) (by kernel_rfl) (by kernel_rfl) (fun _ _ _ h => h) (Or.inl ⟨by rfl, ?t2h6⟩) (by assumption) ?t2r6
          case t2h6 => (intro y hSu; (try dsimp only at hSu); go_simp; first | done | with_reducible rfl)
          (try simp only [Act.put, List.setIfInBounds_toArray, List.set_cons_zero, List.set_cons_succ])
          refine takeL (i := 7) (v := ?t2v7) (some 23) rfl rfl (by kernel_rfl) (by kernel_rfl) (by kernel_rfl) (by kernel_rfl) (by kernel_rfl) (fun _ _ _ h => h) (Or.inl ⟨by rfl, ?t2h7⟩) (by assumption) ?t2r7
          case t2h7 => (intro y hSu; (try dsimp only at hSu); go_simp; first | done | with_reducible rfl)
          (try simp only [Act.put, List.setIfInBounds_toArray, List.set_cons_zero, List.set_cons_succ])
          refine takeL (i := 8) (v := ?t2v8) (some 24) rfl rfl (by kernel_rfl) (by kernel_rfl) (by kernel_rfl) (by kernel_rfl) (by kernel_rfl) (fun _ _ _ h => h) (Or.inl ⟨by rfl, ?t2h8⟩) (by assumption) ?t2r8
          case t2h8 => (intro y hSu; (try dsimp only at hSu); go_simp; first | done | with_reducible rfl)
          (try simp only [Act.put, List.setIfInBounds_toArray, List.set_cons_zero, List.set_cons_succ])
          refine doneL (by kernel_rfl) ?_ _
          refine NoPanic.normal ?_
          have HG : Hid ((∀ j, j < i + 1 → a.getD j 0 = b.getD j 0) ∧ Like w wr.drew) := ⟨fun j hj => by
            rcases Nat.lt_or_ge j i with h' | h'
            · exact (unhide hS).1 j h'
            · obtain rfl : j = i := by omega
              exact (unhide HY).1.symm.trans (unhide HY).2, ⟨(unhide HW).1, (unhide HW).2.1, (unhide HW).2.2.1, (unhide HW).2.2.2⟩⟩
          clear hc1 hc2 hHeld
          go_wp2_with fail
          have hwi : wrap64 ((i : Int) + 1) = ((i + 1 : Nat) : Int) := by have := (unhide HN).2.2; unfold wrap64; omega
          (try rw [hwi])
          exact ⟨⟨i + 1, rfl, by omega, HG⟩, by simp [intOf]; omega⟩
        · go_upto_region 6 with fail
          refine wp_region_noPanic ?_
          refine regionL [] (fun y => y.cell? ⟨g1, i, none⟩ = some (.int .i64 y1) ∧ y.cell? ⟨g2, i, none⟩ = some (.int .i64 y2)) (by kernel_rfl) ⟨hc1, hc2⟩ (fun hHeld => ?_)
          refine takeL (i := 0) (v := ?t5v0) (some 16) rfl rfl (by kernel_rfl) (by kernel_rfl) (by kernel_rfl) (by kernel_rfl) (by kernel_rfl) (fun _ _ _ h => h) (Or.inl ⟨by rfl, ?t5h0⟩) (by assumption) ?t5r0
          case t5h0 => (intro y hSu; (try dsimp only at hSu); go_simp; first | done | with_reducible rfl)
          (try simp only [Act.put, List.setIfInBounds_toArray, List.set_cons_zero, List.set_cons_succ])
          refine takeL (i := 1) (v := ?t5v1) (some 17) rfl rfl (by kernel_rfl) (by kernel_rfl) (by kernel_rfl) (by kernel_rfl) (by kernel_rfl) (fun _ _ _ h => h) (Or.inl ⟨by rfl, ?t5h1⟩) (by assumption) ?t5r1
          case t5h1 => (intro y hSu; (try dsimp only at hSu); go_simp; first | done | with_reducible rfl)
          (try simp only [Act.put, List.setIfInBounds_toArray, List.set_cons_zero, List.set_cons_succ])
          refine takeL (i := 2) (v := ?t5v2) (some 18) rfl rfl (by kernel_rfl) (by kernel_rfl) (by kernel_rfl) (by kernel_rfl) (by kernel_rfl) (fun _ _ _ h => h) (Or.inl ⟨by rfl, ?t5h2⟩) (by assumption) ?t5r2
          case t5h2 => (intro y hSu; (try dsimp only at hSu); go_simp; first | done | with_reducible rfl)
          (try simp only [Act.put, List.setIfInBounds_toArray, List.set_cons_zero, List.set_cons_succ])
          refine takeL (i := 3) (v := ?t5v3) (some 19) rfl rfl (by kernel_rfl) (by kernel_rfl) (by kernel_rfl) (by kernel_rfl) (by kernel_rfl) (fun _ _ _ h => h) (Or.inl ⟨by rfl, ?t5h3⟩) (by assumption) ?t5r3
          case t5h3 => (intro y hSu; (try dsimp only at hSu); go_simp; first | done | with_reducible rfl)
          (try simp only [Act.put, List.setIfInBounds_toArray, List.set_cons_zero, List.set_cons_succ])
          refine takeL (i := 4) (v := ?t5v4) (some 20) rfl rfl (by kernel_rfl) (by kernel_rfl) (by kernel_rfl) (by kernel_rfl) (by kernel_rfl) (fun _ _ _ h => h) (Or.inl ⟨by rfl, ?t5h4⟩) (by assumption) ?t5r4
          case t5h4 => (intro y hSu; (try dsimp only at hSu); go_simp; first | done | with_reducible rfl)
          (try simp only [Act.put, List.setIfInBounds_toArray, List.set_cons_zero, List.set_cons_succ])
          refine takeL (i := 5) (v := ?t5v5) (some 21) rfl rfl (by kernel_rfl) (by kernel_rfl) (by kernel_rfl) (by kernel_rfl) (by kernel_rfl) (fun _ _ _ h => h) (Or.inl ⟨by rfl, ?t5h5⟩) (by assumption) ?t5r5
          case t5h5 => (intro y hSu; (try dsimp only at hSu); go_simp; first | done | with_reducible rfl)
          (try simp only [Act.put, List.setIfInBounds_toArray, List.set_cons_zero, List.set_cons_succ])
          refine takeL (i := 6) (v := ?t5v6) (some 22) rfl rfl (by kernel_rfl) (by kernel_rfl) (by kernel_rfl) (by kernel_rfl) (by kernel_rfl) (fun _ _ _ h => h) (Or.inl ⟨by rfl, ?t5h6⟩) (by assumption) ?t5r6
          case t5h6 => (intro y hSu; (try dsimp only at hSu); go_simp; first | done | with_reducible rfl)
          (try simp only [Act.put, List.setIfInBounds_toArray, List.set_cons_zero, List.set_cons_succ])
          refine takeL (i := 7) (v := ?t5v7) (some 23) rfl rfl (by kernel_rfl) (by kernel_rfl) (by kernel_rfl) (by kernel_rfl) (by kernel_rfl) (fun _ _ _ h => h) (Or.inl ⟨by rfl, ?t5h7⟩) (by assumption) ?t5r7
          case t5h7 => (intro y hSu; (try dsimp only at hSu); go_simp; first | done | with_reducible rfl)
          (try simp only [Act.put, List.setIfInBounds_toArray, List.set_cons_zero, List.set_cons_succ])
          refine takeL (i := 8) (v := ?t5v8) (some 24) rfl rfl (by kernel_rfl) (by kernel_rfl) (by kernel_rfl) (by kernel_rfl) (by kernel_rfl) (fun _ _ _ h => h) (Or.inl ⟨by rfl, ?t5h8⟩) (by assumption) ?t5r8
          case t5h8 => (intro y hSu; (try dsimp only at hSu); go_simp; first | done | with_reducible rfl)
          (try simp only [Act.put, List.setIfInBounds_toArray, List.set_cons_zero, List.set_cons_succ])
          refine doneL (by kernel_rfl) ?_ _
          refine NoPanic.normal ?_
          have HF : Hid (decide (a = b) = false) := decide_eq_false (fun e => hyy (by rw [(unhide HY).1, (unhide HY).2, e]))
          clear hc1 hc2 hHeld
          go_wp2_with fail
          go_ret
          exact ⟨by rw [unhide HF]; rfl, (unhide HW).1, (unhide HW).2.1, (unhide HW).2.2.1, (unhide HW).2.2.2⟩
      · have hz : ¬ (i : Int) < (n1 : Int) := by omega
        have HF : Hid (decide (a = b) = true) := decide_eq_true (list_eq_getD (by have := unhide HN; omega) (fun j hj => (unhide hS).1 j (by have := unhide HN; omega)))
        go_wp2_with fail
        go_ret
        exact ⟨by rw [unhide HF]; rfl, (unhide hS).2⟩
  · have hlz : ¬ (n1 : Int) = (n2 : Int) := by omega
    have HF : Hid (decide (a = b) = false) := decide_eq_false (fun e => hlen (by have := unhide HN; rw [e] at this; omega))
    clear hlen HC
    go_enter Tryz.func16, Tryz.ntmps16
    go_wp2_with fail
    go_ret
    exact ⟨by rw [unhide HF]; rfl, rfl, rfl, rfl, rfl⟩
end

end Go.Proofs.YtgocbcacfcfblaaGreat

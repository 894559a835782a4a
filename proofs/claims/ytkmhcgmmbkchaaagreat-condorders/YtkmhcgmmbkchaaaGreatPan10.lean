/- partAnew: what it leaves, as mathematics and memory. -/
import Derived.Test.YtkmhcgmmbkchaaaGreatIn9
import Derived.Test.YtkmhcgmmbkchaaaGreatLow9
namespace Go.Proofs.YtkmhcgmmbkchaaaGreat

section
open Go.RowKit Go.Maps T9
/-- A list of lists and a further list beside it, all of them growing. -/
structure OB (w0 : World) (L : Nat → Nat) (v : Value) (vs : List Value) (xss : List (List Int)) (lv : Value) (ks : List Int) (W : World) : Prop where
  base : Below w0.heap.size w0 W
  outer : HRow w0.heap.size W v vs
  len : vs.length = xss.length
  inner : ∀ (i : Nat) (y : Value) (ls : List Int), vs[i]? = some y → xss[i]? = some ls → BRow w0.heap.size W y ls
  cur : BRow w0.heap.size W lv ks
  lo : ∀ b, v.ownBlock = some b → L b = 1
  li : ∀ (i : Nat) (y : Value) (b : Nat), vs[i]? = some y → y.ownBlock = some b → L b = 0
  lc : ∀ b, lv.ownBlock = some b → L b = 2
section
variable {w0 W W' : World} {L : Nat → Nat} {v lv : Value} {vs : List Value} {xss : List (List Int)} {ks : List Int}
theorem OB.inlt (h : OB w0 L v vs xss lv ks W) {i b : Nat} {y : Value} (hi : vs[i]? = some y) (e : y.ownBlock = some b) : b < W.heap.size := by
  have hl : i < xss.length := by rw [← h.len]; exact (List.getElem?_eq_some_iff.1 hi).1
  exact ((h.inner i y _ hi (List.getElem?_eq_getElem hl)).lt b e).2
theorem OB.below (h : OB w0 L v vs xss lv ks W) (hb : Below W.heap.size W W') : OB w0 L v vs xss lv ks W' :=
  ⟨h.base.trans (hb.mono h.base.size), hrow_kept h.outer (fun b e => hb.block b (h.outer.lt b e).2), h.len, fun i y ls h1 h2 => brow_kept (h.inner i y ls h1 h2) (fun b e => hb.block b ((h.inner i y ls h1 h2).lt b e).2), brow_kept h.cur (fun b e => hb.block b (h.cur.lt b e).2), h.lo, h.li, h.lc⟩
theorem OB.fresh (h : OB w0 L v vs xss lv ks W) : OB w0 L v vs xss (.slice none 0 0) [] W :=
  ⟨h.base, h.outer, h.len, h.inner, ⟨rfl, .inl ⟨rfl, rfl⟩⟩, h.lo, h.li, fun b e => by cases e⟩
theorem OB.app (h : OB w0 L v vs xss lv ks W) (x : Int) (hl : ks.length ≤ 1000000) :
    ∃ a' n' c' w', (∀ ty, (Builtin.append_ #[25, 25] ty #[lv, .slice (some ⟨W.heap.size, 0, none⟩) 1 1]).run Tryz.prog (W.alloc (.cells #[.int .i64 x] 3)) = .ok (.slice a' n' c') w') ∧ ∃ L', OB w0 L' v vs xss (.slice a' n' c') (ks ++ [x]) w' := by
  obtain ⟨a', n', c', w', r, g1, g2, g3⟩ := run_app8 x h.cur h.base.size (by omega)
  refine ⟨a', n', c', w', r, lab L W.heap.size 2, h.base.trans (g2.below h.base.size (fun b e => (h.cur.lt b e).1)), hrow_kept h.outer (fun b e => g2.block b (h.outer.lt b e).2 (fun q => by have := h.lo b e; have := h.lc b q; omega)), h.len, fun i y ls h1 h2 => ?_, g1, fun b e => (if_pos (h.outer.lt b e).2).trans (h.lo b e), fun i y b h1 e => (if_pos (h.inlt h1 e)).trans (h.li i y b h1 e), fun b e => ?_⟩
  · have h5 := h.inner i y ls h1 h2
    exact brow_kept h5 (fun b e => g2.block b (h5.lt b e).2 (fun q => by have := h.li i y b h1 e; have := h.lc b q; omega))
  · rcases g3 b e with q | q
    · exact (if_pos (h.cur.lt b q).2).trans (h.lc b q)
    · exact if_neg (by omega)
theorem OB.push (h : OB w0 L v vs xss lv ks W) (hl : xss.length ≤ 100000) :
    ∃ a' n' c' w', (∀ ty, (Builtin.append_ #[71, 71] ty #[v, .slice (some ⟨W.heap.size, 0, none⟩) 1 1]).run Tryz.prog (W.alloc (.cells #[lv] 25)) = .ok (.slice a' n' c') w') ∧ ∃ L', OB w0 L' (.slice a' n' c') (vs ++ [lv]) (xss ++ [ks]) (.slice none 0 0) [] w' := by
  have hb1 := below_new W (.cells #[lv] 25)
  have h2 := h.below hb1
  have hone : lv.oneCell' = true := by
    obtain ⟨a, c, e, -⟩ := brow_shape h.cur
    rw [e]; rfl
  obtain ⟨a', n', c', w', r, g1, g2, g3⟩ := run_appH (l2 := [lv]) (ad := ⟨W.heap.size, 0, none⟩) (c := 1) h2.outer h2.base.size (cell_one_new W _ _) (by intro u hu; rw [List.mem_singleton.1 hu]; exact hone) (by have := h.len; simp; omega)
  have hold : ∀ b, b < W.heap.size → v.ownBlock ≠ some b → w'.heap[b]? = W.heap[b]? := fun b hb' hne => (g2.block b (Nat.lt_of_lt_of_le hb' hb1.size) hne).trans (hb1.block b hb')
  refine ⟨a', n', c', w', r, fun b => if lv.ownBlock = some b then 0 else lab L W.heap.size 1 b, h2.base.trans (g2.below h2.base.size (fun b e => (h.outer.lt b e).1)), g1, by simp [h.len], fun i y ls h1 h3 => ?_, ⟨rfl, .inl ⟨rfl, rfl⟩⟩, fun b e => ?_, fun i y b h1 e => ?_, fun b e => (by cases e)⟩
  · have hlen := h.len
    rcases Nat.lt_or_ge i vs.length with q | q
    · rw [List.getElem?_append_left q] at h1
      rw [List.getElem?_append_left (by omega)] at h3
      have h5 := h.inner i y ls h1 h3
      exact brow_kept h5 (fun b e => hold b (h5.lt b e).2 (fun z => by have := h.li i y b h1 e; have := h.lo b z; omega))
    · have hi : i = vs.length := by have := (List.getElem?_eq_some_iff.1 h1).1; simp at this; omega
      subst hi
      rw [List.getElem?_append_right (Nat.le_refl _), Nat.sub_self] at h1
      rw [hlen, List.getElem?_append_right (Nat.le_refl _), Nat.sub_self] at h3
      have h1 := Option.some.inj (show some lv = some y from h1)
      have h3 := Option.some.inj (show some ks = some ls from h3)
      subst h1 h3
      exact brow_kept h.cur (fun b e => hold b (h.cur.lt b e).2 (fun z => by have := h.lc b e; have := h.lo b z; omega))
  · show (if lv.ownBlock = some b then 0 else lab L W.heap.size 1 b) = 1
    rcases g3 b e with q | q
    · rw [if_neg (fun z => by have := h.lc b z; have := h.lo b q; omega)]
      exact (if_pos (h.outer.lt b q).2).trans (h.lo b q)
    · have := hb1.size
      rw [if_neg (fun z => by have := (h.cur.lt b z).2; omega)]
      exact if_neg (by omega)
  · show (if lv.ownBlock = some b then 0 else lab L W.heap.size 1 b) = 0
    rcases Nat.lt_or_ge i vs.length with q | q
    · rw [List.getElem?_append_left q] at h1
      rw [if_neg (fun z => by have := h.lc b z; have := h.li i y b h1 e; omega)]
      exact (if_pos (h.inlt h1 e)).trans (h.li i y b h1 e)
    · have hi : i = vs.length := by have := (List.getElem?_eq_some_iff.1 h1).1; simp at this; omega
      subst hi
      rw [List.getElem?_append_right (Nat.le_refl _), Nat.sub_self] at h1
      have h1 := Option.some.inj (show some lv = some y from h1)
      subst h1
      exact if_pos e
theorem OB.read (h : OB w0 L v vs xss lv ks W) : LLr W v xss := by
  obtain ⟨x, c, e, -⟩ := hrow_shape h.outer
  subst e
  refine ⟨x, c, by rw [h.len], fun i ls hi => ?_⟩
  have hil := (List.getElem?_eq_some_iff.1 hi).1
  obtain ⟨g, hg⟩ := hrow_some h.outer (by have := h.len; omega)
  subst hg
  obtain ⟨y, hy⟩ : ∃ y, vs[i]? = some y := ⟨_, List.getElem?_eq_getElem (by rw [h.len]; exact hil)⟩
  exact ⟨g, y, rfl, hrow_at h.outer hy, brow_at0 (h.inner i y ls hy hi)⟩
end
/-- The components whose heads are among the first i. -/
def outR (V : List Int) (h : Nat → Nat) (n i : Nat) : List (List Int) := (headsTo h i).map (fun m => cv V (partTo h n m))
theorem outR_all (V : List Int) (h : Nat → Nat) (n : Nat) : outR V h n n = compsV V h n := by unfold outR compsV compsTo; rw [List.map_map]; rfl
theorem outR_new {V : List Int} {h : Nat → Nat} {n i : Nat} (hi : h i = i) : outR V h n (i + 1) = outR V h n i ++ [cv V (partTo h n i)] := by unfold outR; rw [headsTo_new hi, List.map_append]; rfl
theorem outR_old {V : List Int} {h : Nat → Nat} {n i : Nat} (hi : h i ≠ i) : outR V h n (i + 1) = outR V h n i := by unfold outR; rw [headsTo_old hi]
theorem outR_len (V : List Int) (h : Nat → Nat) (n i : Nat) : (outR V h n i).length ≤ i := by unfold outR; rw [List.length_map]; exact headsTo_le h i
section
variable {nx : Nat → List Nat} {n : Nat} {h : Nat → Nat}
theorem heads_first (H : Heads nx n h) {i : Nat} (hi : i < n) : (∀ j, j < i → ¬ (T9.Reach nx i j ∧ T9.Reach nx j i)) ↔ h i = i := by
  constructor
  · intro q
    have h1 := H.le hi
    rcases Nat.lt_or_ge (h i) i with z | z
    · exact absurd ⟨(H i hi).1, (H i hi).2.1⟩ (q _ z)
    · omega
  · intro e j hj ⟨q1, q2⟩
    have := (H i hi).2.2 j q1 q2
    omega
theorem part_none (H : Heads nx n h) {i : Nat} (hi : i < n) (m : Nat) (hm : i ≤ m) : partTo h i m = [] := by
  unfold partTo
  rw [List.filter_eq_nil_iff]
  intro p hp
  have hp := List.mem_range.1 hp
  have := H.le (show p < n by omega)
  simp; omega
theorem heads_in (H : Heads nx n h) {i j : Nat} (hi : i < n) (hj : j < n) (e : h i = i) : (T9.Reach nx i j ∧ T9.Reach nx j i) ↔ h j = i := by
  have := H.same hi hj
  rw [e] at this
  exact ⟨fun q => (this.2 q).symm, fun q => this.1 q.symm⟩
end
def OfrAns (w : World) (V : List Int) (h : Nat → Nat) (e : Ending) (w' : World) : Prop := ∃ x n c, e = .returned (.slice x n c) ∧ LLr w' (.slice x n c) (compsV V h V.length) ∧ Below w.heap.size w w'
/-- A cell of the closure. -/
theorem clo_cell {W : World} {x : Option Addr} {xn xc : Nat} {V : List Int} {es : List EdV} {css : List (List Bool)} (hr : LTr W (.slice x xn xc) css) (hc : Clo V es css) (hl : css.length = V.length) {i j : Nat} (hi : i < V.length) (hj : j < V.length) :
    xn = V.length ∧ ∃ g gh nh kh b, x = some ⟨g, 0, none⟩ ∧ W.cell? ⟨g, i, none⟩ = some (.slice (some ⟨gh, 0, none⟩) nh kh) ∧ nh = V.length ∧ W.cell? ⟨gh, j, none⟩ = some (.bool b) ∧ (b = true ↔ T9.Reach (nextOf V (arcsE es)) i j) := by
  obtain ⟨x', c', e, hh⟩ := hr
  obtain ⟨bs, hbs⟩ : ∃ bs, css[i]? = some bs := ⟨_, List.getElem?_eq_getElem (by omega)⟩
  obtain ⟨g, gh, nh, kh, e1, e2, e3, e4⟩ := hh i bs hbs
  obtain ⟨c1, c2⟩ := hc i bs hbs
  obtain ⟨b, hb⟩ : ∃ b, bs[j]? = some b := ⟨_, List.getElem?_eq_getElem (by omega)⟩
  have en : xn = css.length := by injection e
  have ex : x = x' := by injection e
  refine ⟨by omega, g, gh, nh, kh, b, ex.trans e1, e2, by omega, trow_at e4 hb, ?_⟩
  rw [← c2 j, hb]
  exact ⟨fun q => by rw [q], fun q => by injection q⟩
set_option maxHeartbeats 8000000 in
set_option maxRecDepth 100000 in
theorem ofrS {w : World} {vv ev : Value} {rd wr_ : Int} {V : List Int} {es : List EdV} {h : Nat → Nat} (hr0 : NRow w vv V) (he : ERow 0 w ev es) (hs : V.Pairwise (· < ·)) (hok : okArcs V (arcsE es)) (hl : V.length ≤ 100000) (hl2 : es.length ≤ 100000) (hH : Heads (nextOf V (arcsE es)) V.length h) :
    Calls Tryz.prog 30 #[.agg #[vv, ev, .int .i64 rd, .int .i64 wr_]] w fun e w' => Hid (OfrAns w V h e w') := by
  have hb := below_new w (oGr vv ev rd wr_)
  have hbx := heap_alloc_new w (oGr vv ev rd wr_)
  have h1 := nrow_below hr0 hb
  have h2 := erow_below he hb
  have CC := hide (closureS (rd := rd) (wr_ := wr_) h1 h2 hs hok hl hl2)
  obtain ⟨a, c, hvv, -⟩ := brow_shape h1
  obtain ⟨n, hn⟩ : ∃ n, n = V.length := ⟨_, rfl⟩
  rw [← hn] at hvv
  subst hvv
  have HB : Hid (Below w.heap.size w (w.alloc (oGr (.slice a n c) ev rd wr_)) ∧ (w.alloc (oGr (.slice a n c) ev rd wr_)).heap[w.heap.size]? = some (oGr (.slice a n c) ev rd wr_) ∧ NRow (w.alloc (oGr (.slice a n c) ev rd wr_)) (.slice a n c) V) := ⟨hb, hbx, h1⟩
  have HN : Hid (n = V.length ∧ n ≤ 100000) := ⟨hn, by omega⟩
  have HH := hide hH
  clear hr0 h1 h2 hb hbx he hl hl2 hn hs hok hH
  go_enter Tryz.func30, Tryz.ntmps30
  go_upto_region 1 with fail
  change Code.wp _ _ _ _ (w.alloc (oGr (.slice a n c) ev rd wr_))
  generalize w.alloc (oGr (.slice a n c) ev rd wr_) = wb at *
  obtain ⟨gb, hgb⟩ : ∃ gb, gb = w.heap.size := ⟨_, rfl⟩
  have HGB := hide hgb
  rw [← hgb] at HB ⊢
  clear hgb
  obtain ⟨d0, d1, d2, d3, -⟩ := cellsGr (unhide HB).2.1
  go_wp2_with fail
  refine (unhide CC).mono ?_
  intro r w1 hh
  obtain ⟨x, xn, xc, css, rfl, hcl, hrd, hClo, hB1⟩ := unhide hh
  clear CC hh d0 d1 d2 d3
  have HC : Hid (∀ W, Below w1.heap.size w1 W → W.cell? ⟨gb, 0, none⟩ = some (.slice a n c) ∧ NRow W (.slice a n c) V ∧ LTr W (.slice x xn xc) css) := fun W hW => by
    have hW2 := hB1.trans (hW.mono hB1.size)
    have q := (hW2.block gb (heap_lt (unhide HB).2.1)).trans (unhide HB).2.1
    exact ⟨(cellsGr q).1, nrow_below (unhide HB).2.2 hW2, ltr_below hrd hW⟩
  have HCL : Hid (Clo V es css ∧ css.length = V.length) := ⟨hClo, hcl⟩
  have HB1 : Hid (Below w.heap.size w w1) := by
    have hb := (unhide HB).1
    rw [unhide HGB] at hb
    exact hb.trans (hB1.mono hb.size)
  clear hcl hrd hClo hB1 HB HGB
  go_upto_region 4 with fail
  go_loopw [5, 4, 6, 7, 8, 9] (fun s5 s4 s6 s7 s8 s9 W => ∃ (i : Nat) (y : Option Addr) (yn yc : Nat), s5 = .int .i64 (i : Nat) ∧ s4 = .slice y yn yc ∧ i ≤ n ∧ Hid (∃ L vs, OB w1 L (.slice y yn yc) vs (outR V h n i) (.slice none 0 0) [] W)) (fun s5 _ _ _ _ _ _ => n - (intOf s5).toNat)
  case atStart => exact ⟨0, none, 0, 0, rfl, rfl, Nat.zero_le _, fun _ => 0, [], ⟨Below.refl _ _, ⟨rfl, .inl ⟨rfl, rfl⟩⟩, rfl, fun i y ls h => (by cases h), ⟨rfl, .inl ⟨rfl, rfl⟩⟩, fun b e => (by cases e), fun i y b h => (by cases h), fun b e => (by cases e)⟩⟩
  case round =>
    obtain ⟨i, y, yn, yc, rfl, rfl, hi, hS⟩ := hrel
    obtain ⟨L, vs, hO⟩ := unhide hS
    obtain ⟨l1, l2⟩ := unhide HN
    have k0 := (unhide HC wr hO.base).1
    by_cases hlt : i < n
    · have z1 : (i : Int) < (n : Int) := by omega
      have HO := hide hO
      have HII := hide hlt
      clear hO hS hi hlt l1 l2
      go_upto_region 8 with fail
      clear k0
      go_loopw [7, 6] (fun s7 s6 W => ∃ (j : Nat) (t : Bool), s7 = .int .i64 (j : Nat) ∧ s6 = .bool t ∧ W = wr ∧ j ≤ i ∧ Hid (t = true ↔ ∀ k, k < j → ¬ (T9.Reach (nextOf V (arcsE es)) i k ∧ T9.Reach (nextOf V (arcsE es)) k i))) (fun s7 _ _ => i - (intOf s7).toNat)
      case atStart => exact ⟨0, true, rfl, rfl, rfl, Nat.zero_le _, ⟨fun _ k hk => absurd hk (Nat.not_lt_zero _), fun _ => rfl⟩⟩
      case round =>
        obtain ⟨j, t, rfl, rfl, rfl, hj, hT⟩ := hrel
        obtain ⟨l1, l2⟩ := unhide HN
        have hlt := unhide HII
        by_cases hjl : j < i
        · obtain ⟨k0, k1, k2⟩ := unhide HC wr (unhide HO).base
          obtain ⟨exn, g, gh, nh, kh, b1, ex, f1, f2, f3, f4⟩ := clo_cell k2 (unhide HCL).1 (unhide HCL).2 (i := i) (j := j) (by omega) (by omega)
          obtain ⟨-, g', gh', nh', kh', b2, ex', f1', f2', f3', f4'⟩ := clo_cell k2 (unhide HCL).1 (unhide HCL).2 (i := j) (j := i) (by omega) (by omega)
          have eg : g' = g := by have e := ex'.symm.trans ex; injection e with e; injection e
          subst eg ex
          obtain rfl : nh = n := by omega
          obtain rfl : nh' = nh := by omega
          obtain rfl : xn = nh' := by omega
          obtain ⟨j1, hj1⟩ : ∃ j1, j1 = j + 1 := ⟨_, rfl⟩
          have zw : Hid (wrap64 ((j : Int) + 1) = (j1 : Int)) := by show wrap64 ((j : Int) + 1) = (j1 : Int); unfold wrap64; omega
          have HI1 := hide hj1
          have HJ : Hid (j1 ≤ i ∧ i - j1 < i - j) := ⟨by omega, by omega⟩
          have z2 : (j : Int) < (i : Int) := by omega
          have z3 : (j : Int) < (xn : Int) := by omega
          have HT : Hid ((t && !(b1 && b2)) = true ↔ ∀ k, k < j1 → ¬ (T9.Reach (nextOf V (arcsE es)) i k ∧ T9.Reach (nextOf V (arcsE es)) k i)) := by
            have hT' := unhide hT
            constructor
            · intro q k hk
              simp only [Bool.and_eq_true, Bool.not_eq_true', Bool.and_eq_false_iff] at q
              by_cases e : k = j
              · subst e
                rintro ⟨r1, r2⟩
                rcases q.2 with z | z
                · rw [f4.2 r1] at z; cases z
                · rw [f4'.2 r2] at z; cases z
              · exact hT'.1 q.1 k (by omega)
            · intro q
              simp only [Bool.and_eq_true, Bool.not_eq_true', Bool.and_eq_false_iff]
              refine ⟨hT'.2 (fun k hk => q k (by omega)), ?_⟩
              cases hb1 : b1 with
              | false => exact .inl rfl
              | true =>
                cases hb2 : b2 with
                | false => exact .inr rfl
                | true => exact absurd ⟨f4.1 hb1, f4'.1 hb2⟩ (q j (by omega))
          clear l1 l2 hlt hj hT hjl k0 k1 k2 exn ex' f2 f4 f2' f4' hj1
          cases t <;> cases b1 <;> cases b2 <;> (go_wp2_with fail; (try rw [unhide zw]); exact ⟨⟨j1, _, by first | rfl | (rw [unhide HI1]; rfl), rfl, trivial, (unhide HJ).1, HT⟩, by have := (unhide HJ).2; simp [intOf]; omega⟩)
        · have z2 : ¬ (j : Int) < (i : Int) := by omega
          have hfirst : t = true ↔ h i = i := by
            rw [show j = i by omega] at hT
            have := (unhide hT)
            rw [heads_first (unhide HH) (by omega)] at this; exact this
          obtain ⟨i1, hi1⟩ : ∃ i1, i1 = i + 1 := ⟨_, rfl⟩
          have zw : Hid (wrap64 ((i : Int) + 1) = (i1 : Int)) := by show wrap64 ((i : Int) + 1) = (i1 : Int); unfold wrap64; omega
          have HI1 := hide hi1
          have HJ : Hid (i1 ≤ n ∧ n - i1 < n - i) := ⟨by omega, by omega⟩
          cases t with
          | false =>
            have HD : Hid (∃ L vs, OB w1 L (.slice y yn yc) vs (outR V h n i1) (.slice none 0 0) [] wr) := ⟨L, vs, by rw [hi1, outR_old (fun e => by have := hfirst.2 e; cases this)]; exact unhide HO⟩
            clear l1 l2 hlt hj hT hjl hfirst hi1
            go_wp2_with fail
            (try rw [unhide zw])
            exact ⟨⟨i1, y, yn, yc, by first | rfl | (rw [unhide HI1]; rfl), rfl, (unhide HJ).1, HD⟩, by have := (unhide HJ).2; simp [intOf]; omega⟩
          | true =>
            have HF := hide (hfirst.1 rfl)
            have HS3 : Hid (∃ L, OB w1 L (.slice y yn yc) vs (outR V h n i) (.slice none 0 0) (cv V (partTo h i i)) wr) := ⟨L, by rw [part_none (unhide HH) (by omega) i (Nat.le_refl _)]; exact unhide HO⟩
            have k0 := (unhide HC wr (unhide HO).base).1
            clear l1 l2 hlt hj hT hjl hfirst hi1
            go_upto_region 14 with fail
            clear k0
            go_loopw [9, 8] (fun s9 s8 W => ∃ (j : Nat) (la : Option Addr) (ln lc : Nat), s9 = .int .i64 (j : Nat) ∧ s8 = .slice la ln lc ∧ i ≤ j ∧ j ≤ n ∧ Hid (∃ L, OB w1 L (.slice y yn yc) vs (outR V h n i) (.slice la ln lc) (cv V (partTo h j i)) W)) (fun s9 _ _ => n - (intOf s9).toNat)
            case atStart => exact ⟨i, none, 0, 0, rfl, rfl, Nat.le_refl _, by have := unhide HII; omega, HS3⟩
            case round =>
              obtain ⟨j, la, ln, lc, rfl, rfl, hij, hjn, hS⟩ := hrel
              clear HS3
              obtain ⟨L, hO⟩ := unhide hS
              obtain ⟨l1, l2⟩ := unhide HN
              obtain ⟨k0, k1, k2⟩ := unhide HC wr hO.base
              by_cases hjl : j < n
              · obtain ⟨exn, g, gh, nh, kh, b1, ex, f1, f2, f3, f4⟩ := clo_cell k2 (unhide HCL).1 (unhide HCL).2 (i := i) (j := j) (by omega) (by omega)
                obtain ⟨-, g', gh', nh', kh', b2, ex', f1', f2', f3', f4'⟩ := clo_cell k2 (unhide HCL).1 (unhide HCL).2 (i := j) (j := i) (by omega) (by omega)
                have eg : g' = g := by have e := ex'.symm.trans ex; injection e with e; injection e
                subst eg ex
                obtain rfl : nh = n := by omega
                obtain rfl : nh' = nh := by omega
                obtain rfl : xn = nh' := by omega
                obtain ⟨s, hy⟩ : ∃ y, V[j]? = some y := ⟨_, List.getElem?_eq_getElem (by omega)⟩
                obtain ⟨gv, hgv⟩ := brow_some k1 (by omega)
                subst hgv
                have k3 := brow_at k1 hy
                obtain ⟨j1, hj1⟩ : ∃ j1, j1 = j + 1 := ⟨_, rfl⟩
                have zw2 : Hid (wrap64 ((j : Int) + 1) = (j1 : Int)) := by show wrap64 ((j : Int) + 1) = (j1 : Int); unfold wrap64; omega
                have HJ1 := hide hj1
                have HJ2 : Hid (i ≤ j1 ∧ j1 ≤ xn ∧ xn - j1 < xn - j) := ⟨by omega, by omega, by omega⟩
                have z3 : (j : Int) < (xn : Int) := by omega
                have z4 : (i : Int) < (xn : Int) := by omega
                have hin := heads_in (unhide HH) (i := i) (j := j) (by omega) (by omega) (unhide HF)
                obtain ⟨a5, n5, c5, w5, r5, L5, hO5⟩ := hO.app s (by
                  have := partTo_le h j i
                  simp only [cv, List.length_map]; omega)
                by_cases hb : b1 = true ∧ b2 = true
                · have hh := hin.1 ⟨f4.1 hb.1, f4'.1 hb.2⟩
                  have HR5 := hide r5
                  have HD : Hid (∃ L, OB w1 L (.slice y yn yc) vs (outR V h xn i) (.slice a5 n5 c5) (cv V (partTo h j1 i)) w5) := ⟨L5, by
                    rw [hj1, partTo_in hh]
                    have e : cv V (partTo h j i ++ [j]) = cv V (partTo h j i) ++ [s] := by
                      unfold cv; rw [List.map_append, List.map_cons, List.map_nil, List.getD_eq_getElem?_getD, hy]; rfl
                    rw [e]; exact hO5⟩
                  obtain ⟨rfl, rfl⟩ := hb
                  clear hO l1 l2 k1 k2 exn ex' f2 f4 f2' f4' hy hj1 hin r5 hO5 hh hij hjn hS hjl
                  go_wp2_with (at_builtin; refine Lib.wpList_append_run _ rfl _ _ 25 25 rfl _ _ rfl rfl _ _ (unhide HR5 _) ?_)
                  (try rw [unhide zw2])
                  exact ⟨⟨j1, a5, n5, c5, by first | rfl | (rw [unhide HJ1]; rfl), rfl, (unhide HJ2).1, (unhide HJ2).2.1, HD⟩, by have := (unhide HJ2).2.2; simp [intOf]; omega⟩
                · have hh : h j ≠ i := fun e => by
                    obtain ⟨q1, q2⟩ := hin.2 e
                    exact hb ⟨f4.2 q1, f4'.2 q2⟩
                  have HD : Hid (∃ L, OB w1 L (.slice y yn yc) vs (outR V h xn i) (.slice la ln lc) (cv V (partTo h j1 i)) wr) := ⟨L, by rw [hj1, partTo_out hh]; exact hO⟩
                  clear hO l1 l2 k1 k2 exn ex' f2 f4 f2' f4' hy hj1 hin r5 hO5 hh hij hjn hS hjl
                  cases b1 with
                  | false =>
                    clear hb
                    go_wp2_with fail
                    (try rw [unhide zw2])
                    exact ⟨⟨j1, la, ln, lc, by first | rfl | (rw [unhide HJ1]; rfl), rfl, (unhide HJ2).1, (unhide HJ2).2.1, HD⟩, by have := (unhide HJ2).2.2; simp [intOf]; omega⟩
                  | true =>
                    cases b2 with
                    | true => exact absurd ⟨rfl, rfl⟩ hb
                    | false =>
                      clear hb
                      go_wp2_with fail
                      (try rw [unhide zw2])
                      exact ⟨⟨j1, la, ln, lc, by first | rfl | (rw [unhide HJ1]; rfl), rfl, (unhide HJ2).1, (unhide HJ2).2.1, HD⟩, by have := (unhide HJ2).2.2; simp [intOf]; omega⟩
              · have z3 : ¬ (j : Int) < (n : Int) := by omega
                obtain ⟨a5, n5, c5, w5, r5, L5, hO5⟩ := hO.push (by have := outR_len V h n i; omega)
                have HR5 := hide r5
                have HD : Hid (∃ L vs, OB w1 L (.slice a5 n5 c5) vs (outR V h n i1) (.slice none 0 0) [] w5) := ⟨L5, _, by
                  rw [unhide HI1, outR_new (unhide HF)]
                  rw [show j = n by omega] at hO5
                  exact hO5⟩
                clear hO l1 l2 k1 k2 r5 hO5 hij hjn hS hjl
                go_wp2_with (at_builtin; refine Lib.wpList_append_run _ rfl _ _ 71 71 rfl _ _ rfl rfl _ _ (unhide HR5 _) ?_)
                (try rw [unhide zw])
                exact ⟨⟨i1, a5, n5, c5, by first | rfl | (rw [unhide HI1]; rfl), rfl, (unhide HJ).1, HD⟩, by have := (unhide HJ).2; simp [intOf]; omega⟩
    · have z1 : ¬ (i : Int) < (n : Int) := by omega
      have HE : Hid (LLr wr (.slice y yn yc) (compsV V h V.length) ∧ Below w.heap.size w wr) := by
        refine ⟨?_, (unhide HB1).trans (hO.base.mono (unhide HB1).size)⟩
        have := hO.read
        rw [show i = n by omega, outR_all, l1] at this
        exact this
      clear hO hS hi hlt l1 l2
      go_wp2_with fail
      go_ret
      exact ⟨y, yn, yc, rfl, unhide HE⟩
end

section
open Go.RowKit Go.Maps T9
section
variable {nx : Nat → List Nat} {V : List Int} {h : Nat → Nat}
theorem comp_at9 {i : Nat} {c : List Int} : (compsV V h V.length)[i]? = some c ↔ ∃ m, (headsTo h V.length)[i]? = some m ∧ c = cv V (partTo h V.length m) := by
  unfold compsV compsTo
  rw [List.getElem?_map, List.getElem?_map]
  cases (headsTo h V.length)[i]? with
  | none => simp
  | some m => simp [eq_comm]
theorem part_first9 (H : Heads nx V.length h) {m : Nat} (hm : m ∈ headsTo h V.length) : ∃ t, partTo h V.length m = m :: t := by
  obtain ⟨h1, h2⟩ := mem_headsTo.1 hm
  have hs : (partTo h V.length m).Pairwise (· < ·) := List.Pairwise.sublist List.filter_sublist List.pairwise_lt_range
  have hin : m ∈ partTo h V.length m := mem_partTo.2 ⟨h1, h2⟩
  cases e : partTo h V.length m with
  | nil => rw [e] at hin; cases hin
  | cons a t =>
    rw [e] at hs hin
    have ha : a ∈ partTo h V.length m := by rw [e]; exact List.mem_cons_self
    obtain ⟨a1, a2⟩ := mem_partTo.1 ha
    have hle := H.le a1
    rcases List.mem_cons.1 hin with q | q
    · exact ⟨t, by rw [q]⟩
    · have := List.rel_of_pairwise_cons hs q
      omega
theorem mem_part9 (hs : V.Pairwise (· < ·)) {p m : Nat} {x : Int} (hx : V[p]? = some x) : x ∈ cv V (partTo h V.length m) ↔ h p = m := by
  unfold cv
  rw [List.mem_map]
  constructor
  · rintro ⟨q, hq, e⟩
    obtain ⟨q1, q2⟩ := mem_partTo.1 hq
    have : V[q]? = some x := by rw [← e, List.getD_eq_getElem?_getD, List.getElem?_eq_getElem q1]; rfl
    rw [← idx_at9 hs hx, idx_at9 hs this]; exact q2
  · intro e
    refine ⟨p, mem_partTo.2 ⟨(List.getElem?_eq_some_iff.1 hx).1, e⟩, ?_⟩
    rw [List.getD_eq_getElem?_getD, hx]; rfl
theorem heads_one {i j m : Nat} (h1 : (headsTo h V.length)[i]? = some m) (h2 : (headsTo h V.length)[j]? = some m) : i = j := by
  obtain ⟨l1, e1⟩ := List.getElem?_eq_some_iff.1 h1
  obtain ⟨l2, e2⟩ := List.getElem?_eq_some_iff.1 h2
  have hw := List.pairwise_iff_getElem.1 (headsTo_nodup h V.length)
  rcases Nat.lt_trichotomy i j with z | z | z
  · exact absurd (e1.trans e2.symm) (hw i j l1 l2 z)
  · exact z
  · exact absurd (e2.trans e1.symm) (hw j i l2 l1 z)
theorem heads_lt9 {i j m m' : Nat} (h1 : (headsTo h V.length)[i]? = some m) (h2 : (headsTo h V.length)[j]? = some m') (hij : i ≤ j) : m ≤ m' := by
  obtain ⟨l1, e1⟩ := List.getElem?_eq_some_iff.1 h1
  obtain ⟨l2, e2⟩ := List.getElem?_eq_some_iff.1 h2
  have hs : (headsTo h V.length).Pairwise (· < ·) := List.Pairwise.sublist List.filter_sublist List.pairwise_lt_range
  rcases Nat.lt_or_ge i j with z | z
  · have := List.pairwise_iff_getElem.1 hs i j l1 l2 z; omega
  · have : i = j := by omega
    subst this
    rw [h1] at h2; injection h2 with h2; omega
theorem comp_of9 (hs : V.Pairwise (· < ·)) (H : Heads nx V.length h) {p : Nat} {x : Int} (hx : V[p]? = some x) : ∃ i : Nat, compAt (compsV V h V.length) x = (i : Int) ∧ (headsTo h V.length)[i]? = some (h p) := by
  have hp := (List.getElem?_eq_some_iff.1 hx).1
  obtain ⟨i, hi⟩ := List.mem_iff_getElem?.1 (mem_headsTo.2 ⟨H.lt hp, H.idem hp⟩)
  refine ⟨i, compAt_some (comp_at9.2 ⟨_, hi, rfl⟩) ((mem_part9 hs hx).2 rfl) (fun j l hj hl hxl => ?_), hi⟩
  obtain ⟨m, hm, rfl⟩ := comp_at9.1 hl
  have e := (mem_part9 hs hx).1 hxl
  rw [← e] at hm
  have := heads_one (V := V) hi hm
  omega
end
/-- A record does not hold the component at c back: bs tells at each place whether the component there is told. -/
def EdOk (A : List (List Int)) (bs : List Bool) (c : Nat) (e : EdV) : Prop := compAt A e.2.2.1 ≠ (c : Int) ∨ compAt A e.2.1 = (c : Int) ∨ ∃ i : Nat, compAt A e.2.1 = (i : Int) ∧ bs[i]? = some true
/-- What is told, place by place. -/
def ToldB (h : Nat → Nat) (n : Nat) (T : List Nat) (bs : List Bool) : Prop := bs.length = (headsTo h n).length ∧ ∀ (i m : Nat), (headsTo h n)[i]? = some m → (bs[i]? = some true ↔ m ∈ T)
section
variable {V : List Int} {es : List EdV} {h : Nat → Nat} {T : List Nat} {bs : List Bool}
theorem free_iff (hs : V.Pairwise (· < ·)) (H : Heads (nextOf V (arcsE es)) V.length h) (hok : okArcs V (arcsE es)) (hB : ToldB h V.length T bs) {c m : Nat} (hc : (headsTo h V.length)[c]? = some m) :
    Free (headsTo h V.length) (arcsOf h (nextOf V (arcsE es)) V.length) T m ↔ m ∉ T ∧ ∀ e ∈ es, EdOk (compsV V h V.length) bs c e := by
  have hin : ∀ e ∈ es, e.2.1 ∈ V ∧ e.2.2.1 ∈ V := fun e he => hok (e.2.1, e.2.2.1) (List.mem_map.2 ⟨e, he, rfl⟩)
  constructor
  · rintro ⟨h1, h2, h3⟩
    refine ⟨h2, fun e he => ?_⟩
    obtain ⟨hu, hv⟩ := hin e he
    obtain ⟨i, i1, i2⟩ := comp_of9 hs H (idx_some hu)
    obtain ⟨j, j1, j2⟩ := comp_of9 hs H (idx_some hv)
    by_cases q : j = c
    · subst q
      by_cases q2 : i = j
      · exact .inr (.inl (by rw [i1, q2]))
      · refine .inr (.inr ⟨i, i1, (hB.2 i _ i2).2 (h3 _ (mem_arcsOf.2 ⟨fun z => ?_, V.idxOf e.2.1, List.idxOf_lt_length_of_mem hu, V.idxOf e.2.2.1, ?_, rfl, ?_⟩))⟩)
        · rw [z] at i2; exact q2 (heads_one (V := V) i2 hc)
        · exact mem_nextOf.2 ⟨(e.2.1, e.2.2.1), List.mem_map.2 ⟨e, he, rfl⟩, idx_some hu, rfl⟩
        · rw [hc] at j2; injection j2 with j2; exact j2.symm
    · exact .inl (by rw [j1]; omega)
  · rintro ⟨h1, h2⟩
    refine ⟨List.mem_of_getElem? hc, h1, fun u hu => ?_⟩
    obtain ⟨hne, p, hp, q, hq, e1, e2⟩ := mem_arcsOf.1 hu
    obtain ⟨a, ha, a1, a2⟩ := mem_nextOf.1 hq
    obtain ⟨e, he, rfl⟩ := List.mem_map.1 ha
    obtain ⟨hu', hv⟩ := hin e he
    obtain ⟨i, i1, i2⟩ := comp_of9 hs H a1
    obtain ⟨j, j1, j2⟩ := comp_of9 hs H (idx_some hv)
    have a2 : V.idxOf e.2.2.1 = q := a2
    rw [a2, e2] at j2
    have hj := heads_one (V := V) j2 hc
    subst hj
    rcases h2 e he with z | z | ⟨i', z1, z2⟩
    · exact absurd j1 z
    · have : i = j := by rw [i1] at z; omega
      subst this
      rw [i2] at j2; injection j2 with j2
      exact absurd (e1.symm.trans j2) hne
    · have : i = i' := by rw [i1] at z1; omega
      subst this
      rw [e1] at i2
      exact (hB.2 i _ i2).1 z2
theorem toldB_start (h : Nat → Nat) (n : Nat) : ToldB h n [] (List.replicate (headsTo h n).length false) := ⟨by simp, fun i m hm => by
  have hl := (List.getElem?_eq_some_iff.1 hm).1
  rw [List.getElem?_replicate, if_pos hl]; simp⟩
theorem ToldB.tell (hB : ToldB h V.length T bs) {c m : Nat} (hc : (headsTo h V.length)[c]? = some m) : ToldB h V.length (T ++ [m]) (bs.set c true) := by
  have hl := (List.getElem?_eq_some_iff.1 hc).1
  refine ⟨by rw [List.length_set]; exact hB.1, fun i m' hm => ?_⟩
  by_cases e : c = i
  · subst e
    rw [hc] at hm; injection hm with hm; subst hm
    rw [List.getElem?_set_self (by rw [hB.1]; exact hl)]; simp
  · rw [List.getElem?_set_ne e, hB.2 i m' hm, List.mem_append, List.mem_singleton]
    refine ⟨.inl, fun q => q.resolve_right (fun z => e ?_)⟩
    subst z
    exact heads_one (V := V) hc hm
/-- There is one that can be told, as long as not all are. -/
theorem free_ex (H : Heads (nextOf V (arcsE es)) V.length h) (hok : okArcs V (arcsE es)) (hT : T9.Told (headsTo h V.length) (arcsOf h (nextOf V (arcsE es)) V.length) T) (hl : T.length < (headsTo h V.length).length) : ∃ c m : Nat, (headsTo h V.length)[c]? = some m ∧ Free (headsTo h V.length) (arcsOf h (nextOf V (arcsE es)) V.length) T m := by
  have hO := H.onward (fun p _ q hq => nextOf_lt (fun a ha => (hok a ha).2) q hq)
  have hx : ∃ m ∈ headsTo h V.length, m ∉ T := by
    apply Classical.byContradiction
    intro hn
    have hall : ∀ m ∈ headsTo h V.length, m ∈ T := fun m hm => Classical.byContradiction (fun q => hn ⟨m, hm, q⟩)
    have := hT.length_all (headsTo_nodup h V.length) hall
    omega
  obtain ⟨m, hm⟩ := hO.free hx
  obtain ⟨c, hc⟩ := List.mem_iff_getElem?.1 hm.1
  exact ⟨c, m, hc, hm⟩
end
/-- The best so far: the least place from k on that can be told, or none. -/
def Best (h : Nat → Nat) (n : Nat) (F : Nat → Prop) (k : Nat) (b : Int) : Prop := (b = -1 ∧ ∀ c m : Nat, k ≤ c → (headsTo h n)[c]? = some m → ¬ F m) ∨ ∃ c m : Nat, b = (c : Int) ∧ (headsTo h n)[c]? = some m ∧ F m ∧ ∀ c' m' : Nat, k ≤ c' → (headsTo h n)[c']? = some m' → F m' → c ≤ c'
section
variable {h : Nat → Nat} {n k : Nat} {F : Nat → Prop} {b : Int}
theorem Best.hit {m : Nat} (hm : (headsTo h n)[k]? = some m) (hf : F m) : Best h n F k (k : Int) := .inr ⟨k, m, rfl, hm, hf, fun _ _ hc _ _ => hc⟩
theorem Best.miss {m : Nat} (hB : Best h n F (k + 1) b) (hm : (headsTo h n)[k]? = some m) (hf : ¬ F m) : Best h n F k b := by
  rcases hB with ⟨e, q⟩ | ⟨c, m', e, h1, h2, h3⟩
  · refine .inl ⟨e, fun c m' hc hm' => ?_⟩
    by_cases z : c = k
    · subst z; rw [hm] at hm'; injection hm' with hm'; rw [← hm']; exact hf
    · exact q c m' (by omega) hm'
  · refine .inr ⟨c, m', e, h1, h2, fun c' m'' hc hm' hf' => ?_⟩
    by_cases z : c' = k
    · subst z; rw [hm] at hm'; injection hm' with hm'; rw [← hm'] at hf'; exact absurd hf' hf
    · exact h3 c' m'' (by omega) hm' hf'
end
end

section
open Go.RowKit Go.Maps T9
section
variable {V : List Int} {l : List (Int × Int)} {h : Nat → Nat}
theorem at_idx {x : Int} (hx : x ∈ V) : V[V.idxOf x]? = some x := by
  rw [List.getElem?_eq_getElem (List.idxOf_lt_length_of_mem hx), List.getElem_idxOf]
theorem mem_next10 {p q : Nat} : q ∈ nextOf V l p ↔ ∃ a ∈ l, V[p]? = some a.1 ∧ q = V.idxOf a.2 := by
  unfold nextOf
  rw [List.mem_map]
  constructor
  · rintro ⟨a, ha, rfl⟩
    obtain ⟨h1, h2⟩ := List.mem_filter.1 ha
    exact ⟨a, h1, of_decide_eq_true h2, rfl⟩
  · rintro ⟨a, h1, h2, rfl⟩
    exact ⟨a, List.mem_filter.2 ⟨h1, decide_eq_true h2⟩, rfl⟩
theorem reach_ri (hs : V.Pairwise (· < ·)) (hok : okArcs V l) {p q : Nat} {x y : Int} (hx : V[p]? = some x) (hy : V[q]? = some y) : T9.Reach (nextOf V l) p q ↔ RI (fun a b => (a, b) ∈ l) x y := by
  constructor
  · intro hr
    obtain ⟨y', h1, h2⟩ := hr.closed (C := fun q => ∃ y, V[q]? = some y ∧ RI (fun a b => (a, b) ∈ l) x y) (fun p' ⟨a, ha, hw⟩ q' hq => by
      obtain ⟨c, hc, h1, rfl⟩ := mem_next10.1 hq
      have e : a = c.1 := Option.some.inj (ha.symm.trans h1)
      exact ⟨c.2, at_idx (hok c hc).2, hw.step (by rw [e]; exact hc)⟩) ⟨x, hx, RI.refl _ _⟩
    rw [Option.some.inj (hy.symm.trans h1)]
    exact h2
  · intro hr
    have := hr.closed (C := fun y => y ∈ V ∧ T9.Reach (nextOf V l) p (V.idxOf y)) (fun a b ⟨ha, hw⟩ hab => ⟨(hok _ hab).2, hw.trans (T9.Reach.arc (mem_next10.2 ⟨(a, b), hab, at_idx ha, rfl⟩))⟩) ⟨List.mem_of_getElem? hx, by rw [idx_at9 hs hx]; exact T9.Reach.refl _ _⟩
    rw [idx_at9 hs hy] at this
    exact this.2
theorem mem_cv {ps : List Nat} {x : Int} (hp : ∀ p ∈ ps, p < V.length) (hx : x ∈ cv V ps) : x ∈ V := by
  unfold cv at hx
  obtain ⟨q, hq, rfl⟩ := List.mem_map.1 hx
  have := hp q hq
  rw [List.getD_eq_getElem?_getD, List.getElem?_eq_getElem this]
  exact List.getElem_mem this
/-- Two numbers stand in one component just if each is reached from the other. -/
theorem comps_mut (hs : V.Pairwise (· < ·)) (hok : okArcs V l) (H : Heads (nextOf V l) V.length h) {x y : Int} : (∃ cs ∈ compsV V h V.length, x ∈ cs ∧ y ∈ cs) ↔ x ∈ V ∧ y ∈ V ∧ Mut (fun a b => (a, b) ∈ l) x y := by
  constructor
  · rintro ⟨cs, hcs, hx, hy⟩
    obtain ⟨i, hi⟩ := List.getElem?_of_mem hcs
    obtain ⟨m, hm, rfl⟩ := comp_at9.1 hi
    have xV := mem_cv (fun p hp => (mem_partTo.1 hp).1) hx
    have yV := mem_cv (fun p hp => (mem_partTo.1 hp).1) hy
    have h1 := (mem_part9 hs (at_idx xV)).1 hx
    have h2 := (mem_part9 hs (at_idx yV)).1 hy
    obtain ⟨r1, r2⟩ := (H.same (List.idxOf_lt_length_of_mem xV) (List.idxOf_lt_length_of_mem yV)).1 (h1.trans h2.symm)
    exact ⟨xV, yV, (reach_ri hs hok (at_idx xV) (at_idx yV)).1 r1, (reach_ri hs hok (at_idx yV) (at_idx xV)).1 r2⟩
  · rintro ⟨xV, yV, m1, m2⟩
    have hp := List.idxOf_lt_length_of_mem xV
    have e := (H.same hp (List.idxOf_lt_length_of_mem yV)).2 ⟨(reach_ri hs hok (at_idx xV) (at_idx yV)).2 m1, (reach_ri hs hok (at_idx yV) (at_idx xV)).2 m2⟩
    obtain ⟨i, hi⟩ := List.getElem?_of_mem (mem_headsTo.2 ⟨H.lt hp, H.idem hp⟩)
    exact ⟨_, List.mem_of_getElem? (comp_at9.2 ⟨_, hi, rfl⟩), (mem_part9 hs (at_idx xV)).2 rfl, (mem_part9 hs (at_idx yV)).2 e.symm⟩
theorem comps_some (H : Heads (nextOf V l) V.length h) {cs : List Int} (hc : cs ∈ compsV V h V.length) : ∃ x0 xs, cs = x0 :: xs := by
  obtain ⟨i, hi⟩ := List.getElem?_of_mem hc
  obtain ⟨m, hm, rfl⟩ := comp_at9.1 hi
  obtain ⟨t, e⟩ := part_first9 H (List.mem_of_getElem? hm)
  rw [e]
  exact ⟨_, _, rfl⟩
theorem comps_in {cs : List Int} (hc : cs ∈ compsV V h V.length) {x : Int} (hx : x ∈ cs) : x ∈ V := by
  obtain ⟨i, hi⟩ := List.getElem?_of_mem hc
  obtain ⟨m, hm, rfl⟩ := comp_at9.1 hi
  exact mem_cv (fun p hp => (mem_partTo.1 hp).1) hx
/-- No number stands in two components. -/
theorem comps_apart (hs : V.Pairwise (· < ·)) {i j : Nat} {cs ds : List Int} (hi : (compsV V h V.length)[i]? = some cs) (hj : (compsV V h V.length)[j]? = some ds) (hij : i < j) {x : Int} (hx : x ∈ cs) : x ∉ ds := by
  intro hy
  obtain ⟨m, hm, rfl⟩ := comp_at9.1 hi
  obtain ⟨m', hm', rfl⟩ := comp_at9.1 hj
  have xV := mem_cv (fun p hp => (mem_partTo.1 hp).1) hx
  have e : m = m' := ((mem_part9 hs (at_idx xV)).1 hx).symm.trans ((mem_part9 hs (at_idx xV)).1 hy)
  subst e
  have hp : (headsTo h V.length).Pairwise (· < ·) := List.Pairwise.sublist List.filter_sublist List.pairwise_lt_range
  obtain ⟨l1, e1⟩ := List.getElem?_eq_some_iff.1 hm
  obtain ⟨l2, e2⟩ := List.getElem?_eq_some_iff.1 hm'
  have := List.pairwise_iff_getElem.1 hp i j l1 l2 hij
  omega
end
end

section
open Go.RowKit Go.Maps T9
/-- A list of lists that can be read, whose inner blocks lie from B on and below E. -/
def LLb (B E : Nat) (w : World) (v : Value) (xss : List (List Int)) : Prop := ∃ x c, v = .slice x xss.length c ∧ ∀ (i : Nat) (ks : List Int), xss[i]? = some ks → ∃ g y, x = some ⟨g, 0, none⟩ ∧ w.cell? ⟨g, i, none⟩ = some y ∧ NRow w y ks ∧ ∀ b, y.ownBlock = some b → B ≤ b ∧ b < E
theorem LLat.readIn {B a : Nat} {L : Nat → Nat} {w W : World} {v : Value} {vs : List Value} {xss : List (List Int)} (h : LLat B L a w v vs xss) (hk : ∀ b, B ≤ b → b < w.heap.size → W.heap[b]? = w.heap[b]?) : LLb B w.heap.size W v xss := by
  have h2 : LLat B L a W v vs xss := by
    refine ⟨⟨h.outer.1, ?_⟩, fun i x ks h1 h2 => brow_kept (h.inner i x ks h1 h2) (fun b e => hk b ((h.inner i x ks h1 h2).lt b e).1 ((h.inner i x ks h1 h2).lt b e).2), h.lo, h.li⟩
    rcases h.outer.2 with hn | ⟨g, cap, cur, e, hb, hgg, rest⟩
    · exact .inl hn
    · exact .inr ⟨g, cap, cur, e, hb, (hk g hb (heap_lt hgg)).trans hgg, rest⟩
  obtain ⟨x, c, e, -⟩ := h2.shape
  subst e
  refine ⟨x, c, rfl, fun i ks hi => ?_⟩
  obtain ⟨g, hg⟩ := h2.some_ (by have := (List.getElem?_eq_some_iff.1 hi).1; omega)
  subst hg
  obtain ⟨y, q1, q2⟩ := h2.inrow hi
  exact ⟨g, y, rfl, h2.cell q1, brow_at0 q2, fun b e => h.inlt q1 e⟩
/-- Both within ks, and each reached from the other by arcs within it. -/
def InMut (g : Int → Int → Option Int) (S : List (Part Int)) (ks : List Int) (a b : Int) : Prop := a ∈ ks ∧ b ∈ ks ∧ Mut (fun p q => p ∈ ks ∧ ArcG g p q ∧ SP S p q) a b
/-- What partAnew leaves. -/
def PaAns (w : World) (c p m ma ml me : Nat) (lk : Int) (g : Int → Int → Option Int) (S : List (Part Int)) (ks : List Int) (w' : World) : Prop :=
  ∃ S', RAft w c p m ma ml me (lk + (ks.length : Int) + (ks.length : Int)) S S' w' ∧ ∀ a b, SP S' a b ↔ (SP S a b ∧ a ∉ ks) ∨ InMut g S ks a b
section
variable {g : Int → Int → Option Int} {S : List (Part Int)} {x : Part Int} {V : List Int} {l : List (Int × Int)} {h : Nat → Nat}
theorem tells_mut (hT : Tells g S x.ks l) : (fun a b => (a, b) ∈ l) = (fun p q => p ∈ x.ks ∧ ArcG g p q ∧ SP S p q) := by
  funext p q; exact propext (hT p q)
theorem comps_inmut (hp : ∀ k, k ∈ V ↔ k ∈ x.ks) (hs : V.Pairwise (· < ·)) (hok : okArcs V l) (H : Heads (nextOf V l) V.length h) (hT : Tells g S x.ks l) (a b : Int) : (∃ cs ∈ compsV V h V.length, a ∈ cs ∧ b ∈ cs) ↔ InMut g S x.ks a b := by
  rw [comps_mut hs hok H, tells_mut hT, hp, hp]; rfl
theorem sp_in (hS : Fam ltN okN S) (hx : x ∈ S) {a b : Int} (ha : a ∈ x.ks) (h : SP S a b) : b ∈ x.ks := by
  obtain ⟨z, hz, h1, h2⟩ := h
  rcases hS.of hx hz with rfl | hap
  · exact h2
  · exact absurd h1 (hap.2.2 _ ha)
/-- One component alone: nothing changes. -/
theorem sp_whole (hS : Fam ltN okN S) (hx : x ∈ S) (hp : ∀ k, k ∈ V ↔ k ∈ x.ks) (hs : V.Pairwise (· < ·)) (hok : okArcs V l) (H : Heads (nextOf V l) V.length h) (hT : Tells g S x.ks l) (h1 : (compsV V h V.length).length = 1) (a b : Int) : SP S a b ↔ (SP S a b ∧ a ∉ x.ks) ∨ InMut g S x.ks a b := by
  constructor
  · intro hab
    by_cases ha : a ∈ x.ks
    · have hb := sp_in hS hx ha hab
      refine .inr ((comps_inmut hp hs hok H hT a b).1 ?_)
      obtain ⟨cs, h2, h3, -⟩ := (comps_inmut hp hs hok H hT a a).2 ⟨ha, ha, Mut.refl _ _⟩
      obtain ⟨ds, h4, h5, -⟩ := (comps_inmut hp hs hok H hT b b).2 ⟨hb, hb, Mut.refl _ _⟩
      obtain ⟨c0, e0⟩ := List.length_eq_one_iff.1 h1
      rw [e0] at h2 h4
      have e1 := List.mem_singleton.1 h2
      have e2 := List.mem_singleton.1 h4
      exact ⟨c0, by rw [e0]; exact List.mem_singleton.2 rfl, by rw [← e1]; exact h3, by rw [← e2]; exact h5⟩
    · exact .inl ⟨hab, ha⟩
  · rintro (⟨hab, -⟩ | ⟨h2, h3, -⟩)
    · exact hab
    · exact ⟨x, hx, h2, h3⟩
/-- In the midst: the first j components are joined. -/
def PMid (w : World) (p m : Nat) (S1 : List (Part Int)) (css : List (List Int)) (j : Nat) (W : World) : Prop :=
  ∃ Sj, PNext w p m S1 Sj W ∧ ∀ a b, SP Sj a b ↔ SP S1 a b ∨ ∃ ds ∈ css.take j, a ∈ ds ∧ b ∈ ds
theorem PMid.step {w W w' : World} {p m : Nat} {S1 Sj : List (Part Int)} {css : List (List Int)} {j : Nat} {cs : List Int} (hN : PNext w p m S1 Sj W) (hS : ∀ a b, SP Sj a b ↔ SP S1 a b ∨ ∃ ds ∈ css.take j, a ∈ ds ∧ b ∈ ds) (hj : css[j]? = some cs) (hJ : JAns W p m Sj cs w') (hs : ∀ k ∈ cs, ∀ a, SP S1 a k ↔ a = k) (hd : ∀ ds ∈ css.take j, ∀ k ∈ cs, k ∉ ds) : PMid w p m S1 css (j + 1) w' := by
  obtain ⟨S2, h3, h4⟩ := hJ
  refine ⟨S2, hN.trans h3, fun a b => ?_⟩
  rw [h4, jp_comp hS hs hd, List.take_add_one, hj]
  rfl
/-- Behind the burst each stands alone. -/
theorem burst_alone {T : List (Part Int)} (hS : Fam ltN okN S) (hx : x ∈ S) (hT : T.map (·.ks) = x.ks.map (fun k => [k])) {k : Int} (hk : k ∈ x.ks) (a : Int) : SP (pout x S ++ T) a k ↔ a = k := by
  rw [sp_burst hS hx hT]
  constructor
  · rintro (⟨h1, h2⟩ | ⟨h1, -⟩)
    · exact absurd (sp_in hS hx hk h1.symm) h2
    · exact h1
  · rintro rfl
    exact .inr ⟨rfl, hk⟩
theorem sp_anew {T S' : List (Part Int)} (hS : Fam ltN okN S) (hx : x ∈ S) (hTT : T.map (·.ks) = x.ks.map (fun k => [k])) (hp : ∀ k, k ∈ V ↔ k ∈ x.ks) (hs : V.Pairwise (· < ·)) (hok : okArcs V l) (H : Heads (nextOf V l) V.length h) (hT : Tells g S x.ks l) (hE : ∀ a b, SP S' a b ↔ SP (pout x S ++ T) a b ∨ ∃ ds ∈ compsV V h V.length, a ∈ ds ∧ b ∈ ds) (a b : Int) : SP S' a b ↔ (SP S a b ∧ a ∉ x.ks) ∨ InMut g S x.ks a b := by
  rw [hE, sp_burst hS hx hTT, comps_inmut hp hs hok H hT]
  constructor
  · rintro ((h1 | ⟨rfl, h1⟩) | h1)
    · exact .inl h1
    · exact .inr ⟨h1, h1, Mut.refl _ _⟩
    · exact .inr h1
  · rintro (h1 | h1)
    · exact .inl (.inl h1)
    · exact .inr h1
end
end

end Go.Proofs.YtkmhcgmmbkchaaaGreat

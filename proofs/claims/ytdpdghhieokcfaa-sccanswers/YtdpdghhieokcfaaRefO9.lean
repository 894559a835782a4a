/- The reference's Of: the components by who reaches whom. -/
import Derived.Test.YtdpdghhieokcfaaRefR9
import Derived.Test.YtdpdghhieokcfaaSame9
namespace Go.Proofs.Ytdpdghhieokcfaa

section
open Go.RowKit Go.Maps T9
/-- A list of rows of truth values that can be read. -/
def LTr (w : World) (v : Value) (css : List (List Bool)) : Prop := ∃ x c, v = .slice x css.length c ∧ ∀ (i : Nat) (bs : List Bool), css[i]? = some bs → ∃ g h n k, x = some ⟨g, 0, none⟩ ∧ w.cell? ⟨g, i, none⟩ = some (.slice (some ⟨h, 0, none⟩) n k) ∧ n = bs.length ∧ TRow 0 w (.slice (some ⟨h, 0, none⟩) n k) bs
theorem ltr_below {w w' : World} {v : Value} {css : List (List Bool)} (h : LTr w v css) (hb : Below w.heap.size w w') : LTr w' v css := by
  obtain ⟨x, c, e, hh⟩ := h
  refine ⟨x, c, e, fun i bs hi => ?_⟩
  obtain ⟨g, h, n, k, e1, e2, e3, e4⟩ := hh i bs hi
  have hl : g < w.heap.size := by
    have h2 := e2
    unfold World.cell? at h2
    rcases Nat.lt_or_ge g w.heap.size with q | q
    · exact q
    · rw [Array.getElem?_eq_none q] at h2; cases h2
  exact ⟨g, h, n, k, e1, (hb.cell (p := ⟨g, i, none⟩) hl).trans e2, e3, trow_kept e4 (fun b e => hb.block b (e4.lt b e).2)⟩
set_option maxHeartbeats 1000000 in
set_option maxRecDepth 100000 in
theorem infoBS : (Try.prog.info? 61).map (fun i => (i.zero, i.size, i.bytes)) = some (some (.slice none 0 0), 1, 24) := by kernel_rfl
/-- The list of rows while it grows: the outer block is no row's. -/
structure CB (w0 : World) (L : Nat → Nat) (v : Value) (vs : List Value) (css : List (List Bool)) (W : World) : Prop where
  base : Below w0.heap.size w0 W
  outer : W.ownsRow w0.heap.size 61 1 v css.length vs
  inner : ∀ (i : Nat) (y : Value) (bs : List Bool), vs[i]? = some y → css[i]? = some bs → TRow w0.heap.size W y bs ∧ ∃ h k, y = .slice (some ⟨h, 0, none⟩) bs.length k
  lo : ∀ b, v.ownBlock = some b → L b = 1
  li : ∀ (i : Nat) (y : Value) (b : Nat), vs[i]? = some y → y.ownBlock = some b → L b = 0
section
variable {w0 W W' : World} {L : Nat → Nat} {v : Value} {vs : List Value} {css : List (List Bool)}
theorem CB.len (h : CB w0 L v vs css W) : vs.length = css.length := by have := h.outer.1; omega
theorem CB.below (h : CB w0 L v vs css W) (hb : Below W.heap.size W W') : CB w0 L v vs css W' := by
  refine ⟨h.base.trans (hb.mono h.base.size), ⟨h.outer.1, ?_⟩, fun i y bs h1 h2 => ⟨trow_kept (h.inner i y bs h1 h2).1 (fun b e => hb.block b ((h.inner i y bs h1 h2).1.lt b e).2), (h.inner i y bs h1 h2).2⟩, h.lo, h.li⟩
  rcases h.outer.2 with hn | ⟨g, cap, cur, e, hb2, hgg, rest⟩
  · exact .inl hn
  · exact .inr ⟨g, cap, cur, e, hb2, (hb.block g (heap_lt hgg)).trans hgg, rest⟩
theorem CB.inlt (h : CB w0 L v vs css W) {i b : Nat} {y : Value} (hi : vs[i]? = some y) (e : y.ownBlock = some b) : b < W.heap.size := by
  have hl : i < css.length := by rw [← h.len]; exact (List.getElem?_eq_some_iff.1 hi).1
  exact ((h.inner i y _ hi (List.getElem?_eq_getElem hl)).1.lt b e).2
theorem CB.read (h : CB w0 L v vs css W) : LTr W v css := by
  have hsh : ∃ x c, v = .slice x css.length c := by
    rcases h.outer.2 with ⟨e, h0⟩ | ⟨g', cap, cur, e, -⟩
    · exact ⟨none, 0, by rw [e, h0]⟩
    · exact ⟨_, _, e⟩
  obtain ⟨x, c, e⟩ := hsh
  refine ⟨x, c, e, fun i bs hi => ?_⟩
  have hil := (List.getElem?_eq_some_iff.1 hi).1
  obtain ⟨y, hy⟩ : ∃ y, vs[i]? = some y := ⟨_, List.getElem?_eq_getElem (by rw [h.len]; exact hil)⟩
  obtain ⟨r, hh, k, rfl⟩ := h.inner i y bs hy hi
  subst e
  obtain ⟨g, hg⟩ : ∃ g, x = some ⟨g, 0, none⟩ := by
    rcases h.outer.2 with ⟨e, h1⟩ | ⟨g', cap, cur, e, -⟩
    · omega
    · injection e with e1; exact ⟨g', e1⟩
  subst hg
  have hc := h.outer.cells (g := g) rfl i _ hy
  rw [addr_off, Nat.zero_add] at hc
  exact ⟨g, hh, _, k, rfl, hc, rfl, trow_zero r⟩
/-- One row more: made anew, so in a block of its own. -/
theorem CB.push (h : CB w0 L v vs css W) {g k : Nat} {bs : List Bool} (hb : Below W.heap.size W W') (hr : TRow W.heap.size W' (.slice (some ⟨g, 0, none⟩) bs.length k) bs) (hl : css.length ≤ 1000000) :
    ∃ a' n' c' w', (∀ ty, (Builtin.append_ #[59, 59] ty #[v, .slice (some ⟨W'.heap.size, 0, none⟩) 1 1]).run Try.prog (W'.alloc (.cells #[.slice (some ⟨g, 0, none⟩) bs.length k] 61)) = .ok (.slice a' n' c') w') ∧ Below w0.heap.size w0 w' ∧ ∃ L', CB w0 L' (.slice a' n' c') (vs ++ [.slice (some ⟨g, 0, none⟩) bs.length k]) (css ++ [bs]) w' := by
  have h1 := h.below hb
  have hb1 := below_new W' (.cells #[.slice (some ⟨g, 0, none⟩) bs.length k] 61)
  have h2 := h1.below hb1
  obtain ⟨ii, hi1, hz, hs, hbb⟩ := info_parts infoBS
  have hc : ∀ j u, [Value.slice (some ⟨g, 0, none⟩) bs.length k][j]? = some u → (W'.alloc (.cells #[.slice (some ⟨g, 0, none⟩) bs.length k] 61)).cell? ((⟨W'.heap.size, 0, none⟩ : Addr).add j) = some u := cell_one_new W' _ _
  obtain ⟨v', w', hrun, g1, g2, -, g5⟩ := run_append_own_at (P := Try.prog) (W'.alloc (.cells #[.slice (some ⟨g, 0, none⟩) bs.length k] 61)) w0.heap.size 59 0 61 ii _ 1 24 Try.underlying59 hi1 hz hs hbb rfl (by omega) v css.length vs h2.outer ⟨W'.heap.size, 0, none⟩ 1 1 [.slice (some ⟨g, 0, none⟩) bs.length k] (by simp) hc (by intro u hu; rw [List.mem_singleton.1 hu]; rfl) (by unfold maxLen; omega) (by omega) h2.base.size
  have g1' : w'.ownsRow w0.heap.size 61 1 v' (css ++ [bs]).length (vs ++ [.slice (some ⟨g, 0, none⟩) bs.length k]) := by rw [List.length_append]; exact g1
  have hsh : ∃ x n c, v' = .slice x n c := by
    rcases g1'.2 with ⟨e, -⟩ | ⟨g', cap, cur, e, -⟩
    · exact ⟨_, _, _, e⟩
    · exact ⟨_, _, _, e⟩
  obtain ⟨x, n, c, rfl⟩ := hsh
  have hold : ∀ b, b < W'.heap.size → v.ownBlock ≠ some b → w'.heap[b]? = W'.heap[b]? := fun b hb' hne => (g2.block b (Nat.lt_of_lt_of_le hb' hb1.size) (fun e => hne e.symm)).trans (hb1.block b hb')
  have ho := h.outer.lt
  have hB' : Below w0.heap.size w0 w' := by
    have ht : Turned (fun b => v.ownBlock = some b) (W'.alloc (.cells #[.slice (some ⟨g, 0, none⟩) bs.length k] 61)) w' := ⟨g2.os, g2.tape, g2.output, g2.size, fun k hk hn => g2.block k hk (fun e => hn e.symm)⟩
    exact h2.base.trans (ht.below h2.base.size (fun b e => (ho b e).1))
  have hgl := hr.lt g rfl
  refine ⟨x, n, c, w', fun ty => hrun, hB', fun b => if b < W.heap.size then L b else if b = g then 0 else 1, hB', g1', fun i y ks e1 e2 => ?_, fun b e => ?_, fun i y b e1 e => ?_⟩
  · have hlen := h.len
    rcases Nat.lt_or_ge i vs.length with q | q
    · rw [List.getElem?_append_left q] at e1
      rw [List.getElem?_append_left (by omega)] at e2
      have h5 := h1.inner i y ks e1 e2
      exact ⟨trow_kept h5.1 (fun b eb => hold b (h5.1.lt b eb).2 (fun e => by have := h.lo b e; have := h.li i y b e1 eb; omega)), h5.2⟩
    · have hi : i = vs.length := by have := (List.getElem?_eq_some_iff.1 e1).1; simp at this; omega
      subst hi
      rw [List.getElem?_append_right (Nat.le_refl _), Nat.sub_self] at e1
      rw [hlen, List.getElem?_append_right (Nat.le_refl _), Nat.sub_self] at e2
      have e1 := Option.some.inj (show some (Value.slice (some ⟨g, 0, none⟩) bs.length k) = some y from e1)
      have e2 := Option.some.inj (show some bs = some ks from e2)
      subst e1 e2
      refine ⟨trow_low (trow_kept hr (fun b eb => hold b (hr.lt b eb).2 (fun e => ?_))) h.base.size, g, k, rfl⟩
      have := (ho b e).2; have := (hr.lt b eb).1; omega
  · show (if b < W.heap.size then L b else if b = g then 0 else 1) = 1
    rcases g5 with q | q
    · have e3 : v.ownBlock = some b := by rw [← q]; exact e
      rw [if_pos (ho b e3).2]; exact h.lo b e3
    · have eb2 := Option.some.inj (q.symm.trans e)
      have := hb1.size
      have := hb.size
      rw [if_neg (by omega), if_neg (by omega)]
  · show (if b < W.heap.size then L b else if b = g then 0 else 1) = 0
    rcases Nat.lt_or_ge i vs.length with q | q
    · rw [List.getElem?_append_left q] at e1
      rw [if_pos (h.inlt e1 e)]; exact h.li i y b e1 e
    · have hi : i = vs.length := by have := (List.getElem?_eq_some_iff.1 e1).1; simp at this; omega
      subst hi
      rw [List.getElem?_append_right (Nat.le_refl _), Nat.sub_self] at e1
      have e1 := Option.some.inj (show some (Value.slice (some ⟨g, 0, none⟩) bs.length k) = some y from e1)
      subst e1
      have := own_eq e
      rw [if_neg (by omega), if_pos this.symm]
end
/-- css tells of each vertex, at its place, whom it reaches. -/
def Clo (V : List Int) (es : List EdV) (css : List (List Bool)) : Prop := ∀ (i : Nat) (bs : List Bool), css[i]? = some bs → bs.length = V.length ∧ ∀ j : Nat, bs[j]? = some true ↔ T9.Reach (nextOf V (arcsE es)) i j
def CloAns (w : World) (V : List Int) (es : List EdV) (e : Ending) (w' : World) : Prop := ∃ x n c css, e = .returned (.slice x n c) ∧ css.length = V.length ∧ LTr w' (.slice x n c) css ∧ Clo V es css ∧ Below w.heap.size w w'
set_option maxHeartbeats 8000000 in
set_option maxRecDepth 100000 in
theorem closureS {w : World} {vv ev : Value} {rd wr_ : Int} {V : List Int} {es : List EdV} (h : NRow w vv V) (he : ERow 0 w ev es) (hs : V.Pairwise (· < ·)) (hok : okArcs V (arcsE es)) (hl : V.length ≤ 100000) (hl2 : es.length ≤ 100000) :
    Calls Try.prog 27 #[.agg #[vv, ev, .int .i64 rd, .int .i64 wr_]] w fun e w' => Hid (CloAns w V es e w') := by
  have hb := below_new w (oGr vv ev rd wr_)
  have hbx := heap_alloc_new w (oGr vv ev rd wr_)
  have h1 := nrow_below h hb
  have h2 := erow_below he hb
  obtain ⟨a, c, hvv, -⟩ := brow_shape h1
  obtain ⟨ea, ec, hev, -⟩ := erow_shape h2
  obtain ⟨n, hn⟩ : ∃ n, n = V.length := ⟨_, rfl⟩
  obtain ⟨m, hm⟩ : ∃ m, m = es.length := ⟨_, rfl⟩
  rw [← hn] at hvv
  rw [← hm] at hev
  subst hvv hev
  have HB : Hid (Below w.heap.size w (w.alloc (oGr (.slice a n c) (.slice ea m ec) rd wr_)) ∧ (w.alloc (oGr (.slice a n c) (.slice ea m ec) rd wr_)).heap[w.heap.size]? = some (oGr (.slice a n c) (.slice ea m ec) rd wr_) ∧ NRow (w.alloc (oGr (.slice a n c) (.slice ea m ec) rd wr_)) (.slice a n c) V ∧ ERow 0 (w.alloc (oGr (.slice a n c) (.slice ea m ec) rd wr_)) (.slice ea m ec) es) := ⟨hb, hbx, h1, h2⟩
  have HN : Hid (n = V.length ∧ n ≤ 100000 ∧ m = es.length ∧ m ≤ 100000 ∧ V.Pairwise (· < ·) ∧ okArcs V (arcsE es)) := ⟨hn, by omega, hm, by omega, hs, hok⟩
  clear h h1 h2 hb hbx he hl hl2 hn hm hs hok
  go_enter Try.func27, Try.ntmps27
  go_upto_region 1 with fail
  change Code.wp _ _ _ _ (w.alloc (oGr (.slice a n c) (.slice ea m ec) rd wr_))
  generalize w.alloc (oGr (.slice a n c) (.slice ea m ec) rd wr_) = wb at *
  obtain ⟨gb, hgb⟩ : ∃ gb, gb = w.heap.size := ⟨_, rfl⟩
  have HGB := hide hgb
  rw [← hgb] at HB ⊢
  clear hgb
  have HC : Hid (∀ W, Below wb.heap.size wb W → W.cell? ⟨gb, 0, none⟩ = some (.slice a n c) ∧ W.cell? ⟨gb, 1, none⟩ = some (.slice ea m ec) ∧ W.cell? ⟨gb, 2, none⟩ = some (.int .i64 rd) ∧ W.cell? ⟨gb, 3, none⟩ = some (.int .i64 wr_)) := fun W hW => by
    have q := (hW.block gb (heap_lt (unhide HB).2.1)).trans (unhide HB).2.1
    obtain ⟨d0, d1, d2, d3, -⟩ := cellsGr q
    exact ⟨d0, d1, d2, d3⟩
  go_upto_region 3 with fail
  go_loopw [4, 3] (fun s4 s3 W => ∃ (i : Nat) (x : Option Addr) (xn xc : Nat), s4 = .int .i64 (i : Nat) ∧ s3 = .slice x xn xc ∧ i ≤ n ∧ Hid (∃ L vs css, CB wb L (.slice x xn xc) vs css W ∧ css.length = i ∧ Clo V es css)) (fun s4 _ _ => n - (intOf s4).toNat)
  case atStart => exact ⟨0, none, 0, 0, rfl, rfl, Nat.zero_le _, fun _ => 0, [], [], ⟨Below.refl _ _, ⟨rfl, .inl ⟨rfl, rfl⟩⟩, fun i y bs h => (by cases h), fun b e => (by cases e), fun i y b h => (by cases h)⟩, rfl, fun i bs h => by cases h⟩
  case round =>
    obtain ⟨i, x, xn, xc, rfl, rfl, hi, hS⟩ := hrel
    obtain ⟨L, vs, css, hCB, hcl, hCl⟩ := unhide hS
    obtain ⟨l1, l2, l3, l4, l5, l6⟩ := unhide HN
    have k0 := (unhide HC wr hCB.base).1
    by_cases hlt : i < n
    · obtain ⟨s, hy⟩ : ∃ y, V[i]? = some y := ⟨_, List.getElem?_eq_getElem (by omega)⟩
      have HV : Hid (∀ W, Below wb.heap.size wb W → NRow W (.slice a n c) V) := fun W hW => nrow_below (unhide HB).2.2.1 hW
      obtain ⟨g, hg⟩ := brow_some (unhide HV wb (Below.refl _ _)) (by omega)
      subst hg
      have HSN : Hid (∀ W, Below wb.heap.size wb W → (W.cell? ⟨gb, 0, none⟩ = some (.slice (some ⟨g, 0, none⟩) n c) ∧ W.cell? ⟨gb, 1, none⟩ = some (.slice ea m ec) ∧ W.cell? ⟨gb, 2, none⟩ = some (.int .i64 rd) ∧ W.cell? ⟨gb, 3, none⟩ = some (.int .i64 wr_)) ∧ W.cell? ⟨g, i, none⟩ = some (.int .i64 s)) := fun W hW => ⟨unhide HC W hW, brow_at (unhide HV W hW) hy⟩
      obtain ⟨⟨d0, d1, d2, d3⟩, d4⟩ := unhide HSN wr hCB.base
      have bd : Below wr.heap.size wr wr.drew := ⟨rfl, rfl, rfl, Nat.le_refl _, fun _ _ => rfl⟩
      have hCd := hCB.below bd
      have CR := hide (reachedS (rd := rd) (wr_ := wr_) (s := s) (unhide HV _ hCd.base) (erow_below (unhide HB).2.2.2 hCd.base) l5 l6 (by omega) (by omega))
      have HCD : Hid (CB wb L (.slice x xn xc) vs css wr.drew ∧ css.length ≤ 1000000) := ⟨hCd, by omega⟩
      obtain ⟨i1, hi1⟩ : ∃ i1, i1 = i + 1 := ⟨_, rfl⟩
      have zw : Hid (wrap64 ((i : Int) + 1) = (i1 : Int)) := by show wrap64 ((i : Int) + 1) = (i1 : Int); unfold wrap64; omega
      have HI1 := hide hi1
      have z1 : (i : Int) < (n : Int) := by omega
      have HJ : Hid (i1 ≤ n ∧ n - i1 < n - i) := ⟨by omega, by omega⟩
      have HCL : Hid (∀ bs : List Bool, bs.length = V.length → (∀ j : Nat, bs[j]? = some true ↔ ∃ p : Nat, V[p]? = some s ∧ T9.Reach (nextOf V (arcsE es)) p j) → (css ++ [bs]).length = i1 ∧ Clo V es (css ++ [bs])) := fun bs q1 q2 => by
        refine ⟨by simp [hcl, hi1], fun j zs hj => ?_⟩
        rcases Nat.lt_or_ge j css.length with z | z
        · rw [List.getElem?_append_left z] at hj; exact hCl j zs hj
        · have hji : j = i := by have := (List.getElem?_eq_some_iff.1 hj).1; simp at this; omega
          subst hji
          rw [← hcl, List.getElem?_append_right (Nat.le_refl _), Nat.sub_self] at hj
          have hj := Option.some.inj (show some bs = some zs from hj)
          subst hj
          refine ⟨q1, fun k => (q2 k).trans ⟨fun ⟨p, h1, h2⟩ => ?_, fun h => ⟨j, hy, h⟩⟩⟩
          have e1 := idx_at9 l5 h1
          have e2 := idx_at9 l5 hy
          rw [← e2, e1]; exact h2
      clear hCB hCl l1 l2 l3 l4 l5 l6 hlt hi hS hi1 hy bd hCd hcl k0
      have k0 := d0
      go_upto_region 5 with fail
      clear k0
      refine wp_region_noPanic ?_
      refine regionL [] (fun y => (y.cell? ⟨gb, 0, none⟩ = some (.slice (some ⟨g, 0, none⟩) n c) ∧ y.cell? ⟨gb, 1, none⟩ = some (.slice ea m ec) ∧ y.cell? ⟨gb, 2, none⟩ = some (.int .i64 rd) ∧ y.cell? ⟨gb, 3, none⟩ = some (.int .i64 wr_)) ∧ y.cell? ⟨g, i, none⟩ = some (.int .i64 s)) (by kernel_rfl) ⟨⟨d0, d1, d2, d3⟩, d4⟩ (fun hHeld => ?_)
      refine takeL (i := 0) (v := ?t2v0) (some 12) rfl rfl (by kernel_rfl) (by kernel_rfl) (by kernel_rfl) (by kernel_rfl) (by kernel_rfl) (fun _ _ _ h => h) (Or.inl ⟨by rfl, ?t2h0⟩) (by assumption) ?t2r0
      case t2h0 => (intro y hSu; (try dsimp only at hSu); go_simp; first | done | with_reducible rfl)
      (try simp only [Act.put, List.setIfInBounds_toArray, List.set_cons_zero, List.set_cons_succ])
      refine takeL (i := 1) (v := ?t2v1) (some 13) rfl rfl (by kernel_rfl) (by kernel_rfl) (by kernel_rfl) (by kernel_rfl) (by kernel_rfl) (fun _ _ _ h => h) (Or.inl ⟨by rfl, ?t2h1⟩) (by assumption) ?t2r1
      case t2h1 => (intro y hSu; (try dsimp only at hSu); go_simp; first | done | with_reducible rfl)
      (try simp only [Act.put, List.setIfInBounds_toArray, List.set_cons_zero, List.set_cons_succ])
      refine takeL (i := 2) (v := ?t2v2) (some 14) rfl rfl (by kernel_rfl) (by kernel_rfl) (by kernel_rfl) (by kernel_rfl) (by kernel_rfl) (fun _ _ _ h => h) (Or.inl ⟨by rfl, ?t2h2⟩) (by assumption) ?t2r2
      case t2h2 => (intro y hSu; (try dsimp only at hSu); go_simp; first | done | with_reducible rfl)
      (try simp only [Act.put, List.setIfInBounds_toArray, List.set_cons_zero, List.set_cons_succ])
      refine takeL (i := 3) (v := ?t2v3) (some 15) rfl rfl (by kernel_rfl) (by kernel_rfl) (by kernel_rfl) (by kernel_rfl) (by kernel_rfl) (fun _ _ _ h => h) (Or.inl ⟨by rfl, ?t2h3⟩) (by assumption) ?t2r3
      case t2h3 => (intro y hSu; (try dsimp only at hSu); go_simp; first | done | with_reducible rfl)
      (try simp only [Act.put, List.setIfInBounds_toArray, List.set_cons_zero, List.set_cons_succ])
      refine takeL (i := 4) (v := ?t2v4) (some 16) rfl rfl (by kernel_rfl) (by kernel_rfl) (by kernel_rfl) (by kernel_rfl) (by kernel_rfl) (fun _ _ _ h => h) (Or.inl ⟨by rfl, ?t2h4⟩) (by assumption) ?t2r4
      case t2h4 => (intro y hSu; (try dsimp only at hSu); go_simp; first | done | with_reducible rfl)
      (try simp only [Act.put, List.setIfInBounds_toArray, List.set_cons_zero, List.set_cons_succ])
      refine takeL (i := 5) (v := ?t2v5) (some 17) rfl rfl (by kernel_rfl) (by kernel_rfl) (by kernel_rfl) (by kernel_rfl) (by kernel_rfl) (fun _ _ _ h => h) (Or.inl ⟨by rfl, ?t2h5⟩) (by assumption) ?t2r5
      case t2h5 => (intro y hSu; (try dsimp only at hSu); go_simp; first | done | with_reducible rfl)
      (try simp only [Act.put, List.setIfInBounds_toArray, List.set_cons_zero, List.set_cons_succ])
      refine takeL (i := 6) (v := ?t2v6) (some 18) rfl rfl (by kernel_rfl) (by kernel_rfl) (by kernel_rfl) (by kernel_rfl) (by kernel_rfl) (fun _ _ _ h => h) (Or.inl ⟨by rfl, ?t2h6⟩) (by assumption) ?t2r6
      case t2h6 => (intro y hSu; (try dsimp only at hSu); go_simp; first | done | with_reducible rfl)
      (try simp only [Act.put, List.setIfInBounds_toArray, List.set_cons_zero, List.set_cons_succ])
      refine readyL (i := 7) (by kernel_rfl) rfl (fun K hK => ?_)
      go_simp
      refine (unhide CR).mono ?_
      intro r w4 hh
      obtain ⟨gh, nh, ch, bs, rfl, hnh, hT, hbl, hiff, hB4⟩ := unhide hh
      clear CR hh
      rw [show nh = bs.length by omega] at hT ⊢
      have hnb := hbl
      obtain ⟨a5, n5, c5, w5, r5, hB5, L5, hC5⟩ := (unhide HCD).1.push hB4 hT (unhide HCD).2
      obtain ⟨q1, q2⟩ := unhide HCL bs hbl hiff
      have HR5 := hide r5
      have hB4' := (unhide HCD).1.base.trans (hB4.mono (unhide HCD).1.base.size)
      have hB4'' := hB4'.trans ((below_new w4 (.cells #[.slice (some ⟨gh, 0, none⟩) bs.length ch] 61)).mono hB4'.size)
      have HE4 := hide (unhide HSN w4 hB4')
      have HE5 := hide (unhide HSN _ hB4'')
      have HE6 := hide (unhide HSN w5 hB5)
      have HD : Hid (∃ L vs css, CB wb L (.slice a5 n5 c5) vs css w5 ∧ css.length = i1 ∧ Clo V es css) := ⟨_, _, _, hC5, q1, q2⟩
      clear hT hbl hiff hB4 hnh r5 hB5 hC5 q1 q2 hB4' hB4'' hnb HCD HCL
      generalize bs.length = nb at *
      (try dsimp only)
      refine hK.out _ _ (fun _ => (unhide HE4)) ?_
      clear hK K
      (try simp only [Act.put, List.setIfInBounds_toArray, List.set_cons_zero, List.set_cons_succ])
      have hH4 := (unhide HE4)
      refine readyL (i := 8) (by kernel_rfl) rfl (fun K hK => ?_)
      go_simp
      refine hK.out _ _ (fun _ => (unhide HE5)) ?_
      clear hK K
      (try simp only [Act.put, List.setIfInBounds_toArray, List.set_cons_zero, List.set_cons_succ])
      have hH6 := (unhide HE5)
      refine readyL (i := 9) (by kernel_rfl) rfl (fun K hK => ?_)
      refine step_append_run rfl (.tmp 12) (.tmp 20) 59 rfl _ _ (by simp [Act.eval]; first | rfl | done) (by simp [Act.eval]; first | rfl | done) _ _ (unhide HR5 _) ?_
      refine hK.out _ _ (fun _ => (unhide HE6)) ?_
      clear hK K
      (try simp only [Act.put, List.setIfInBounds_toArray])
      have hH7 := (unhide HE6)
      refine readyL (i := 10) (by kernel_rfl) rfl (fun K hK => ?_)
      go_simp
      refine hK.out _ _ (fun _ => (unhide HE6)) ?_
      clear hK K
      (try simp only [Act.put, List.setIfInBounds_toArray, List.set_cons_zero, List.set_cons_succ])
      have hH9 := (unhide HE6)
      refine doneL (by kernel_rfl) ?_ _
      refine NoPanic.normal ?_
      clear d0 d1 d2 d3 d4 hHeld HR5 HE4 HE5 HE6
      go_wp2_with fail
      (try rw [unhide zw])
      exact ⟨⟨i1, a5, n5, c5, by first | rfl | (rw [unhide HI1]; rfl), rfl, (unhide HJ).1, HD⟩, by have := (unhide HJ).2; simp [intOf]; omega⟩
    · have z1 : ¬ (i : Int) < (n : Int) := by omega
      have HE : Hid (css.length = V.length ∧ LTr wr (.slice x xn xc) css ∧ Clo V es css ∧ Below w.heap.size w wr) := by
        have hb := (unhide HB).1
        rw [unhide HGB] at hb
        exact ⟨by omega, hCB.read, hCl, hb.trans (hCB.base.mono hb.size)⟩
      clear hCB hCl l1 l2 l3 l4 l5 l6 hlt hi hS hcl
      go_wp2_with fail
      go_ret
      exact ⟨x, xn, xc, css, rfl, unhide HE⟩
end

section
open Go.RowKit Go.Maps T9
/-- The place of the list that has it, or -1. -/
def compAt (xss : List (List Int)) (x : Int) : Int := match xss.findIdx? (fun l => decide (x ∈ l)) with | some i => (i : Nat) | none => -1
theorem compAt_some {xss : List (List Int)} {x : Int} {i : Nat} {y : List Int} (hy : xss[i]? = some y) (hx : x ∈ y) (hS : ∀ (j : Nat) (l : List Int), j < i → xss[j]? = some l → x ∉ l) : compAt xss x = (i : Int) := by
  obtain ⟨hl, e⟩ := List.getElem?_eq_some_iff.1 hy
  have : xss.findIdx? (fun l => decide (x ∈ l)) = some i := by
    rw [List.findIdx?_eq_some_iff_getElem]
    refine ⟨hl, by rw [e]; exact decide_eq_true hx, fun j hj => ?_⟩
    have := hS j xss[j] hj (List.getElem?_eq_getElem (by omega))
    simpa using this
  unfold compAt; rw [this]
theorem compAt_none {xss : List (List Int)} {x : Int} (hS : ∀ (j : Nat) (l : List Int), xss[j]? = some l → x ∉ l) : compAt xss x = -1 := by
  have : xss.findIdx? (fun l => decide (x ∈ l)) = none := by
    rw [List.findIdx?_eq_none_iff]
    intro l hl
    obtain ⟨j, hj⟩ := List.mem_iff_getElem?.1 hl
    exact decide_eq_false (hS j l hj)
  unfold compAt; rw [this]
set_option maxHeartbeats 4000000 in
set_option maxRecDepth 100000 in
theorem inS {w : World} {v : Value} {ks : List Int} {x : Int} (h : NRow w v ks) (hl : ks.length ≤ 1000000) :
    Calls Try.prog 28 #[v, .int .i64 x] w fun e w' => e = .returned (.bool (decide (x ∈ ks))) ∧ w' = w := by
  obtain ⟨x1, c1, e1, -⟩ := brow_shape h
  obtain ⟨n1, hn1⟩ : ∃ n1, n1 = ks.length := ⟨_, rfl⟩
  rw [← hn1] at e1
  have HN : Hid (n1 = ks.length ∧ n1 ≤ 1000000) := ⟨hn1, by omega⟩
  have HC := hide h
  clear h hl hn1
  subst e1
  generalize hrr : decide (x ∈ ks) = rr
  have HRR := hide hrr
  clear hrr
  go_enter Try.func28, Try.ntmps28
  go_wp2_with fail
  go_loopw [5] (fun s5 wr => ∃ i : Nat, s5 = .int .i64 (i : Nat) ∧ wr = w ∧ i ≤ n1 ∧ Hid (∀ j : Nat, j < i → ks[j]? ≠ some x)) (fun s5 _ => n1 - (intOf s5).toNat)
  case atStart => exact ⟨0, rfl, rfl, Nat.zero_le _, fun j hj => absurd hj (Nat.not_lt_zero _)⟩
  case round =>
    obtain ⟨i, rfl, rfl, hi, hS⟩ := hrel
    obtain ⟨l1, l2⟩ := unhide HN
    by_cases hlt : i < n1
    · obtain ⟨y, hy⟩ : ∃ y, ks[i]? = some y := ⟨_, List.getElem?_eq_getElem (by omega)⟩
      obtain ⟨g1, hg1⟩ := brow_some (unhide HC) (by omega)
      subst hg1
      have k1 := brow_at (unhide HC) hy
      have z1 : (i : Int) < (n1 : Int) := by omega
      by_cases hyy : y = x
      · subst hyy
        have HG : Hid (rr = true) := by
          show rr = true
          rw [← unhide HRR]; exact decide_eq_true (List.mem_of_getElem? hy)
        clear hy hlt hi hS l1 l2
        go_wp2_with fail
        go_ret
        exact ⟨by rw [unhide HG]; rfl, rfl⟩
      · have hz : (y == x) = false := by simpa using hyy
        obtain ⟨i1, hi1⟩ : ∃ i1, i1 = i + 1 := ⟨_, rfl⟩
        have zw : Hid (wrap64 ((i : Int) + 1) = (i1 : Int)) := by show wrap64 ((i : Int) + 1) = (i1 : Int); unfold wrap64; omega
        have HJ : Hid ((∀ j : Nat, j < i1 → ks[j]? ≠ some x) ∧ i1 ≤ n1 ∧ n1 - i1 < n1 - i) := ⟨fun j hj => by
            by_cases e : j = i
            · rw [e, hy]; exact fun q => hyy (by injection q)
            · exact unhide hS j (by omega), by omega, by omega⟩
        clear hy hlt hi hS l1 l2 hyy hi1
        go_wp2_with fail
        rw [unhide zw]
        exact ⟨⟨i1, rfl, trivial, (unhide HJ).2.1, (unhide HJ).1⟩, by have := (unhide HJ).2.2; simp [intOf]; omega⟩
    · have HG : Hid (rr = false) := by
        show rr = false
        rw [← unhide HRR]
        refine decide_eq_false (fun e => ?_)
        obtain ⟨j, hj⟩ := List.mem_iff_getElem?.1 e
        exact unhide hS j (by have := (List.getElem?_eq_some_iff.1 hj).1; omega) hj
      have z1 : ¬ (i : Int) < (n1 : Int) := by omega
      clear hlt hi hS l1 l2
      go_wp2_with fail
      go_ret
      exact ⟨by rw [unhide HG]; rfl, rfl⟩
set_option maxHeartbeats 4000000 in
set_option maxRecDepth 100000 in
theorem compS {w : World} {v : Value} {xss : List (List Int)} {x : Int} (h : LLr w v xss) (hl : xss.length ≤ 1000000) (hll : ∀ l ∈ xss, l.length ≤ 1000000) :
    Calls Try.prog 20 #[v, .int .i64 x] w fun e w' => e = .returned (.int .i64 (compAt xss x)) ∧ w' = w := by
  obtain ⟨x1, c1, e1, H1⟩ := h
  obtain ⟨n1, hn1⟩ : ∃ n1, n1 = xss.length := ⟨_, rfl⟩
  rw [← hn1] at e1
  have HN : Hid (n1 = xss.length ∧ n1 ≤ 1000000 ∧ ∀ l ∈ xss, l.length ≤ 1000000) := ⟨hn1, by omega, hll⟩
  have HC := hide H1
  clear H1 hl hn1 hll
  subst e1
  generalize hrr : compAt xss x = rr
  have HRR := hide hrr
  clear hrr
  go_enter Try.func20, Try.ntmps20
  go_wp2_with fail
  go_loopw [5] (fun s5 wr => ∃ i : Nat, s5 = .int .i64 (i : Nat) ∧ wr = w ∧ i ≤ n1 ∧ Hid (∀ (j : Nat) (l : List Int), j < i → xss[j]? = some l → x ∉ l)) (fun s5 _ => n1 - (intOf s5).toNat)
  case atStart => exact ⟨0, rfl, rfl, Nat.zero_le _, fun j l hj => absurd hj (Nat.not_lt_zero _)⟩
  case round =>
    obtain ⟨i, rfl, rfl, hi, hS⟩ := hrel
    obtain ⟨l1, l2, l3⟩ := unhide HN
    by_cases hlt : i < n1
    · obtain ⟨y, hy⟩ : ∃ y, xss[i]? = some y := ⟨_, List.getElem?_eq_getElem (by omega)⟩
      obtain ⟨g1, u1, hg1, k1, r1⟩ := unhide HC i y hy
      subst hg1
      have CI := hide (inS (x := x) r1 (l3 y (List.mem_of_getElem? hy)))
      obtain ⟨ux1, uc1, ue1, -⟩ := brow_shape r1
      subst ue1
      have z1 : (i : Int) < (n1 : Int) := by omega
      by_cases hyy : x ∈ y
      · have HG : Hid (rr = (i : Int)) := by
          show rr = (i : Int)
          rw [← unhide HRR]; exact compAt_some hy hyy (unhide hS)
        rw [decide_eq_true hyy] at CI
        clear hy hlt hi hS l1 l2 l3 r1 hyy
        generalize y.length = m1 at *
        go_wp2_with fail
        refine (unhide CI).mono ?_
        rintro e w' ⟨rfl, rfl⟩
        go_wp2_with fail
        go_ret
        exact ⟨by rw [unhide HG]; rfl, rfl⟩
      · rw [decide_eq_false hyy] at CI
        obtain ⟨i1, hi1⟩ : ∃ i1, i1 = i + 1 := ⟨_, rfl⟩
        have zw : Hid (wrap64 ((i : Int) + 1) = (i1 : Int)) := by show wrap64 ((i : Int) + 1) = (i1 : Int); unfold wrap64; omega
        have HJ : Hid ((∀ (j : Nat) (l : List Int), j < i1 → xss[j]? = some l → x ∉ l) ∧ i1 ≤ n1 ∧ n1 - i1 < n1 - i) := ⟨fun j l hj hl => by
            by_cases e : j = i
            · rw [e, hy] at hl; injection hl with hl; rw [← hl]; exact hyy
            · exact unhide hS j l (by omega) hl, by omega, by omega⟩
        clear hy hlt hi hS l1 l2 l3 r1 hyy hi1
        generalize y.length = m1 at *
        go_wp2_with fail
        refine (unhide CI).mono ?_
        rintro e w' ⟨rfl, rfl⟩
        clear CI
        go_wp2_with fail
        rw [unhide zw]
        exact ⟨⟨i1, rfl, trivial, (unhide HJ).2.1, (unhide HJ).1⟩, by have := (unhide HJ).2.2; simp [intOf]; omega⟩
    · have HG : Hid (rr = -1) := by
        show rr = -1
        rw [← unhide HRR]
        exact compAt_none (fun j l hl => unhide hS j l (by have := (List.getElem?_eq_some_iff.1 hl).1; omega) hl)
      have z1 : ¬ (i : Int) < (n1 : Int) := by omega
      clear hlt hi hS l1 l2 l3
      go_wp2_with fail
      go_ret
      exact ⟨by rw [unhide HG]; rfl, rfl⟩
end

section
open Go.RowKit Go.Maps T9
/-- A list of lists and a further list beside it, all of them growing. -/
structure OB (w0 : World) (L : Nat → Nat) (v : Value) (vs : List Value) (xss : List (List Int)) (lv : Value) (ks : List Int) (W : World) : Prop where
  base : Below w0.heap.size w0 W
  outer : HRow w0.heap.size W v vs
  len : vs.length = xss.length
  inner : ∀ (i : Nat) (y : Value) (ls : List Int), vs[i]? = some y → xss[i]? = some ls → BRow w0.heap.size W y ls
  cur : BRow w0.heap.size W lv ks
  lo : ∀ b, v.ownBlock = some b → L b = 1
  li : ∀ (i : Nat) (y : Value) (b : Nat), vs[i]? = some y → y.ownBlock = some b → L b = 0
  lc : ∀ b, lv.ownBlock = some b → L b = 2
section
variable {w0 W W' : World} {L : Nat → Nat} {v lv : Value} {vs : List Value} {xss : List (List Int)} {ks : List Int}
theorem OB.inlt (h : OB w0 L v vs xss lv ks W) {i b : Nat} {y : Value} (hi : vs[i]? = some y) (e : y.ownBlock = some b) : b < W.heap.size := by
  have hl : i < xss.length := by rw [← h.len]; exact (List.getElem?_eq_some_iff.1 hi).1
  exact ((h.inner i y _ hi (List.getElem?_eq_getElem hl)).lt b e).2
theorem OB.below (h : OB w0 L v vs xss lv ks W) (hb : Below W.heap.size W W') : OB w0 L v vs xss lv ks W' :=
  ⟨h.base.trans (hb.mono h.base.size), hrow_kept h.outer (fun b e => hb.block b (h.outer.lt b e).2), h.len, fun i y ls h1 h2 => brow_kept (h.inner i y ls h1 h2) (fun b e => hb.block b ((h.inner i y ls h1 h2).lt b e).2), brow_kept h.cur (fun b e => hb.block b (h.cur.lt b e).2), h.lo, h.li, h.lc⟩
theorem OB.fresh (h : OB w0 L v vs xss lv ks W) : OB w0 L v vs xss (.slice none 0 0) [] W :=
  ⟨h.base, h.outer, h.len, h.inner, ⟨rfl, .inl ⟨rfl, rfl⟩⟩, h.lo, h.li, fun b e => by cases e⟩
theorem OB.app (h : OB w0 L v vs xss lv ks W) (x : Int) (hl : ks.length ≤ 1000000) :
    ∃ a' n' c' w', (∀ ty, (Builtin.append_ #[22, 22] ty #[lv, .slice (some ⟨W.heap.size, 0, none⟩) 1 1]).run Try.prog (W.alloc (.cells #[.int .i64 x] 3)) = .ok (.slice a' n' c') w') ∧ ∃ L', OB w0 L' v vs xss (.slice a' n' c') (ks ++ [x]) w' := by
  obtain ⟨a', n', c', w', r, g1, g2, g3⟩ := run_app8 x h.cur h.base.size (by omega)
  refine ⟨a', n', c', w', r, lab L W.heap.size 2, h.base.trans (g2.below h.base.size (fun b e => (h.cur.lt b e).1)), hrow_kept h.outer (fun b e => g2.block b (h.outer.lt b e).2 (fun q => by have := h.lo b e; have := h.lc b q; omega)), h.len, fun i y ls h1 h2 => ?_, g1, fun b e => (if_pos (h.outer.lt b e).2).trans (h.lo b e), fun i y b h1 e => (if_pos (h.inlt h1 e)).trans (h.li i y b h1 e), fun b e => ?_⟩
  · have h5 := h.inner i y ls h1 h2
    exact brow_kept h5 (fun b e => g2.block b (h5.lt b e).2 (fun q => by have := h.li i y b h1 e; have := h.lc b q; omega))
  · rcases g3 b e with q | q
    · exact (if_pos (h.cur.lt b q).2).trans (h.lc b q)
    · exact if_neg (by omega)
theorem OB.push (h : OB w0 L v vs xss lv ks W) (hl : xss.length ≤ 100000) :
    ∃ a' n' c' w', (∀ ty, (Builtin.append_ #[27, 27] ty #[v, .slice (some ⟨W.heap.size, 0, none⟩) 1 1]).run Try.prog (W.alloc (.cells #[lv] 22)) = .ok (.slice a' n' c') w') ∧ ∃ L', OB w0 L' (.slice a' n' c') (vs ++ [lv]) (xss ++ [ks]) (.slice none 0 0) [] w' := by
  have hb1 := below_new W (.cells #[lv] 22)
  have h2 := h.below hb1
  have hone : lv.oneCell' = true := by
    obtain ⟨a, c, e, -⟩ := brow_shape h.cur
    rw [e]; rfl
  obtain ⟨a', n', c', w', r, g1, g2, g3⟩ := run_appH (l2 := [lv]) (ad := ⟨W.heap.size, 0, none⟩) (c := 1) h2.outer h2.base.size (cell_one_new W _ _) (by intro u hu; rw [List.mem_singleton.1 hu]; exact hone) (by have := h.len; simp; omega)
  have hold : ∀ b, b < W.heap.size → v.ownBlock ≠ some b → w'.heap[b]? = W.heap[b]? := fun b hb' hne => (g2.block b (Nat.lt_of_lt_of_le hb' hb1.size) hne).trans (hb1.block b hb')
  refine ⟨a', n', c', w', r, fun b => if lv.ownBlock = some b then 0 else lab L W.heap.size 1 b, h2.base.trans (g2.below h2.base.size (fun b e => (h.outer.lt b e).1)), g1, by simp [h.len], fun i y ls h1 h3 => ?_, ⟨rfl, .inl ⟨rfl, rfl⟩⟩, fun b e => ?_, fun i y b h1 e => ?_, fun b e => (by cases e)⟩
  · have hlen := h.len
    rcases Nat.lt_or_ge i vs.length with q | q
    · rw [List.getElem?_append_left q] at h1
      rw [List.getElem?_append_left (by omega)] at h3
      have h5 := h.inner i y ls h1 h3
      exact brow_kept h5 (fun b e => hold b (h5.lt b e).2 (fun z => by have := h.li i y b h1 e; have := h.lo b z; omega))
    · have hi : i = vs.length := by have := (List.getElem?_eq_some_iff.1 h1).1; simp at this; omega
      subst hi
      rw [List.getElem?_append_right (Nat.le_refl _), Nat.sub_self] at h1
      rw [hlen, List.getElem?_append_right (Nat.le_refl _), Nat.sub_self] at h3
      have h1 := Option.some.inj (show some lv = some y from h1)
      have h3 := Option.some.inj (show some ks = some ls from h3)
      subst h1 h3
      exact brow_kept h.cur (fun b e => hold b (h.cur.lt b e).2 (fun z => by have := h.lc b e; have := h.lo b z; omega))
  · show (if lv.ownBlock = some b then 0 else lab L W.heap.size 1 b) = 1
    rcases g3 b e with q | q
    · rw [if_neg (fun z => by have := h.lc b z; have := h.lo b q; omega)]
      exact (if_pos (h.outer.lt b q).2).trans (h.lo b q)
    · have := hb1.size
      rw [if_neg (fun z => by have := (h.cur.lt b z).2; omega)]
      exact if_neg (by omega)
  · show (if lv.ownBlock = some b then 0 else lab L W.heap.size 1 b) = 0
    rcases Nat.lt_or_ge i vs.length with q | q
    · rw [List.getElem?_append_left q] at h1
      rw [if_neg (fun z => by have := h.lc b z; have := h.li i y b h1 e; omega)]
      exact (if_pos (h.inlt h1 e)).trans (h.li i y b h1 e)
    · have hi : i = vs.length := by have := (List.getElem?_eq_some_iff.1 h1).1; simp at this; omega
      subst hi
      rw [List.getElem?_append_right (Nat.le_refl _), Nat.sub_self] at h1
      have h1 := Option.some.inj (show some lv = some y from h1)
      subst h1
      exact if_pos e
theorem OB.read (h : OB w0 L v vs xss lv ks W) : LLr W v xss := by
  obtain ⟨x, c, e, -⟩ := hrow_shape h.outer
  subst e
  refine ⟨x, c, by rw [h.len], fun i ls hi => ?_⟩
  have hil := (List.getElem?_eq_some_iff.1 hi).1
  obtain ⟨g, hg⟩ := hrow_some h.outer (by have := h.len; omega)
  subst hg
  obtain ⟨y, hy⟩ : ∃ y, vs[i]? = some y := ⟨_, List.getElem?_eq_getElem (by rw [h.len]; exact hil)⟩
  exact ⟨g, y, rfl, hrow_at h.outer hy, brow_at0 (h.inner i y ls hy hi)⟩
end
/-- The components whose heads are among the first i. -/
def outR (V : List Int) (h : Nat → Nat) (n i : Nat) : List (List Int) := (headsTo h i).map (fun m => cv V (partTo h n m))
theorem outR_all (V : List Int) (h : Nat → Nat) (n : Nat) : outR V h n n = compsV V h n := by unfold outR compsV compsTo; rw [List.map_map]; rfl
theorem outR_new {V : List Int} {h : Nat → Nat} {n i : Nat} (hi : h i = i) : outR V h n (i + 1) = outR V h n i ++ [cv V (partTo h n i)] := by unfold outR; rw [headsTo_new hi, List.map_append]; rfl
theorem outR_old {V : List Int} {h : Nat → Nat} {n i : Nat} (hi : h i ≠ i) : outR V h n (i + 1) = outR V h n i := by unfold outR; rw [headsTo_old hi]
theorem outR_len (V : List Int) (h : Nat → Nat) (n i : Nat) : (outR V h n i).length ≤ i := by unfold outR; rw [List.length_map]; exact headsTo_le h i
section
variable {nx : Nat → List Nat} {n : Nat} {h : Nat → Nat}
theorem heads_first (H : Heads nx n h) {i : Nat} (hi : i < n) : (∀ j, j < i → ¬ (T9.Reach nx i j ∧ T9.Reach nx j i)) ↔ h i = i := by
  constructor
  · intro q
    have h1 := H.le hi
    rcases Nat.lt_or_ge (h i) i with z | z
    · exact absurd ⟨(H i hi).1, (H i hi).2.1⟩ (q _ z)
    · omega
  · intro e j hj ⟨q1, q2⟩
    have := (H i hi).2.2 j q1 q2
    omega
theorem part_none (H : Heads nx n h) {i : Nat} (hi : i < n) (m : Nat) (hm : i ≤ m) : partTo h i m = [] := by
  unfold partTo
  rw [List.filter_eq_nil_iff]
  intro p hp
  have hp := List.mem_range.1 hp
  have := H.le (show p < n by omega)
  simp; omega
theorem heads_in (H : Heads nx n h) {i j : Nat} (hi : i < n) (hj : j < n) (e : h i = i) : (T9.Reach nx i j ∧ T9.Reach nx j i) ↔ h j = i := by
  have := H.same hi hj
  rw [e] at this
  exact ⟨fun q => (this.2 q).symm, fun q => this.1 q.symm⟩
end
def OfrAns (w : World) (V : List Int) (h : Nat → Nat) (e : Ending) (w' : World) : Prop := ∃ x n c, e = .returned (.slice x n c) ∧ LLr w' (.slice x n c) (compsV V h V.length) ∧ Below w.heap.size w w'
/-- A cell of the closure. -/
theorem clo_cell {W : World} {x : Option Addr} {xn xc : Nat} {V : List Int} {es : List EdV} {css : List (List Bool)} (hr : LTr W (.slice x xn xc) css) (hc : Clo V es css) (hl : css.length = V.length) {i j : Nat} (hi : i < V.length) (hj : j < V.length) :
    xn = V.length ∧ ∃ g gh nh kh b, x = some ⟨g, 0, none⟩ ∧ W.cell? ⟨g, i, none⟩ = some (.slice (some ⟨gh, 0, none⟩) nh kh) ∧ nh = V.length ∧ W.cell? ⟨gh, j, none⟩ = some (.bool b) ∧ (b = true ↔ T9.Reach (nextOf V (arcsE es)) i j) := by
  obtain ⟨x', c', e, hh⟩ := hr
  obtain ⟨bs, hbs⟩ : ∃ bs, css[i]? = some bs := ⟨_, List.getElem?_eq_getElem (by omega)⟩
  obtain ⟨g, gh, nh, kh, e1, e2, e3, e4⟩ := hh i bs hbs
  obtain ⟨c1, c2⟩ := hc i bs hbs
  obtain ⟨b, hb⟩ : ∃ b, bs[j]? = some b := ⟨_, List.getElem?_eq_getElem (by omega)⟩
  have en : xn = css.length := by injection e
  have ex : x = x' := by injection e
  refine ⟨by omega, g, gh, nh, kh, b, ex.trans e1, e2, by omega, trow_at e4 hb, ?_⟩
  rw [← c2 j, hb]
  exact ⟨fun q => by rw [q], fun q => by injection q⟩
set_option maxHeartbeats 8000000 in
set_option maxRecDepth 100000 in
theorem ofrS {w : World} {vv ev : Value} {rd wr_ : Int} {V : List Int} {es : List EdV} {h : Nat → Nat} (hr0 : NRow w vv V) (he : ERow 0 w ev es) (hs : V.Pairwise (· < ·)) (hok : okArcs V (arcsE es)) (hl : V.length ≤ 100000) (hl2 : es.length ≤ 100000) (hH : Heads (nextOf V (arcsE es)) V.length h) :
    Calls Try.prog 16 #[.agg #[vv, ev, .int .i64 rd, .int .i64 wr_]] w fun e w' => Hid (OfrAns w V h e w') := by
  have hb := below_new w (oGr vv ev rd wr_)
  have hbx := heap_alloc_new w (oGr vv ev rd wr_)
  have h1 := nrow_below hr0 hb
  have h2 := erow_below he hb
  have CC := hide (closureS (rd := rd) (wr_ := wr_) h1 h2 hs hok hl hl2)
  obtain ⟨a, c, hvv, -⟩ := brow_shape h1
  obtain ⟨n, hn⟩ : ∃ n, n = V.length := ⟨_, rfl⟩
  rw [← hn] at hvv
  subst hvv
  have HB : Hid (Below w.heap.size w (w.alloc (oGr (.slice a n c) ev rd wr_)) ∧ (w.alloc (oGr (.slice a n c) ev rd wr_)).heap[w.heap.size]? = some (oGr (.slice a n c) ev rd wr_) ∧ NRow (w.alloc (oGr (.slice a n c) ev rd wr_)) (.slice a n c) V) := ⟨hb, hbx, h1⟩
  have HN : Hid (n = V.length ∧ n ≤ 100000) := ⟨hn, by omega⟩
  have HH := hide hH
  clear hr0 h1 h2 hb hbx he hl hl2 hn hs hok hH
  go_enter Try.func16, Try.ntmps16
  go_upto_region 1 with fail
  change Code.wp _ _ _ _ (w.alloc (oGr (.slice a n c) ev rd wr_))
  generalize w.alloc (oGr (.slice a n c) ev rd wr_) = wb at *
  obtain ⟨gb, hgb⟩ : ∃ gb, gb = w.heap.size := ⟨_, rfl⟩
  have HGB := hide hgb
  rw [← hgb] at HB ⊢
  clear hgb
  obtain ⟨d0, d1, d2, d3, -⟩ := cellsGr (unhide HB).2.1
  go_wp2_with fail
  refine (unhide CC).mono ?_
  intro r w1 hh
  obtain ⟨x, xn, xc, css, rfl, hcl, hrd, hClo, hB1⟩ := unhide hh
  clear CC hh d0 d1 d2 d3
  have HC : Hid (∀ W, Below w1.heap.size w1 W → W.cell? ⟨gb, 0, none⟩ = some (.slice a n c) ∧ NRow W (.slice a n c) V ∧ LTr W (.slice x xn xc) css) := fun W hW => by
    have hW2 := hB1.trans (hW.mono hB1.size)
    have q := (hW2.block gb (heap_lt (unhide HB).2.1)).trans (unhide HB).2.1
    exact ⟨(cellsGr q).1, nrow_below (unhide HB).2.2 hW2, ltr_below hrd hW⟩
  have HCL : Hid (Clo V es css ∧ css.length = V.length) := ⟨hClo, hcl⟩
  have HB1 : Hid (Below w.heap.size w w1) := by
    have hb := (unhide HB).1
    rw [unhide HGB] at hb
    exact hb.trans (hB1.mono hb.size)
  clear hcl hrd hClo hB1 HB HGB
  go_upto_region 4 with fail
  go_loopw [5, 4, 6, 7, 8, 9] (fun s5 s4 s6 s7 s8 s9 W => ∃ (i : Nat) (y : Option Addr) (yn yc : Nat), s5 = .int .i64 (i : Nat) ∧ s4 = .slice y yn yc ∧ i ≤ n ∧ Hid (∃ L vs, OB w1 L (.slice y yn yc) vs (outR V h n i) (.slice none 0 0) [] W)) (fun s5 _ _ _ _ _ _ => n - (intOf s5).toNat)
  case atStart => exact ⟨0, none, 0, 0, rfl, rfl, Nat.zero_le _, fun _ => 0, [], ⟨Below.refl _ _, ⟨rfl, .inl ⟨rfl, rfl⟩⟩, rfl, fun i y ls h => (by cases h), ⟨rfl, .inl ⟨rfl, rfl⟩⟩, fun b e => (by cases e), fun i y b h => (by cases h), fun b e => (by cases e)⟩⟩
  case round =>
    obtain ⟨i, y, yn, yc, rfl, rfl, hi, hS⟩ := hrel
    obtain ⟨L, vs, hO⟩ := unhide hS
    obtain ⟨l1, l2⟩ := unhide HN
    have k0 := (unhide HC wr hO.base).1
    by_cases hlt : i < n
    · have z1 : (i : Int) < (n : Int) := by omega
      have HO := hide hO
      have HII := hide hlt
      clear hO hS hi hlt l1 l2
      go_upto_region 8 with fail
      clear k0
      go_loopw [7, 6] (fun s7 s6 W => ∃ (j : Nat) (t : Bool), s7 = .int .i64 (j : Nat) ∧ s6 = .bool t ∧ W = wr ∧ j ≤ i ∧ Hid (t = true ↔ ∀ k, k < j → ¬ (T9.Reach (nextOf V (arcsE es)) i k ∧ T9.Reach (nextOf V (arcsE es)) k i))) (fun s7 _ _ => i - (intOf s7).toNat)
      case atStart => exact ⟨0, true, rfl, rfl, rfl, Nat.zero_le _, ⟨fun _ k hk => absurd hk (Nat.not_lt_zero _), fun _ => rfl⟩⟩
      case round =>
        obtain ⟨j, t, rfl, rfl, rfl, hj, hT⟩ := hrel
        obtain ⟨l1, l2⟩ := unhide HN
        have hlt := unhide HII
        by_cases hjl : j < i
        · obtain ⟨k0, k1, k2⟩ := unhide HC wr (unhide HO).base
          obtain ⟨exn, g, gh, nh, kh, b1, ex, f1, f2, f3, f4⟩ := clo_cell k2 (unhide HCL).1 (unhide HCL).2 (i := i) (j := j) (by omega) (by omega)
          obtain ⟨-, g', gh', nh', kh', b2, ex', f1', f2', f3', f4'⟩ := clo_cell k2 (unhide HCL).1 (unhide HCL).2 (i := j) (j := i) (by omega) (by omega)
          have eg : g' = g := by have e := ex'.symm.trans ex; injection e with e; injection e
          subst eg ex
          obtain rfl : nh = n := by omega
          obtain rfl : nh' = nh := by omega
          obtain rfl : xn = nh' := by omega
          obtain ⟨j1, hj1⟩ : ∃ j1, j1 = j + 1 := ⟨_, rfl⟩
          have zw : Hid (wrap64 ((j : Int) + 1) = (j1 : Int)) := by show wrap64 ((j : Int) + 1) = (j1 : Int); unfold wrap64; omega
          have HI1 := hide hj1
          have HJ : Hid (j1 ≤ i ∧ i - j1 < i - j) := ⟨by omega, by omega⟩
          have z2 : (j : Int) < (i : Int) := by omega
          have z3 : (j : Int) < (xn : Int) := by omega
          have HT : Hid ((t && !(b1 && b2)) = true ↔ ∀ k, k < j1 → ¬ (T9.Reach (nextOf V (arcsE es)) i k ∧ T9.Reach (nextOf V (arcsE es)) k i)) := by
            have hT' := unhide hT
            constructor
            · intro q k hk
              simp only [Bool.and_eq_true, Bool.not_eq_true', Bool.and_eq_false_iff] at q
              by_cases e : k = j
              · subst e
                rintro ⟨r1, r2⟩
                rcases q.2 with z | z
                · rw [f4.2 r1] at z; cases z
                · rw [f4'.2 r2] at z; cases z
              · exact hT'.1 q.1 k (by omega)
            · intro q
              simp only [Bool.and_eq_true, Bool.not_eq_true', Bool.and_eq_false_iff]
              refine ⟨hT'.2 (fun k hk => q k (by omega)), ?_⟩
              cases hb1 : b1 with
              | false => exact .inl rfl
              | true =>
                cases hb2 : b2 with
                | false => exact .inr rfl
                | true => exact absurd ⟨f4.1 hb1, f4'.1 hb2⟩ (q j (by omega))
          clear l1 l2 hlt hj hT hjl k0 k1 k2 exn ex' f2 f4 f2' f4' hj1
          cases t <;> cases b1 <;> cases b2 <;> (go_wp2_with fail; (try rw [unhide zw]); exact ⟨⟨j1, _, by first | rfl | (rw [unhide HI1]; rfl), rfl, trivial, (unhide HJ).1, HT⟩, by have := (unhide HJ).2; simp [intOf]; omega⟩)
        · have z2 : ¬ (j : Int) < (i : Int) := by omega
          have hfirst : t = true ↔ h i = i := by
            rw [show j = i by omega] at hT
            have := (unhide hT)
            rw [heads_first (unhide HH) (by omega)] at this; exact this
          obtain ⟨i1, hi1⟩ : ∃ i1, i1 = i + 1 := ⟨_, rfl⟩
          have zw : Hid (wrap64 ((i : Int) + 1) = (i1 : Int)) := by show wrap64 ((i : Int) + 1) = (i1 : Int); unfold wrap64; omega
          have HI1 := hide hi1
          have HJ : Hid (i1 ≤ n ∧ n - i1 < n - i) := ⟨by omega, by omega⟩
          cases t with
          | false =>
            have HD : Hid (∃ L vs, OB w1 L (.slice y yn yc) vs (outR V h n i1) (.slice none 0 0) [] wr) := ⟨L, vs, by rw [hi1, outR_old (fun e => by have := hfirst.2 e; cases this)]; exact unhide HO⟩
            clear l1 l2 hlt hj hT hjl hfirst hi1
            go_wp2_with fail
            (try rw [unhide zw])
            exact ⟨⟨i1, y, yn, yc, by first | rfl | (rw [unhide HI1]; rfl), rfl, (unhide HJ).1, HD⟩, by have := (unhide HJ).2; simp [intOf]; omega⟩
          | true =>
            have HF := hide (hfirst.1 rfl)
            have HS3 : Hid (∃ L, OB w1 L (.slice y yn yc) vs (outR V h n i) (.slice none 0 0) (cv V (partTo h i i)) wr) := ⟨L, by rw [part_none (unhide HH) (by omega) i (Nat.le_refl _)]; exact unhide HO⟩
            have k0 := (unhide HC wr (unhide HO).base).1
            clear l1 l2 hlt hj hT hjl hfirst hi1
            go_upto_region 14 with fail
            clear k0
            go_loopw [9, 8] (fun s9 s8 W => ∃ (j : Nat) (la : Option Addr) (ln lc : Nat), s9 = .int .i64 (j : Nat) ∧ s8 = .slice la ln lc ∧ i ≤ j ∧ j ≤ n ∧ Hid (∃ L, OB w1 L (.slice y yn yc) vs (outR V h n i) (.slice la ln lc) (cv V (partTo h j i)) W)) (fun s9 _ _ => n - (intOf s9).toNat)
            case atStart => exact ⟨i, none, 0, 0, rfl, rfl, Nat.le_refl _, by have := unhide HII; omega, HS3⟩
            case round =>
              obtain ⟨j, la, ln, lc, rfl, rfl, hij, hjn, hS⟩ := hrel
              clear HS3
              obtain ⟨L, hO⟩ := unhide hS
              obtain ⟨l1, l2⟩ := unhide HN
              obtain ⟨k0, k1, k2⟩ := unhide HC wr hO.base
              by_cases hjl : j < n
              · obtain ⟨exn, g, gh, nh, kh, b1, ex, f1, f2, f3, f4⟩ := clo_cell k2 (unhide HCL).1 (unhide HCL).2 (i := i) (j := j) (by omega) (by omega)
                obtain ⟨-, g', gh', nh', kh', b2, ex', f1', f2', f3', f4'⟩ := clo_cell k2 (unhide HCL).1 (unhide HCL).2 (i := j) (j := i) (by omega) (by omega)
                have eg : g' = g := by have e := ex'.symm.trans ex; injection e with e; injection e
                subst eg ex
                obtain rfl : nh = n := by omega
                obtain rfl : nh' = nh := by omega
                obtain rfl : xn = nh' := by omega
                obtain ⟨s, hy⟩ : ∃ y, V[j]? = some y := ⟨_, List.getElem?_eq_getElem (by omega)⟩
                obtain ⟨gv, hgv⟩ := brow_some k1 (by omega)
                subst hgv
                have k3 := brow_at k1 hy
                obtain ⟨j1, hj1⟩ : ∃ j1, j1 = j + 1 := ⟨_, rfl⟩
                have zw2 : Hid (wrap64 ((j : Int) + 1) = (j1 : Int)) := by show wrap64 ((j : Int) + 1) = (j1 : Int); unfold wrap64; omega
                have HJ1 := hide hj1
                have HJ2 : Hid (i ≤ j1 ∧ j1 ≤ xn ∧ xn - j1 < xn - j) := ⟨by omega, by omega, by omega⟩
                have z3 : (j : Int) < (xn : Int) := by omega
                have z4 : (i : Int) < (xn : Int) := by omega
                have hin := heads_in (unhide HH) (i := i) (j := j) (by omega) (by omega) (unhide HF)
                obtain ⟨a5, n5, c5, w5, r5, L5, hO5⟩ := hO.app s (by
                  have := partTo_le h j i
                  simp only [cv, List.length_map]; omega)
                by_cases hb : b1 = true ∧ b2 = true
                · have hh := hin.1 ⟨f4.1 hb.1, f4'.1 hb.2⟩
                  have HR5 := hide r5
                  have HD : Hid (∃ L, OB w1 L (.slice y yn yc) vs (outR V h xn i) (.slice a5 n5 c5) (cv V (partTo h j1 i)) w5) := ⟨L5, by
                    rw [hj1, partTo_in hh]
                    have e : cv V (partTo h j i ++ [j]) = cv V (partTo h j i) ++ [s] := by
                      unfold cv; rw [List.map_append, List.map_cons, List.map_nil, List.getD_eq_getElem?_getD, hy]; rfl
                    rw [e]; exact hO5⟩
                  obtain ⟨rfl, rfl⟩ := hb
                  clear hO l1 l2 k1 k2 exn ex' f2 f4 f2' f4' hy hj1 hin r5 hO5 hh hij hjn hS hjl
                  go_wp2_with (at_builtin; refine Lib.wpList_append_run _ rfl _ _ 22 22 rfl _ _ rfl rfl _ _ (unhide HR5 _) ?_)
                  (try rw [unhide zw2])
                  exact ⟨⟨j1, a5, n5, c5, by first | rfl | (rw [unhide HJ1]; rfl), rfl, (unhide HJ2).1, (unhide HJ2).2.1, HD⟩, by have := (unhide HJ2).2.2; simp [intOf]; omega⟩
                · have hh : h j ≠ i := fun e => by
                    obtain ⟨q1, q2⟩ := hin.2 e
                    exact hb ⟨f4.2 q1, f4'.2 q2⟩
                  have HD : Hid (∃ L, OB w1 L (.slice y yn yc) vs (outR V h xn i) (.slice la ln lc) (cv V (partTo h j1 i)) wr) := ⟨L, by rw [hj1, partTo_out hh]; exact hO⟩
                  clear hO l1 l2 k1 k2 exn ex' f2 f4 f2' f4' hy hj1 hin r5 hO5 hh hij hjn hS hjl
                  cases b1 with
                  | false =>
                    clear hb
                    go_wp2_with fail
                    (try rw [unhide zw2])
                    exact ⟨⟨j1, la, ln, lc, by first | rfl | (rw [unhide HJ1]; rfl), rfl, (unhide HJ2).1, (unhide HJ2).2.1, HD⟩, by have := (unhide HJ2).2.2; simp [intOf]; omega⟩
                  | true =>
                    cases b2 with
                    | true => exact absurd ⟨rfl, rfl⟩ hb
                    | false =>
                      clear hb
                      go_wp2_with fail
                      (try rw [unhide zw2])
                      exact ⟨⟨j1, la, ln, lc, by first | rfl | (rw [unhide HJ1]; rfl), rfl, (unhide HJ2).1, (unhide HJ2).2.1, HD⟩, by have := (unhide HJ2).2.2; simp [intOf]; omega⟩
              · have z3 : ¬ (j : Int) < (n : Int) := by omega
                obtain ⟨a5, n5, c5, w5, r5, L5, hO5⟩ := hO.push (by have := outR_len V h n i; omega)
                have HR5 := hide r5
                have HD : Hid (∃ L vs, OB w1 L (.slice a5 n5 c5) vs (outR V h n i1) (.slice none 0 0) [] w5) := ⟨L5, _, by
                  rw [unhide HI1, outR_new (unhide HF)]
                  rw [show j = n by omega] at hO5
                  exact hO5⟩
                clear hO l1 l2 k1 k2 r5 hO5 hij hjn hS hjl
                go_wp2_with (at_builtin; refine Lib.wpList_append_run _ rfl _ _ 27 27 rfl _ _ rfl rfl _ _ (unhide HR5 _) ?_)
                (try rw [unhide zw])
                exact ⟨⟨i1, a5, n5, c5, by first | rfl | (rw [unhide HI1]; rfl), rfl, (unhide HJ).1, HD⟩, by have := (unhide HJ).2; simp [intOf]; omega⟩
    · have z1 : ¬ (i : Int) < (n : Int) := by omega
      have HE : Hid (LLr wr (.slice y yn yc) (compsV V h V.length) ∧ Below w.heap.size w wr) := by
        refine ⟨?_, (unhide HB1).trans (hO.base.mono (unhide HB1).size)⟩
        have := hO.read
        rw [show i = n by omega, outR_all, l1] at this
        exact this
      clear hO hS hi hlt l1 l2
      go_wp2_with fail
      go_ret
      exact ⟨y, yn, yc, rfl, unhide HE⟩
end

end Go.Proofs.Ytdpdghhieokcfaa

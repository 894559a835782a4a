/- The reference's Acyclic. -/
import Derived.Test.YtdpdghhieokcfaaRefW9
import Derived.BigQuiet
namespace Go.Proofs.Ytdpdghhieokcfaa
open Go.RowKit Go.Maps T9
def AcrAns (w : World) (V : List Int) (es : List EdV) (h : Nat → Nat) (e : Ending) (w' : World) : Prop := ∃ b : Bool, e = .returned (.bool b) ∧ (b = true ↔ ∀ p, p < V.length → h p = p ∧ p ∉ nextOf V (arcsE es) p) ∧ Below w.heap.size w w'
theorem heads_all {h : Nat → Nat} {n : Nat} : (headsTo h n).length = n ↔ ∀ p, p < n → h p = p := by
  constructor
  · intro e p hp
    have h1 : (headsTo h n) = List.range n := List.Sublist.eq_of_length List.filter_sublist (by rw [e, List.length_range])
    have : p ∈ headsTo h n := by rw [h1]; exact List.mem_range.2 hp
    exact (mem_headsTo.1 this).2
  · intro q
    unfold headsTo
    rw [List.filter_eq_self.2 (fun p hp => by simpa using q p (List.mem_range.1 hp)), List.length_range]
theorem self_arc {V : List Int} {es : List EdV} (hs : V.Pairwise (· < ·)) (hok : okArcs V (arcsE es)) {p : Nat} : p ∈ nextOf V (arcsE es) p ↔ ∃ e ∈ es, e.2.1 = e.2.2.1 ∧ V[p]? = some e.2.1 := by
  rw [mem_nextOf]
  constructor
  · rintro ⟨a, ha, h1, h2⟩
    obtain ⟨e, he, rfl⟩ := List.mem_map.1 ha
    have hv := (hok (e.2.1, e.2.2.1) ha).2
    have h3 := idx_some hv
    have h2 : V.idxOf e.2.2.1 = p := h2
    have h1 : V[p]? = some e.2.1 := h1
    rw [h2, h1] at h3
    injection h3 with h3
    exact ⟨e, he, h3, h1⟩
  · rintro ⟨e, he, h1, h2⟩
    refine ⟨(e.2.1, e.2.2.1), List.mem_map.2 ⟨e, he, rfl⟩, h2, ?_⟩
    show V.idxOf e.2.2.1 = p
    rw [← h1]; exact idx_at9 hs h2
set_option maxHeartbeats 8000000 in
set_option maxRecDepth 100000 in
theorem acrS {w : World} {vv ev : Value} {rd wr_ : Int} {V : List Int} {es : List EdV} {h : Nat → Nat} (hr0 : NRow w vv V) (he : ERow 0 w ev es) (hs : V.Pairwise (· < ·)) (hok : okArcs V (arcsE es)) (hl : V.length ≤ 100000) (hl2 : es.length ≤ 100000) (hH : Heads (nextOf V (arcsE es)) V.length h) :
    Calls Try.prog 19 #[.agg #[vv, ev, .int .i64 rd, .int .i64 wr_]] w fun e w' => Hid (AcrAns w V es h e w') := by
  have hb := below_new w (oGr vv ev rd wr_)
  have hbx := heap_alloc_new w (oGr vv ev rd wr_)
  have h1 := nrow_below hr0 hb
  have h2 := erow_below he hb
  obtain ⟨a, c, hvv, -⟩ := brow_shape h1
  obtain ⟨ea, ec, hev, -⟩ := erow_shape h2
  obtain ⟨n, hn⟩ : ∃ n, n = V.length := ⟨_, rfl⟩
  obtain ⟨m, hm⟩ : ∃ m, m = es.length := ⟨_, rfl⟩
  rw [← hn] at hvv
  rw [← hm] at hev
  subst hvv hev
  have HB : Hid (Below w.heap.size w (w.alloc (oGr (.slice a n c) (.slice ea m ec) rd wr_)) ∧ (w.alloc (oGr (.slice a n c) (.slice ea m ec) rd wr_)).heap[w.heap.size]? = some (oGr (.slice a n c) (.slice ea m ec) rd wr_) ∧ NRow (w.alloc (oGr (.slice a n c) (.slice ea m ec) rd wr_)) (.slice a n c) V ∧ ERow 0 (w.alloc (oGr (.slice a n c) (.slice ea m ec) rd wr_)) (.slice ea m ec) es) := ⟨hb, hbx, h1, h2⟩
  have HN : Hid (n = V.length ∧ n ≤ 100000 ∧ m = es.length ∧ m ≤ 100000 ∧ V.Pairwise (· < ·) ∧ okArcs V (arcsE es) ∧ Heads (nextOf V (arcsE es)) V.length h) := ⟨hn, by omega, hm, by omega, hs, hok, hH⟩
  clear hr0 h1 h2 hb hbx he hl hl2 hn hm hs hok hH
  go_enter Try.func19, Try.ntmps19
  go_upto_region 1 with fail
  change Code.wp _ _ _ _ (w.alloc (oGr (.slice a n c) (.slice ea m ec) rd wr_))
  generalize w.alloc (oGr (.slice a n c) (.slice ea m ec) rd wr_) = wb at *
  obtain ⟨gb, hgb⟩ : ∃ gb, gb = w.heap.size := ⟨_, rfl⟩
  have HGB := hide hgb
  rw [← hgb] at HB ⊢
  clear hgb
  go_upto_region 2 with fail
  go_loopw [3] (fun s3 W => ∃ i q : Nat, s3 = .int .i64 (i : Nat) ∧ W = wb.drewN q ∧ i ≤ m ∧ Hid (∀ (j : Nat) (e : EdV), j < i → es[j]? = some e → e.2.1 ≠ e.2.2.1)) (fun s3 _ => m - (intOf s3).toNat)
  case atStart => exact ⟨0, 0, rfl, rfl, Nat.zero_le _, fun j _ hj => absurd hj (Nat.not_lt_zero _)⟩
  case round =>
    obtain ⟨i, q, rfl, hW, hi, hS⟩ := hrel
    have HWR := hide hW
    obtain ⟨b1, b2, b3, b4⟩ := unhide HB
    obtain ⟨l1, l2, l3, l4, l5, l6, l7⟩ := unhide HN
    have hbq : Below wb.heap.size wb wr := by rw [hW]; exact ⟨rfl, rfl, rfl, Nat.le_refl _, fun _ _ => rfl⟩
    have hbw : Below w.heap.size w wr := by have h5 := b1; rw [unhide HGB] at h5; exact h5.trans (hbq.mono h5.size)
    obtain ⟨d0, d1, d2, d3, -⟩ := cellsGr ((hbq.block gb (heap_lt b2)).trans b2)
    by_cases hlt : i < m
    · obtain ⟨⟨en, u, x, ew⟩, hux⟩ : ∃ e, es[i]? = some e := ⟨_, List.getElem?_eq_getElem (by omega)⟩
      obtain ⟨g2, hg2⟩ := erow_some b4 (by omega)
      subst hg2
      obtain ⟨-, f1, f2, -⟩ := erow_at (erow_below b4 hbq) hux
      dsimp only at f1 f2
      have z1 : (i : Int) < (m : Int) := by omega
      obtain ⟨i1, hi1⟩ : ∃ i1, i1 = i + 1 := ⟨_, rfl⟩
      have zw : Hid (wrap64 ((i : Int) + 1) = (i1 : Int)) := by show wrap64 ((i : Int) + 1) = (i1 : Int); unfold wrap64; omega
      have HI1 := hide hi1
      have HJ : Hid (i1 ≤ m ∧ m - i1 < m - i) := ⟨by omega, by omega⟩
      by_cases hxu : u = x
      · subst hxu
        have HG : Hid ((false = true ↔ ∀ p, p < V.length → h p = p ∧ p ∉ nextOf V (arcsE es) p) ∧ Below w.heap.size w wr) := by
          refine ⟨⟨fun e => (by cases e), fun hq => ?_⟩, hbw⟩
          have hu : u ∈ V := (l6 (u, u) (List.mem_map.2 ⟨_, List.mem_of_getElem? hux, rfl⟩)).1
          exact absurd ((self_arc l5 l6).2 ⟨_, List.mem_of_getElem? hux, rfl, idx_some hu⟩) (hq _ (List.idxOf_lt_length_of_mem hu)).2
        clear b1 b2 b3 b4 l1 l2 l3 l4 l5 l6 l7 hbq hbw hux hi1 hlt hi hS hW
        go_wp2_with fail
        go_quiet (fail)
        go_wp2_with fail
        go_ret
        exact ⟨false, rfl, (unhide HG).1, (unhide HG).2.trans ⟨rfl, rfl, rfl, Nat.le_refl _, fun _ _ => rfl⟩⟩
      · have z2 : (u == x) = false := by simpa using hxu
        have HD : Hid (∀ (j : Nat) (e : EdV), j < i1 → es[j]? = some e → e.2.1 ≠ e.2.2.1) := fun j e hj he => by
          by_cases z : j = i
          · subst z; rw [hux] at he; injection he with he; subst he; exact hxu
          · exact unhide hS j e (by omega) he
        clear b1 b2 b3 b4 l1 l2 l3 l4 l5 l6 l7 hbq hbw hux hi1 hlt hi hS hW hxu
        go_wp2_with fail
        go_quiet (fail)
        go_wp2_with fail
        (try rw [unhide zw])
        exact ⟨⟨i1, _, by first | rfl | (rw [unhide HI1]; rfl), by rw [unhide HWR]; exact World.drewN_drewN _ _ _, (unhide HJ).1, HD⟩, by have := (unhide HJ).2; simp [intOf]; omega⟩
    · have z1 : ¬ (i : Int) < (m : Int) := by omega
      have bd : Below wr.heap.size wr wr.drew := ⟨rfl, rfl, rfl, Nat.le_refl _, fun _ _ => rfl⟩
      have CO := hide (ofrS (rd := rd) (wr_ := wr_) (nrow_below (nrow_below b3 hbq) bd) (erow_below (erow_below b4 hbq) bd) l5 l6 (by omega) (by omega) l7)
      have HSN : Hid (∀ W, Below wr.drew.heap.size wr.drew W → W.cell? ⟨gb, 0, none⟩ = some (.slice a n c) ∧ W.cell? ⟨gb, 1, none⟩ = some (.slice ea m ec) ∧ W.cell? ⟨gb, 2, none⟩ = some (.int .i64 rd) ∧ W.cell? ⟨gb, 3, none⟩ = some (.int .i64 wr_)) := fun W hW => by
        have b5 := (hbq.block gb (heap_lt b2)).trans b2
        obtain ⟨e0, e1, e2, e3, -⟩ := cellsGr ((hW.block gb (heap_lt b5)).trans b5)
        exact ⟨e0, e1, e2, e3⟩
      have HG : Hid (∀ W, Below wr.drew.heap.size wr.drew W → Below w.heap.size w W) := fun W hW => (hbw.trans (bd.mono hbw.size)).trans (hW.mono (Nat.le_trans hbw.size bd.size))
      have HT : Hid (∀ k : Nat, k = (headsTo h V.length).length → (((k : Int) == (n : Int)) = true ↔ ∀ p, p < V.length → h p = p ∧ p ∉ nextOf V (arcsE es) p)) := fun k hk => by
        have e1 : (((k : Int) == (n : Int)) = true) ↔ k = V.length := by simp; omega
        rw [e1, hk, heads_all]
        refine ⟨fun hq p hp => ⟨hq p hp, fun hin => ?_⟩, fun hq p hp => (hq p hp).1⟩
        obtain ⟨e, he, e1, -⟩ := (self_arc l5 l6).1 hin
        obtain ⟨j, hj⟩ := List.mem_iff_getElem?.1 he
        exact unhide hS j e (by have := (List.getElem?_eq_some_iff.1 hj).1; omega) hj e1
      clear b1 b2 b3 b4 l1 l2 l3 l4 l5 l6 l7 hbq hbw hlt hi hS hW bd
      go_upto_region 6 with fail
      refine wp_region_noPanic ?_
      refine regionL [] (fun y => y.cell? ⟨gb, 0, none⟩ = some (.slice a n c) ∧ y.cell? ⟨gb, 1, none⟩ = some (.slice ea m ec) ∧ y.cell? ⟨gb, 2, none⟩ = some (.int .i64 rd) ∧ y.cell? ⟨gb, 3, none⟩ = some (.int .i64 wr_)) (by kernel_rfl) ⟨d0, d1, d2, d3⟩ (fun hHeld => ?_)
      refine takeL (i := 0) (v := ?t2v0) (some 24) rfl rfl (by kernel_rfl) (by kernel_rfl) (by kernel_rfl) (by kernel_rfl) (by kernel_rfl) (fun _ _ _ h => h) (Or.inl ⟨by rfl, ?t2h0⟩) (by assumption) ?t2r0
      case t2h0 => (intro y hSu; (try dsimp only at hSu); go_simp; first | done | with_reducible rfl)
      (try simp only [Act.put, List.setIfInBounds_toArray, List.set_cons_zero, List.set_cons_succ])
      refine takeL (i := 3) (v := ?t2v3) (some 27) rfl rfl (by kernel_rfl) (by kernel_rfl) (by kernel_rfl) (by kernel_rfl) (by kernel_rfl) (fun _ _ _ h => h) (Or.inl ⟨by rfl, ?t2h3⟩) (by assumption) ?t2r3
      case t2h3 => (intro y hSu; (try dsimp only at hSu); go_simp; first | done | with_reducible rfl)
      (try simp only [Act.put, List.setIfInBounds_toArray, List.set_cons_zero, List.set_cons_succ])
      refine takeL (i := 4) (v := ?t2v4) (some 28) rfl rfl (by kernel_rfl) (by kernel_rfl) (by kernel_rfl) (by kernel_rfl) (by kernel_rfl) (fun _ _ _ h => h) (Or.inl ⟨by rfl, ?t2h4⟩) (by assumption) ?t2r4
      case t2h4 => (intro y hSu; (try dsimp only at hSu); go_simp; first | done | with_reducible rfl)
      (try simp only [Act.put, List.setIfInBounds_toArray, List.set_cons_zero, List.set_cons_succ])
      refine takeL (i := 5) (v := ?t2v5) (some 29) rfl rfl (by kernel_rfl) (by kernel_rfl) (by kernel_rfl) (by kernel_rfl) (by kernel_rfl) (fun _ _ _ h => h) (Or.inl ⟨by rfl, ?t2h5⟩) (by assumption) ?t2r5
      case t2h5 => (intro y hSu; (try dsimp only at hSu); go_simp; first | done | with_reducible rfl)
      (try simp only [Act.put, List.setIfInBounds_toArray, List.set_cons_zero, List.set_cons_succ])
      refine readyL (i := 1) (by kernel_rfl) rfl (fun K hK => ?_)
      go_simp
      refine (unhide CO).mono ?_
      intro r w4 hh
      obtain ⟨x, xn, xc, rfl, hrd, hB4⟩ := unhide hh
      clear CO hh
      have hxn : xn = (headsTo h V.length).length := by
        obtain ⟨x', c', e, -⟩ := hrd
        rw [← compsV_len]; injection e
      have HXN := hide hxn
      have HB4 := hide hB4
      clear hrd hB4 hxn
      (try dsimp only)
      refine hK.out _ _ (fun _ => (unhide HSN w4 (unhide HB4))) ?_
      clear hK K
      (try simp only [Act.put, List.setIfInBounds_toArray, List.set_cons_zero, List.set_cons_succ])
      have hH4 := (unhide HSN w4 (unhide HB4))
      refine takeL (i := 2) (v := ?t5v2) (some 26) rfl rfl (by kernel_rfl) (by kernel_rfl) (by kernel_rfl) (by kernel_rfl) (by kernel_rfl) (fun _ _ _ h => h) (Or.inl ⟨by rfl, ?t5h2⟩) (by assumption) ?t5r2
      case t5h2 => (intro y hSu; (try dsimp only at hSu); go_simp; first | done | with_reducible rfl)
      (try simp only [Act.put, List.setIfInBounds_toArray, List.set_cons_zero, List.set_cons_succ])
      refine takeL (i := 6) (v := ?t5v6) (some 30) rfl rfl (by kernel_rfl) (by kernel_rfl) (by kernel_rfl) (by kernel_rfl) (by kernel_rfl) (fun _ _ _ h => h) (Or.inl ⟨by rfl, ?t5h6⟩) (by assumption) ?t5r6
      case t5h6 => (intro y hSu; (try dsimp only at hSu); go_simp; first | done | with_reducible rfl)
      (try simp only [Act.put, List.setIfInBounds_toArray, List.set_cons_zero, List.set_cons_succ])
      refine readyL (i := 7) (by kernel_rfl) rfl (fun K hK => ?_)
      go_simp
      refine hK.out _ _ (fun _ => (unhide HSN w4 (unhide HB4))) ?_
      clear hK K
      (try simp only [Act.put, List.setIfInBounds_toArray, List.set_cons_zero, List.set_cons_succ])
      have hH7 := (unhide HSN w4 (unhide HB4))
      refine doneL (by kernel_rfl) ?_ _
      refine NoPanic.normal ?_
      have HE := hide (unhide HT xn (unhide HXN))
      have HG4 := hide (unhide HG w4 (unhide HB4))
      clear d0 d1 d2 d3 hHeld HSN HG HT HXN HB4
      go_wp2_with fail
      go_ret
      exact ⟨_, rfl, unhide HE, unhide HG4⟩
end Go.Proofs.Ytdpdghhieokcfaa

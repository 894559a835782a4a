/- WalkOwn, walked. -/
import Derived.Test.YtgocbcacfcfblaaGreatWkOwn
namespace Go.Proofs.YtgocbcacfcfblaaGreat
open Go.RowKit Go.Maps

theorem KB.sub [Inhabited EntI] {kb : List (Nat × Obj)} {w W : World} {s n : Nat} {ps : List (EdgeV × Bool)} {vv ev : Value} {rd wr : Int} {vs : List Int} {es : List EdgeV} {rows : List (Value × List Int)} {g m c k : Nat} {ks : List Int} (h : KB kb w s ps vv ev rd wr n vs es rows W) (hm : (.slice (some ⟨g, 0, none⟩) m c, ks) ∈ rows) (hk : k ≤ m) : KB kb w s ps vv ev rd wr n vs es ((.slice (some ⟨g, 0, none⟩) k c, ks.take k) :: rows) W := by
  obtain ⟨X, gg, h1, h2, h3, h4, h5, h6, h7, hk', h8⟩ := h
  refine ⟨X, gg, h1, h2, h3, h4, h5, h6, h7, hk', fun r hr => ?_⟩
  rcases List.mem_cons.1 hr with e | e
  · subst e; exact ⟨brow_take (h8 _ hm).1 hk, (h8 _ hm).2⟩
  · exact h8 r e

set_option maxHeartbeats 16000000 in
set_option maxRecDepth 100000 in
theorem own_any [Inhabited EntI] (a : Option Addr) (len cap : Nat) (o : Nat → OpV) (from_ : Int) (hf0 : okN from_) (pv : Value) (pks : List Int) (w : World) (h : IsOps w a len o) (hp : SRow w pv pks) :
    Calls Tryz.prog 6 #[.slice a len cap, .int .i64 from_, pv] w fun e w' => e = .returned (.bool true) ∧ Below w.heap.size w w' := by
  have CB := hide (builtS a len cap o w h)
  have CW : Hid (∀ W, Calls Tryz.prog 8 #[] W fun e w' => e = .returned (.bool true) ∧ Below W.heap.size W w') := fun W => awake8S W
  have HP := hide hp
  have HF0 := hide hf0
  obtain ⟨pa, pc, hpv, -⟩ := hp
  clear h hf0
  subst hpv
  generalize pks.length = pl at *
  go_enter Tryz.func6, Tryz.ntmps6
  go_wp2_with fail
  refine (unhide CB).mono ?_
  rintro e w1 hh
  obtain ⟨s, a1, m1, q1, a2, m2, q2, rd, wr0, rfl, n, X, g, vs, es, hn, hG, hs, hL, hB, hrd, hwr⟩ := unhide hh
  have hKW := kw_built hG hn hs hrd hwr (Below.refl w.heap.size w) hL hB
  have HKW := hide (kb_of_kw hKW (oG (.slice a1 m1 q1) (.slice a2 m2 q2) rd wr0))
  have HBX := hide (And.intro hB hL)
  generalize g.ps = ps at *
  have HG : Hid (∀ V, Below (w1.alloc (oG (.slice a1 m1 q1) (.slice a2 m2 q2) rd wr0)).heap.size (w1.alloc (oG (.slice a1 m1 q1) (.slice a2 m2 q2) rd wr0)) V → (V.cell? ⟨w1.heap.size, 0, none⟩ = some (.slice a1 m1 q1) ∧ V.cell? ⟨w1.heap.size, 1, none⟩ = some (.slice a2 m2 q2) ∧ V.cell? ⟨w1.heap.size, 2, none⟩ = some (.int .i64 rd) ∧ V.cell? ⟨w1.heap.size, 3, none⟩ = some (.int .i64 wr0))) := fun V hV => by
    have hg : V.heap[w1.heap.size]? = some (oG (.slice a1 m1 q1) (.slice a2 m2 q2) rd wr0) := (hV.block _ (by simp)).trans (heap_alloc_new _ _)
    obtain ⟨c0, c1, c2, c3, -⟩ := cellsG hg
    exact ⟨c0, c1, c2, c3⟩
  clear hh hG hs hL hB hrd hwr CB hn hKW HBX
  go_upto_region 2 with fail
  change Code.wp _ _ _ _ (w1.alloc (oG (.slice a1 m1 q1) (.slice a2 m2 q2) rd wr0))
  generalize w1.alloc (oG (.slice a1 m1 q1) (.slice a2 m2 q2) rd wr0) = w2 at *
  generalize w1.heap.size = b1 at *
  go_wp2_with fail
  refine (unhide CW _).mono ?_
  rintro e w3 ⟨rfl, hb3⟩
  obtain ⟨c0, c1, c2, c3⟩ := unhide HG w3 hb3
  have HK3 := hide ((unhide HKW).below hb3)
  have CV : Hid (Calls Tryz.prog 18 #[.agg #[.slice a1 m1 q1, .slice a2 m2 q2, .int .i64 rd, .int .i64 wr0], .int .i64 from_, .slice pa pl pc] w3 fun e w' => ∃ a n c, e = .returned (.slice a n c) ∧ Hid (WAns ps w3 from_ (.slice a n c) w')) := by
    obtain ⟨g1, g2, g3, g4, -⟩ := (unhide HK3).graph
    exact wanderS (vv := .slice a1 m1 q1) (rd := rd) (wr0 := wr0) from_ g1 g2 g3 g4 ((unhide HP).below (unhide HK3).out)
  clear CW HG hb3 HKW HP
  go_wp2_with fail
  refine (unhide CV).mono ?_
  rintro e w4 ⟨ea, en, ec, rfl, h4⟩
  obtain ⟨l, d, hW, hl, hr4, hb4⟩ := unhide h4
  have hK4 := (unhide HK3).more hb4 hr4
  clear CV c0 c1 c2 c3 h4 HK3
  obtain ⟨a', c', e', hec⟩ := brow_shape hr4
  injection e' with e1 e2 e3
  have CC := hide (cutS (w := w4) (brow_srow hr4) (by omega) (fun e => by
    rcases hr4.2 with ⟨q, -⟩ | ⟨g, cap, cur, q, -⟩
    · injection q with q1 q2 q3; exact ⟨q2, q3⟩
    · injection q with q1; rw [e] at q1; cases q1))
  have HL : Hid (en = l.length ∧ en ≤ 60 ∧ l.take 60 = l) := ⟨e2, by omega, List.take_of_length_le hl⟩
  have HK4 := hide hK4
  clear hW hl hr4 hb4 hK4 hec e1 e2 e3
  go_upto_region 5 with fail
  -- the copy, and one number behind it
  have HC5 : Hid (∀ ca cn cc w5, BRow w4.heap.size w5 (.slice ca cn cc) (l.take 60) ∧ Below w4.heap.size w4 w5 → ∃ fg fc w6, (∀ ty, (Builtin.append_ #[23, 23] ty #[.slice ca cn cc, .slice (some ⟨w5.heap.size, 0, none⟩) 1 1]).run Tryz.prog (w5.alloc (.cells #[.int .i64 99] 3)) = .ok (.slice (some ⟨fg, 0, none⟩) (en + 1) fc) w6) ∧ KB [(b1, oG (.slice a1 m1 q1) (.slice a2 m2 q2) rd wr0)] w s ps (.slice a1 m1 q1) (.slice a2 m2 q2) rd wr0 120 vs es [(.slice (some ⟨fg, 0, none⟩) (en + 1) fc, l ++ [99]), (.slice ea en ec, l)] w6 ∧ Fr8 [(b1, oG (.slice a1 m1 q1) (.slice a2 m2 q2) rd wr0)] w (.slice a1 m1 q1) (.slice a2 m2 q2) [(.slice ea en ec, l)] (.slice (some ⟨fg, 0, none⟩) (en + 1) fc)) := by
    rintro ca cn cc w5 ⟨g1, g2⟩
    rw [(unhide HL).2.2] at g1
    have hf := (unhide HK4).newRow g1
    obtain ⟨a6, n6, c6, w6, hr6, e6, q1, q2⟩ := ((unhide HK4).more g2 g1).app 99 hf (by have := unhide HL; omega)
    obtain ⟨fg, rfl⟩ := brow_some (q1.row (v := .slice a6 n6 c6) (ks := l ++ [99]) (by simp)) (by simp)
    obtain rfl : n6 = en + 1 := by rw [e6, (unhide HL).1]
    exact ⟨fg, c6, w6, hr6, q1, q2⟩
  go_wp2_with fail
  refine (unhide CC).mono ?_
  rintro e w5 ⟨ca, cn, cc, rfl, h5⟩
  obtain ⟨fg, fc, w6, hr6, hK6, hF6⟩ := unhide HC5 ca cn cc w5 (unhide h5)
  have HR6 := hide hr6
  have HF6 := hide hF6
  have hfc : en + 1 ≤ fc := by
    obtain ⟨a', c', e', hle⟩ := brow_shape (hK6.row (v := .slice (some ⟨fg, 0, none⟩) (en + 1) fc) (ks := l ++ [99]) (by simp))
    injection e' with e1 e2 e3
    omega
  have hzf : (en : Int) ≤ (fc : Int) := by omega
  have HK6 := hide (hK6.sub (g := fg) (m := en + 1) (c := fc) (ks := l ++ [99]) (k := en) (by simp) (by omega))
  have htk : (l ++ [99]).take en = l := by rw [(unhide HL).1]; simp
  rw [htk] at HK6
  clear CC HC5 h5 hr6 hK6 hF6 hfc HK4 htk
  go_upto_region 6 with (at_builtin; refine Lib.wpList_append_run _ rfl _ _ 23 23 rfl _ _ rfl rfl _ _ (unhide HR6 _) ?_)
  clear HR6
  go_upto_region 7 with fail
  clear hzf
  have hr6 := (unhide HK6).row (v := .slice (some ⟨fg, 0, none⟩) en fc) (ks := l) (by simp)
  have C7 := hide (kbFollow (unhide HK6) from_ (brow_srow hr6) (part_row hr6 (by simp)) (by have := unhide HL; omega) (by omega))
  clear hr6
  go_wp2_with fail
  refine (unhide C7).mono ?_
  rintro e w7 ⟨rfl, h7⟩
  clear C7 HK6
  have hr7 := (unhide h7).row (v := .slice (some ⟨fg, 0, none⟩) en fc) (ks := l) (by simp)
  have C8 := hide (kbThrough (unhide h7) from_ (brow_srow hr7) (part_row hr7 (by simp)) (by have := unhide HL; omega) (by omega))
  clear hr7
  go_wp2_with fail
  refine (unhide C8).mono ?_
  rintro e w8 ⟨la, ln, lc, rfl, h8⟩
  obtain ⟨h8, hb8⟩ := unhide h8
  have HFl := hide ((unhide h7).newRow hb8)
  have hlen8 : ln ≤ 61 := by
    obtain ⟨a', c', e', hle⟩ := brow_shape hb8
    injection e' with e1 e2 e3
    rw [e2]
    have := trip_len (ps := ps) l from_
    have := unhide HL
    split <;> simp [stopsOf] <;> omega
  have HLN := hide hlen8
  generalize (if (trip ps from_ l).2 = none then stopsOf from_ (trip ps from_ l).1 else []) = T at *
  have HTL : Hid (ln = T.length) := by
    obtain ⟨a', c', e', hle⟩ := brow_shape hb8
    injection e'
  have hr8 := h8.row (v := .slice (some ⟨fg, 0, none⟩) en fc) (ks := l) (by simp)
  have C9 := hide (kbSimple h8 from_ (unhide HF0) (brow_srow hr8) (part_row hr8 (by simp)) (by have := unhide HL; omega) (by omega))
  have HK8 := hide h8
  clear hr8 C8 h7 h8 hb8 hlen8
  go_wp2_with fail
  refine (unhide C9).mono ?_
  rintro e w9 ⟨sa, sn, sc, rfl, h9⟩
  obtain ⟨h9, hb9⟩ := unhide h9
  have HFm := hide ((unhide HK8).newRow hb9)
  have hlen9 : sn ≤ 60 := by
    obtain ⟨a', c', e', hle⟩ := brow_shape hb9
    injection e' with e1 e2 e3
    rw [e2]
    have := trip_len (ps := ps) l from_
    have := trail_len from_ (trip ps from_ l).1
    have := unhide HL
    split
    · omega
    · simp
  have HSN := hide hlen9
  generalize (if (trip ps from_ l).2 = none then (trail8 from_ (trip ps from_ l).1).2 else []) = M at *
  have HML : Hid (sn = M.length) := by
    obtain ⟨a', c', e', hle⟩ := brow_shape hb9
    injection e'
  generalize rd + ((tReads (trip ps from_ l) : Nat) : Int) + ((tReads (trip ps from_ l) : Nat) : Int) + ((tReads (trip ps from_ l) : Nat) : Int) = rd3 at *
  have HK9 := hide h9
  clear C9 h9 hb9 hlen9 HK8
  have hr9 := (unhide HK9).row (v := .slice la ln lc) (ks := T) (by simp)
  obtain ⟨wa, wn, wc, w10, hr10, g10, b10⟩ := run_copy8 (w := w9) (brow_srow hr9) (by have := unhide HLN; have := unhide HTL; omega)
  have hK10 := (unhide HK9).more b10 g10
  have hr9' := hK10.row (v := .slice sa sn sc) (ks := M) (by simp)
  obtain ⟨xa, xn, xc, w11, hr11, g11, b11⟩ := run_copy8 (w := w10) (brow_srow hr9') (by have := unhide HSN; have := unhide HML; omega)
  have hK11 := hK10.more b11 g11
  have hFw := (unhide HK9).newRow g10
  have hFx := hK10.newRow g11
  obtain rfl : wn = ln := by
    obtain ⟨a', c', e', hle⟩ := brow_shape g10
    injection e' with e1 e2 e3
    rw [e2, unhide HTL]
  obtain rfl : xn = sn := by
    obtain ⟨a', c', e', hle⟩ := brow_shape g11
    injection e' with e1 e2 e3
    rw [e2, unhide HML]
  have HFF : Hid (Fr8 [(b1, oG (.slice a1 m1 q1) (.slice a2 m2 q2) rd wr0)] w (.slice a1 m1 q1) (.slice a2 m2 q2) [(.slice la wn lc, T), (.slice sa xn sc, M), (.slice wa wn wc, T), (.slice xa xn xc, M)] (.slice (some ⟨fg, 0, none⟩) (en + 1) fc)) := fun g hg => by
    obtain ⟨q1, q2, q3, q4, -⟩ := unhide HF6 g hg
    refine ⟨q1, q2, q3, q4, fun r hr e => ?_⟩
    rcases List.mem_cons.1 hr with e1 | hr
    · rw [e1] at e; exact (unhide HFl g e).2.2.2.2 (.slice (some ⟨fg, 0, none⟩) (en + 1) fc, l ++ [99]) (by simp) hg
    rcases List.mem_cons.1 hr with e1 | hr
    · rw [e1] at e; exact (unhide HFm g e).2.2.2.2 (.slice (some ⟨fg, 0, none⟩) (en + 1) fc, l ++ [99]) (by simp) hg
    rcases List.mem_cons.1 hr with e1 | hr
    · rw [e1] at e; exact (hFw g e).2.2.2.2 (.slice (some ⟨fg, 0, none⟩) (en + 1) fc, l ++ [99]) (by simp) hg
    · rw [List.mem_singleton.1 hr] at e; exact (hFx g e).2.2.2.2 (.slice (some ⟨fg, 0, none⟩) (en + 1) fc, l ++ [99]) (by simp) hg
  have HLM : Hid (Fr8 [(b1, oG (.slice a1 m1 q1) (.slice a2 m2 q2) rd wr0)] w (.slice a1 m1 q1) (.slice a2 m2 q2) [(.slice sa xn sc, M)] (.slice la wn lc) ∧ Fr8 [(b1, oG (.slice a1 m1 q1) (.slice a2 m2 q2) rd wr0)] w (.slice a1 m1 q1) (.slice a2 m2 q2) [(.slice la wn lc, T)] (.slice sa xn sc)) := by
    have h2 : Fr8 [(b1, oG (.slice a1 m1 q1) (.slice a2 m2 q2) rd wr0)] w (.slice a1 m1 q1) (.slice a2 m2 q2) [(.slice la wn lc, T)] (.slice sa xn sc) := (unhide HFm).less (fun r hr => by rw [List.mem_singleton.1 hr]; simp)
    exact ⟨((unhide HFl).less (fun r hr => by cases hr)).other h2, h2⟩
  have HR10 := hide hr10
  have HR11 := hide hr11
  have CS := KB.same hK11 (v1 := .slice (some ⟨fg, 0, none⟩) en fc) (v2 := .slice ea en ec) (a := l) (b := l) (by simp) (by simp) (by have := unhide HL; omega)
  rw [show decide (l = l) = true from decide_eq_true rfl] at CS
  have HCS := hide CS
  clear hr9 hr9' hr10 hr11 g10 g11 b10 b11 hK10 hK11 hFw hFx CS HF6 HFl HFm HK9
  go_upto_region 10 with fail
  go_upto_region 11 with (at_builtin; first | (have h10 := HR10; clear HR10; refine Lib.wpList_append_run _ rfl _ _ 23 23 rfl _ _ rfl rfl _ _ (unhide h10 _) ?_; clear h10) | (refine Lib.wpList_append_run _ rfl _ _ 23 23 rfl _ _ rfl rfl _ _ (unhide HR11 _) ?_))
  clear HR11
  go_wp2_with fail
  refine (unhide HCS).mono ?_
  rintro e w12 ⟨rfl, h12⟩
  clear HCS
  have hc99 : w12.cell? ⟨fg, en, none⟩ = some (.int .i64 99) := brow_at ((unhide h12).row (v := .slice (some ⟨fg, 0, none⟩) (en + 1) fc) (ks := l ++ [99]) (by simp)) (by rw [(unhide HL).1]; simp)
  have HK12 : Hid (∃ F, KB [(b1, oG (.slice a1 m1 q1) (.slice a2 m2 q2) rd wr0)] w s ps (.slice a1 m1 q1) (.slice a2 m2 q2) rd3 wr0 (120 + 61 + 61 + 61) vs es ((.slice (some ⟨fg, 0, none⟩) (en + 1) fc, F) :: [(.slice la wn lc, T), (.slice sa xn sc, M), (.slice wa wn wc, T), (.slice xa xn xc, M)]) w12) := ⟨l ++ [99], (unhide h12).less (fun r hr => by simp at hr ⊢; rcases hr with e | e | e | e | e <;> simp [e])⟩
  clear h12
  go_upto_region 13 with fail
  clear hc99
  go_wp2_with fail
  go_loopw [21, 92] (fun s21 s92 wr => ∃ k : Nat, s92 = .int .i64 k ∧ k ≤ en + 1 ∧ Hid (∃ F, KB [(b1, oG (.slice a1 m1 q1) (.slice a2 m2 q2) rd wr0)] w s ps (.slice a1 m1 q1) (.slice a2 m2 q2) rd3 wr0 (120 + 61 + 61 + 61) vs es ((.slice (some ⟨fg, 0, none⟩) (en + 1) fc, F) :: [(.slice la wn lc, T), (.slice sa xn sc, M), (.slice wa wn wc, T), (.slice xa xn xc, M)]) wr)) (fun _ s92 _ => en + 1 - (intOf s92).toNat)
  case atStart => exact ⟨0, rfl, Nat.zero_le _, HK12⟩
  case round =>
    obtain ⟨k, rfl, hk, hT⟩ := hrel
    clear HK12
    obtain ⟨F, hF⟩ := unhide hT
    by_cases hlt : k < en + 1
    · have hz1 : (k : Int) < ((en + 1 : Nat) : Int) := by omega
      have hz2 : (k : Int) < (en : Int) + 1 := by omega
      obtain ⟨⟨y, hcy⟩, hfz, hK'⟩ := hF.write (-4) (unhide HFF) hlt
      have HK' := hide hK'
      have hwk : wrap64 ((k : Int) + 1) = ((k + 1 : Nat) : Int) := by have := unhide HL; unfold wrap64; omega
      have HWK := hide hwk
      clear hF hT hK' hwk
      go_wp2_with fail
      (try rw [unhide HWK])
      exact ⟨⟨k + 1, rfl, by omega, _, unhide HK'⟩, by simp [intOf]; omega⟩
    · have hz1 : ¬ (k : Int) < ((en + 1 : Nat) : Int) := by omega
      have hz2 : ¬ (k : Int) < (en : Int) + 1 := by omega
      have hl1 : T.length ≤ 1000000 := by have := unhide HTL; have := unhide HLN; omega
      have hl2 : M.length ≤ 1000000 := by have := unhide HML; have := unhide HSN; omega
      have C1 := KB.same hF (v1 := .slice la wn lc) (v2 := .slice wa wn wc) (a := T) (b := T) (by simp) (by simp) hl1
      rw [show decide (T = T) = true from decide_eq_true rfl] at C1
      have HC1 := hide C1
      have HL2 := hide hl2
      clear C1 hF hT hl1 hl2
      go_wp2_with fail
      refine (unhide HC1).mono ?_
      rintro e w13 ⟨rfl, h13⟩
      clear HC1
      have C2 := KB.same (unhide h13) (v1 := .slice sa xn sc) (v2 := .slice xa xn xc) (a := M) (b := M) (by simp) (by simp) (unhide HL2)
      rw [show decide (M = M) = true from decide_eq_true rfl] at C2
      have HC2 := hide C2
      clear C2 h13
      go_wp2_with fail
      refine (unhide HC2).mono ?_
      rintro e w14 ⟨rfl, h14⟩
      clear HC2
      have HO : Hid (∃ k1 k2, O2 [(b1, oG (.slice a1 m1 q1) (.slice a2 m2 q2) rd wr0)] w s ps (.slice a1 m1 q1) (.slice a2 m2 q2) rd3 wr0 (120 + 61 + 61 + 61) vs es (.slice la wn lc) k1 (.slice sa xn sc) k2 w14 ∧ k1.length = wn ∧ k2.length = xn) := ⟨T, M, ⟨(unhide h14).less (fun r hr => by simp at hr ⊢; rcases hr with e | e <;> simp [e]), (unhide HLM).1, (unhide HLM).2⟩, (unhide HTL).symm, (unhide HML).symm⟩
      clear h14 HFF HLM HL2
      go_wp2_with fail
      go_loopw [22, 111] (fun s22 s111 wr => ∃ k : Nat, s111 = .int .i64 k ∧ k ≤ wn ∧ Hid (∃ k1 k2, O2 [(b1, oG (.slice a1 m1 q1) (.slice a2 m2 q2) rd wr0)] w s ps (.slice a1 m1 q1) (.slice a2 m2 q2) rd3 wr0 (120 + 61 + 61 + 61) vs es (.slice la wn lc) k1 (.slice sa xn sc) k2 wr ∧ k1.length = wn ∧ k2.length = xn)) (fun _ s111 _ => wn - (intOf s111).toNat)
      case atStart => exact ⟨0, rfl, Nat.zero_le _, HO⟩
      case round =>
        obtain ⟨k, rfl, hk, hT⟩ := hrel
        clear HO
        by_cases hlt : k < wn
        · have hz3 : (k : Int) < (wn : Int) := by omega
          obtain ⟨k1, k2, hO, l1, l2⟩ := unhide hT
          obtain ⟨lg, rfl⟩ := brow_some (hO.on.row (v := .slice la wn lc) (ks := k1) (by simp)) (by omega)
          obtain ⟨⟨y, hcy⟩, hfz, hO'⟩ := hO.write (-1) hlt
          have HO' : Hid (∃ k1 k2, O2 [(b1, oG (.slice a1 m1 q1) (.slice a2 m2 q2) rd wr0)] w s ps (.slice a1 m1 q1) (.slice a2 m2 q2) rd3 wr0 (120 + 61 + 61 + 61) vs es (.slice (some ⟨lg, 0, none⟩) wn lc) k1 (.slice sa xn sc) k2 (wr.setCell ⟨lg, k, none⟩ (.int .i64 (-1))) ∧ k1.length = wn ∧ k2.length = xn) := ⟨_, k2, hO', by simpa using l1, l2⟩
          have hwk : wrap64 ((k : Int) + 1) = ((k + 1 : Nat) : Int) := by have := unhide HLN; unfold wrap64; omega
          have HWK := hide hwk
          clear hT hO hO' l1 l2 hwk
          go_wp2_with fail
          (try rw [unhide HWK])
          exact ⟨⟨k + 1, rfl, by omega, HO'⟩, by simp [intOf]; omega⟩
        · have hz3 : ¬ (k : Int) < (wn : Int) := by omega
          have HO := hT
          clear hT
          go_wp2_with fail
          go_loopw [23, 120] (fun s23 s120 wr => ∃ k : Nat, s120 = .int .i64 k ∧ k ≤ xn ∧ Hid (∃ k1 k2, O2 [(b1, oG (.slice a1 m1 q1) (.slice a2 m2 q2) rd wr0)] w s ps (.slice a1 m1 q1) (.slice a2 m2 q2) rd3 wr0 (120 + 61 + 61 + 61) vs es (.slice la wn lc) k1 (.slice sa xn sc) k2 wr ∧ k1.length = wn ∧ k2.length = xn)) (fun _ s120 _ => xn - (intOf s120).toNat)
          case atStart => exact ⟨0, rfl, Nat.zero_le _, HO⟩
          case round =>
            obtain ⟨k, rfl, hk, hT⟩ := hrel
            clear HO
            by_cases hlt : k < xn
            · have hz4 : (k : Int) < (xn : Int) := by omega
              obtain ⟨k1, k2, hO, l1, l2⟩ := unhide hT
              obtain ⟨sg, rfl⟩ := brow_some (hO.on.row (v := .slice sa xn sc) (ks := k2) (by simp)) (by omega)
              obtain ⟨⟨y, hcy⟩, hfz, hO'⟩ := hO.swap.write (-2) hlt
              have HO' : Hid (∃ k1 k2, O2 [(b1, oG (.slice a1 m1 q1) (.slice a2 m2 q2) rd wr0)] w s ps (.slice a1 m1 q1) (.slice a2 m2 q2) rd3 wr0 (120 + 61 + 61 + 61) vs es (.slice la wn lc) k1 (.slice (some ⟨sg, 0, none⟩) xn sc) k2 (wr.setCell ⟨sg, k, none⟩ (.int .i64 (-2))) ∧ k1.length = wn ∧ k2.length = xn) := ⟨k1, _, hO'.swap, l1, by simpa using l2⟩
              have hwk : wrap64 ((k : Int) + 1) = ((k + 1 : Nat) : Int) := by have := unhide HSN; unfold wrap64; omega
              have HWK := hide hwk
              clear hT hO hO' l1 l2 hwk
              go_wp2_with fail
              (try rw [unhide HWK])
              exact ⟨⟨k + 1, rfl, by omega, HO'⟩, by simp [intOf]; omega⟩
            · have hz4 : ¬ (k : Int) < (xn : Int) := by omega
              have HO : Hid (∃ k1 k2, O2 [(b1, oG (.slice a1 m1 q1) (.slice a2 m2 q2) rd wr0)] w s ps (.slice a1 m1 q1) (.slice a2 m2 q2) rd3 wr0 (120 + 61 + 61 + 61) vs es (.slice la (wn + 0) lc) k1 (.slice sa (xn + 0) sc) k2 wr ∧ k1.length = wn + 0 ∧ k2.length = xn + 0 ∧ ∀ j, xn ≤ j → j < xn + 0 → k2[j]? = some (-5)) := by
                obtain ⟨k1, k2, hO, l1, l2⟩ := unhide hT
                exact ⟨k1, k2, hO, l1, l2, fun j h1 h2 => by omega⟩
              clear hT
              go_wp2_with fail
              go_loopw [13, 16, 24] (fun s13 s16 s24 wr => ∃ (i : Nat) (ya za : Option Addr) (yc zc : Nat), s24 = .int .i64 i ∧ s13 = .slice ya (wn + i) yc ∧ s16 = .slice za (xn + i) zc ∧ i ≤ 20 ∧ Hid (∃ k1 k2, O2 [(b1, oG (.slice a1 m1 q1) (.slice a2 m2 q2) rd wr0)] w s ps (.slice a1 m1 q1) (.slice a2 m2 q2) rd3 wr0 (120 + 61 + 61 + 61) vs es (.slice ya (wn + i) yc) k1 (.slice za (xn + i) zc) k2 wr ∧ k1.length = wn + i ∧ k2.length = xn + i ∧ ∀ j, xn ≤ j → j < xn + i → k2[j]? = some (-5))) (fun _ _ s24 _ => 20 - (intOf s24).toNat)
              case atStart => exact ⟨0, la, sa, lc, sc, rfl, rfl, rfl, Nat.zero_le _, HO⟩
              case round =>
                obtain ⟨i, ya, za, yc, zc, rfl, rfl, rfl, hi, hT⟩ := hrel
                clear HO
                obtain ⟨k1, k2, hO, l1, l2, l3⟩ := unhide hT
                by_cases hlt : i < 20
                · have hz5 : (i : Int) < 20 := by omega
                  obtain ⟨ya', yn', yc', w15, hr15, e15, hO15⟩ := hO.app (-3) (by have := unhide HLN; omega)
                  obtain ⟨za', zn', zc', w16, hr16, e16, hO16⟩ := hO15.swap.app (-5) (by have := unhide HSN; omega)
                  obtain rfl : yn' = wn + (i + 1) := by omega
                  obtain rfl : zn' = xn + (i + 1) := by omega
                  have HO16 : Hid (∃ k1 k2, O2 [(b1, oG (.slice a1 m1 q1) (.slice a2 m2 q2) rd wr0)] w s ps (.slice a1 m1 q1) (.slice a2 m2 q2) rd3 wr0 (120 + 61 + 61 + 61) vs es (.slice ya' (wn + (i + 1)) yc') k1 (.slice za' (xn + (i + 1)) zc') k2 w16 ∧ k1.length = wn + (i + 1) ∧ k2.length = xn + (i + 1) ∧ ∀ j, xn ≤ j → j < xn + (i + 1) → k2[j]? = some (-5)) := by
                    refine ⟨_, _, hO16.swap, by simp; omega, by simp; omega, fun j h1 h2 => ?_⟩
                    rcases Nat.lt_or_ge j (xn + i) with q | q
                    · rw [List.getElem?_append_left (by omega)]; exact l3 j h1 q
                    · rw [List.getElem?_append_right (by omega), show j - k2.length = 0 by omega]; rfl
                  have HR15 := hide hr15
                  have HR16 := hide hr16
                  have hwi : wrap64 ((i : Int) + 1) = ((i + 1 : Nat) : Int) := by unfold wrap64; omega
                  have HWI := hide hwi
                  clear hT hO l1 l2 l3 hr15 hr16 hO15 hO16 hwi e15 e16
                  go_wp2_with (at_builtin; first | (have h15 := HR15; clear HR15; refine Lib.wpList_append_run _ rfl _ _ 23 23 rfl _ _ rfl rfl _ _ (unhide h15 _) ?_; clear h15) | (refine Lib.wpList_append_run _ rfl _ _ 23 23 rfl _ _ rfl rfl _ _ (unhide HR16 _) ?_))
                  (try rw [unhide HWI])
                  exact ⟨⟨i + 1, ya', za', yc', zc', rfl, rfl, rfl, by omega, HO16⟩, by simp [intOf]; omega⟩
                · have hz5 : ¬ (i : Int) < 20 := by omega
                  obtain rfl : i = 20 := by omega
                  have hr := hO.on.row (v := .slice za (xn + 20) zc) (ks := k2) (by simp)
                  obtain ⟨zg, rfl⟩ := brow_some hr (by omega)
                  have hc5 : wr.cell? ⟨zg, xn, none⟩ = some (.int .i64 (-5)) := brow_at hr (l3 xn (Nat.le_refl _) (by omega))
                  obtain ⟨c0, c1, c2, c3, -⟩ := cellsG (hO.on.box (b := b1) (o := oG (.slice a1 m1 q1) (.slice a2 m2 q2) rd wr0) (by simp))
                  have CRd : Hid (∀ V, Below wr.heap.size wr V → Calls Tryz.prog 11 #[.pointer (some ⟨s, 0, none⟩)] V fun e w' => e = .returned (.int .i64 rd3) ∧ w' = V) := fun V hV => kbReads (hO.on.below hV)
                  have CRg : Hid (∀ V, Below wr.heap.size wr V → Calls Tryz.prog 21 #[.agg #[.slice a1 m1 q1, .slice a2 m2 q2, .int .i64 rd, .int .i64 wr0], .int .i64 rd3] V fun e w' => e = .returned (.agg #[.slice a1 m1 q1, .slice a2 m2 q2, .int .i64 rd3, .int .i64 wr0]) ∧ Hid (Below wr.heap.size wr w')) := fun V hV => by
                    refine (regaugedS a1 a2 m1 q1 m2 q2 rd wr0 rd3 V).mono ?_
                    rintro e w' ⟨rfl, hh⟩
                    exact ⟨rfl, hV.trans ((unhide hh).mono hV.size)⟩
                  have CTe : Hid (∀ V, Below wr.heap.size wr V → Calls Tryz.prog 20 #[.pointer (some ⟨s, 0, none⟩), .agg #[.slice a1 m1 q1, .slice a2 m2 q2, .int .i64 rd3, .int .i64 wr0]] V fun e w' => e = .returned (.bool true) ∧ Hid (Below V.heap.size V w' ∧ Below w.heap.size w w')) := fun V hV => kbTells (hO.on.below hV)
                  have HBX : Hid (∀ V, Below wr.heap.size wr V → (V.cell? ⟨b1, 0, none⟩ = some (.slice a1 m1 q1) ∧ V.cell? ⟨b1, 1, none⟩ = some (.slice a2 m2 q2) ∧ V.cell? ⟨b1, 2, none⟩ = some (.int .i64 rd) ∧ V.cell? ⟨b1, 3, none⟩ = some (.int .i64 wr0) ∧ V.cell? ⟨zg, xn, none⟩ = some (.int .i64 (-5)))) := fun V hV => by
                    obtain ⟨d0, d1, d2, d3, -⟩ := cellsG ((hO.on.below hV).box (b := b1) (o := oG (.slice a1 m1 q1) (.slice a2 m2 q2) rd wr0) (by simp))
                    exact ⟨d0, d1, d2, d3, (cell_of_heap (x := ⟨zg, xn, none⟩) (hV.block zg (World.block_lt_of_cell? _ _ hc5))).trans hc5⟩
                  have hw1 : IntKind.i64.wrap ((wn : Int) + 20) = (wn : Int) + 20 := by have := unhide HLN; rw [IntKind.wrap_i64]; omega
                  have hw2 : IntKind.i64.wrap ((xn : Int) + 20) = (xn : Int) + 20 := by have := unhide HSN; rw [IntKind.wrap_i64]; omega
                  have hw3 : wrap64 ((wn : Int) + 20) = (wn : Int) + 20 := by have := unhide HLN; unfold wrap64; omega
                  have hw4 : wrap64 ((xn : Int) + 20) = (xn : Int) + 20 := by have := unhide HSN; unfold wrap64; omega
                  have hx1 : (xn : Int) < (xn : Int) + 20 := by omega
                  have hS0 := And.intro c0 (And.intro c1 (And.intro c2 (And.intro c3 hc5)))
                  clear hT hO l1 l2 l3 hr
                  go_upto_region 34 with fail
                  refine wp_region_noPanic ?_
                  refine regionL [] (fun y => y.cell? ⟨b1, 0, none⟩ = some (.slice a1 m1 q1) ∧ y.cell? ⟨b1, 1, none⟩ = some (.slice a2 m2 q2) ∧ y.cell? ⟨b1, 2, none⟩ = some (.int .i64 rd) ∧ y.cell? ⟨b1, 3, none⟩ = some (.int .i64 wr0) ∧ y.cell? ⟨zg, xn, none⟩ = some (.int .i64 (-5))) (by kernel_rfl) hS0 (fun hHeld => ?_)
                  refine takeL (i := 0) (v := ?t2v0) (some 137) rfl rfl (by kernel_rfl) (by kernel_rfl) (by kernel_rfl) (by kernel_rfl) (by kernel_rfl) (fun _ _ _ h => h) (Or.inl ⟨by rfl, ?t2h0⟩) (by assumption) ?t2r0
                  case t2h0 => (intro y hSu; (try dsimp only at hSu); go_simp; first | done | with_reducible rfl)
                  (try simp only [Act.put, List.setIfInBounds_toArray, List.set_cons_zero, List.set_cons_succ])
                  refine takeL (i := 1) (v := ?t2v1) (some 138) rfl rfl (by kernel_rfl) (by kernel_rfl) (by kernel_rfl) (by kernel_rfl) (by kernel_rfl) (fun _ _ _ h => h) (Or.inl ⟨by rfl, ?t2h1⟩) (by assumption) ?t2r1
                  case t2h1 => (intro y hSu; (try dsimp only at hSu); go_simp; first | done | with_reducible rfl)
                  (try simp only [Act.put, List.setIfInBounds_toArray, List.set_cons_zero, List.set_cons_succ])
                  refine takeL (i := 2) (v := ?t2v2) (some 139) rfl rfl (by kernel_rfl) (by kernel_rfl) (by kernel_rfl) (by kernel_rfl) (by kernel_rfl) (fun _ _ _ h => h) (Or.inl ⟨by rfl, ?t2h2⟩) (by assumption) ?t2r2
                  case t2h2 => (intro y hSu; (try dsimp only at hSu); go_simp; first | done | with_reducible rfl)
                  (try simp only [Act.put, List.setIfInBounds_toArray, List.set_cons_zero, List.set_cons_succ])
                  refine takeL (i := 3) (v := ?t2v3) (some 140) rfl rfl (by kernel_rfl) (by kernel_rfl) (by kernel_rfl) (by kernel_rfl) (by kernel_rfl) (fun _ _ _ h => h) (Or.inl ⟨by rfl, ?t2h3⟩) (by assumption) ?t2r3
                  case t2h3 => (intro y hSu; (try dsimp only at hSu); go_simp; first | done | with_reducible rfl)
                  (try simp only [Act.put, List.setIfInBounds_toArray, List.set_cons_zero, List.set_cons_succ])
                  refine takeL (i := 4) (v := ?t2v4) (some 141) rfl rfl (by kernel_rfl) (by kernel_rfl) (by kernel_rfl) (by kernel_rfl) (by kernel_rfl) (fun _ _ _ h => h) (Or.inl ⟨by rfl, ?t2h4⟩) (by assumption) ?t2r4
                  case t2h4 => (intro y hSu; (try dsimp only at hSu); go_simp; first | done | with_reducible rfl)
                  (try simp only [Act.put, List.setIfInBounds_toArray, List.set_cons_zero, List.set_cons_succ])
                  refine takeL (i := 5) (v := ?t2v5) (some 142) rfl rfl (by kernel_rfl) (by kernel_rfl) (by kernel_rfl) (by kernel_rfl) (by kernel_rfl) (fun _ _ _ h => h) (Or.inl ⟨by rfl, ?t2h5⟩) (by assumption) ?t2r5
                  case t2h5 => (intro y hSu; (try dsimp only at hSu); go_simp; first | done | with_reducible rfl)
                  (try simp only [Act.put, List.setIfInBounds_toArray, List.set_cons_zero, List.set_cons_succ])
                  refine takeL (i := 6) (v := ?t2v6) (some 143) rfl rfl (by kernel_rfl) (by kernel_rfl) (by kernel_rfl) (by kernel_rfl) (by kernel_rfl) (fun _ _ _ h => h) (Or.inl ⟨by rfl, ?t2h6⟩) (by assumption) ?t2r6
                  case t2h6 => (intro y hSu; (try dsimp only at hSu); go_simp; first | done | with_reducible rfl)
                  (try simp only [Act.put, List.setIfInBounds_toArray, List.set_cons_zero, List.set_cons_succ])
                  refine takeL (i := 7) (v := ?t2v7) (some 144) rfl rfl (by kernel_rfl) (by kernel_rfl) (by kernel_rfl) (by kernel_rfl) (by kernel_rfl) (fun _ _ _ h => h) (Or.inl ⟨by rfl, ?t2h7⟩) (by assumption) ?t2r7
                  case t2h7 => (intro y hSu; (try dsimp only at hSu); go_simp; first | done | with_reducible rfl)
                  (try simp only [Act.put, List.setIfInBounds_toArray, List.set_cons_zero, List.set_cons_succ])
                  refine takeL (i := 8) (v := ?t2v8) (some 145) rfl rfl (by kernel_rfl) (by kernel_rfl) (by kernel_rfl) (by kernel_rfl) (by kernel_rfl) (fun _ _ _ h => h) (Or.inl ⟨by rfl, ?t2h8⟩) (by assumption) ?t2r8
                  case t2h8 => (intro y hSu; (try dsimp only at hSu); go_simp; first | done | with_reducible rfl)
                  (try simp only [Act.put, List.setIfInBounds_toArray, List.set_cons_zero, List.set_cons_succ])
                  refine takeL (i := 9) (v := ?t2v9) (some 146) rfl rfl (by kernel_rfl) (by kernel_rfl) (by kernel_rfl) (by kernel_rfl) (by kernel_rfl) (fun _ _ _ h => h) (Or.inl ⟨by rfl, ?t2h9⟩) (by assumption) ?t2r9
                  case t2h9 => (intro y hSu; (try dsimp only at hSu); go_simp; first | done | with_reducible rfl)
                  (try simp only [Act.put, List.setIfInBounds_toArray, List.set_cons_zero, List.set_cons_succ])
                  refine takeL (i := 10) (v := ?t2v10) (some 147) rfl rfl (by kernel_rfl) (by kernel_rfl) (by kernel_rfl) (by kernel_rfl) (by kernel_rfl) (fun _ _ _ h => h) (Or.inl ⟨by rfl, ?t2h10⟩) (by assumption) ?t2r10
                  case t2h10 => (intro y hSu; (try dsimp only at hSu); go_simp; first | done | with_reducible rfl)
                  (try simp only [Act.put, List.setIfInBounds_toArray, List.set_cons_zero, List.set_cons_succ])
                  refine takeL (i := 11) (v := ?t2v11) (some 148) rfl rfl (by kernel_rfl) (by kernel_rfl) (by kernel_rfl) (by kernel_rfl) (by kernel_rfl) (fun _ _ _ h => h) (Or.inl ⟨by rfl, ?t2h11⟩) (by assumption) ?t2r11
                  case t2h11 => (intro y hSu; (try dsimp only at hSu); go_simp; first | done | with_reducible rfl)
                  (try simp only [Act.put, List.setIfInBounds_toArray, List.set_cons_zero, List.set_cons_succ])
                  refine takeL (i := 12) (v := ?t2v12) (some 149) rfl rfl (by kernel_rfl) (by kernel_rfl) (by kernel_rfl) (by kernel_rfl) (by kernel_rfl) (fun _ _ _ h => h) (Or.inl ⟨by rfl, ?t2h12⟩) (by assumption) ?t2r12
                  case t2h12 => (intro y hSu; (try dsimp only at hSu); go_simp; first | done | with_reducible rfl)
                  (try simp only [Act.put, List.setIfInBounds_toArray, List.set_cons_zero, List.set_cons_succ])
                  refine takeL (i := 13) (v := ?t2v13) (some 150) rfl rfl (by kernel_rfl) (by kernel_rfl) (by kernel_rfl) (by kernel_rfl) (by kernel_rfl) (fun _ _ _ h => h) (Or.inl ⟨by rfl, ?t2h13⟩) (by assumption) ?t2r13
                  case t2h13 => (intro y hSu; (try dsimp only at hSu); go_simp; first | done | with_reducible rfl)
                  (try simp only [Act.put, List.setIfInBounds_toArray, List.set_cons_zero, List.set_cons_succ])
                  refine takeL (i := 14) (v := ?t2v14) (some 151) rfl rfl (by kernel_rfl) (by kernel_rfl) (by kernel_rfl) (by kernel_rfl) (by kernel_rfl) (fun _ _ _ h => h) (Or.inl ⟨by rfl, ?t2h14⟩) (by assumption) ?t2r14
                  case t2h14 => (intro y hSu; (try dsimp only at hSu); go_simp; first | done | with_reducible rfl)
                  (try simp only [Act.put, List.setIfInBounds_toArray, List.set_cons_zero, List.set_cons_succ])
                  refine takeL (i := 15) (v := ?t2v15) (some 152) rfl rfl (by kernel_rfl) (by kernel_rfl) (by kernel_rfl) (by kernel_rfl) (by kernel_rfl) (fun _ _ _ h => h) (Or.inl ⟨by rfl, ?t2h15⟩) (by assumption) ?t2r15
                  case t2h15 => (intro y hSu; (try dsimp only at hSu); go_simp; first | done | with_reducible rfl)
                  (try simp only [Act.put, List.setIfInBounds_toArray, List.set_cons_zero, List.set_cons_succ])
                  refine takeL (i := 16) (v := ?t2v16) (some 153) rfl rfl (by kernel_rfl) (by kernel_rfl) (by kernel_rfl) (by kernel_rfl) (by kernel_rfl) (fun _ _ _ h => h) (Or.inl ⟨by rfl, ?t2h16⟩) (by assumption) ?t2r16
                  case t2h16 => (intro y hSu; (try dsimp only at hSu); go_simp; first | done | with_reducible rfl)
                  (try simp only [Act.put, List.setIfInBounds_toArray, List.set_cons_zero, List.set_cons_succ])
                  refine takeL (i := 17) (v := ?t2v17) (some 154) rfl rfl (by kernel_rfl) (by kernel_rfl) (by kernel_rfl) (by kernel_rfl) (by kernel_rfl) (fun _ _ _ h => h) (Or.inl ⟨by rfl, ?t2h17⟩) (by assumption) ?t2r17
                  case t2h17 => (intro y hSu; (try dsimp only at hSu); go_simp; first | done | with_reducible rfl)
                  (try simp only [Act.put, List.setIfInBounds_toArray, List.set_cons_zero, List.set_cons_succ])
                  refine takeL (i := 18) (v := ?t2v18) (some 155) rfl rfl (by kernel_rfl) (by kernel_rfl) (by kernel_rfl) (by kernel_rfl) (by kernel_rfl) (fun _ _ _ h => h) (Or.inl ⟨by rfl, ?t2h18⟩) (by assumption) ?t2r18
                  case t2h18 => (intro y hSu; (try dsimp only at hSu); go_simp; first | done | with_reducible rfl)
                  (try simp only [Act.put, List.setIfInBounds_toArray, List.set_cons_zero, List.set_cons_succ])
                  refine takeL (i := 19) (v := ?t2v19) (some 156) rfl rfl (by kernel_rfl) (by kernel_rfl) (by kernel_rfl) (by kernel_rfl) (by kernel_rfl) (fun _ _ _ h => h) (Or.inl ⟨by rfl, ?t2h19⟩) (by assumption) ?t2r19
                  case t2h19 => (intro y hSu; (try dsimp only at hSu); go_simp; first | done | with_reducible rfl)
                  (try simp only [Act.put, List.setIfInBounds_toArray, List.set_cons_zero, List.set_cons_succ])
                  refine takeL (i := 20) (v := ?t2v20) (some 157) rfl rfl (by kernel_rfl) (by kernel_rfl) (by kernel_rfl) (by kernel_rfl) (by kernel_rfl) (fun _ _ _ h => h) (Or.inl ⟨by rfl, ?t2h20⟩) (by assumption) ?t2r20
                  case t2h20 => (intro y hSu; (try dsimp only at hSu); go_simp; first | done | with_reducible rfl)
                  (try simp only [Act.put, List.setIfInBounds_toArray, List.set_cons_zero, List.set_cons_succ])
                  refine takeL (i := 21) (v := ?t2v21) (some 158) rfl rfl (by kernel_rfl) (by kernel_rfl) (by kernel_rfl) (by kernel_rfl) (by kernel_rfl) (fun _ _ _ h => h) (Or.inl ⟨by rfl, ?t2h21⟩) (by assumption) ?t2r21
                  case t2h21 => (intro y hSu; (try dsimp only at hSu); go_simp; first | done | with_reducible rfl)
                  (try simp only [Act.put, List.setIfInBounds_toArray, List.set_cons_zero, List.set_cons_succ])
                  refine takeL (i := 22) (v := ?t2v22) (some 159) rfl rfl (by kernel_rfl) (by kernel_rfl) (by kernel_rfl) (by kernel_rfl) (by kernel_rfl) (fun _ _ _ h => h) (Or.inl ⟨by rfl, ?t2h22⟩) (by assumption) ?t2r22
                  case t2h22 => (intro y hSu; (try dsimp only at hSu); go_simp; first | done | with_reducible rfl)
                  (try simp only [Act.put, List.setIfInBounds_toArray, List.set_cons_zero, List.set_cons_succ])
                  refine takeL (i := 23) (v := ?t2v23) (some 160) rfl rfl (by kernel_rfl) (by kernel_rfl) (by kernel_rfl) (by kernel_rfl) (by kernel_rfl) (fun _ _ _ h => h) (Or.inl ⟨by rfl, ?t2h23⟩) (by assumption) ?t2r23
                  case t2h23 => (intro y hSu; (try dsimp only at hSu); go_simp; first | done | with_reducible rfl)
                  (try simp only [Act.put, List.setIfInBounds_toArray, List.set_cons_zero, List.set_cons_succ])
                  refine takeL (i := 24) (v := ?t2v24) (some 161) rfl rfl (by kernel_rfl) (by kernel_rfl) (by kernel_rfl) (by kernel_rfl) (by kernel_rfl) (fun _ _ _ h => h) (Or.inl ⟨by rfl, ?t2h24⟩) (by assumption) ?t2r24
                  case t2h24 => (intro y hSu; (try dsimp only at hSu); go_simp; first | done | with_reducible rfl)
                  (try simp only [Act.put, List.setIfInBounds_toArray, List.set_cons_zero, List.set_cons_succ])
                  refine takeL (i := 25) (v := ?t2v25) (some 162) rfl rfl (by kernel_rfl) (by kernel_rfl) (by kernel_rfl) (by kernel_rfl) (by kernel_rfl) (fun _ _ _ h => h) (Or.inl ⟨by rfl, ?t2h25⟩) (by assumption) ?t2r25
                  case t2h25 => (intro y hSu; (try dsimp only at hSu); go_simp; first | done | with_reducible rfl)
                  (try simp only [Act.put, List.setIfInBounds_toArray, List.set_cons_zero, List.set_cons_succ])
                  refine readyL (i := 26) (by kernel_rfl) rfl (fun K hK => ?_)
                  go_simp
                  refine (unhide CRd _ (by exact (Below.refl _ _).drew)).mono ?_
                  rintro e w17 ⟨rfl, rfl⟩
                  (try dsimp only)
                  refine hK.out _ _ (fun _ => hS0) ?_
                  clear hK K
                  (try simp only [Act.put, List.setIfInBounds_toArray, List.set_cons_zero, List.set_cons_succ])
                  have hH4 := hS0
                  refine readyL (i := 27) (by kernel_rfl) rfl (fun K hK => ?_)
                  go_simp
                  refine (unhide CRg _ (by exact (Below.refl _ _).drew)).mono ?_
                  rintro e w18 ⟨rfl, h18⟩
                  have hS18 := unhide HBX w18 (unhide h18)
                  (try dsimp only)
                  refine hK.out _ _ (fun _ => hS18) ?_
                  clear hK K
                  (try simp only [Act.put, List.setIfInBounds_toArray, List.set_cons_zero, List.set_cons_succ])
                  have hH6 := hS18
                  refine readyL (i := 28) (by kernel_rfl) rfl (fun K hK => ?_)
                  go_simp
                  refine (unhide CTe w18 (unhide h18)).mono ?_
                  rintro e w19 ⟨rfl, h19⟩
                  have hS19 := unhide HBX w19 ((unhide h18).trans ((unhide h19).1.mono (unhide h18).size))
                  (try dsimp only)
                  refine hK.out _ _ (fun _ => hS19) ?_
                  clear hK K
                  (try simp only [Act.put, List.setIfInBounds_toArray, List.set_cons_zero, List.set_cons_succ])
                  have hH8 := hS19
                  refine takeL (i := 29) (v := ?t9v29) (some 166) rfl rfl (by kernel_rfl) (by kernel_rfl) (by kernel_rfl) (by kernel_rfl) (by kernel_rfl) (fun _ _ _ h => h) (Or.inl ⟨by rfl, ?t9h29⟩) (by assumption) ?t9r29
                  case t9h29 => (intro y hSu; (try dsimp only at hSu); go_simp; first | done | with_reducible rfl)
                  (try simp only [Act.put, List.setIfInBounds_toArray, List.set_cons_zero, List.set_cons_succ])
                  refine takeL (i := 30) (v := ?t9v30) (some 6) rfl rfl (by kernel_rfl) (by kernel_rfl) (by kernel_rfl) (by kernel_rfl) (by kernel_rfl) (fun _ _ _ h => h) (Or.inl ⟨by rfl, ?t9h30⟩) (by assumption) ?t9r30
                  case t9h30 => (intro y hSu; (try dsimp only at hSu); go_simp; first | done | with_reducible rfl)
                  (try simp only [Act.put, List.setIfInBounds_toArray, List.set_cons_zero, List.set_cons_succ])
                  refine doneL (by kernel_rfl) ?_ _
                  refine NoPanic.normal ?_
                  have HB := hide (unhide h19).2
                  clear HBX CRd CRg CTe h18 h19 hS18 hS19 hS0 hHeld
                  go_wp2_with fail
                  go_ret
                  exact ⟨rfl, unhide HB⟩
end Go.Proofs.YtgocbcacfcfblaaGreat

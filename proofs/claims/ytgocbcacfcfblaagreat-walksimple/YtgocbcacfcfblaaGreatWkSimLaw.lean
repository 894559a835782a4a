/- WalkSimple, walked. -/
import Derived.Test.YtgocbcacfcfblaaGreatWkGame2
namespace Go.Proofs.YtgocbcacfcfblaaGreat
open Go.RowKit Go.Maps

theorem tOk_place (d : List EdgeV) : tPlace (d, none) = 0 := if_pos rfl
theorem tOk_code (d : List EdgeV) : tCode (d, none) = 0 := rfl
theorem tOk_if {α : Type} (d : List EdgeV) (x y : α) : (if (d, (none : Option Int)).2 = none then x else y) = x := if_pos rfl
theorem fAns_ok8 (a : Int) (d : List EdgeV) : fAns a (d, none) = .tuple #[.int .i64 (endOf a d), .int .u32 (costOf d), .int .i64 0, .int .i64 0] := if_pos rfl

set_option maxHeartbeats 8000000 in
set_option maxRecDepth 100000 in
theorem simple_any [Inhabited EntI] (a : Option Addr) (len cap : Nat) (o : Nat → OpV) (from_ : Int) (hf0 : okN from_) (pv : Value) (pks : List Int) (w : World) (h : IsOps w a len o) (hp : SRow w pv pks) :
    Calls Tryz.prog 4 #[.slice a len cap, .int .i64 from_, pv] w fun e w' => e = .returned (.bool true) ∧ Below w.heap.size w w' := by
  have CB := hide (builtS a len cap o w h)
  have CW : Hid (∀ W, Calls Tryz.prog 8 #[] W fun e w' => e = .returned (.bool true) ∧ Below W.heap.size W w') := fun W => awake8S W
  have HP := hide hp
  have HF0 := hide hf0
  obtain ⟨pa, pc, hpv, -⟩ := hp
  clear h hf0
  subst hpv
  generalize pks.length = pl at *
  go_enter Tryz.func4, Tryz.ntmps4
  go_wp2_with fail
  refine (unhide CB).mono ?_
  rintro e w1 hh
  obtain ⟨s, a1, m1, q1, a2, m2, q2, rd, wr0, rfl, n, X, g, vs, es, hn, hG, hs, hL, hB, hrd, hwr⟩ := unhide hh
  have hKW := kw_built hG hn hs hrd hwr (Below.refl w.heap.size w) hL hB
  have HKW := hide (hKW.below (below_new w1 (oG (.slice a1 m1 q1) (.slice a2 m2 q2) rd wr0)))
  have HBX := hide (And.intro hB hL)
  generalize g.ps = ps at *
  have HG : Hid (∀ V, Below (w1.alloc (oG (.slice a1 m1 q1) (.slice a2 m2 q2) rd wr0)).heap.size (w1.alloc (oG (.slice a1 m1 q1) (.slice a2 m2 q2) rd wr0)) V → (V.cell? ⟨w1.heap.size, 0, none⟩ = some (.slice a1 m1 q1) ∧ V.cell? ⟨w1.heap.size, 1, none⟩ = some (.slice a2 m2 q2) ∧ V.cell? ⟨w1.heap.size, 2, none⟩ = some (.int .i64 rd) ∧ V.cell? ⟨w1.heap.size, 3, none⟩ = some (.int .i64 wr0))) := fun V hV => by
    have hg : V.heap[w1.heap.size]? = some (oG (.slice a1 m1 q1) (.slice a2 m2 q2) rd wr0) := (hV.block _ (by simp)).trans (heap_alloc_new _ _)
    obtain ⟨c0, c1, c2, c3, -⟩ := cellsG hg
    exact ⟨c0, c1, c2, c3⟩
  clear hh hG hs hL hB hrd hwr CB hn hKW HBX
  go_upto_region 2 with fail
  change Code.wp _ _ _ _ (w1.alloc (oG (.slice a1 m1 q1) (.slice a2 m2 q2) rd wr0))
  generalize w1.alloc (oG (.slice a1 m1 q1) (.slice a2 m2 q2) rd wr0) = w2 at *
  generalize w1.heap.size = b1 at *
  go_wp2_with fail
  refine (unhide CW _).mono ?_
  rintro e w3 ⟨rfl, hb3⟩
  obtain ⟨c0, c1, c2, c3⟩ := unhide HG w3 hb3
  have CV := hide (kwWander ((unhide HKW).below hb3) from_ (unhide HP))
  clear CW HG hb3 HKW HP
  go_wp2_with fail
  refine (unhide CV).mono ?_
  rintro e w4 ⟨ea, en, ec, rfl, h4⟩
  obtain ⟨l, d, hW, hl, hen, hK4⟩ := unhide h4
  clear CV c0 c1 c2 c3 h4
  have hr4 := hK4.row (v := .slice ea en ec) (ks := l) (by simp)
  have t1 : trip ps from_ l = (d, none) := hW.all
  have C1 := kwFollow hK4 from_ (brow_srow hr4) (part_row hr4 (by simp)) hl (by omega)
  rw [t1, fAns_ok8] at C1
  obtain ⟨d', s1, s2, s3, s4⟩ := simple_way hK4.named from_ hW
  have hLen : (trail8 from_ d).2.length ≤ 60 := by have := trail_len from_ d; have := hW.len; omega
  have hnd : (stopsOf from_ d').Nodup := by rw [s2]; exact (trail_trl from_ d).nodup
  have hnums : (trail8 from_ d).2 = d'.map (·.1) := s1.nums hK4.named
  have hsub : (trail8 from_ d).2.Sublist l := by
    rw [hnums, hW.nums hK4.named]
    exact s4.map _
  have htr : (trail8 from_ d').2 = (trail8 from_ d).2 := by rw [trail_nodup from_ d' hnd, hnums]
  have t2 : trip ps from_ (trail8 from_ d).2 = (d', none) := s1.all
  have hcost := cost_sub s4
  have hsl : (stopsOf from_ d').length ≤ 61 := by rw [stopsOf_len]; have := s1.len; omega
  rw [← s3] at C1
  have HN := hide hK4.named
  obtain ⟨L, hL⟩ : ∃ L, L = (trail8 from_ d).2 := ⟨_, rfl⟩
  rw [← hL] at t2 htr hsub hLen
  obtain ⟨st, hst⟩ : ∃ st, st = stopsOf from_ d' := ⟨_, rfl⟩
  rw [← hst] at hnd hsl
  have HT : Hid (trip ps from_ l = (d, none) ∧ trip ps from_ L = (d', none) ∧ (trail8 from_ d).2 = L ∧ (trail8 from_ d').2 = L ∧ stopsOf from_ d' = st ∧ st.Nodup ∧ L.Sublist l ∧ L.length ≤ 60 ∧ st.length ≤ 61 ∧ l.length ≤ 60 ∧ en = l.length ∧ 0 < st.length) := ⟨t1, t2, hL.symm, htr, hst.symm, hnd, hsub, hLen, hsl, hl, hen, by rw [hst, stopsOf_len]; omega⟩
  have hcz : ¬ ((costOf d : Nat) : Int) < ((costOf d' : Nat) : Int) := by omega
  have HC1 := hide C1
  clear C1 hr4 s1 s2 s3 s4 hLen hnd hnums hsub htr t1 t2 hcost hsl hL hst hW hl hen hK4
  obtain ⟨fin, hfin⟩ : ∃ fin, fin = endOf from_ d' := ⟨_, rfl⟩
  obtain ⟨cs', hcs'⟩ : ∃ cs', cs' = costOf d' := ⟨_, rfl⟩
  rw [← hfin] at HC1
  rw [← hcs'] at hcz
  have HFC : Hid (endOf from_ d' = fin ∧ costOf d' = cs') := ⟨hfin.symm, hcs'.symm⟩
  clear hfin hcs'
  generalize costOf d = cs at *
  go_wp2_with fail
  refine (unhide HC1).mono ?_
  rintro e w5 ⟨rfl, h5⟩
  clear HC1
  have hr5 := (unhide h5).row (v := .slice ea en ec) (ks := l) (by simp)
  have C2 := kwSimple (unhide h5) from_ (unhide HF0) (brow_srow hr5) (part_row hr5 (by simp)) (unhide HT).2.2.2.2.2.2.2.2.2.1 (by omega)
  rw [(unhide HT).1, tOk_place, tOk_code, tOk_if, (unhide HT).2.2.1] at C2
  have HC2 := hide C2
  clear C2 hr5 h5
  go_wp2_with fail
  refine (unhide HC2).mono ?_
  rintro e w6 ⟨la, ln, lc, rfl, h6⟩
  clear HC2
  obtain ⟨h6, hb6⟩ := unhide h6
  have hln : ln = L.length := by
    obtain ⟨a', c', e', -⟩ := brow_shape hb6
    injection e' with e1 e2 e3
  have HLN := hide hln
  have C3 := kwFollow h6 from_ (brow_srow hb6) (part_row hb6 (by simp)) (unhide HT).2.2.2.2.2.2.2.1 (by omega)
  rw [(unhide HT).2.1, fAns_ok8] at C3
  have HFIN : Hid (endOf from_ d' = fin ∧ costOf d' = cs') := unhide HFC
  rw [(unhide HFIN).1, (unhide HFIN).2] at C3
  have HC3 := hide C3
  clear C3 h6 hb6 hln
  go_wp2_with fail
  refine (unhide HC3).mono ?_
  rintro e w7 ⟨rfl, h7⟩
  clear HC3
  have hr7 := (unhide h7).row (v := .slice la ln lc) (ks := L) (by simp)
  have C4 := kwSimple (unhide h7) from_ (unhide HF0) (brow_srow hr7) (part_row hr7 (by simp)) (unhide HT).2.2.2.2.2.2.2.1 (by omega)
  rw [(unhide HT).2.1, tOk_place, tOk_code, tOk_if, (unhide HT).2.2.2.1] at C4
  have HC4 := hide C4
  clear C4 hr7 h7
  go_wp2_with fail
  refine (unhide HC4).mono ?_
  rintro e w8 ⟨ga, gn, gc, rfl, h8⟩
  clear HC4
  have hr8 := (unhide h8).1.row (v := .slice la ln lc) (ks := L) (by simp)
  have C5 := kwThrough (unhide h8).1 from_ (brow_srow hr8) (part_row hr8 (by simp)) (unhide HT).2.2.2.2.2.2.2.1 (by omega)
  rw [(unhide HT).2.1, tOk_place, tOk_code, tOk_if, (unhide HT).2.2.2.2.1] at C5
  have HC5 := hide C5
  clear C5 hr8 h8
  go_wp2_with fail
  refine (unhide HC5).mono ?_
  rintro e w9 ⟨sa, sn, sc, rfl, h9⟩
  clear HC5
  obtain ⟨h9, hb9⟩ := unhide h9
  have hsn : sn = st.length := by
    obtain ⟨a', c', e', -⟩ := brow_shape hb9
    injection e' with e1 e2 e3
  have HSN := hide hsn
  obtain ⟨sg, rfl⟩ := brow_some hb9 (unhide HT).2.2.2.2.2.2.2.2.2.2.2
  have CS := KW.same h9 (v1 := .slice ga gn gc) (v2 := .slice la ln lc) (a := L) (b := L) (by simp) (by simp) (by have := (unhide HT).2.2.2.2.2.2.2.1; omega)
  rw [show decide (L = L) = true from decide_eq_true rfl] at CS
  have HCS := hide CS
  clear CS h9 hb9 hsn HFIN HFC
  go_wp2_with fail
  refine (unhide HCS).mono ?_
  rintro e w10 ⟨rfl, h10⟩
  clear HCS
  obtain ⟨rdx, hrdx⟩ : ∃ rdx, KW w s ps (.slice a1 m1 q1) (.slice a2 m2 q2) rdx wr0 (120 + 61 + 61 + 61 + 61 + 61) vs es [(.slice (some ⟨sg, 0, none⟩) sn sc, st), (.slice ga gn gc, L), (.slice la ln lc, L), (.slice ea en ec, l)] w10 := ⟨_, unhide h10⟩
  have HK := hide hrdx
  have HSZ : Hid (sn ≤ 61 ∧ ln ≤ 60 ∧ en ≤ 60) := ⟨by have := unhide HSN; have := (unhide HT).2.2.2.2.2.2.2.2.1; omega, by have := unhide HLN; have := (unhide HT).2.2.2.2.2.2.2.1; omega, by have := (unhide HT).2.2.2.2.2.2.2.2.2; omega⟩
  clear h10 hrdx hcz
  go_upto_region 12 with fail
  go_wp2_with fail
  go_loopw [28, 29, 132] (fun s28 s29 s132 wr => ∃ i : Nat, s132 = .int .i64 i ∧ i ≤ sn ∧ Hid (KW w s ps (.slice a1 m1 q1) (.slice a2 m2 q2) rdx wr0 (120 + 61 + 61 + 61 + 61 + 61) vs es [(.slice (some ⟨sg, 0, none⟩) sn sc, st), (.slice ga gn gc, L), (.slice la ln lc, L), (.slice ea en ec, l)] wr)) (fun _ _ s132 _ => sn - (intOf s132).toNat)
  case atStart => exact ⟨0, rfl, Nat.zero_le _, HK⟩
  case round =>
    obtain ⟨i, rfl, hi, hS⟩ := hrel
    clear HK
    by_cases hlt : i < sn
    · have hz : (i : Int) < (sn : Int) := by omega
      obtain ⟨x, hx⟩ : ∃ x, st[i]? = some x := ⟨_, List.getElem?_eq_getElem (by have := unhide HSN; omega)⟩
      have HX := hide hx
      have hwi : wrap64 ((i : Int) + 1) = ((i + 1 : Nat) : Int) := by have := unhide HSZ; unfold wrap64; omega
      have HWI := hide hwi
      clear hx hwi
      go_wp2_with fail
      go_loopw [29] (fun s29 wr => ∃ j : Nat, s29 = .int .i64 j ∧ j ≤ i ∧ Hid (KW w s ps (.slice a1 m1 q1) (.slice a2 m2 q2) rdx wr0 (120 + 61 + 61 + 61 + 61 + 61) vs es [(.slice (some ⟨sg, 0, none⟩) sn sc, st), (.slice ga gn gc, L), (.slice la ln lc, L), (.slice ea en ec, l)] wr)) (fun s29 _ => i - (intOf s29).toNat)
      case atStart => exact ⟨0, rfl, Nat.zero_le _, hS⟩
      case round =>
        obtain ⟨j, rfl, hj, hT⟩ := hrel
        clear hS
        by_cases hjl : j < i
        · have hz2 : (j : Int) < (i : Int) := by omega
          have hz3 : (j : Int) < (sn : Int) := by omega
          obtain ⟨y, hy⟩ : ∃ y, st[j]? = some y := ⟨_, List.getElem?_eq_getElem (by have := unhide HSN; omega)⟩
          have hr := (unhide hT).row (v := .slice (some ⟨sg, 0, none⟩) sn sc) (ks := st) (by simp)
          have hcx : wr.cell? ⟨sg, i, none⟩ = some (.int .i64 x) := brow_at hr (unhide HX)
          have hcy : wr.cell? ⟨sg, j, none⟩ = some (.int .i64 y) := brow_at hr hy
          have hxy : (x == y) = false := by
            have hne : x ≠ y := fun e => by
              have := (List.getElem?_inj (List.getElem?_eq_some_iff.1 (unhide HX)).1 (unhide HT).2.2.2.2.2.1).1 ((unhide HX).trans ((congrArg some e).trans hy.symm))
              omega
            simp [hne]
          have hwj : wrap64 ((j : Int) + 1) = ((j + 1 : Nat) : Int) := by have := unhide HSZ; unfold wrap64; omega
          have HWJ := hide hwj
          clear hr hy hwj
          go_upto_region 18 with fail
          go_quiet (fail)
          have HK2 := hide ((unhide hT).below (below_drewN (Below.refl _ _) nq))
          clear hT hcx hcy
          go_wp2_with fail
          (try rw [unhide HWJ])
          exact ⟨⟨j + 1, rfl, by omega, HK2⟩, by simp [intOf]; omega⟩
        · have hz2 : ¬ (j : Int) < (i : Int) := by omega
          go_wp2_with fail
          (try rw [unhide HWI])
          exact ⟨⟨i + 1, rfl, by omega, hT⟩, by simp [intOf]; omega⟩
    · have hz : ¬ (i : Int) < (sn : Int) := by omega
      have hS3 := hS
      clear hS
      go_wp2_with fail
      go_loopw [30, 32, 152] (fun s30 s32 s152 wr => ∃ i k : Nat, s152 = .int .i64 i ∧ s30 = .int .i64 k ∧ i ≤ en ∧ k ≤ ln ∧ Hid (KW w s ps (.slice a1 m1 q1) (.slice a2 m2 q2) rdx wr0 (120 + 61 + 61 + 61 + 61 + 61) vs es [(.slice (some ⟨sg, 0, none⟩) sn sc, st), (.slice ga gn gc, L), (.slice la ln lc, L), (.slice ea en ec, l)] wr ∧ (L.drop k).Sublist (l.drop i))) (fun _ _ s152 _ => en - (intOf s152).toNat)
      case atStart => exact ⟨0, 0, rfl, rfl, Nat.zero_le _, Nat.zero_le _, unhide hS3, (unhide HT).2.2.2.2.2.2.1⟩
      case round =>
        obtain ⟨i, k, rfl, rfl, hi, hk, hT⟩ := hrel
        clear hS3
        by_cases hlt : i < en
        · have hz4 : (i : Int) < (en : Int) := by omega
          obtain ⟨x, hx⟩ : ∃ x, l[i]? = some x := ⟨_, List.getElem?_eq_getElem (by have := (unhide HT).2.2.2.2.2.2.2.2.2.2.1; omega)⟩
          have hdx : l.drop i = x :: l.drop (i + 1) := by
            obtain ⟨h1, h2⟩ := List.getElem?_eq_some_iff.1 hx
            rw [List.drop_eq_getElem_cons h1, h2]
          have hr := (unhide hT).1.row (v := .slice ea en ec) (ks := l) (by simp)
          obtain ⟨eg, rfl⟩ := brow_some hr (by have := (unhide HT).2.2.2.2.2.2.2.2.2.2.1; omega)
          have hcx : wr.cell? ⟨eg, i, none⟩ = some (.int .i64 x) := brow_at hr hx
          have hwi : wrap64 ((i : Int) + 1) = ((i + 1 : Nat) : Int) := by have := unhide HSZ; unfold wrap64; omega
          have hwk : wrap64 ((k : Int) + 1) = ((k + 1 : Nat) : Int) := by have := unhide HSZ; unfold wrap64; omega
          have HWI := hide (And.intro hwi hwk)
          by_cases hkl : k < ln
          · have hz5 : (k : Int) < (ln : Int) := by omega
            obtain ⟨y, hy⟩ : ∃ y, L[k]? = some y := ⟨_, List.getElem?_eq_getElem (by have := unhide HLN; omega)⟩
            have hdy : L.drop k = y :: L.drop (k + 1) := by
              obtain ⟨h1, h2⟩ := List.getElem?_eq_some_iff.1 hy
              rw [List.drop_eq_getElem_cons h1, h2]
            have hr2 := (unhide hT).1.row (v := .slice la ln lc) (ks := L) (by simp)
            obtain ⟨lg, rfl⟩ := brow_some hr2 (by have := unhide HLN; omega)
            have hcy : wr.cell? ⟨lg, k, none⟩ = some (.int .i64 y) := brow_at hr2 hy
            have hsub := (unhide hT).2
            rw [hdx, hdy] at hsub
            by_cases hxy : y = x
            · subst hxy
              have HT2 : Hid (KW w s ps (.slice a1 m1 q1) (.slice a2 m2 q2) rdx wr0 (120 + 61 + 61 + 61 + 61 + 61) vs es [(.slice (some ⟨sg, 0, none⟩) sn sc, st), (.slice ga gn gc, L), (.slice (some ⟨lg, 0, none⟩) ln lc, L), (.slice (some ⟨eg, 0, none⟩) en ec, l)] wr ∧ (L.drop (k + 1)).Sublist (l.drop (i + 1))) := ⟨(unhide hT).1, greedy_hit hsub⟩
              clear hx hdx hr hr2 hy hdy hsub hT hwi hwk
              go_wp2_with fail
              (try rw [(unhide HWI).1])
              (try rw [(unhide HWI).2])
              exact ⟨⟨i + 1, k + 1, rfl, rfl, by omega, by omega, HT2⟩, by simp [intOf]; omega⟩
            · have hyx : (y == x) = false := by simp [hxy]
              have HT2 : Hid (KW w s ps (.slice a1 m1 q1) (.slice a2 m2 q2) rdx wr0 (120 + 61 + 61 + 61 + 61 + 61) vs es [(.slice (some ⟨sg, 0, none⟩) sn sc, st), (.slice ga gn gc, L), (.slice (some ⟨lg, 0, none⟩) ln lc, L), (.slice (some ⟨eg, 0, none⟩) en ec, l)] wr ∧ (L.drop k).Sublist (l.drop (i + 1))) := ⟨(unhide hT).1, by rw [hdy]; exact greedy_miss hsub hxy⟩
              clear hx hdx hr hr2 hy hdy hsub hT hwi hwk hxy
              go_wp2_with fail
              (try rw [(unhide HWI).1])
              exact ⟨⟨i + 1, k, rfl, rfl, by omega, by omega, HT2⟩, by simp [intOf]; omega⟩
          · have hz5 : ¬ (k : Int) < (ln : Int) := by omega
            have HT2 : Hid (KW w s ps (.slice a1 m1 q1) (.slice a2 m2 q2) rdx wr0 (120 + 61 + 61 + 61 + 61 + 61) vs es [(.slice (some ⟨sg, 0, none⟩) sn sc, st), (.slice ga gn gc, L), (.slice la ln lc, L), (.slice (some ⟨eg, 0, none⟩) en ec, l)] wr ∧ (L.drop k).Sublist (l.drop (i + 1))) := ⟨(unhide hT).1, by rw [List.drop_of_length_le (by have := unhide HLN; omega)]; exact List.nil_sublist _⟩
            clear hx hdx hr hT hwi hwk
            go_wp2_with fail
            (try rw [(unhide HWI).1])
            exact ⟨⟨i + 1, k, rfl, rfl, by omega, by omega, HT2⟩, by simp [intOf]; omega⟩
        · have hz4 : ¬ (i : Int) < (en : Int) := by omega
          obtain rfl : k = ln := by
            have h1 := (unhide hT).2
            have hd0 : l.drop i = [] := List.drop_of_length_le (by have := (unhide HT).2.2.2.2.2.2.2.2.2.2.1; omega)
            rw [hd0] at h1
            have h2 := List.sublist_nil.1 h1
            have h3 := List.drop_eq_nil_iff.1 h2
            have := unhide HLN
            omega
          have HB := hide (unhide hT).1.out
          clear hT
          go_wp2_with fail
          go_ret
          exact ⟨rfl, unhide HB⟩
end Go.Proofs.YtgocbcacfcfblaaGreat

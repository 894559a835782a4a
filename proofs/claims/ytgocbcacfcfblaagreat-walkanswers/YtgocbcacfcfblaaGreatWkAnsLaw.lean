/- WalkAnswers, walked. -/
import Derived.Test.YtgocbcacfcfblaaGreatWkBox
namespace Go.Proofs.YtgocbcacfcfblaaGreat
open Go.RowKit Go.Maps

theorem bOk_place (d : List EdgeV) : tPlace (d, none) = 0 := if_pos rfl
theorem bOk_code (d : List EdgeV) : tCode (d, none) = 0 := rfl
theorem bOk_if {α : Type} (d : List EdgeV) (x y : α) : (if (d, (none : Option Int)).2 = none then x else y) = x := if_pos rfl
theorem bOk_ans (a : Int) (d : List EdgeV) : fAns a (d, none) = .tuple #[.int .i64 (endOf a d), .int .u32 (costOf d), .int .i64 0, .int .i64 0] := if_pos rfl
theorem bNo_place (d : List EdgeV) (c : Int) : tPlace (d, some c) = d.length := if_neg (by simp)
theorem bNo_if {α : Type} (d : List EdgeV) (c : Int) (x y : α) : (if (d, some c).2 = none then x else y) = y := if_neg (by simp)
theorem bNo_ans (a : Int) (d : List EdgeV) (c : Int) : fAns a (d, some c) = .tuple #[.int .i64 0, .int .u32 0, .int .i64 d.length, .int .i64 c] := if_neg (by simp)
/-- How it may end. -/
theorem trip_ends (ps : List (EdgeV × Bool)) (a : Int) : ∀ (es : List Int), (∃ d, trip ps a es = (d, none) ∧ Way ps a es d) ∨ (∃ d, trip ps a es = (d, some 6) ∧ d.length < es.length) ∨ ∃ d, trip ps a es = (d, some 80) ∧ d.length < es.length := by
  intro es
  induction es generalizing a with
  | nil => exact .inl ⟨[], rfl, rfl⟩
  | cons e es ih =>
    rw [trip]
    cases hl : lk ps e with
    | none => exact .inr (.inl ⟨[], rfl, by simp⟩)
    | some x =>
      simp only
      by_cases hx : x.2.1 = a
      · rw [if_pos hx]
        rcases ih x.2.2.1 with ⟨d, h1, h2⟩ | ⟨d, h1, h2⟩ | ⟨d, h1, h2⟩
        · exact .inl ⟨x :: d, by rw [h1], x, d, rfl, hl, hx, h2⟩
        · exact .inr (.inl ⟨x :: d, by rw [h1], by simpa using h2⟩)
        · exact .inr (.inr ⟨x :: d, by rw [h1], by simpa using h2⟩)
      · rw [if_neg hx]; exact .inr (.inr ⟨[], rfl, by simp⟩)

set_option maxHeartbeats 16000000 in
set_option maxRecDepth 100000 in
theorem answers_any [Inhabited EntI] (a : Option Addr) (len cap : Nat) (o : Nat → OpV) (from_ : Int) (hf0 : okN from_) (ia : Option Addr) (il ic : Nat) (pks : List Int) (w : World) (h : IsOps w a len o) (hp : SRow w (.slice ia il ic) pks) (hic : il ≤ ic) (hi0 : ia = none → il = 0 ∧ ic = 0) :
    Calls Tryz.prog 3 #[.slice a len cap, .int .i64 from_, .slice ia il ic] w fun e w' => e = .returned (.bool true) ∧ Below w.heap.size w w' := by
  have HIC : Hid (il ≤ ic ∧ (ia = none → il = 0 ∧ ic = 0)) := ⟨hic, hi0⟩
  clear hic hi0
  have CB := hide (builtS a len cap o w h)
  have CW : Hid (∀ W, Calls Tryz.prog 8 #[] W fun e w' => e = .returned (.bool true) ∧ Below W.heap.size W w') := fun W => awake8S W
  have HP := hide hp
  have HF0 := hide hf0
  clear hp
  clear h hf0
  go_enter Tryz.func3, Tryz.ntmps3
  go_wp2_with fail
  refine (unhide CB).mono ?_
  rintro e w1 hh
  obtain ⟨s, a1, m1, q1, a2, m2, q2, rd, wr0, rfl, n, X, g, vs, es, hn, hG, hs, hL, hB, hrd, hwr⟩ := unhide hh
  have hKW := kw_built hG hn hs hrd hwr (Below.refl w.heap.size w) hL hB
  have HKW := hide (kb_of_kw hKW (oG (.slice a1 m1 q1) (.slice a2 m2 q2) rd wr0))
  have hrd0 : 0 ≤ rd ∧ rd ≤ 120 := by
    have h1 := hG.bnd.rd0
    have h2 := hG.bnd.rd1
    rw [hrd] at h1 h2
    exact ⟨h1, by omega⟩
  have HRD := hide hrd0
  clear hrd0
  have HBX := hide (And.intro hB hL)
  generalize g.ps = ps at *
  have HG : Hid (∀ V, Below (w1.alloc (oG (.slice a1 m1 q1) (.slice a2 m2 q2) rd wr0)).heap.size (w1.alloc (oG (.slice a1 m1 q1) (.slice a2 m2 q2) rd wr0)) V → (V.cell? ⟨w1.heap.size, 0, none⟩ = some (.slice a1 m1 q1) ∧ V.cell? ⟨w1.heap.size, 1, none⟩ = some (.slice a2 m2 q2) ∧ V.cell? ⟨w1.heap.size, 2, none⟩ = some (.int .i64 rd) ∧ V.cell? ⟨w1.heap.size, 3, none⟩ = some (.int .i64 wr0))) := fun V hV => by
    have hg : V.heap[w1.heap.size]? = some (oG (.slice a1 m1 q1) (.slice a2 m2 q2) rd wr0) := (hV.block _ (by simp)).trans (heap_alloc_new _ _)
    obtain ⟨c0, c1, c2, c3, -⟩ := cellsG hg
    exact ⟨c0, c1, c2, c3⟩
  clear hh hG hs hL hB hrd hwr CB hn hKW HBX
  go_upto_region 2 with fail
  change Code.wp _ _ _ _ (w1.alloc (oG (.slice a1 m1 q1) (.slice a2 m2 q2) rd wr0))
  generalize w1.alloc (oG (.slice a1 m1 q1) (.slice a2 m2 q2) rd wr0) = w2 at *
  generalize w1.heap.size = b1 at *
  go_wp2_with fail
  refine (unhide CW _).mono ?_
  rintro e w3 ⟨rfl, hb3⟩
  have CC := hide (cutS (w := w3) ((unhide HP).below ((unhide HKW).below hb3).out) (unhide HIC).1 (unhide HIC).2)
  have HK3 := hide ((unhide HKW).below hb3)
  clear CW HG hb3 HKW HP HIC
  go_wp2_with fail
  refine (unhide CC).mono ?_
  rintro e w4 ⟨ka, kn, kc, rfl, h4⟩
  clear CC
  obtain ⟨g4, bb4⟩ := unhide h4
  have hK4 := (unhide HK3).more bb4 g4
  clear h4 HK3
  obtain ⟨K, hKd⟩ : ∃ K, K = pks.take 60 := ⟨_, rfl⟩
  rw [← hKd] at g4 hK4
  have hK60 : K.length ≤ 60 := by rw [hKd, List.length_take]; omega
  obtain ⟨a', c', e', hkc⟩ := brow_shape g4
  injection e' with e1 e2 e3
  have HKN : Hid (kn = K.length ∧ kn ≤ 60 ∧ kn ≤ kc ∧ K.take 60 = K ∧ (ka = none → kn = 0 ∧ kc = 0)) := ⟨e2, by omega, by omega, List.take_of_length_le hK60, fun e => by
    rcases g4.2 with ⟨q, -⟩ | ⟨g, cap, cur, q, -⟩
    · injection q with q1 q2 q3; exact ⟨q2, q3⟩
    · injection q with q1; rw [e] at q1; cases q1⟩
  have HK4 := hide hK4
  have CT := refThroughS (vv := .slice a1 m1 q1) (rd := rd) (wr0 := wr0) from_ hK4.graph.1 hK4.gr8 (brow_srow g4) hK60
  obtain ⟨c0, c1, c2, c3, -⟩ := cellsG (hK4.box (b := b1) (o := oG (.slice a1 m1 q1) (.slice a2 m2 q2) rd wr0) (by simp))
  clear hK4 g4 bb4 hK60 hkc e1 e2 e3 hKd
  rcases trip_ends ps from_ K with ⟨d, ht, hW⟩ | ⟨d, ht, hdl⟩ | ⟨d, ht, hdl⟩
  · have HT := hide ht
    rw [ht] at CT
    have hdk : d.length = K.length := hW.len
    have HW := hide hW
    have HRR : Hid (tReads (trip ps from_ K) = kn) := by rw [Hid, ht]; unfold tReads; rw [if_neg (by simp)]; have := (unhide HKN).1; simp; omega
    have HCT := hide CT
    clear CT ht hW hdk
    go_wp2_with fail
    refine (unhide HCT).mono ?_
    rintro e w5 hh
    clear HCT c0 c1 c2 c3
    obtain ⟨ta, tn, tc, rfl, g5, bb5⟩ := unhide hh
    rw [bOk_place, bOk_code]
    rw [bOk_if] at g5
    have hK5 := (unhide HK4).more bb5 g5
    have HK5 := hide hK5
    clear hh g5 bb5 hK5 HK4
    go_wp2_with fail
    go_loopw [13, 14] (fun s13 s14 wr => ∃ i : Nat, s13 = .int .i64 i ∧ s14 = .int .i64 i ∧ i ≤ kn ∧ wr = w5) (fun _ s14 _ => kn - (intOf s14).toNat)
    case atStart => exact ⟨0, rfl, rfl, Nat.zero_le _, rfl⟩
    case round =>
      obtain ⟨i, rfl, rfl, hi, rfl⟩ := hrel
      by_cases hlt : i < kn
      · have hz1 : (i : Int) < (kn : Int) := by omega
        have hwi : wrap64 ((i : Int) + 1) = ((i + 1 : Nat) : Int) := by have := unhide HKN; unfold wrap64; omega
        have HWI := hide hwi
        clear hwi
        go_wp2_with fail
        (try rw [unhide HWI])
        exact ⟨⟨i + 1, rfl, rfl, by omega, by trivial⟩, by simp [intOf] <;> omega⟩
      · have HI : Hid (i = kn) := by show i = kn; omega
        have hz1 : ¬ (i : Int) < (kn : Int) := by omega
        obtain rfl : i = kn := unhide HI
        clear HI hlt hi
        have CR := hide (kbReads (unhide HK5))
        go_wp2_with fail
        refine (unhide CR).mono ?_
        rintro e w5 ⟨rfl, rfl⟩
        clear CR
        have hr1 := (unhide HK5).row (v := .slice ka i kc) (ks := K) (by simp)
        have CC1 := hide (cutS (w := w5) (brow_srow hr1) (unhide HKN).2.2.1 (unhide HKN).2.2.2.2)
        clear hr1
        go_wp2_with fail
        refine (unhide CC1).mono ?_
        rintro e w6 ⟨xa1, xn1, xc1, rfl, hx1⟩
        clear CC1
        obtain ⟨gx1, bx1⟩ := unhide hx1
        rw [(unhide HKN).2.2.2.1] at gx1
        have hq1 := (unhide HK5).more bx1 gx1
        clear hx1 HK5
        have CF := kbFollow hq1 from_ (brow_srow gx1) (part_row gx1 (by simp)) (by have := unhide HKN; omega) (by omega)
        rw [unhide HRR, unhide HT, bOk_ans] at CF
        have HCF := hide CF
        clear CF hq1 gx1 bx1
        go_wp2_with fail
        refine (unhide HCF).mono ?_
        rintro e w7 ⟨rfl, h7⟩
        clear HCF
        have hr2 := (unhide h7).row (v := .slice ka i kc) (ks := K) (by simp)
        have CC2 := hide (cutS (w := w7) (brow_srow hr2) (unhide HKN).2.2.1 (unhide HKN).2.2.2.2)
        clear hr2
        go_wp2_with fail
        refine (unhide CC2).mono ?_
        rintro e w8 ⟨xa2, xn2, xc2, rfl, hx2⟩
        clear CC2
        obtain ⟨gx2, bx2⟩ := unhide hx2
        rw [(unhide HKN).2.2.2.1] at gx2
        have hq2 := (unhide h7).more bx2 gx2
        clear hx2 h7
        have CG := kbThrough hq2 from_ (brow_srow gx2) (part_row gx2 (by simp)) (by have := unhide HKN; omega) (by omega)
        rw [unhide HRR, unhide HT, bOk_place, bOk_code, bOk_if] at CG
        have HCG := hide CG
        clear CG hq2 gx2 bx2
        go_wp2_with fail
        refine (unhide HCG).mono ?_
        rintro e w9 ⟨la, ln, lc, rfl, h9⟩
        clear HCG
        have H9 := hide (unhide h9).1
        have HLL : Hid (ln = (stopsOf from_ d).length) := by
          obtain ⟨a', c', e', -⟩ := brow_shape (unhide h9).2
          injection e'
        clear h9
        have hr3 := (unhide H9).row (v := .slice ka i kc) (ks := K) (by simp)
        have CC3 := hide (cutS (w := w9) (brow_srow hr3) (unhide HKN).2.2.1 (unhide HKN).2.2.2.2)
        clear hr3
        go_wp2_with fail
        refine (unhide CC3).mono ?_
        rintro e w10 ⟨xa3, xn3, xc3, rfl, hx3⟩
        clear CC3
        obtain ⟨gx3, bx3⟩ := unhide hx3
        rw [(unhide HKN).2.2.2.1] at gx3
        have hq3 := (unhide H9).more bx3 gx3
        clear hx3 H9
        have CS := kbSimple hq3 from_ (unhide HF0) (brow_srow gx3) (part_row gx3 (by simp)) (by have := unhide HKN; omega) (by omega)
        rw [unhide HRR, unhide HT, bOk_place, bOk_code, bOk_if] at CS
        have HCS := hide CS
        clear CS hq3 gx3 bx3
        go_wp2_with fail
        refine (unhide HCS).mono ?_
        rintro e w11 ⟨sa, sn, sc, rfl, h11⟩
        clear HCS
        have HK := hide (unhide h11).1
        have HLS : Hid (sn = ((trail8 from_ d).2).length) := by
          obtain ⟨a', c', e', -⟩ := brow_shape (unhide h11).2
          injection e'
        clear h11
        have CR2 := kbReads (unhide HK)
        rw [show rd + ((i : Nat) : Int) + ((i : Nat) : Int) + ((i : Nat) : Int) = rd + 3 * (i : Int) by omega] at CR2
        have HCR2 := hide CR2
        have hm1 : wrap64 (3 * (i : Int)) = 3 * (i : Int) := by have := unhide HKN; unfold wrap64; omega
        have hm2 : IntKind.i64.wrap (3 * (i : Int)) = 3 * (i : Int) := by have := unhide HKN; rw [IntKind.wrap_i64]; omega
        have hm3 : wrap64 (rd + 3 * (i : Int)) = rd + 3 * (i : Int) := by have := unhide HKN; have := unhide HRD; unfold wrap64; omega
        have hm4 : IntKind.i64.wrap (rd + 3 * (i : Int)) = rd + 3 * (i : Int) := by have := unhide HKN; have := unhide HRD; rw [IntKind.wrap_i64]; omega
        clear CR2
        go_wp2_with fail
        refine (unhide HCR2).mono ?_
        rintro e w11 ⟨rfl, rfl⟩
        clear HCR2
        go_upto_region 17 with fail
        clear hm1 hm2 hm3 hm4
        have hK := unhide HK
        have hrT := hK.row (v := .slice ta tn tc) (ks := stopsOf from_ d) (by simp)
        have hrK := hK.row (v := .slice ka i kc) (ks := K) (by simp)
        have hdl : d.length = i := by rw [(unhide HW).len, (unhide HKN).1]
        obtain ⟨tg, rfl⟩ := brow_some hrT (by rw [stopsOf_len]; omega)
        have hti : (i : Int) < (tn : Int) := by
          obtain ⟨a', c', e', -⟩ := brow_shape hrT
          injection e' with e1 e2 e3
          rw [stopsOf_len] at e2
          omega
        have hce : w11.cell? ⟨tg, i, none⟩ = some (.int .i64 (endOf from_ d)) := brow_at hrT (by rw [← hdl]; exact stops_end from_ d)
        obtain ⟨c0, c1, c2, c3, -⟩ := cellsG (hK.box (b := b1) (o := oG (.slice a1 m1 q1) (.slice a2 m2 q2) rd wr0) (by simp))
        have hwt : ∀ x ∈ es, Wt x := fun x hx => by
          obtain ⟨-, -, -, g4, -, g6⟩ := hK.graph
          obtain ⟨jj, -, hjj⟩ := lk_some (g4 x hx)
          exact (g6 jj x hjj).2
        have CO := hide (refCostS (vv := .slice a1 m1 q1) (rd := rd) (wr0 := wr0) from_ hK.graph.1 hK.gr8 (brow_srow hrK) (by have := unhide HKN; omega) (unhide HW) hwt)
        have HNU : Hid (K = d.map (·.1)) := (unhide HW).nums hK.named
        have HDL := hide hdl
        clear hK hrT hrK hdl hwt
        generalize endOf from_ d = fin at *
        generalize costOf d = cst at *
        go_wp2_with fail
        refine (unhide CO).mono ?_
        rintro e w12 ⟨rfl, b12⟩
        have HK12 := hide ((unhide HK).below (unhide b12))
        clear CO HK b12 hce c0 c1 c2 c3
        have C13 := KB.same (unhide HK12) (v1 := .slice la ln lc) (v2 := .slice (some ⟨tg, 0, none⟩) tn tc) (a := stopsOf from_ d) (b := stopsOf from_ d) (by simp) (by simp) (by rw [stopsOf_len]; have := unhide HDL; have := unhide HKN; omega)
        rw [show decide (stopsOf from_ d = stopsOf from_ d) = true from decide_eq_true rfl] at C13
        have HC13 := hide C13
        clear C13 HK12
        go_wp2_with fail
        refine (unhide HC13).mono ?_
        rintro e w13 ⟨rfl, h13⟩
        clear HC13
        have C14 := hide (refSimpleS from_ 61 d (by have := unhide HDL; have := unhide HKN; omega) (by have := unhide HDL; have := unhide HKN; omega) w13 _ _ ((unhide h13).row (v := .slice (some ⟨tg, 0, none⟩) tn tc) (ks := stopsOf from_ d) (by simp)) (by rw [← unhide HNU]; exact (unhide h13).row (v := .slice ka i kc) (ks := K) (by simp)))
        go_wp2_with fail
        refine (unhide C14).mono ?_
        rintro e w14 hh
        obtain ⟨ra, rn, rc, rfl, g14, b14⟩ := unhide hh
        have h14 := (unhide h13).more b14 g14
        have C15 := KB.same h14 (v1 := .slice sa sn sc) (v2 := .slice ra rn rc) (a := (trail8 from_ d).2) (b := (trail8 from_ d).2) (by simp) (by simp) (by have := trail_len from_ d; have := unhide HDL; have := unhide HKN; omega)
        rw [show decide ((trail8 from_ d).2 = (trail8 from_ d).2) = true from decide_eq_true rfl] at C15
        have HC15 := hide C15
        clear C15 C14 hh h14 g14 b14 h13
        go_wp2_with fail
        refine (unhide HC15).mono ?_
        rintro e w15 ⟨rfl, h15⟩
        have HB := hide (unhide h15).out
        clear HC15 h15
        go_wp2_with fail
        go_ret
        exact ⟨rfl, unhide HB⟩
  · have HT := hide ht
    rw [ht] at CT
    obtain ⟨pl, hpl⟩ : ∃ pl, pl = d.length := ⟨_, rfl⟩
    have HPL := hide hpl
    have hpk : (pl : Int) < (kn : Int) := by have := (unhide HKN).1; omega
    have hpkn : pl < kn := by omega
    have HRR : Hid (tReads (trip ps from_ K) = pl) := by rw [Hid, ht]; unfold tReads; rw [if_neg (by simp)]; simp only; omega
    have HCT := hide CT
    clear CT ht hpl hdl
    go_wp2_with fail
    refine (unhide HCT).mono ?_
    rintro e w5 hh
    clear HCT c0 c1 c2 c3
    obtain ⟨ta, tn, tc, rfl, g5, bb5⟩ := unhide hh
    rw [bNo_place, ← unhide HPL, show tCode (d, some 6) = 6 from rfl]
    rw [bNo_if] at g5
    have hK5 := (unhide HK4).more bb5 g5
    have HK5 := hide hK5
    clear hh g5 bb5 hK5 HK4
    go_wp2_with fail
    go_loopw [13, 14] (fun s13 s14 wr => ∃ i : Nat, s13 = .int .i64 i ∧ s14 = .int .i64 i ∧ i ≤ pl ∧ wr = w5) (fun _ s14 _ => pl - (intOf s14).toNat)
    case atStart => exact ⟨0, rfl, rfl, Nat.zero_le _, rfl⟩
    case round =>
      obtain ⟨i, rfl, rfl, hi, rfl⟩ := hrel
      by_cases hlt : i < pl
      · have hz1 : (i : Int) < (kn : Int) := by omega
        have hwi : wrap64 ((i : Int) + 1) = ((i + 1 : Nat) : Int) := by have := unhide HKN; unfold wrap64; omega
        have HWI := hide hwi
        clear hwi
        have hz2 : (i : Int) < (pl : Int) := by omega
        go_wp2_with fail
        (try rw [unhide HWI])
        exact ⟨⟨i + 1, rfl, rfl, by omega, by trivial⟩, by simp [intOf] <;> omega⟩
      · have HI : Hid (i = pl) := by show i = pl; omega
        obtain rfl : i = pl := unhide HI
        have hz2 : ¬ (i : Int) < (i : Int) := by omega
        clear HI hlt hi
        have CR := hide (kbReads (unhide HK5))
        go_wp2_with fail
        refine (unhide CR).mono ?_
        rintro e w5 ⟨rfl, rfl⟩
        clear CR
        have hr1 := (unhide HK5).row (v := .slice ka kn kc) (ks := K) (by simp)
        have CC1 := hide (cutS (w := w5) (brow_srow hr1) (unhide HKN).2.2.1 (unhide HKN).2.2.2.2)
        clear hr1
        go_wp2_with fail
        refine (unhide CC1).mono ?_
        rintro e w6 ⟨xa1, xn1, xc1, rfl, hx1⟩
        clear CC1
        obtain ⟨gx1, bx1⟩ := unhide hx1
        rw [(unhide HKN).2.2.2.1] at gx1
        have hq1 := (unhide HK5).more bx1 gx1
        clear hx1 HK5
        have CF := kbFollow hq1 from_ (brow_srow gx1) (part_row gx1 (by simp)) (by have := unhide HKN; omega) (by omega)
        rw [unhide HRR, unhide HT, bNo_ans, ← unhide HPL] at CF
        have HCF := hide CF
        clear CF hq1 gx1 bx1
        go_wp2_with fail
        refine (unhide HCF).mono ?_
        rintro e w7 ⟨rfl, h7⟩
        clear HCF
        have hr2 := (unhide h7).row (v := .slice ka kn kc) (ks := K) (by simp)
        have CC2 := hide (cutS (w := w7) (brow_srow hr2) (unhide HKN).2.2.1 (unhide HKN).2.2.2.2)
        clear hr2
        go_wp2_with fail
        refine (unhide CC2).mono ?_
        rintro e w8 ⟨xa2, xn2, xc2, rfl, hx2⟩
        clear CC2
        obtain ⟨gx2, bx2⟩ := unhide hx2
        rw [(unhide HKN).2.2.2.1] at gx2
        have hq2 := (unhide h7).more bx2 gx2
        clear hx2 h7
        have CG := kbThrough hq2 from_ (brow_srow gx2) (part_row gx2 (by simp)) (by have := unhide HKN; omega) (by omega)
        rw [unhide HRR, unhide HT, bNo_place, ← unhide HPL, show tCode (d, some 6) = 6 from rfl, bNo_if] at CG
        have HCG := hide CG
        clear CG hq2 gx2 bx2
        go_wp2_with fail
        refine (unhide HCG).mono ?_
        rintro e w9 ⟨la, ln, lc, rfl, h9⟩
        clear HCG
        have H9 := hide (unhide h9).1
        have HLL : Hid (ln = (([] : List Int)).length) := by
          obtain ⟨a', c', e', -⟩ := brow_shape (unhide h9).2
          injection e'
        clear h9
        have hr3 := (unhide H9).row (v := .slice ka kn kc) (ks := K) (by simp)
        have CC3 := hide (cutS (w := w9) (brow_srow hr3) (unhide HKN).2.2.1 (unhide HKN).2.2.2.2)
        clear hr3
        go_wp2_with fail
        refine (unhide CC3).mono ?_
        rintro e w10 ⟨xa3, xn3, xc3, rfl, hx3⟩
        clear CC3
        obtain ⟨gx3, bx3⟩ := unhide hx3
        rw [(unhide HKN).2.2.2.1] at gx3
        have hq3 := (unhide H9).more bx3 gx3
        clear hx3 H9
        have CS := kbSimple hq3 from_ (unhide HF0) (brow_srow gx3) (part_row gx3 (by simp)) (by have := unhide HKN; omega) (by omega)
        rw [unhide HRR, unhide HT, bNo_place, ← unhide HPL, show tCode (d, some 6) = 6 from rfl, bNo_if] at CS
        have HCS := hide CS
        clear CS hq3 gx3 bx3
        go_wp2_with fail
        refine (unhide HCS).mono ?_
        rintro e w11 ⟨sa, sn, sc, rfl, h11⟩
        clear HCS
        have HK := hide (unhide h11).1
        have HLS : Hid (sn = (([] : List Int)).length) := by
          obtain ⟨a', c', e', -⟩ := brow_shape (unhide h11).2
          injection e'
        clear h11
        have CR2 := kbReads (unhide HK)
        rw [show rd + ((i : Nat) : Int) + ((i : Nat) : Int) + ((i : Nat) : Int) = rd + 3 * (i : Int) by omega] at CR2
        have HCR2 := hide CR2
        have hm1 : wrap64 (3 * (i : Int)) = 3 * (i : Int) := by have := unhide HKN; unfold wrap64; omega
        have hm2 : IntKind.i64.wrap (3 * (i : Int)) = 3 * (i : Int) := by have := unhide HKN; rw [IntKind.wrap_i64]; omega
        have hm3 : wrap64 (rd + 3 * (i : Int)) = rd + 3 * (i : Int) := by have := unhide HKN; have := unhide HRD; unfold wrap64; omega
        have hm4 : IntKind.i64.wrap (rd + 3 * (i : Int)) = rd + 3 * (i : Int) := by have := unhide HKN; have := unhide HRD; rw [IntKind.wrap_i64]; omega
        clear CR2
        go_wp2_with fail
        refine (unhide HCR2).mono ?_
        rintro e w11 ⟨rfl, rfl⟩
        clear HCR2
        obtain rfl : ln = 0 := unhide HLL
        obtain rfl : sn = 0 := unhide HLS
        have HB := hide (unhide HK).out
        clear HK HLL HLS
        go_wp2_with fail
        go_ret
        exact ⟨rfl, unhide HB⟩
  · have HT := hide ht
    rw [ht] at CT
    obtain ⟨pl, hpl⟩ : ∃ pl, pl = d.length := ⟨_, rfl⟩
    have HPL := hide hpl
    have hpk : (pl : Int) < (kn : Int) := by have := (unhide HKN).1; omega
    have hpkn : pl < kn := by omega
    have HRR : Hid (tReads (trip ps from_ K) = pl + 1) := by rw [Hid, ht]; unfold tReads; rw [if_pos rfl]; simp only; omega
    have HCT := hide CT
    clear CT ht hpl hdl
    go_wp2_with fail
    refine (unhide HCT).mono ?_
    rintro e w5 hh
    clear HCT c0 c1 c2 c3
    obtain ⟨ta, tn, tc, rfl, g5, bb5⟩ := unhide hh
    rw [bNo_place, ← unhide HPL, show tCode (d, some 80) = 80 from rfl]
    rw [bNo_if] at g5
    have hK5 := (unhide HK4).more bb5 g5
    have HK5 := hide hK5
    clear hh g5 bb5 hK5 HK4
    go_wp2_with fail
    go_loopw [13, 14] (fun s13 s14 wr => ∃ i : Nat, s13 = .int .i64 i ∧ s14 = .int .i64 i ∧ i ≤ (pl + 1) ∧ wr = w5) (fun _ s14 _ => (pl + 1) - (intOf s14).toNat)
    case atStart => exact ⟨0, rfl, rfl, Nat.zero_le _, rfl⟩
    case round =>
      obtain ⟨i, rfl, rfl, hi, rfl⟩ := hrel
      by_cases hlt : i < (pl + 1)
      · have hz1 : (i : Int) < (kn : Int) := by omega
        have hwi : wrap64 ((i : Int) + 1) = ((i + 1 : Nat) : Int) := by have := unhide HKN; unfold wrap64; omega
        have HWI := hide hwi
        clear hwi
        by_cases hip : i < pl
        · have hz2 : (i : Int) < (pl : Int) := by omega
          clear hip
          go_wp2_with fail
          (try rw [unhide HWI])
          exact ⟨⟨i + 1, rfl, rfl, by omega, by trivial⟩, by simp [intOf] <;> omega⟩
        · obtain rfl : i = pl := by omega
          have hz2 : ¬ (i : Int) < (i : Int) := by omega
          clear hip
          go_wp2_with fail
          (try rw [unhide HWI])
          exact ⟨⟨i + 1, rfl, rfl, by omega, by trivial⟩, by simp [intOf] <;> omega⟩
      · have HI : Hid (i = (pl + 1)) := by show i = (pl + 1); omega
        obtain rfl : i = pl + 1 := unhide HI
        have hz2 : ¬ ((pl + 1 : Nat) : Int) < (pl : Int) := by omega
        have hz3 : (((pl + 1 : Nat) : Int) == (pl : Int)) = false := by simp; omega
        have hz4 : ¬ ((pl + 1 : Nat) : Int) = (pl : Int) := by omega
        by_cases hpq : pl + 1 < kn
        · have hz5 : ((pl + 1 : Nat) : Int) < (kn : Int) := by omega
          clear hpq
          clear HI hlt hi
          have CR := hide (kbReads (unhide HK5))
          go_wp2_with fail
          refine (unhide CR).mono ?_
          rintro e w5 ⟨rfl, rfl⟩
          clear CR
          have hr1 := (unhide HK5).row (v := .slice ka kn kc) (ks := K) (by simp)
          have CC1 := hide (cutS (w := w5) (brow_srow hr1) (unhide HKN).2.2.1 (unhide HKN).2.2.2.2)
          clear hr1
          go_wp2_with fail
          refine (unhide CC1).mono ?_
          rintro e w6 ⟨xa1, xn1, xc1, rfl, hx1⟩
          clear CC1
          obtain ⟨gx1, bx1⟩ := unhide hx1
          rw [(unhide HKN).2.2.2.1] at gx1
          have hq1 := (unhide HK5).more bx1 gx1
          clear hx1 HK5
          have CF := kbFollow hq1 from_ (brow_srow gx1) (part_row gx1 (by simp)) (by have := unhide HKN; omega) (by omega)
          rw [unhide HRR, unhide HT, bNo_ans, ← unhide HPL] at CF
          have HCF := hide CF
          clear CF hq1 gx1 bx1
          go_wp2_with fail
          refine (unhide HCF).mono ?_
          rintro e w7 ⟨rfl, h7⟩
          clear HCF
          have hr2 := (unhide h7).row (v := .slice ka kn kc) (ks := K) (by simp)
          have CC2 := hide (cutS (w := w7) (brow_srow hr2) (unhide HKN).2.2.1 (unhide HKN).2.2.2.2)
          clear hr2
          go_wp2_with fail
          refine (unhide CC2).mono ?_
          rintro e w8 ⟨xa2, xn2, xc2, rfl, hx2⟩
          clear CC2
          obtain ⟨gx2, bx2⟩ := unhide hx2
          rw [(unhide HKN).2.2.2.1] at gx2
          have hq2 := (unhide h7).more bx2 gx2
          clear hx2 h7
          have CG := kbThrough hq2 from_ (brow_srow gx2) (part_row gx2 (by simp)) (by have := unhide HKN; omega) (by omega)
          rw [unhide HRR, unhide HT, bNo_place, ← unhide HPL, show tCode (d, some 80) = 80 from rfl, bNo_if] at CG
          have HCG := hide CG
          clear CG hq2 gx2 bx2
          go_wp2_with fail
          refine (unhide HCG).mono ?_
          rintro e w9 ⟨la, ln, lc, rfl, h9⟩
          clear HCG
          have H9 := hide (unhide h9).1
          have HLL : Hid (ln = (([] : List Int)).length) := by
            obtain ⟨a', c', e', -⟩ := brow_shape (unhide h9).2
            injection e'
          clear h9
          have hr3 := (unhide H9).row (v := .slice ka kn kc) (ks := K) (by simp)
          have CC3 := hide (cutS (w := w9) (brow_srow hr3) (unhide HKN).2.2.1 (unhide HKN).2.2.2.2)
          clear hr3
          go_wp2_with fail
          refine (unhide CC3).mono ?_
          rintro e w10 ⟨xa3, xn3, xc3, rfl, hx3⟩
          clear CC3
          obtain ⟨gx3, bx3⟩ := unhide hx3
          rw [(unhide HKN).2.2.2.1] at gx3
          have hq3 := (unhide H9).more bx3 gx3
          clear hx3 H9
          have CS := kbSimple hq3 from_ (unhide HF0) (brow_srow gx3) (part_row gx3 (by simp)) (by have := unhide HKN; omega) (by omega)
          rw [unhide HRR, unhide HT, bNo_place, ← unhide HPL, show tCode (d, some 80) = 80 from rfl, bNo_if] at CS
          have HCS := hide CS
          clear CS hq3 gx3 bx3
          go_wp2_with fail
          refine (unhide HCS).mono ?_
          rintro e w11 ⟨sa, sn, sc, rfl, h11⟩
          clear HCS
          have HK := hide (unhide h11).1
          have HLS : Hid (sn = (([] : List Int)).length) := by
            obtain ⟨a', c', e', -⟩ := brow_shape (unhide h11).2
            injection e'
          clear h11
          have CR2 := kbReads (unhide HK)
          rw [show rd + (((pl + 1) : Nat) : Int) + (((pl + 1) : Nat) : Int) + (((pl + 1) : Nat) : Int) = rd + 3 * ((pl : Int) + 1) by omega] at CR2
          have HCR2 := hide CR2
          have hm1 : wrap64 (3 * ((pl : Int) + 1)) = 3 * ((pl : Int) + 1) := by have := unhide HKN; unfold wrap64; omega
          have hm2 : IntKind.i64.wrap (3 * ((pl : Int) + 1)) = 3 * ((pl : Int) + 1) := by have := unhide HKN; rw [IntKind.wrap_i64]; omega
          have hm3 : wrap64 (rd + 3 * ((pl : Int) + 1)) = rd + 3 * ((pl : Int) + 1) := by have := unhide HKN; have := unhide HRD; unfold wrap64; omega
          have hm4 : IntKind.i64.wrap (rd + 3 * ((pl : Int) + 1)) = rd + 3 * ((pl : Int) + 1) := by have := unhide HKN; have := unhide HRD; rw [IntKind.wrap_i64]; omega
          clear CR2
          go_wp2_with fail
          refine (unhide HCR2).mono ?_
          rintro e w11 ⟨rfl, rfl⟩
          clear HCR2
          obtain rfl : ln = 0 := unhide HLL
          obtain rfl : sn = 0 := unhide HLS
          have HB := hide (unhide HK).out
          clear HK HLL HLS
          go_wp2_with fail
          go_ret
          exact ⟨rfl, unhide HB⟩
        · have hz5 : ¬ ((pl + 1 : Nat) : Int) < (kn : Int) := by omega
          clear hpq
          clear HI hlt hi
          have CR := hide (kbReads (unhide HK5))
          go_wp2_with fail
          refine (unhide CR).mono ?_
          rintro e w5 ⟨rfl, rfl⟩
          clear CR
          have hr1 := (unhide HK5).row (v := .slice ka kn kc) (ks := K) (by simp)
          have CC1 := hide (cutS (w := w5) (brow_srow hr1) (unhide HKN).2.2.1 (unhide HKN).2.2.2.2)
          clear hr1
          go_wp2_with fail
          refine (unhide CC1).mono ?_
          rintro e w6 ⟨xa1, xn1, xc1, rfl, hx1⟩
          clear CC1
          obtain ⟨gx1, bx1⟩ := unhide hx1
          rw [(unhide HKN).2.2.2.1] at gx1
          have hq1 := (unhide HK5).more bx1 gx1
          clear hx1 HK5
          have CF := kbFollow hq1 from_ (brow_srow gx1) (part_row gx1 (by simp)) (by have := unhide HKN; omega) (by omega)
          rw [unhide HRR, unhide HT, bNo_ans, ← unhide HPL] at CF
          have HCF := hide CF
          clear CF hq1 gx1 bx1
          go_wp2_with fail
          refine (unhide HCF).mono ?_
          rintro e w7 ⟨rfl, h7⟩
          clear HCF
          have hr2 := (unhide h7).row (v := .slice ka kn kc) (ks := K) (by simp)
          have CC2 := hide (cutS (w := w7) (brow_srow hr2) (unhide HKN).2.2.1 (unhide HKN).2.2.2.2)
          clear hr2
          go_wp2_with fail
          refine (unhide CC2).mono ?_
          rintro e w8 ⟨xa2, xn2, xc2, rfl, hx2⟩
          clear CC2
          obtain ⟨gx2, bx2⟩ := unhide hx2
          rw [(unhide HKN).2.2.2.1] at gx2
          have hq2 := (unhide h7).more bx2 gx2
          clear hx2 h7
          have CG := kbThrough hq2 from_ (brow_srow gx2) (part_row gx2 (by simp)) (by have := unhide HKN; omega) (by omega)
          rw [unhide HRR, unhide HT, bNo_place, ← unhide HPL, show tCode (d, some 80) = 80 from rfl, bNo_if] at CG
          have HCG := hide CG
          clear CG hq2 gx2 bx2
          go_wp2_with fail
          refine (unhide HCG).mono ?_
          rintro e w9 ⟨la, ln, lc, rfl, h9⟩
          clear HCG
          have H9 := hide (unhide h9).1
          have HLL : Hid (ln = (([] : List Int)).length) := by
            obtain ⟨a', c', e', -⟩ := brow_shape (unhide h9).2
            injection e'
          clear h9
          have hr3 := (unhide H9).row (v := .slice ka kn kc) (ks := K) (by simp)
          have CC3 := hide (cutS (w := w9) (brow_srow hr3) (unhide HKN).2.2.1 (unhide HKN).2.2.2.2)
          clear hr3
          go_wp2_with fail
          refine (unhide CC3).mono ?_
          rintro e w10 ⟨xa3, xn3, xc3, rfl, hx3⟩
          clear CC3
          obtain ⟨gx3, bx3⟩ := unhide hx3
          rw [(unhide HKN).2.2.2.1] at gx3
          have hq3 := (unhide H9).more bx3 gx3
          clear hx3 H9
          have CS := kbSimple hq3 from_ (unhide HF0) (brow_srow gx3) (part_row gx3 (by simp)) (by have := unhide HKN; omega) (by omega)
          rw [unhide HRR, unhide HT, bNo_place, ← unhide HPL, show tCode (d, some 80) = 80 from rfl, bNo_if] at CS
          have HCS := hide CS
          clear CS hq3 gx3 bx3
          go_wp2_with fail
          refine (unhide HCS).mono ?_
          rintro e w11 ⟨sa, sn, sc, rfl, h11⟩
          clear HCS
          have HK := hide (unhide h11).1
          have HLS : Hid (sn = (([] : List Int)).length) := by
            obtain ⟨a', c', e', -⟩ := brow_shape (unhide h11).2
            injection e'
          clear h11
          have CR2 := kbReads (unhide HK)
          rw [show rd + (((pl + 1) : Nat) : Int) + (((pl + 1) : Nat) : Int) + (((pl + 1) : Nat) : Int) = rd + 3 * ((pl : Int) + 1) by omega] at CR2
          have HCR2 := hide CR2
          have hm1 : wrap64 (3 * ((pl : Int) + 1)) = 3 * ((pl : Int) + 1) := by have := unhide HKN; unfold wrap64; omega
          have hm2 : IntKind.i64.wrap (3 * ((pl : Int) + 1)) = 3 * ((pl : Int) + 1) := by have := unhide HKN; rw [IntKind.wrap_i64]; omega
          have hm3 : wrap64 (rd + 3 * ((pl : Int) + 1)) = rd + 3 * ((pl : Int) + 1) := by have := unhide HKN; have := unhide HRD; unfold wrap64; omega
          have hm4 : IntKind.i64.wrap (rd + 3 * ((pl : Int) + 1)) = rd + 3 * ((pl : Int) + 1) := by have := unhide HKN; have := unhide HRD; rw [IntKind.wrap_i64]; omega
          clear CR2
          go_wp2_with fail
          refine (unhide HCR2).mono ?_
          rintro e w11 ⟨rfl, rfl⟩
          clear HCR2
          obtain rfl : ln = 0 := unhide HLL
          obtain rfl : sn = 0 := unhide HLS
          have HB := hide (unhide HK).out
          clear HK HLL HLS
          go_wp2_with fail
          go_ret
          exact ⟨rfl, unhide HB⟩

end Go.Proofs.YtgocbcacfcfblaaGreat

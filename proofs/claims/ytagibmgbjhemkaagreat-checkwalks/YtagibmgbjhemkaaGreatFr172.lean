/- Lists of numbers and a start that came in. -/
import Derived.Test.YtagibmgbjhemkaaGreatL317
import Derived.Test.YtagibmgbjhemkaaGreatWf17
import Derived.Test.YtagibmgbjhemkaaGreatFrame72
import Derived.Test.YtagibmgbjhemkaaGreatEn16
import Derived.Deep.Slices
import Derived.Deep.Strs
import Derived.Test.YtagibmgbjhemkaaGreatMapG17
namespace Go.Proofs.YtagibmgbjhemkaaGreat

section
open Go.RowKit Go.Maps
open W16 (WtV Lies u8v i64v dec decV DecAns)
set_option maxHeartbeats 16000000 in
set_option maxRecDepth 100000 in
theorem walks17 [Inhabited EntI] (a : Option Addr) (len cap : Nat) (o : Nat → OpV) (from_ : Int) (hf0 : okN from_) (w : World) (h : IsOps w a len o) {pv : Value} {pks : List Int} (hpk : SRow w pv pks) :
    Calls Tryz.prog 5 #[.slice a len cap, .int .i64 from_, pv] w fun e w' => e = .returned (.bool true) ∧ Hid (Below w.heap.size w w') := by
  have CB := hide (builtS a len cap o w h); have CW : Hid (∀ W : World, Calls Tryz.prog 9 #[] W fun e w' => e = .returned (.bool true) ∧ Hid (Below W.heap.size W w')) := fun W => awake17S W
  have HPK := hide hpk; obtain ⟨pa, pc, hpv, -⟩ := hpk; obtain ⟨pn, hpn⟩ : ∃ pn, pn = pks.length := ⟨_, rfl⟩; rw [← hpn] at hpv; have HF0 := hide hf0; clear h hf0 hpn; subst hpv
  go_enter Tryz.func5, Tryz.ntmps5
  go_wp2_with fail
  refine (unhide CB).mono ?_
  rintro e w1 hh
  obtain ⟨s, a1, m1, q1, a2, m2, q2, rd, wr0, rfl, n, X, g, vs, gs, hn, hG, hs, hL, hB, hrd, hwr⟩ := unhide hh; obtain ⟨hK, hP, hr0, hr1⟩ := kc_built hG hs hrd hwr hL hB; have HP := hide hP; have HR : Hid (0 ≤ rd ∧ rd ≤ 120) := ⟨hr0, by omega⟩
  obtain ⟨ps, hps⟩ : ∃ ps, ps = g.ps := ⟨_, rfl⟩; rw [← hps] at HP; have hK0 := kg_start hG hps.symm hL hB (oG (.slice a1 m1 q1) (.slice a2 m2 q2) rd wr0); rw [hrd] at hK0; have HK := hide hK0; clear hK0; have HG := hide hG; have HLO : Hid (w.heap.size ≤ w1.heap.size) := hB.size; have HGB : Hid (n ≤ 120 ∧ g.rd = rd ∧ g.wr = wr0) := ⟨hn, hrd, hwr⟩; subst hs; clear hh hG hL hB hrd hwr CB hn hK hP hr0 hr1 hps
  go_upto_region 2 with fail
  change Code.wp _ _ _ _ (w1.alloc (oG (.slice a1 m1 q1) (.slice a2 m2 q2) rd wr0)); generalize w1.alloc (oG (.slice a1 m1 q1) (.slice a2 m2 q2) rd wr0) = w2 at *; generalize w1.heap.size = b8 at *
  go_wp2_with fail
  refine (unhide CW _).mono ?_
  rintro e w3 ⟨rfl, hb3⟩
  have HK3 := hide ((unhide HK).below (unhide hb3)); clear HK hb3 CW; have CH := hide (kgHas (unhide HK3) (unhide HF0))
  by_cases hfv : from_ ∈ vs
  · rw [show decide (from_ ∈ vs) = true from decide_eq_true hfv] at CH
    go_wp2_with fail
    refine (unhide CH).mono ?_
    rintro e w4 ⟨rfl, hw4⟩
    rw [hw4]; clear hw4 w4 CH; have CV := hide (kgWander (rd' := rd) (wr' := wr0) (unhide HP) (unhide HK3) from_ (unhide HPK)); obtain ⟨c0, c1, c2, c3, -⟩ := cellsG ((unhide HK3).get (b := b8) (o := oG (.slice a1 m1 q1) (.slice a2 m2 q2) rd wr0) (by simp))
    clear HK3 HPK
    go_upto_region 6 with fail
    go_wp2_with fail
    refine (unhide CV).mono ?_
    rintro e w5 ⟨ga, gn, gc, rfl, H5⟩
    obtain ⟨l, d, hW, hl60, hgn, hK5⟩ := unhide H5; have HK5 := hide hK5; have HW := hide hW; have HL60 := hide hl60; have HGN := hide hgn; clear CV H5 hK5 hgn c0 c1 c2 c3; have hPV := (unhide HK5).pv; obtain ⟨n1, n2⟩ := way_nums hPV hW; obtain ⟨en, hen⟩ : ∃ en, en = endOf from_ d := ⟨_, rfl⟩; obtain ⟨cs, hcs⟩ : ∃ cs, cs = costOf d := ⟨_, rfl⟩; have hene : en ∈ vs := by rw [hen]; exact n2 hfv
    have hcl := costOf_le d; rw [← hcs] at hcl; have HEN : Hid (en = endOf from_ d ∧ cs = costOf d ∧ from_ ∈ vs ∧ en ∈ vs ∧ cs ≤ 2139095040) := ⟨hen, hcs, hfv, hene, hcl⟩; have HG2 : Hid (∀ f t u (l' : List Int), f ∈ vs → t ∈ vs → u < 4294967296 → l'.length ≤ 60 → (∀ e ∈ l', e ∈ l) → W16.Good (f, t, u, l')) := fun f t u l' h1 h2 h3 h4 h5 => ⟨by show l'.length ≤ 1024; omega, hPV.rng f h1, hPV.rng t h2, h3, fun e he => n1 e (h5 e he)⟩
    clear hPV n1 n2 hen hcs hene hcl hl60 hfv hW; have g0 : W16.Good (from_, en, cs, l) := unhide HG2 _ _ _ _ (unhide HEN).2.2.1 (unhide HEN).2.2.2.1 (by have := (unhide HEN).2.2.2.2; omega) (unhide HL60) (fun e he => he)
    have HG0 := hide g0; clear g0; have CF := hide (kgFollow (unhide HP) (unhide HK5) from_ (v := .slice ga gn gc) (ks := l) (by simp) (by have := unhide HL60; omega) (unhide HR).1 (by have := (unhide HR).2; omega))
    rw [(unhide HW).all] at CF; rw [show fAns from_ (d, none) = .tuple #[.int .i64 en, .int .u32 (cs : Nat), .int .i64 0, .int .i64 0] from by rw [(unhide HEN).1, (unhide HEN).2.1]; exact if_pos rfl] at CF
    obtain ⟨rd1, hrd1⟩ : ∃ rd1, rd1 = rd + (tReads (d, (none : Option Int)) : Int) := ⟨_, rfl⟩; rw [← hrd1] at CF; have HB1 : Hid (0 ≤ rd1 ∧ rd1 ≤ 200) := by
      have h1 := unhide HR; have h2 := (unhide HW).len; have h3 := unhide HL60; have h4 : tReads (d, (none : Option Int)) = d.length := by simp [tReads]
      rw [h4] at hrd1; exact ⟨by omega, by omega⟩
    clear hrd1 HR HK5
    go_wp2_with fail
    refine (unhide CF).mono ?_
    rintro e w6 ⟨rfl, HK6⟩
    clear CF
    go_upto_region 8 with fail
    have CE := hide (W16.encodeS from_ en cs (W16.nrow_lies ((unhide HK6).getr (v := .slice ga gn gc) (ks := l) (by simp))) (unhide HG0).2.2.2.1)
    go_wp2_with fail
    refine (unhide CE).mono ?_; intro e we1 hE; obtain ⟨bv1, rfl, b1, b2⟩ := unhide hE; rw [show W16.errC (from_, en, cs, l) = 0 from W16.errC_good (unhide HG0)]
    rw [show W16.encV (from_, en, cs, l) = W16.encWt (from_, en, cs, l) from if_pos (W16.errC_good (unhide HG0))] at b1
    obtain ⟨ba1, bc1, hbv⟩ := W16.rrow_shape b1; obtain ⟨bn1, hbn1⟩ : ∃ bn, bn = (W16.encWt (from_, en, cs, l)).length := ⟨_, rfl⟩; rw [← hbn1] at hbv; clear hbn1; subst hbv; have HK7 := hide ((unhide HK6).room b2 b1); clear CE hE b1 b2 HK6
    go_upto_region 9 with fail
    have hch := chk_enc (V := fun k => decide (k ∈ vs)) (ps := ps) (unhide HG0)
    have CK := hide (kgCheck (unhide HP) (unhide HK7) (W16.byrow_lies (unhide HK7).2.1) (W16.enc_byte _) (by have := W16.enc_len (unhide HG0); omega) (fun g e => ((unhide HK7).2.1.lt g e).2) (unhide HB1).1 (by have := (unhide HB1).2; omega))
    rw [show (decV (W16.encWt (from_, en, cs, l))) = ((from_, en, cs, l), 0) from decV_some (W16.dec_enc (unhide HG0))] at CK
    obtain ⟨C2, hC2⟩ : ∃ C, C = chkA (fun k => decide (k ∈ vs)) ps (W16.encWt (from_, en, cs, l)) := ⟨_, rfl⟩
    rw [← hC2] at CK hch; obtain ⟨⟨F2, T2, u2, es2⟩, pl2, cd2⟩ := C2; have hcd := hch.1; have hcx := hch.2; simp only at hcd hcx; clear hC2 hch; rw [decide_eq_true (unhide HEN).2.2.1, decide_eq_true (unhide HEN).2.2.2.1, (unhide HW).all, hold_all (unhide HEN).1.symm (unhide HEN).2.1.symm] at hcd; obtain rfl : pl2 = 0 := congrArg (·.1) hcd; obtain rfl : cd2 = 0 := congrArg (·.2) hcd; have hx := hcx rfl; simp only [Prod.mk.injEq] at hx; obtain rfl : from_ = F2 := hx.1.symm; obtain rfl : en = T2 := hx.2.1.symm; obtain rfl : cs = u2 := hx.2.2.1.symm; obtain rfl : l = es2 := hx.2.2.2.symm; clear hx hcd hcx
    go_wp2_with fail
    refine (unhide CK).mono ?_; intro e y2 H6; obtain ⟨ev, k, rfl, k1, hK6⟩ := unhide H6; simp only at hK6 k1 ⊢; obtain ⟨ea2, ec2, hev⟩ := W16.rrow_shape (hK6.getr (List.mem_cons_self ..)); obtain ⟨en2, hen⟩ : ∃ en2, en2 = l.length := ⟨_, rfl⟩; rw [← hen] at hev; clear hen; subst hev; obtain ⟨rd2, hrd2⟩ : ∃ rd2, rd2 = rd1 + (k : Int) := ⟨_, rfl⟩; rw [← hrd2] at hK6; have HB2 : Hid (0 ≤ rd2 ∧ rd2 ≤ 300) := by
      have h1 := unhide HB1; have h2 := (unhide HL60); exact ⟨by omega, by omega⟩
    clear CK H6 k1 hrd2 HB1; have HK8 := hide (hK6.box (oWt from_ en cs (.slice ea2 en2 ec2))); clear hK6 HK7
    go_upto_region 10 with fail
    change Code.wp _ _ _ _ (y2.alloc (oWt from_ en cs (.slice ea2 en2 ec2))); generalize y2.alloc (oWt from_ en cs (.slice ea2 en2 ec2)) = w8 at *; generalize y2.heap.size = b17 at *; have CL := hide (kgClaim (unhide HP) (unhide HK8) from_ en cs (W16.byrow_lies (unhide HK8).2.1) (W16.enc_byte _) (by have := W16.enc_len (unhide HG0); omega) (fun g e => ((unhide HK8).2.1.lt g e).2) (unhide HB2).1 (by have := (unhide HB2).2; omega))
    have hcm := clm_same (V := fun k => decide (k ∈ vs)) (ps := ps) (W16.dec_enc (unhide HG0))
    have hch := (chk_enc (V := fun k => decide (k ∈ vs)) (ps := ps) (unhide HG0)).1
    simp only at hch; rw [decide_eq_true (unhide HEN).2.2.1, decide_eq_true (unhide HEN).2.2.2.1, (unhide HW).all, hold_all (unhide HEN).1.symm (unhide HEN).2.1.symm] at hch; rw [hcm, hch, show (decV (W16.encWt (from_, en, cs, l))) = ((from_, en, cs, l), 0) from decV_some (W16.dec_enc (unhide HG0))] at CL
    simp only at CL; clear hcm hch HK8
    go_wp2_with fail
    refine (unhide CL).mono ?_
    rintro e w9 ⟨rfl, H9⟩
    obtain ⟨k, k1, hK9⟩ := unhide H9; obtain ⟨rd3, hrd3⟩ : ∃ rd3, rd3 = rd2 + (k : Int) := ⟨_, rfl⟩; rw [← hrd3] at hK9; have HK9 := hide hK9; have HB3 : Hid (0 ≤ rd3 ∧ rd3 ≤ 400) := by
      have h1 := unhide HB2; have h2 := unhide HL60; exact ⟨by omega, by omega⟩
    clear CL H9 hK9 k1 hrd3 HB2
    go_upto_region 11 with fail
    obtain ⟨x0, x1, x2, x3⟩ := oWt_cells ((unhide HK9).get (b := b17) (o := oWt from_ en cs (.slice ea2 en2 ec2)) (by simp))
    have CS := refSame (nrow_of16 ((unhide HK9).getr (v := .slice ea2 en2 ec2) (ks := l) (by simp))) (nrow_of16 ((unhide HK9).getr (v := .slice ga gn gc) (ks := l) (by simp))) (by have := unhide HL60; omega)
    rw [decide_eq_true rfl] at CS; have CS1 := hide CS; clear CS
    go_wp2_with fail
    refine (unhide CS1).mono ?_
    rintro e w10 ⟨rfl, hl10⟩
    have HK10 := hide ((unhide HK9).below ((unhide hl10).below _)); clear CS1 hl10 HK9 x0 x1 x2 x3
    go_upto_region 13 with fail
    have zx := bits_xor1 (u := cs) (by have := (unhide HEN).2.2.2.2; omega)
    have g1 : W16.Good (from_, en, cs ^^^ 1, l) := unhide HG2 _ _ _ _ (unhide HEN).2.2.1 (unhide HEN).2.2.2.1 (xor_lt (by have := (unhide HEN).2.2.2.2; omega)) (unhide HL60) (fun e he => he)
    have HG1 := hide g1; clear g1; have CE := hide (W16.encodeS from_ en (cs ^^^ 1) (W16.nrow_lies ((unhide HK10).getr (v := .slice ga gn gc) (ks := l) (by simp))) (unhide HG1).2.2.2.1)
    go_wp2_with fail
    refine (unhide CE).mono ?_; intro e we3 hE; obtain ⟨bv3, rfl, b1, b2⟩ := unhide hE; rw [show W16.errC (from_, en, (cs ^^^ 1), l) = 0 from W16.errC_good (unhide HG1)]
    rw [show W16.encV (from_, en, (cs ^^^ 1), l) = W16.encWt (from_, en, (cs ^^^ 1), l) from if_pos (W16.errC_good (unhide HG1))] at b1
    obtain ⟨ba3, bc3, hbv⟩ := W16.rrow_shape b1; obtain ⟨bn3, hbn3⟩ : ∃ bn, bn = (W16.encWt (from_, en, (cs ^^^ 1), l)).length := ⟨_, rfl⟩; rw [← hbn3] at hbv; clear hbn3; subst hbv; have HK11 := hide ((unhide HK10).below b2); have HBY := hide b1; clear CE hE b1 b2 HK10 zx
    go_upto_region 14 with fail
    have hch := chk_enc (V := fun k => decide (k ∈ vs)) (ps := ps) (unhide HG1)
    have CK := hide (kgCheck (unhide HP) (unhide HK11) (W16.byrow_lies (unhide HBY)) (W16.enc_byte _) (by have := W16.enc_len (unhide HG1); omega) (fun g e => ((unhide HBY).lt g e).2) (unhide HB3).1 (by have := (unhide HB3).2; omega))
    rw [show (decV (W16.encWt (from_, en, (cs ^^^ 1), l))) = ((from_, en, (cs ^^^ 1), l), 0) from decV_some (W16.dec_enc (unhide HG1))] at CK
    obtain ⟨C4, hC4⟩ : ∃ C, C = chkA (fun k => decide (k ∈ vs)) ps (W16.encWt (from_, en, (cs ^^^ 1), l)) := ⟨_, rfl⟩
    rw [← hC4] at CK hch; obtain ⟨⟨F4, T4, u4, es4⟩, pl4, cd4⟩ := C4; have hcd := hch.1; have hcx := hch.2; simp only at hcd hcx; clear hC4 hch; rw [decide_eq_true (unhide HEN).2.2.1, decide_eq_true (unhide HEN).2.2.2.1, (unhide HW).all, hold_cost (unhide HEN).1.symm (fun z => xor_ne cs (z.symm.trans (unhide HEN).2.1.symm))] at hcd
    obtain rfl : cd4 = 171 := congrArg (·.2) hcd; clear hcd hcx
    go_wp2_with fail
    refine (unhide CK).mono ?_; intro e y4 H6; obtain ⟨ev, k, rfl, k1, hK6⟩ := unhide H6; simp only at hK6 k1 ⊢; obtain ⟨ea4, ec4, hev⟩ := W16.rrow_shape (hK6.getr (List.mem_cons_self ..)); obtain ⟨en4, hen⟩ : ∃ en4, en4 = es4.length := ⟨_, rfl⟩; rw [← hen] at hev; clear hen; subst hev; obtain ⟨rd4, hrd4⟩ : ∃ rd4, rd4 = rd3 + (k : Int) := ⟨_, rfl⟩; rw [← hrd4] at hK6; have HB4 : Hid (0 ≤ rd4 ∧ rd4 ≤ 500) := by
      have h1 := unhide HB3; have h2 := (unhide HL60); exact ⟨by omega, by omega⟩
    clear CK H6 k1 hrd4 HB3; have HK12 := hide (hK6.lessr (rows' := [(.slice ga gn gc, l)]) (by intro p hp; simp at hp ⊢; simp [hp]))
    have HK13 := hide (((unhide HK12).box (oWt F4 T4 u4 (.slice ea4 en4 ec4))).less (kb' := [(b8, oG (.slice a1 m1 q1) (.slice a2 m2 q2) rd wr0)]) (by intro p hp; simp at hp ⊢; simp [hp]))
    clear hK6 HK11 HK12 HBY HG1
    go_upto_region 15 with fail
    change Code.wp _ _ _ _ (y4.alloc (oWt F4 T4 u4 (.slice ea4 en4 ec4))); generalize y4.alloc (oWt F4 T4 u4 (.slice ea4 en4 ec4)) = w13 at *; generalize y4.heap.size = b24 at *; obtain ⟨c0, c1, c2, c3, -⟩ := cellsG ((unhide HK13).get (b := b8) (o := oG (.slice a1 m1 q1) (.slice a2 m2 q2) rd wr0) (by simp))
    go_upto_region 18 with fail
    have HVN : Hid (m1 = vs.length ∧ vs.length ≤ 256) := by
      obtain ⟨x, c, e⟩ := nrow_slice (unhide HK13).1.vs.1; injection e with e1 e2 e3
      refine ⟨e2, ?_⟩; have h1 := (unhide HG).rel.N; have h2 := (unhide HG).sh.N; have h3 := (unhide HG).st.size; omega
    clear c0 c1 c2 c3
    go_loopw [166] (fun s166 W => ∃ i : Nat, s166 = .int .i64 i ∧ i ≤ m1 ∧ Hid (∃ r : Int, 0 ≤ r ∧ r ≤ 500 + 150 * (i : Int) ∧ KG [(b8, oG (.slice a1 m1 q1) (.slice a2 m2 q2) rd wr0)] [(.slice ga gn gc, l)] (.slice ba1 bn1 bc1) (W16.encWt (from_, en, cs, l)) w X r ps (.slice a1 m1 q1) (.slice a2 m2 q2) vs gs W)) (fun s166 _ => m1 - (intOf s166).toNat)
    case atStart => exact ⟨0, rfl, Nat.zero_le _, rd4, (unhide HB4).1, by have := (unhide HB4).2; omega, unhide HK13⟩
    case round =>
      obtain ⟨i, rfl, hi, HS⟩ := hrel; clear HK13 HB4
      by_cases hlt : i < m1
      · obtain ⟨r, hr0, hr1, hK⟩ := unhide HS; obtain ⟨v, hv⟩ : ∃ v, vs[i]? = some v := ⟨_, List.getElem?_eq_getElem (by have := (unhide HVN).1; omega)⟩
        obtain ⟨vg, rfl⟩ : ∃ vg, a1 = some ⟨vg, 0, none⟩ := brow_some hK.1.vs.1 (by have := (unhide HVN).1; omega)
        have hcell := brow_at hK.1.vs.1 hv; have HVI : Hid (v ∈ vs) := List.mem_of_getElem? hv; have HRI : Hid (0 ≤ r ∧ r ≤ 500 + 150 * (i : Int) ∧ (i : Int) ≤ 256) := ⟨hr0, hr1, by have := (unhide HVN).1; have := (unhide HVN).2; omega⟩
        have HRJ : Hid (0 ≤ r ∧ r ≤ 50000) := ⟨hr0, by have := (unhide HRI).2.2; omega⟩
        have HKA := hide hK; have hz : (i : Int) < (m1 : Int) := by omega
        have HWI : Hid (wrap64 ((i : Int) + 1) = ((i + 1 : Nat) : Int)) := by
          show wrap64 ((i : Int) + 1) = ((i + 1 : Nat) : Int); have := (unhide HRI).2.2; unfold wrap64; omega
        have g5 : W16.Good (from_, v, cs, l) := unhide HG2 _ _ _ _ (unhide HEN).2.2.1 (unhide HVI) (by have := (unhide HEN).2.2.2.2; omega) (unhide HL60) (fun e he => he)
        have g7 : W16.Good (v, en, cs, l) := unhide HG2 _ _ _ _ (unhide HVI) (unhide HEN).2.2.2.1 (by have := (unhide HEN).2.2.2.2; omega) (unhide HL60) (fun e he => he)
        have HG5 := hide g5; have HG7 := hide g7; clear HS hK hr0 hr1 hv g5 g7
        go_upto_region 20 with fail
        clear hcell; have CE := hide (W16.encodeS from_ v cs (W16.nrow_lies ((unhide HKA).getr (v := .slice ga gn gc) (ks := l) (by simp))) (unhide HG5).2.2.2.1)
        go_wp2_with fail
        refine (unhide CE).mono ?_; intro e we5 hE; obtain ⟨bv5, rfl, b1, b2⟩ := unhide hE; rw [show W16.errC (from_, v, cs, l) = 0 from W16.errC_good (unhide HG5)]
        rw [show W16.encV (from_, v, cs, l) = W16.encWt (from_, v, cs, l) from if_pos (W16.errC_good (unhide HG5))] at b1
        obtain ⟨ba5, bc5, hbv⟩ := W16.rrow_shape b1; obtain ⟨bn5, hbn5⟩ : ∃ bn, bn = (W16.encWt (from_, v, cs, l)).length := ⟨_, rfl⟩; rw [← hbn5] at hbv; clear hbn5; subst hbv; have HKB := hide ((unhide HKA).below b2); have HBY := hide b1; clear CE hE b1 b2 HKA
        go_upto_region 21 with fail
        have hch := chk_enc (V := fun k => decide (k ∈ vs)) (ps := ps) (unhide HG5)
        have CK := hide (kgCheck (unhide HP) (unhide HKB) (W16.byrow_lies (unhide HBY)) (W16.enc_byte _) (by have := W16.enc_len (unhide HG5); omega) (fun g e => ((unhide HBY).lt g e).2) (unhide HRJ).1 (by have := (unhide HRJ).2; omega))
        rw [show (decV (W16.encWt (from_, v, cs, l))) = ((from_, v, cs, l), 0) from decV_some (W16.dec_enc (unhide HG5))] at CK
        obtain ⟨C6, hC6⟩ : ∃ C, C = chkA (fun k => decide (k ∈ vs)) ps (W16.encWt (from_, v, cs, l)) := ⟨_, rfl⟩
        rw [← hC6] at CK hch; obtain ⟨⟨F6, T6, u6, es6⟩, pl6, cd6⟩ := C6; have hcd := hch.1; have hcx := hch.2; simp only at hcd hcx; clear hC6 hch; rw [decide_eq_true (unhide HEN).2.2.1, decide_eq_true (unhide HVI), (unhide HW).all] at hcd; have HCD : Hid (v ≠ en → cd6 = 170) := fun z => by
          rw [hold_end (fun y => z (y.symm.trans (unhide HEN).1.symm))] at hcd
          exact congrArg (·.2) hcd
        clear hcd hcx
        go_wp2_with fail
        refine (unhide CK).mono ?_; intro e y6 H6; obtain ⟨ev, k, rfl, k1, hK6⟩ := unhide H6; simp only at hK6 k1 ⊢; obtain ⟨ea6, ec6, hev⟩ := W16.rrow_shape (hK6.getr (List.mem_cons_self ..)); obtain ⟨en6, hen⟩ : ∃ en6, en6 = es6.length := ⟨_, rfl⟩; rw [← hen] at hev; clear hen; subst hev; obtain ⟨rd6, hrd6⟩ : ∃ rd6, rd6 = r + (k : Int) := ⟨_, rfl⟩; rw [← hrd6] at hK6; have HB6 : Hid (0 ≤ rd6 ∧ rd6 ≤ 51000) := by
          have h1 := unhide HRJ; have h2 := (unhide HL60); exact ⟨by omega, by omega⟩
        have HR6 : Hid (rd6 ≤ 560 + 150 * (i : Int)) := by
          have h1 := (unhide HRI).2.1; have h2 := unhide HL60; show rd6 ≤ _; omega
        clear CK H6 k1 hrd6 HRJ; have hKC := hK6.lessr (rows' := [(.slice ga gn gc, l)]) (by intro p hp; simp at hp ⊢; simp [hp])
        have HKC := hide ((hKC.box (oWt F6 T6 u6 (.slice ea6 en6 ec6))).less (kb' := [(b8, oG (.slice (some ⟨vg, 0, none⟩) m1 q1) (.slice a2 m2 q2) rd wr0)]) (by intro p hp; simp at hp ⊢; simp [hp]))
        clear hK6 hKC HKB HBY HG5
        go_upto_region 22 with fail
        change Code.wp _ _ _ _ (y6.alloc (oWt F6 T6 u6 (.slice ea6 en6 ec6))); generalize y6.alloc (oWt F6 T6 u6 (.slice ea6 en6 ec6)) = w22 at *; generalize y6.heap.size = b29 at *
        by_cases hve : v = en
        · obtain rfl : en = v := hve.symm; clear HCD
          go_upto_region 24 with fail
          have CE := hide (W16.encodeS en en cs (W16.nrow_lies ((unhide HKC).getr (v := .slice ga gn gc) (ks := l) (by simp))) (unhide HG7).2.2.2.1)
          go_wp2_with fail
          refine (unhide CE).mono ?_; intro e we7 hE; obtain ⟨bv7, rfl, b1, b2⟩ := unhide hE; rw [show W16.errC (en, en, cs, l) = 0 from W16.errC_good (unhide HG7)]
          rw [show W16.encV (en, en, cs, l) = W16.encWt (en, en, cs, l) from if_pos (W16.errC_good (unhide HG7))] at b1
          obtain ⟨ba7, bc7, hbv⟩ := W16.rrow_shape b1; obtain ⟨bn7, hbn7⟩ : ∃ bn, bn = (W16.encWt (en, en, cs, l)).length := ⟨_, rfl⟩; rw [← hbn7] at hbv; clear hbn7; subst hbv; have HKD := hide ((unhide HKC).below b2); have HBZ := hide b1; clear CE hE b1 b2 HKC
          go_upto_region 25 with fail
          have hch := chk_enc (V := fun k => decide (k ∈ vs)) (ps := ps) (unhide HG7)
          have CK := hide (kgCheck (unhide HP) (unhide HKD) (W16.byrow_lies (unhide HBZ)) (W16.enc_byte _) (by have := W16.enc_len (unhide HG7); omega) (fun g e => ((unhide HBZ).lt g e).2) (unhide HB6).1 (by have := (unhide HB6).2; omega))
          rw [show (decV (W16.encWt (en, en, cs, l))) = ((en, en, cs, l), 0) from decV_some (W16.dec_enc (unhide HG7))] at CK
          obtain ⟨C8, hC8⟩ : ∃ C, C = chkA (fun k => decide (k ∈ vs)) ps (W16.encWt (en, en, cs, l)) := ⟨_, rfl⟩
          rw [← hC8] at CK hch; obtain ⟨⟨F8, T8, u8, es8⟩, pl8, cd8⟩ := C8; have hcd := hch.1; have hcx := hch.2; simp only at hcd hcx; clear hC8 hch; rw [decide_eq_true (unhide HVI)] at hcd
          (try rw [decide_eq_true (unhide HEN).2.2.2.1] at hcd)
          have HCE : Hid (en ≠ from_ → (0 < gn ∧ cd8 = 80) ∨ (gn = 0 ∧ cd8 = 170)) := fun z => by
            have hw := unhide HW
            cases l with
            | nil =>
              have hd : d = [] := hw; have hen0 : en = from_ := by
                have := (unhide HEN).1; rw [hd] at this; exact this
              right; refine ⟨unhide HGN, ?_⟩; rw [show trip ps en [] = ([], none) from rfl, hold_end (show endOf en [] ≠ en from fun y => z ((show en = en from y).trans hen0))] at hcd
              exact congrArg (·.2) hcd
            | cons e l' =>
              left; refine ⟨by have := unhide HGN; simp at this; omega, ?_⟩
              rw [trip_else hw z, hold_err] at hcd; exact congrArg (·.2) hcd
          clear hcd hcx
          go_wp2_with fail
          refine (unhide CK).mono ?_; intro e y8 H6; obtain ⟨ev, k, rfl, k1, hK6⟩ := unhide H6; simp only at hK6 k1 ⊢; obtain ⟨ea8, ec8, hev⟩ := W16.rrow_shape (hK6.getr (List.mem_cons_self ..)); obtain ⟨en8, hen⟩ : ∃ en8, en8 = es8.length := ⟨_, rfl⟩; rw [← hen] at hev; clear hen; subst hev; obtain ⟨rd8, hrd8⟩ : ∃ rd8, rd8 = rd6 + (k : Int) := ⟨_, rfl⟩; rw [← hrd8] at hK6; have HB8 : Hid (0 ≤ rd8 ∧ rd8 ≤ 52000) := by
            have h1 := unhide HB6; have h2 := (unhide HL60); exact ⟨by omega, by omega⟩
          have HR8 : Hid (rd8 ≤ 620 + 150 * (i : Int)) := by
            have h1 := unhide HR6; have h2 := unhide HL60; show rd8 ≤ _; omega
          clear CK H6 k1 hrd8 HB6 HR6; have hKE := hK6.lessr (rows' := [(.slice ga gn gc, l)]) (by intro p hp; simp at hp ⊢; simp [hp])
          have HN : Hid (∃ r : Int, 0 ≤ r ∧ r ≤ 500 + 150 * ((i + 1 : Nat) : Int) ∧ KG [(b8, oG (.slice (some ⟨vg, 0, none⟩) m1 q1) (.slice a2 m2 q2) rd wr0)] [(.slice ga gn gc, l)] (.slice ba1 bn1 bc1) (W16.encWt (from_, en, cs, l)) w X r ps (.slice (some ⟨vg, 0, none⟩) m1 q1) (.slice a2 m2 q2) vs gs y8) := ⟨rd8, (unhide HB8).1, by have h1 := unhide HR8; push_cast; omega, hKE⟩
          clear hK6 hKE HKD HBZ HG7
          go_upto_region 26 with fail
          by_cases hvf : en = from_
          · obtain rfl : from_ = en := hvf.symm; clear HCE
            go_wp2_with fail
            (try rw [unhide HWI])
            exact ⟨⟨i + 1, rfl, by omega, HN⟩, by simp [intOf]; omega⟩
          · have zvf : (en == from_) = false := by simpa using hvf
            have zvf2 : (en != from_) = true := by simp only [bne, zvf]; rfl
            rcases unhide HCE hvf with ⟨h1, h2⟩ | ⟨h1, h2⟩
            · have zg : (0 : Int) < (gn : Int) := by omega
              have zg2 : ((gn : Int) == 0) = false := by simp; omega
              subst h2; clear HCE h1 hvf
              go_wp2_with fail
              (try rw [unhide HWI])
              exact ⟨⟨i + 1, rfl, by omega, HN⟩, by simp [intOf]; omega⟩
            · subst h1 h2; clear HCE hvf
              go_wp2_with fail
              (try rw [unhide HWI])
              exact ⟨⟨i + 1, rfl, by omega, HN⟩, by simp [intOf]; omega⟩
        · have zve : (v == en) = false := by simpa using hve
          have zve2 : (v != en) = true := by simp only [bne, zve]; rfl
          obtain rfl : cd6 = 170 := unhide HCD hve; clear HCD hve
          go_upto_region 24 with fail
          have CE := hide (W16.encodeS v en cs (W16.nrow_lies ((unhide HKC).getr (v := .slice ga gn gc) (ks := l) (by simp))) (unhide HG7).2.2.2.1)
          go_wp2_with fail
          refine (unhide CE).mono ?_; intro e we7 hE; obtain ⟨bv7, rfl, b1, b2⟩ := unhide hE; rw [show W16.errC (v, en, cs, l) = 0 from W16.errC_good (unhide HG7)]
          rw [show W16.encV (v, en, cs, l) = W16.encWt (v, en, cs, l) from if_pos (W16.errC_good (unhide HG7))] at b1
          obtain ⟨ba7, bc7, hbv⟩ := W16.rrow_shape b1; obtain ⟨bn7, hbn7⟩ : ∃ bn, bn = (W16.encWt (v, en, cs, l)).length := ⟨_, rfl⟩; rw [← hbn7] at hbv; clear hbn7; subst hbv; have HKD := hide ((unhide HKC).below b2); have HBZ := hide b1; clear CE hE b1 b2 HKC
          go_upto_region 25 with fail
          have hch := chk_enc (V := fun k => decide (k ∈ vs)) (ps := ps) (unhide HG7)
          have CK := hide (kgCheck (unhide HP) (unhide HKD) (W16.byrow_lies (unhide HBZ)) (W16.enc_byte _) (by have := W16.enc_len (unhide HG7); omega) (fun g e => ((unhide HBZ).lt g e).2) (unhide HB6).1 (by have := (unhide HB6).2; omega))
          rw [show (decV (W16.encWt (v, en, cs, l))) = ((v, en, cs, l), 0) from decV_some (W16.dec_enc (unhide HG7))] at CK
          obtain ⟨C8, hC8⟩ : ∃ C, C = chkA (fun k => decide (k ∈ vs)) ps (W16.encWt (v, en, cs, l)) := ⟨_, rfl⟩
          rw [← hC8] at CK hch; obtain ⟨⟨F8, T8, u8, es8⟩, pl8, cd8⟩ := C8; have hcd := hch.1; have hcx := hch.2; simp only at hcd hcx; clear hC8 hch; rw [decide_eq_true (unhide HVI)] at hcd
          (try rw [decide_eq_true (unhide HEN).2.2.2.1] at hcd)
          have HCE : Hid (v ≠ from_ → (0 < gn ∧ cd8 = 80) ∨ (gn = 0 ∧ cd8 = 170)) := fun z => by
            have hw := unhide HW
            cases l with
            | nil =>
              have hd : d = [] := hw; have hen0 : en = from_ := by
                have := (unhide HEN).1; rw [hd] at this; exact this
              right; refine ⟨unhide HGN, ?_⟩; rw [show trip ps v [] = ([], none) from rfl, hold_end (show endOf v [] ≠ en from fun y => z ((show v = en from y).trans hen0))] at hcd
              exact congrArg (·.2) hcd
            | cons e l' =>
              left; refine ⟨by have := unhide HGN; simp at this; omega, ?_⟩
              rw [trip_else hw z, hold_err] at hcd; exact congrArg (·.2) hcd
          clear hcd hcx
          go_wp2_with fail
          refine (unhide CK).mono ?_; intro e y8 H6; obtain ⟨ev, k, rfl, k1, hK6⟩ := unhide H6; simp only at hK6 k1 ⊢; obtain ⟨ea8, ec8, hev⟩ := W16.rrow_shape (hK6.getr (List.mem_cons_self ..)); obtain ⟨en8, hen⟩ : ∃ en8, en8 = es8.length := ⟨_, rfl⟩; rw [← hen] at hev; clear hen; subst hev; obtain ⟨rd8, hrd8⟩ : ∃ rd8, rd8 = rd6 + (k : Int) := ⟨_, rfl⟩; rw [← hrd8] at hK6; have HB8 : Hid (0 ≤ rd8 ∧ rd8 ≤ 52000) := by
            have h1 := unhide HB6; have h2 := (unhide HL60); exact ⟨by omega, by omega⟩
          have HR8 : Hid (rd8 ≤ 620 + 150 * (i : Int)) := by
            have h1 := unhide HR6; have h2 := unhide HL60; show rd8 ≤ _; omega
          clear CK H6 k1 hrd8 HB6 HR6; have hKE := hK6.lessr (rows' := [(.slice ga gn gc, l)]) (by intro p hp; simp at hp ⊢; simp [hp])
          have HN : Hid (∃ r : Int, 0 ≤ r ∧ r ≤ 500 + 150 * ((i + 1 : Nat) : Int) ∧ KG [(b8, oG (.slice (some ⟨vg, 0, none⟩) m1 q1) (.slice a2 m2 q2) rd wr0)] [(.slice ga gn gc, l)] (.slice ba1 bn1 bc1) (W16.encWt (from_, en, cs, l)) w X r ps (.slice (some ⟨vg, 0, none⟩) m1 q1) (.slice a2 m2 q2) vs gs y8) := ⟨rd8, (unhide HB8).1, by have h1 := unhide HR8; push_cast; omega, hKE⟩
          clear hK6 hKE HKD HBZ HG7
          go_upto_region 26 with fail
          by_cases hvf : v = from_
          · obtain rfl : from_ = v := hvf.symm; clear HCE
            go_wp2_with fail
            (try rw [unhide HWI])
            exact ⟨⟨i + 1, rfl, by omega, HN⟩, by simp [intOf]; omega⟩
          · have zvf : (v == from_) = false := by simpa using hvf
            have zvf2 : (v != from_) = true := by simp only [bne, zvf]; rfl
            rcases unhide HCE hvf with ⟨h1, h2⟩ | ⟨h1, h2⟩
            · have zg : (0 : Int) < (gn : Int) := by omega
              have zg2 : ((gn : Int) == 0) = false := by simp; omega
              subst h2; clear HCE h1 hvf
              go_wp2_with fail
              (try rw [unhide HWI])
              exact ⟨⟨i + 1, rfl, by omega, HN⟩, by simp [intOf]; omega⟩
            · subst h1 h2; clear HCE hvf
              go_wp2_with fail
              (try rw [unhide HWI])
              exact ⟨⟨i + 1, rfl, by omega, HN⟩, by simp [intOf]; omega⟩
      · obtain ⟨r, hr0, hr1, hK⟩ := unhide HS; have HKF := hide hK; have HRF : Hid (0 ≤ r ∧ r ≤ 39000) := ⟨hr0, by have := (unhide HVN).1; have := (unhide HVN).2; omega⟩
        have hz : ¬ (i : Int) < (m1 : Int) := by omega
        clear HS hr0 hr1 hK hlt hi
        (try dsimp only)
        repeat ((fail_if_success (with_reducible change Code.wp _ (Code.seq (Code.seq (Code.region 29 _ _) _) _) _ _ _)); go_step)
        refine wlk29 _ _ _ _ _ _ _ _ _ _ _ _ _ _ _ _ _ _ _ _ _ _ _ _ _ _ _ _ _ _ _ _ _ _ _ _ _ _ _ _ _ _ _ _ _ _ _ _ _ _ _ _ _ _ _ _ _ _ _ _ _ _ _ _ _ _ _ _ _ _ _ _ _ _ _ _ _ _ _ _ _ _ _ _ _ _ _ _ _ _ _ _ _ _ _ _ _ _ _ _ _ _ _ _ _ _ _ _ _ _ _ _ _ _ _ _ _ _ _ _ _ _ _ _ _ _ _ _ _ _ _ _ _ _ _ _ _ _ _ _ _ _ _ _ _ _ _ _ _ _ _ _ _ _ _ _ _ _ _ _ _ _ _ _ _ _ _ _ _ _ _ _ _ _ _ _ _ _ _ _ _ _ _ _ _ _ _ _ _ _ _ _ _ _ _ _ _ _ _ _ _ _ _ _ _ _ _ _ _ _ _ _ _ _ _ _ _ _ _ _ _ _ _ _ _ _ _ _ _ _ _ _ _ _ _ _ _ _ _ _ _ _ _ _ _ _ _ _ _ _ _ _ _ _ _ _ _ _ _ _ _ _ _ _ _ _ _ _ _ _ _ _ _ _ _ _ _ _ _ _ _ _ _ _ _ _ _ _ _ _ _ _ _ _ _ _ _ _ _ _ _ _ _ _ _ _ _ _ _ _ _ _ HP HG HEN HG2 HL60 HGN HW HG0 HRF HKF ?_
        rintro y20 y22 y32 y33 y34 y35 y36 y37 y38 y233 y234 y235 y236 y237 y238 y239 y240 y241 y242 y243 y244 y245 y246 y247 y248 y249 y250 y251 y252 y253 y254 y255 y256 y257 y258 y259 y260 y261 y262 y263 y264 y265 y266 y267 y268 y269 y270 y271 y272 y273 y274 y275 y276 y277 y278 y279 y280 y281 y282 y283 y284 y285 y286 y287 y288 y289 y290 y291 y292 y293 y294 y295 y296 y297 y298 y299 y300 y301 y302 y303 y304 y305 y306 y307 y308 y309 y310 y311 y312 y313 y314 y315 y316 y317 wz hbz
        go_ret
        exact ⟨rfl, hide hbz⟩
  · rw [show decide (from_ ∈ vs) = false from decide_eq_false hfv] at CH
    have CR := hide (refHas (vv := .slice a1 m1 q1) (ev := .slice a2 m2 q2) (rd := rd) (wr := wr0) from_ (unhide HK3).1.vs.1 (unhide HP).vl); obtain ⟨c0, c1, c2, c3, -⟩ := cellsG ((unhide HK3).get (b := b8) (o := oG (.slice a1 m1 q1) (.slice a2 m2 q2) rd wr0) (by simp))
    have HE := hide (unhide HK3).1.bel
    go_wp2_with fail
    refine (unhide CH).mono ?_
    rintro e w4 ⟨rfl, hw4⟩
    rw [hw4]; clear hw4 w4 CH HK3
    go_wp2_with fail
    refine (unhide CR).mono ?_
    rintro e w5 ⟨rfl, hb5⟩
    have HE5 : Hid (Below w.heap.size w w5) := (unhide HE).trans (hb5.mono (unhide HE).size); rw [show decide (from_ ∈ vs) = false from decide_eq_false hfv]
    clear CR hb5 HE c0 c1 c2 c3 hfv
    go_wp2_with fail
    go_ret
    exact ⟨rfl, HE5⟩
end

namespace W16
open Go.ChangeShapes Go.WideShapes Go.ChangeAt Go.RowKit
theorem cellsOf3 : Tryz.prog.cellsOf 3 = 1 := by kernel_rfl
theorem bytes3 : Tryz.prog.bytesOf 3 = 8 := by kernel_rfl
theorem addr_none {w : World} {x : Addr} {v : Value} (h : w.cell? (x.add 0) = some v) : x.spot = none := by
  have := World.cell?_spot h; simpa [Addr.add] using this
end W16

section
open Go.ChangeShapes Go.WideShapes Go.ChangeAt Go.RowKit

end

section
open Go.ChangeShapes Go.WideShapes Go.ChangeAt Go.RowKit
theorem bytes3 : Tryz.prog.bytesOf 3 = 8 := by kernel_rfl
def IsCells (w : World) (a : Option Addr) (len : Nat) (v : Nat → Value) : Prop :=
  len = 0 ∨ ∃ b off, a = some ⟨b, off, none⟩ ∧ 0 < len ∧ ∀ i, i < len → w.cell? ⟨b, off + i, none⟩ = some (v i)
theorem open_one {H : Type} {enc : TypeId × Value → H} {W : World} {spare : Nat → Bool} {held : Bool} {a : Option Addr} {len cap : Nat} {d : DataW H} {p : List MemPlace} {t e : TypeId} {α : Type} [Inhabited α] (f : α → Value) (ht : Tryz.prog.underlying t = some (.slice e)) (he : Tryz.prog.cellsOf e = 1)
    (hf : ∀ n (u : Value) y, DataW.trod enc Tryz.prog W 0 spare held n e [u] = some y → ∃ x, u = f x) (h : DataW.Trod enc Tryz.prog W 0 spare held t (.slice a len cap) d p) :
    ∃ z : Nat → α, IsCells W a len (fun i => f (z i)) ∧ (d = .nil ∧ len = 0 ∨ ∃ es sp, d = .slice es sp ∧ len ≤ es.length) := by
  obtain ⟨fuel, hf0⟩ := h; rcases Deep.open_slice1 ht he hf0 with ⟨hcs, hx⟩ | ⟨x, l, c, m, n, V, D, Pl, hcs, -, hl, hm, hmm, hx, hel⟩
  · simp [Value.cells] at hcs; obtain ⟨rfl, rfl, rfl⟩ := hcs; simp only [Prod.mk.injEq] at hx; exact ⟨fun _ => default, .inl rfl, .inl ⟨hx.1, rfl⟩⟩
  · simp [Value.cells] at hcs; obtain ⟨rfl, rfl, rfl⟩ := hcs; simp only [Prod.mk.injEq] at hx; have hlm : len ≤ m := by rw [hmm]; split <;> omega
    obtain ⟨z, hz⟩ := Deep.choose_lt (α := α) (n := len) (p := fun i y => W.cell? (x.add (i * 1)) = some (f y)) (fun i hi => by
      obtain ⟨h1, h2⟩ := hel i (by omega)
      obtain ⟨y, hy⟩ := hf _ _ _ h2; exact ⟨y, by rw [Nat.mul_one, h1, hy]⟩)
    refine ⟨z, ?_, .inr ⟨_, _, hx.1, by simp⟩⟩
    rcases Nat.eq_zero_or_pos len with h0 | h0
    · exact .inl h0
    · obtain ⟨b, off, spot⟩ := x; obtain rfl : spot = none := addr_none (hz 0 h0); refine .inr ⟨b, off, rfl, h0, fun i hi => ?_⟩
      have := hz i hi; simp only [add_off, Nat.mul_one] at this; exact this
def IsInts (w : World) (a : Option Addr) (len : Nat) (z : Nat → Int) : Prop := IsCells w a len (fun i => .int .i64 (z i))
theorem open_is {H : Type} {enc : TypeId × Value → H} {W : World} {spare : Nat → Bool} {held : Bool} {a : Option Addr} {len cap : Nat} {d : DataW H} {p : List MemPlace} (h : DataW.Trod enc Tryz.prog W 0 spare held 25 (.slice a len cap) d p) :
    ∃ z, IsInts W a len z ∧ (d = .nil ∧ len = 0 ∨ ∃ es sp, d = .slice es sp ∧ len ≤ es.length) :=
  open_one (fun x : Int => .int .i64 x) Tryz.underlying25 cellsOf3 (fun n u y hy => by
    obtain ⟨k, e, -⟩ := DataW.trod_int Tryz.underlying3 hy; exact ⟨k, by simpa using e⟩) h
theorem is_row {w : World} {a : Option Addr} {len cap : Nat} {z : Nat → Int} (h : IsInts w a len z) : SRow w (.slice a len cap) ((List.range len).map z) := by
  refine ⟨a, cap, by simp, fun j k hj => ?_⟩
  have hj' : j < len := by have := (List.getElem?_eq_some_iff.1 hj).1; simpa using this
  have e : z j = k := by simpa [hj'] using hj
  rcases h with h0 | ⟨b, off, rfl, -, hc⟩
  · omega
  · exact ⟨b, off, rfl, by rw [← e]; exact hc j hj'⟩
end

end Go.Proofs.YtagibmgbjhemkaaGreat

/- A claim that came in. -/
import Derived.Test.YtagibmgbjhemkaaGreatFg17
import Derived.Test.YtagibmgbjhemkaaGreatFrame72
import Derived.Test.YtagibmgbjhemkaaGreatEn16
import Derived.Deep.Slices
import Derived.Deep.Strs
namespace Go.Proofs.YtagibmgbjhemkaaGreat

section
open Go.RowKit Go.Maps
open W16 (WtV Lies u8v i64v dec decV DecAns)
set_option maxHeartbeats 16000000 in
set_option maxRecDepth 100000 in
theorem forged17 [Inhabited EntI] (a : Option Addr) (len cap : Nat) (o : Nat → OpV) (w : World) (h : IsOps w a len o) {v : Value} {bs : List Nat} (hv : Lies u8v w v bs) (hx : ∀ x ∈ bs, x < 256) (hl : bs.length ≤ 140737488351232) :
    Calls Tryz.prog 6 #[.slice a len cap, v] w fun e w' => e = .returned (.bool true) ∧ Hid (Below w.heap.size w w') := by
  have CB := hide (builtS a len cap o w h)
  have CW : Hid (∀ W : World, Calls Tryz.prog 9 #[] W fun e w' => e = .returned (.bool true) ∧ Hid (Below W.heap.size W w')) := fun W => awake17S W
  have HV : Hid (Lies u8v w v bs ∧ (∀ x ∈ bs, x < 256) ∧ bs.length ≤ 140737488351232) := ⟨hv, hx, hl⟩
  obtain ⟨va, vc, hva⟩ := W16.lies_shape hv
  obtain ⟨bn, hbn⟩ : ∃ bn, bn = bs.length := ⟨_, rfl⟩
  rw [← hbn] at hva
  clear h hv hx hl hbn
  subst hva
  go_enter Tryz.func6, Tryz.ntmps6
  go_wp2_with fail
  refine (unhide CB).mono ?_
  rintro e w1 hh
  obtain ⟨s, a1, m1, q1, a2, m2, q2, rd, wr0, rfl, n, X, g, vs, gs, hn, hG, hs, hL, hB, hrd, hwr⟩ := unhide hh
  obtain ⟨hK, hP, hr0, hr1⟩ := kc_built hG hs hrd hwr hL hB
  have HP := hide hP
  have HR : Hid (0 ≤ rd ∧ rd ≤ 120) := ⟨hr0, by omega⟩
  have HK := hide (hK.box (oG (.slice a1 m1 q1) (.slice a2 m2 q2) rd wr0))
  generalize g.ps = ps at *
  clear hh hG hs hL hB hrd hwr CB hn hK hP hr0 hr1
  go_upto_region 2 with fail
  change Code.wp _ _ _ _ (w1.alloc (oG (.slice a1 m1 q1) (.slice a2 m2 q2) rd wr0))
  generalize w1.alloc (oG (.slice a1 m1 q1) (.slice a2 m2 q2) rd wr0) = w2 at *
  generalize w1.heap.size = b6 at *
  go_wp2_with fail
  refine (unhide CW _).mono ?_
  rintro e w3 ⟨rfl, hb3⟩
  have HK3 := hide ((unhide HK).below (unhide hb3))
  clear HK hb3 CW
  obtain ⟨C, hC⟩ : ∃ C, C = chkA (fun k => decide (k ∈ vs)) ps bs := ⟨_, rfl⟩
  obtain ⟨D, hD⟩ : ∃ D, D = decV bs := ⟨_, rfl⟩
  have hlen := chkA_len (V := fun k => decide (k ∈ vs)) (ps := ps) (unhide HV).2.1
  have hfm := chk_forms (V := fun k => decide (k ∈ vs)) (ps := ps) (bs := bs)
  rw [← hC, ← hD] at hlen hfm
  have HC : Hid (C = chkA (fun k => decide (k ∈ vs)) ps bs ∧ D = decV bs) := ⟨hC, hD⟩
  clear hC hD
  obtain ⟨⟨F, T, u, es⟩, pl, cd⟩ := C
  obtain ⟨⟨dF, dT, du, ds⟩, dc⟩ := D
  have HLN : Hid (es.length ≤ 1024 ∧ ds.length ≤ 1024) := hlen
  obtain ⟨hf1, hf2, hf3⟩ := hfm
  have HF1 := hide hf1
  have HF2 := hide hf2
  have HF3 : Hid (decide (dc ≠ 0) = decide (cd = 160)) := hf3
  clear hlen hf1 hf2 hf3
  obtain ⟨v1_, c1_, n1_, w1, hr1, g1, g2⟩ := W16.newB (W16.lies_below (unhide HV).1 (unhide HK3).out) (by have := (unhide HV).2.2; omega)
  have HR1 := hide hr1
  have CD := hide (kcCheck (unhide HP) ((unhide HK3).below g2) (W16.byrow_lies g1) (unhide HV).2.1 (by have := (unhide HV).2.2; omega) (fun g e => (g1.lt g e).2) (unhide HR).1 (by have := (unhide HR).2; omega))
  rw [← (unhide HC).1, ← (unhide HC).2] at CD
  clear hr1 g1 g2 HK3
  go_wp2_with (at_builtin; refine Lib.wpList_append_run _ rfl _ _ 23 23 rfl _ _ rfl rfl _ _ (unhide HR1 _) ?_)
  refine (unhide CD).mono ?_
  intro e y1 H6
  obtain ⟨ev, k, rfl, k1, hK6⟩ := unhide H6
  simp only at hK6 k1 ⊢
  obtain ⟨ea1, ec1, hev⟩ := W16.rrow_shape (hK6.getr (List.mem_cons_self ..))
  obtain ⟨en1, hen⟩ : ∃ en1, en1 = es.length := ⟨_, rfl⟩
  rw [← hen] at hev
  clear hen
  subst hev
  obtain ⟨rd1, hrd1⟩ : ∃ rd1, rd1 = rd + (k : Int) := ⟨_, rfl⟩
  rw [← hrd1] at hK6
  have HK1 := hide (hK6.box (oWt F T u (.slice ea1 en1 ec1)))
  have HB1 : Hid (0 ≤ rd1 ∧ rd1 ≤ 1144) := by
    have h1 := unhide HR
    have h2 := (unhide HLN).2
    exact ⟨by omega, by omega⟩
  clear CD H6 hK6 k1 HR1 hrd1 HR
  go_upto_region 5 with fail
  change Code.wp _ _ _ _ (y1.alloc (oWt F T u (.slice ea1 en1 ec1)))
  generalize y1.alloc (oWt F T u (.slice ea1 en1 ec1)) = x1 at *
  generalize y1.heap.size = b8 at *
  obtain ⟨v2_, c2_, n2_, w2, hr2, g1, g2⟩ := W16.newB (W16.lies_below (unhide HV).1 (unhide HK1).out) (by have := (unhide HV).2.2; omega)
  have HR2 := hide hr2
  have CD := hide (kcCheck (unhide HP) ((unhide HK1).below g2) (W16.byrow_lies g1) (unhide HV).2.1 (by have := (unhide HV).2.2; omega) (fun g e => (g1.lt g e).2) (unhide HB1).1 (by have := (unhide HB1).2; omega))
  rw [← (unhide HC).1, ← (unhide HC).2] at CD
  clear hr2 g1 g2 HK1
  go_wp2_with (at_builtin; refine Lib.wpList_append_run _ rfl _ _ 23 23 rfl _ _ rfl rfl _ _ (unhide HR2 _) ?_)
  refine (unhide CD).mono ?_
  intro e y2 H6
  obtain ⟨ev, k, rfl, k1, hK6⟩ := unhide H6
  simp only at hK6 k1 ⊢
  obtain ⟨ea2, ec2, hev⟩ := W16.rrow_shape (hK6.getr (List.mem_cons_self ..))
  obtain ⟨en2, hen⟩ : ∃ en2, en2 = es.length := ⟨_, rfl⟩
  rw [← hen] at hev
  clear hen
  subst hev
  obtain ⟨rd2, hrd2⟩ : ∃ rd2, rd2 = rd1 + (k : Int) := ⟨_, rfl⟩
  rw [← hrd2] at hK6
  have HK2 := hide (hK6.box (oWt F T u (.slice ea2 en2 ec2)))
  have HB2 : Hid (0 ≤ rd2 ∧ rd2 ≤ 2168) := by
    have h1 := unhide HB1
    have h2 := (unhide HLN).2
    exact ⟨by omega, by omega⟩
  clear CD H6 hK6 k1 HR2 hrd2 HB1
  go_upto_region 6 with fail
  change Code.wp _ _ _ _ (y2.alloc (oWt F T u (.slice ea2 en2 ec2)))
  generalize y2.alloc (oWt F T u (.slice ea2 en2 ec2)) = x2 at *
  generalize y2.heap.size = b11 at *
  obtain ⟨v3_, c3_, n3_, w6, hr3, g1, g2⟩ := W16.newB (W16.lies_below (unhide HV).1 (unhide HK2).out) (by have := (unhide HV).2.2; omega)
  have HR3 := hide hr3
  have HK6 := hide ((unhide HK2).below g2)
  have CDd := hide (W16.decodeS (W16.byrow_lies g1) (unhide HV).2.1 (by have := (unhide HV).2.2; omega) (fun g e => (g1.lt g e).2))
  rw [← (unhide HC).2] at CDd
  clear hr3 g1 g2 HK2
  go_wp2_with (at_builtin; refine Lib.wpList_append_run _ rfl _ _ 23 23 rfl _ _ rfl rfl _ _ (unhide HR3 _) ?_)
  refine (unhide CDd).mono ?_
  intro e y3 H10
  obtain ⟨ev10, rfl, g1, g2⟩ := unhide H10
  simp only at g1 ⊢
  have hK10 := (unhide HK6).row (Nat.le_refl _) g2 g1
  obtain ⟨da, dcp, hev⟩ := W16.rrow_shape g1
  obtain ⟨dn, hdn⟩ : ∃ dn, dn = ds.length := ⟨_, rfl⟩
  rw [← hdn] at hev
  have HDN := hide hdn
  clear hdn
  subst hev
  have HK7 := hide (hK10.box (oWt dF dT du (.slice da dn dcp)))
  clear CDd H10 g1 g2 HK6 hK10 HR3
  go_upto_region 7 with fail
  change Code.wp _ _ _ _ (y3.alloc (oWt dF dT du (.slice da dn dcp)))
  generalize y3.alloc (oWt dF dT du (.slice da dn dcp)) = w7 at *
  generalize y3.heap.size = b14 at *
  obtain ⟨x0, x1_, x2_, x3⟩ := oWt_cells ((unhide HK7).get (b := b8) (o := oWt F T u (.slice ea1 en1 ec1)) (by simp))
  obtain ⟨y0, y1_, y2_, y3_⟩ := oWt_cells ((unhide HK7).get (b := b11) (o := oWt F T u (.slice ea2 en2 ec2)) (by simp))
  have CS := W16.sameR F T F T u u (W16.nrow_lies ((unhide HK7).getr (v := .slice ea1 en1 ec1) (ks := es) (by simp))) (W16.nrow_lies ((unhide HK7).getr (v := .slice ea2 en2 ec2) (ks := es) (by simp))) (by have := (unhide HLN).1; omega)
  rw [show decide ((F, T, u, es) = (F, T, u, es)) = true from decide_eq_true rfl] at CS
  have CS1 := hide CS
  clear CS
  by_cases hc0 : cd = 0
  · obtain ⟨F', T', u', es', hd, e1, e2, e3, e4, e5, e6, e7⟩ := unhide HF2 hc0
    simp only [Prod.mk.injEq] at e1 e2
    obtain rfl : F = F' := e1.1.1
    obtain rfl : T = T' := e1.1.2.1
    obtain rfl : u = u' := e1.1.2.2.1
    obtain rfl : es = es' := e1.1.2.2.2
    obtain rfl : F = dF := e2.1.1.symm
    obtain rfl : T = dT := e2.1.2.1.symm
    obtain rfl : u = du := e2.1.2.2.1.symm
    obtain rfl : es = ds := e2.1.2.2.2.symm
    obtain rfl : dc = 0 := e2.2
    obtain rfl : pl = 0 := e1.2.1
    subst hc0
    have HD := hide hd
    have HTR : Hid (fAns F (trip ps F es) = .tuple #[.int .i64 T, .int .u32 (u : Nat), .int .i64 0, .int .i64 0]) := by
      show fAns F (trip ps F es) = _
      unfold fAns
      rw [if_pos e3, e4, e5]
    have HVV : Hid ((fun k => decide (k ∈ vs)) F = true ∧ (fun k => decide (k ∈ vs)) T = true) := ⟨e6, e7⟩
    obtain ⟨oF, oT, -, -, hu⟩ := dec_oks (unhide HV).2.1 hd
    have HOK : Hid (okN F ∧ okN T ∧ 0 ≤ F ∧ F ≤ 2147483647) := ⟨oF, oT, ((W16.dec_some (unhide HV).2.1 hd).1).2.1⟩
    have HZX := hide (bits_xor1 hu)
    clear hu
    clear e1 e2 e3 e4 e5 e6 e7 hd oF oT HF1 HF2 HF3
    go_wp2_with fail
    refine (unhide CS1).mono ?_
    rintro e w8 ⟨rfl, hb8⟩
    have HK8 := hide ((unhide HK7).below (unhide hb8))
    clear CS1 hb8 HK7 x0 x1_ x2_ x3 y0 y1_ y2_ y3_
    go_upto_region 11 with fail
    have CFl := hide (kcFollow (unhide HP) (unhide HK8) F (v := .slice da dn dcp) (ks := es) (by simp) (by have := (unhide HLN).1; omega) (unhide HB2).1 (by have := (unhide HB2).2; omega))
    rw [unhide HTR] at CFl
    obtain ⟨x0, x1_, x2_, x3⟩ := oWt_cells ((unhide HK8).get (b := b14) (o := oWt F T u (.slice da dn dcp)) (by simp))
    have htr := tReads_le ps es F
    obtain ⟨rd3, hrd3⟩ : ∃ rd3, rd3 = rd2 + (tReads (trip ps F es) : Int) := ⟨_, rfl⟩
    rw [← hrd3] at CFl
    have HB3 : Hid (0 ≤ rd3 ∧ rd3 ≤ 3300) := by
      have h1 := unhide HB2
      have h2 := (unhide HLN).2
      exact ⟨by omega, by omega⟩
    clear hrd3 htr HB2 HTR HK8
    go_wp2_with fail
    refine (unhide CFl).mono ?_
    rintro e w9 ⟨rfl, HK9⟩
    clear CFl x0 x1_ x2_ x3
    go_upto_region 12 with fail
    have zx := unhide HZX
    clear HZX
    obtain ⟨v4_, c4_, n4_, w4, hr4, g1, g2⟩ := W16.newB (W := w9.drew) (W16.lies_below (unhide HV).1 ((unhide HK9).below ((Below.refl _ _).drew)).out) (by have := (unhide HV).2.2; omega)
    have HR4 := hide hr4
    have CD := hide (kcClaim (unhide HP) (((unhide HK9).below ((Below.refl _ _).drew)).below g2) F T (u ^^^ 1) (W16.byrow_lies g1) (unhide HV).2.1 (by have := (unhide HV).2.2; omega) (fun g e => (g1.lt g e).2) (unhide HB3).1 (by have := (unhide HB3).2; omega))
    rw [clm_other (unhide HD) (fun z => xor_ne u z.2.2.symm), ← (unhide HC).2] at CD
    simp only at CD
    have hKd := (unhide HK9).below ((Below.refl _ _).drew)
    have hK8 := hKd.below (below_new _ (.cells #[] 5))
    have hK5 := hKd.below g2
    obtain ⟨p0, p1, p2, -⟩ := oWt_cells ((unhide HK9).get (b := b14) (o := (oWt F T u (.slice da dn dcp))) (by simp))
    obtain ⟨q0, q1_, q2_, -⟩ := oWt_cells (hK8.get (b := b14) (o := (oWt F T u (.slice da dn dcp))) (by simp))
    obtain ⟨r0, r1, r2, -⟩ := oWt_cells (hK5.get (b := b14) (o := (oWt F T u (.slice da dn dcp))) (by simp))
    clear hr4 g1 g2 hKd hK8 hK5 HK9
    refine wp_region_noPanic ?_
    refine regionL [] (fun y => y.cell? ⟨b14, 0, none⟩ = some (.int .i64 F) ∧ y.cell? ⟨b14, 1, none⟩ = some (.int .i64 T) ∧ y.cell? ⟨b14, 2, none⟩ = some (.int .u32 (u : Nat))) (by kernel_rfl) (And.intro p0 (And.intro p1 p2)) (fun hHeld => ?_)
    refine takeN 0 110 rfl ?_
    (try simp only [sl])
    refine takeN 1 111 rfl ?_
    (try simp only [sl])
    refine takeN 2 112 rfl ?_
    (try simp only [sl])
    refine takeN 3 113 rfl ?_
    (try simp only [sl])
    refine takeN 4 114 rfl ?_
    (try simp only [sl])
    refine takeN 5 115 rfl ?_
    (try simp only [sl])
    refine takeN 6 116 rfl ?_
    (try simp only [sl])
    refine takeN 7 117 rfl ?_
    (try simp only [sl])
    refine takeN 8 118 rfl ?_
    (try simp only [sl])
    refine takeN 10 120 rfl ?_
    (try simp only [sl])
    refine readyL (i := 9) (by kernel_rfl) rfl (fun K hK => ?_)
    go_simp
    refine hK.out _ _ (fun _ => (And.intro q0 (And.intro q1_ q2_))) ?_
    clear hK K
    (try simp only [sl])
    have hH4 := (And.intro q0 (And.intro q1_ q2_))
    refine readyL (i := 11) (by kernel_rfl) rfl (fun K hK => ?_)
    refine step_append_run rfl (.tmp 119) (.tmp 120) 23 rfl _ _ (by simp [Act.eval]) (by simp [Act.eval]) _ _ (unhide HR4 _) ?_
    refine hK.out _ _ (fun _ => (And.intro r0 (And.intro r1 r2))) ?_
    clear hK K
    (try simp only [sl])
    have hH5 := (And.intro r0 (And.intro r1 r2))
    refine readyL (i := 12) (by kernel_rfl) rfl (fun K hK => ?_)
    go_simp
    refine (unhide CD).mono ?_
    rintro e x4 ⟨rfl, H6⟩
    obtain ⟨k, k1, hK6⟩ := unhide H6
    obtain ⟨s0, s1, s2, -⟩ := oWt_cells (hK6.get (b := b14) (o := (oWt F T u (.slice da dn dcp))) (by simp))
    (try dsimp only)
    refine hK.out _ _ (fun _ => (And.intro s0 (And.intro s1 s2))) ?_
    clear hK K
    (try simp only [sl])
    have hH7 := (And.intro s0 (And.intro s1 s2))
    refine takeN 13 109 rfl ?_
    (try simp only [sl])
    refine takeN 14 123 rfl ?_
    (try simp only [sl])
    refine takeN 15 124 rfl ?_
    (try simp only [sl])
    refine takeN 16 20 rfl ?_
    (try simp only [sl])
    refine takeN 17 21 rfl ?_
    (try simp only [sl])
    refine doneL (by kernel_rfl) ?_ _
    refine NoPanic.normal ?_
    obtain ⟨rd4, hrd4⟩ : ∃ rd4, rd4 = rd3 + (k : Int) := ⟨_, rfl⟩
    rw [← hrd4] at hK6
    have HK4 := hide hK6
    have HB4 : Hid (0 ≤ rd4 ∧ rd4 ≤ 4520) := by
      have h1 := unhide HB3
      have h2 := (unhide HLN).2
      exact ⟨by omega, by omega⟩
    clear hHeld CD H6 hK6 k1 HR4 hrd4 HB3 p0 p1 p2 q0 q1_ q2_ r0 r1 r2 s0 s1 s2
    clear zx
    go_upto_region 13 with fail
    have zx : IntKind.i64.wrap (F - 1) = F - 1 := by
      have := (unhide HOK).2.2
      rw [IntKind.wrap_i64]; omega
    obtain ⟨v5_, c5_, n5_, w5, hr5, g1, g2⟩ := W16.newB (W := x4.drew) (W16.lies_below (unhide HV).1 ((unhide HK4).below ((Below.refl _ _).drew)).out) (by have := (unhide HV).2.2; omega)
    have HR5 := hide hr5
    have CD := hide (kcClaim (unhide HP) (((unhide HK4).below ((Below.refl _ _).drew)).below g2) (F - 1) T u (W16.byrow_lies g1) (unhide HV).2.1 (by have := (unhide HV).2.2; omega) (fun g e => (g1.lt g e).2) (unhide HB4).1 (by have := (unhide HB4).2; omega))
    rw [clm_other (unhide HD) (fun z => by have := z.1; omega), ← (unhide HC).2] at CD
    simp only at CD
    have hKd := (unhide HK4).below ((Below.refl _ _).drew)
    have hK8 := hKd.below (below_new _ (.cells #[] 5))
    have hK5 := hKd.below g2
    obtain ⟨p0, p1, p2, -⟩ := oWt_cells ((unhide HK4).get (b := b14) (o := (oWt F T u (.slice da dn dcp))) (by simp))
    obtain ⟨q0, q1_, q2_, -⟩ := oWt_cells (hK8.get (b := b14) (o := (oWt F T u (.slice da dn dcp))) (by simp))
    obtain ⟨r0, r1, r2, -⟩ := oWt_cells (hK5.get (b := b14) (o := (oWt F T u (.slice da dn dcp))) (by simp))
    clear hr5 g1 g2 hKd hK8 hK5 HK4
    refine wp_region_noPanic ?_
    refine regionL [] (fun y => y.cell? ⟨b14, 0, none⟩ = some (.int .i64 F) ∧ y.cell? ⟨b14, 1, none⟩ = some (.int .i64 T) ∧ y.cell? ⟨b14, 2, none⟩ = some (.int .u32 (u : Nat))) (by kernel_rfl) (And.intro p0 (And.intro p1 p2)) (fun hHeld => ?_)
    refine takeN 0 126 rfl ?_
    (try simp only [sl])
    refine takeN 1 127 rfl ?_
    (try simp only [sl])
    refine takeN 2 128 rfl ?_
    (try simp only [sl])
    refine takeN 3 129 rfl ?_
    (try simp only [sl])
    refine takeN 4 130 rfl ?_
    (try simp only [sl])
    refine takeN 5 131 rfl ?_
    (try simp only [sl])
    refine takeN 6 132 rfl ?_
    (try simp only [sl])
    refine takeN 7 133 rfl ?_
    (try simp only [sl])
    refine takeN 8 134 rfl ?_
    (try simp only [sl])
    refine takeN 10 136 rfl ?_
    (try simp only [sl])
    refine readyL (i := 9) (by kernel_rfl) rfl (fun K hK => ?_)
    go_simp
    refine hK.out _ _ (fun _ => (And.intro q0 (And.intro q1_ q2_))) ?_
    clear hK K
    (try simp only [sl])
    have hH13 := (And.intro q0 (And.intro q1_ q2_))
    refine readyL (i := 11) (by kernel_rfl) rfl (fun K hK => ?_)
    refine step_append_run rfl (.tmp 135) (.tmp 136) 23 rfl _ _ (by simp [Act.eval]) (by simp [Act.eval]) _ _ (unhide HR5 _) ?_
    refine hK.out _ _ (fun _ => (And.intro r0 (And.intro r1 r2))) ?_
    clear hK K
    (try simp only [sl])
    have hH14 := (And.intro r0 (And.intro r1 r2))
    refine readyL (i := 12) (by kernel_rfl) rfl (fun K hK => ?_)
    go_simp
    refine (unhide CD).mono ?_
    rintro e x5 ⟨rfl, H6⟩
    obtain ⟨k, k1, hK6⟩ := unhide H6
    obtain ⟨s0, s1, s2, -⟩ := oWt_cells (hK6.get (b := b14) (o := (oWt F T u (.slice da dn dcp))) (by simp))
    (try dsimp only)
    refine hK.out _ _ (fun _ => (And.intro s0 (And.intro s1 s2))) ?_
    clear hK K
    (try simp only [sl])
    have hH16 := (And.intro s0 (And.intro s1 s2))
    refine takeN 13 125 rfl ?_
    (try simp only [sl])
    refine takeN 14 139 rfl ?_
    (try simp only [sl])
    refine takeN 15 140 rfl ?_
    (try simp only [sl])
    refine takeN 16 22 rfl ?_
    (try simp only [sl])
    refine takeN 17 23 rfl ?_
    (try simp only [sl])
    refine doneL (by kernel_rfl) ?_ _
    refine NoPanic.normal ?_
    obtain ⟨rd5, hrd5⟩ : ∃ rd5, rd5 = rd4 + (k : Int) := ⟨_, rfl⟩
    rw [← hrd5] at hK6
    have HK5 := hide hK6
    have HB5 : Hid (0 ≤ rd5 ∧ rd5 ≤ 5620) := by
      have h1 := unhide HB4
      have h2 := (unhide HLN).2
      exact ⟨by omega, by omega⟩
    clear hHeld CD H6 hK6 k1 HR5 hrd5 HB4 p0 p1 p2 q0 q1_ q2_ r0 r1 r2 s0 s1 s2
    clear zx
    go_upto_region 14 with fail
    obtain ⟨v6_, c6_, n6_, w6, hr6, g1, g2⟩ := W16.newB (W := x5.drew) (W16.lies_below (unhide HV).1 ((unhide HK5).below ((Below.refl _ _).drew)).out) (by have := (unhide HV).2.2; omega)
    have HR6 := hide hr6
    have CD := hide (kcClaim (unhide HP) (((unhide HK5).below ((Below.refl _ _).drew)).below g2) F T u (W16.byrow_lies g1) (unhide HV).2.1 (by have := (unhide HV).2.2; omega) (fun g e => (g1.lt g e).2) (unhide HB5).1 (by have := (unhide HB5).2; omega))
    rw [clm_same (unhide HD), ← (unhide HC).1, ← (unhide HC).2] at CD
    simp only at CD
    have hKd := (unhide HK5).below ((Below.refl _ _).drew)
    have hK8 := hKd.below (below_new _ (.cells #[] 5))
    have hK5 := hKd.below g2
    obtain ⟨p0, p1, p2, -⟩ := oWt_cells ((unhide HK5).get (b := b14) (o := (oWt F T u (.slice da dn dcp))) (by simp))
    obtain ⟨q0, q1_, q2_, -⟩ := oWt_cells (hK8.get (b := b14) (o := (oWt F T u (.slice da dn dcp))) (by simp))
    obtain ⟨r0, r1, r2, -⟩ := oWt_cells (hK5.get (b := b14) (o := (oWt F T u (.slice da dn dcp))) (by simp))
    clear hr6 g1 g2 hKd hK8 hK5 HK5
    refine wp_region_noPanic ?_
    refine regionL [] (fun y => y.cell? ⟨b14, 0, none⟩ = some (.int .i64 F) ∧ y.cell? ⟨b14, 1, none⟩ = some (.int .i64 T) ∧ y.cell? ⟨b14, 2, none⟩ = some (.int .u32 (u : Nat))) (by kernel_rfl) (And.intro p0 (And.intro p1 p2)) (fun hHeld => ?_)
    refine takeN 0 142 rfl ?_
    (try simp only [sl])
    refine takeN 1 143 rfl ?_
    (try simp only [sl])
    refine takeN 2 144 rfl ?_
    (try simp only [sl])
    refine takeN 3 145 rfl ?_
    (try simp only [sl])
    refine takeN 4 146 rfl ?_
    (try simp only [sl])
    refine takeN 5 147 rfl ?_
    (try simp only [sl])
    refine takeN 6 148 rfl ?_
    (try simp only [sl])
    refine takeN 7 149 rfl ?_
    (try simp only [sl])
    refine takeN 9 151 rfl ?_
    (try simp only [sl])
    refine readyL (i := 8) (by kernel_rfl) rfl (fun K hK => ?_)
    go_simp
    refine hK.out _ _ (fun _ => (And.intro q0 (And.intro q1_ q2_))) ?_
    clear hK K
    (try simp only [sl])
    have hH22 := (And.intro q0 (And.intro q1_ q2_))
    refine readyL (i := 10) (by kernel_rfl) rfl (fun K hK => ?_)
    refine step_append_run rfl (.tmp 150) (.tmp 151) 23 rfl _ _ (by simp [Act.eval]) (by simp [Act.eval]) _ _ (unhide HR6 _) ?_
    refine hK.out _ _ (fun _ => (And.intro r0 (And.intro r1 r2))) ?_
    clear hK K
    (try simp only [sl])
    have hH23 := (And.intro r0 (And.intro r1 r2))
    refine readyL (i := 11) (by kernel_rfl) rfl (fun K hK => ?_)
    go_simp
    refine (unhide CD).mono ?_
    rintro e x6 ⟨rfl, H6⟩
    obtain ⟨k, k1, hK6⟩ := unhide H6
    obtain ⟨s0, s1, s2, -⟩ := oWt_cells (hK6.get (b := b14) (o := (oWt F T u (.slice da dn dcp))) (by simp))
    (try dsimp only)
    refine hK.out _ _ (fun _ => (And.intro s0 (And.intro s1 s2))) ?_
    clear hK K
    (try simp only [sl])
    have hH25 := (And.intro s0 (And.intro s1 s2))
    refine takeN 12 141 rfl ?_
    (try simp only [sl])
    refine takeN 13 154 rfl ?_
    (try simp only [sl])
    refine takeN 14 155 rfl ?_
    (try simp only [sl])
    refine takeN 15 24 rfl ?_
    (try simp only [sl])
    refine takeN 16 25 rfl ?_
    (try simp only [sl])
    refine doneL (by kernel_rfl) ?_ _
    refine NoPanic.normal ?_
    obtain ⟨rd6, hrd6⟩ : ∃ rd6, rd6 = rd5 + (k : Int) := ⟨_, rfl⟩
    rw [← hrd6] at hK6
    have HK6 := hide hK6
    have HB6 : Hid (0 ≤ rd6 ∧ rd6 ≤ 6720) := by
      have h1 := unhide HB5
      have h2 := (unhide HLN).2
      exact ⟨by omega, by omega⟩
    clear hHeld CD H6 hK6 k1 HR6 hrd6 HB5 p0 p1 p2 q0 q1_ q2_ r0 r1 r2 s0 s1 s2
    have CS2 := W16.sameR F T F T u u (W16.nrow_lies ((unhide HK6).getr (v := .slice ea1 en1 ec1) (ks := es) (by simp))) (W16.nrow_lies ((unhide HK6).getr (v := .slice da dn dcp) (ks := es) (by simp))) (by have := (unhide HLN).1; omega)
    rw [show decide ((F, T, u, es) = (F, T, u, es)) = true from decide_eq_true rfl] at CS2
    have CS3 := hide CS2
    clear CS2
    obtain ⟨x0, x1_, x2_, x3⟩ := oWt_cells ((unhide HK6).get (b := b8) (o := oWt F T u (.slice ea1 en1 ec1)) (by simp))
    obtain ⟨y0, y1_, y2_, y3_⟩ := oWt_cells ((unhide HK6).get (b := b14) (o := oWt F T u (.slice da dn dcp)) (by simp))
    go_wp2_with fail
    refine (unhide CS3).mono ?_
    rintro e w15 ⟨rfl, hb15⟩
    have HK15 := hide ((unhide HK6).below (unhide hb15))
    clear CS3 hb15 HK6 x0 x1_ x2_ x3 y0 y1_ y2_ y3_
    obtain ⟨y0, y1_, y2_, y3_⟩ := oWt_cells ((unhide HK15).get (b := b14) (o := oWt F T u (.slice da dn dcp)) (by simp))
    have CHF := kcHas (unhide HK15) (unhide HOK).1
    have CHT := kcHas (unhide HK15) (unhide HOK).2.1
    rw [show decide (F ∈ vs) = true from (unhide HVV).1] at CHF
    rw [show decide (T ∈ vs) = true from (unhide HVV).2] at CHT
    have CH1 := hide CHF
    have CH2 := hide CHT
    have HE := hide (unhide HK15).out
    clear CHF CHT HK15
    go_wp2_with fail
    refine (unhide CH1).mono ?_
    rintro e w16 ⟨rfl, hw16⟩
    rw [hw16]
    clear hw16 CH1
    go_wp2_with fail
    refine (unhide CH2).mono ?_
    rintro e w17 ⟨rfl, hw17⟩
    rw [hw17]
    clear hw17 CH2
    go_wp2_with fail
    go_ret
    exact ⟨rfl, HE⟩
  · obtain ⟨e1, e2⟩ := unhide HF1 hc0
    simp only [Prod.mk.injEq] at e1 e2
    obtain rfl : F = 0 := e1.1
    obtain rfl : T = 0 := e1.2.1
    obtain rfl : u = 0 := e1.2.2.1
    obtain rfl : es = [] := e1.2.2.2
    have zc0 : (cd == 0) = false := by simpa using hc0
    have zc1 : (cd != 0) = true := by simp only [bne, zc0]; rfl
    have zp0 : (0 : Int) ≤ (pl : Int) := by omega
    have zpl : (pl : Int) ≤ (dn : Int) := by have := unhide HDN; omega
    have hd3 := unhide HF3
    clear e1 e2 HF1 HF2 HF3 HC HP HB2 hc0
    by_cases h160 : cd = 160
    · subst h160
      have zdc : (dc == 0) = false := by
        have : dc ≠ 0 := by simpa using hd3
        simpa using this
      have zdn : (dc != 0) = true := by simp only [bne, zdc]; rfl
      clear hd3
      go_wp2_with fail
      refine (unhide CS1).mono ?_
      rintro e w8 ⟨rfl, hb8⟩
      have HK8 := hide ((unhide HK7).below (unhide hb8))
      clear CS1 hb8 HK7 x0 x1_ x2_ x3 y0 y1_ y2_ y3_
      go_upto_region 10 with fail
      have CS2 := W16.sameR 0 0 0 0 0 0 (W16.nrow_lies ((unhide HK8).getr (v := .slice ea1 en1 ec1) (ks := []) (by simp))) (show Lies i64v w8 (.slice none 0 0) [] from ⟨none, 0, rfl, Nat.le_refl _, fun _ => rfl, .inl rfl⟩) (by simp)
      rw [show decide ((((0 : Int), (0 : Int), (0 : Nat), ([] : List Int)) = (0, 0, 0, []))) = true from decide_eq_true rfl] at CS2
      have CS3 := hide CS2
      clear CS2
      obtain ⟨x0, x1_, x2_, x3⟩ := oWt_cells ((unhide HK8).get (b := b8) (o := oWt 0 0 0 (.slice ea1 en1 ec1)) (by simp))
      go_wp2_with fail
      refine (unhide CS3).mono ?_
      rintro e w9 ⟨rfl, hb9⟩
      have HK9 := hide ((unhide HK8).below (unhide hb9))
      clear CS3 hb9 HK8 x0 x1_ x2_ x3
      obtain ⟨y0, y1_, y2_, y3_⟩ := oWt_cells ((unhide HK9).get (b := b14) (o := oWt dF dT du (.slice da dn dcp)) (by simp))
      have HE := hide (unhide HK9).out
      clear HK9
      go_wp2_with fail
      go_ret
      exact ⟨rfl, HE⟩
    · have zcd : (cd == 160) = false := by simpa using h160
      obtain rfl : dc = 0 := by simpa [h160] using hd3
      clear hd3 h160
      go_wp2_with fail
      refine (unhide CS1).mono ?_
      rintro e w8 ⟨rfl, hb8⟩
      have HK8 := hide ((unhide HK7).below (unhide hb8))
      clear CS1 hb8 HK7 x0 x1_ x2_ x3 y0 y1_ y2_ y3_
      go_upto_region 10 with fail
      have CS2 := W16.sameR 0 0 0 0 0 0 (W16.nrow_lies ((unhide HK8).getr (v := .slice ea1 en1 ec1) (ks := []) (by simp))) (show Lies i64v w8 (.slice none 0 0) [] from ⟨none, 0, rfl, Nat.le_refl _, fun _ => rfl, .inl rfl⟩) (by simp)
      rw [show decide ((((0 : Int), (0 : Int), (0 : Nat), ([] : List Int)) = (0, 0, 0, []))) = true from decide_eq_true rfl] at CS2
      have CS3 := hide CS2
      clear CS2
      obtain ⟨x0, x1_, x2_, x3⟩ := oWt_cells ((unhide HK8).get (b := b8) (o := oWt 0 0 0 (.slice ea1 en1 ec1)) (by simp))
      go_wp2_with fail
      refine (unhide CS3).mono ?_
      rintro e w9 ⟨rfl, hb9⟩
      have HK9 := hide ((unhide HK8).below (unhide hb9))
      clear CS3 hb9 HK8 x0 x1_ x2_ x3
      obtain ⟨y0, y1_, y2_, y3_⟩ := oWt_cells ((unhide HK9).get (b := b14) (o := oWt dF dT du (.slice da dn dcp)) (by simp))
      have HE := hide (unhide HK9).out
      clear HK9
      go_wp2_with fail
      go_ret
      exact ⟨rfl, HE⟩
end

namespace W16
open Go.ChangeShapes Go.WideShapes Go.ChangeAt Go.RowKit
theorem cellsOf3 : Tryz.prog.cellsOf 3 = 1 := by kernel_rfl
theorem cellsOfB : Tryz.prog.cellsOf 5 = 1 := by kernel_rfl
theorem bytesB : Tryz.prog.bytesOf 5 = 1 := by kernel_rfl
theorem addr_none {w : World} {x : Addr} {v : Value} (h : w.cell? (x.add 0) = some v) : x.spot = none := by
  have := World.cell?_spot h
  simpa [Addr.add] using this
/-- A slice whose elements are one cell each, opened. -/
theorem open_lies {H : Type} {enc : TypeId × Value → H} {W : World} {spare : Nat → Bool} {held : Bool} {v : Value} {fuel : Nat} {x : DataW H × List MemPlace} {t e : TypeId} {α : Type} [Inhabited α] (f : α → Value) (Q : α → Prop) (ht : Tryz.prog.underlying t = some (.slice e)) (he : Tryz.prog.cellsOf e = 1)
    (hf : ∀ n (u : Value) y, DataW.trod enc Tryz.prog W 0 spare held n e [u] = some y → ∃ x, u = f x ∧ Q x) (h : DataW.trod enc Tryz.prog W 0 spare held fuel t [v] = some x) :
    ∃ (xs : List α) (a : Option Addr) (len cap : Nat), v = .slice a len cap ∧ Lies f W v xs ∧ (∀ x ∈ xs, Q x) ∧ len = xs.length ∧ (x.1 = .nil ∧ xs = [] ∨ ∃ es sp, x.1 = .slice es sp ∧ xs.length ≤ es.length) := by
  rcases Deep.open_slice1 ht he h with ⟨hcs, hx⟩ | ⟨y, l, c, m, n, V, D, Pl, hcs, -, hl, -, hmm, hx, hel⟩
  · simp only [List.cons.injEq, and_true] at hcs
    subst hcs
    exact ⟨[], none, 0, 0, rfl, ⟨none, 0, rfl, Nat.le_refl _, fun _ => rfl, .inl rfl⟩, fun x hx => (by cases hx), rfl, .inl ⟨by rw [hx], rfl⟩⟩
  · simp only [List.cons.injEq, and_true] at hcs
    subst hcs
    have hlm : l ≤ m := by rw [hmm]; split <;> omega
    obtain ⟨z, hz⟩ := Deep.choose_lt (α := α) (n := l) (p := fun i y' => W.cell? (y.add i) = some (f y') ∧ Q y') (fun i hi => by
      obtain ⟨h1, h2⟩ := hel i (by omega)
      obtain ⟨y', hy, hq⟩ := hf _ _ _ h2
      exact ⟨y', by rw [h1, hy], hq⟩)
    refine ⟨(List.range l).map z, some y, l, c, rfl, ⟨some y, c, by simp, by simpa using hl, fun e => (by cases e), ?_⟩, fun x hx => ?_, by simp, .inr ⟨_, _, by rw [hx], by simp⟩⟩
    · rcases Nat.eq_zero_or_pos l with h0 | h0
      · exact .inl (by rw [h0]; rfl)
      · obtain ⟨b, off, spot⟩ := y
        obtain rfl : spot = none := addr_none (hz 0 h0).1
        refine .inr ⟨b, off, rfl, fun i x hx => ?_⟩
        have hi : i < l := by have := (List.getElem?_eq_some_iff.1 hx).1; simpa using this
        have e : z i = x := by simpa [hi] using hx
        have := (hz i hi).1
        rw [add_off13, e] at this
        exact this
    · simp only [List.mem_map, List.mem_range] at hx
      obtain ⟨i, hi, rfl⟩ := hx
      exact (hz i hi).2
theorem open_by {H : Type} {enc : TypeId × Value → H} {W : World} {spare : Nat → Bool} {held : Bool} {v : Value} {d : DataW H} {p : List MemPlace} (hv : ∃ c, v.cells = #[c] ∧ c = v) (h : DataW.Trod enc Tryz.prog W 0 spare held 23 v d p) :
    ∃ (bs : List Nat) (a : Option Addr) (len cap : Nat), v = .slice a len cap ∧ Lies u8v W v bs ∧ (∀ x ∈ bs, x < 256) ∧ len = bs.length ∧ (d = .nil ∧ bs = [] ∨ ∃ es sp, d = .slice es sp ∧ bs.length ≤ es.length) := by
  obtain ⟨fuel, hf⟩ := h
  obtain ⟨c, hc, rfl⟩ := hv
  rw [show c.cells.toList = [c] by rw [hc]] at hf
  exact open_lies u8v (fun x => x < 256) Tryz.underlying23 cellsOfB (fun n u y hy => by
    obtain ⟨k, e, -, wk⟩ := DataW.trod_int Tryz.underlying5 hy
    have hk : 0 ≤ k ∧ k < 256 := by
      have h1 : IntKind.u8.min = 0 := by decide
      have h2 : IntKind.u8.max = 255 := by decide
      simp [Lit.wf] at wk; omega
    exact ⟨k.toNat, by simp only [List.cons.injEq, and_true] at e; rw [e]; simp [u8v]; omega, by omega⟩) hf
theorem by_sized {H : Type} {ts : List TypeId} {ds : List (DataW H)} (hsz : (DataW.weightsEach Tryz.prog ts ds).all (· ≤ reachBytes) = true) {j : Nat} {d : DataW H} (ht : ts[j]? = some 23) (hd : ds[j]? = some d) {bs : List Nat} (h : d = .nil ∧ bs = [] ∨ ∃ xs sp, d = .slice xs sp ∧ bs.length ≤ xs.length) : bs.length ≤ 140737488351232 := by
  rcases h with ⟨-, rfl⟩ | ⟨xs, sp, rfl, h⟩
  · simp
  · have := sized_slice hsz ht hd Tryz.underlying23
    rw [bytesB] at this
    unfold reachBytes at this
    omega
end W16

section
open Go.ChangeShapes Go.WideShapes Go.ChangeAt Go.RowKit

end

end Go.Proofs.YtagibmgbjhemkaaGreat

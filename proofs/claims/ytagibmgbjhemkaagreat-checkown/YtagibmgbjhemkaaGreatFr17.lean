/- A claim that came in. -/
import Derived.Test.YtagibmgbjhemkaaGreatOw17
import Derived.Test.YtagibmgbjhemkaaGreatTellsW7
import Derived.Test.YtagibmgbjhemkaaGreatRm16
import Derived.Test.YtagibmgbjhemkaaGreatFrame72
import Derived.Test.YtagibmgbjhemkaaGreatEn16
import Derived.Deep.Slices
import Derived.Deep.Strs
namespace Go.Proofs.YtagibmgbjhemkaaGreat

section
open Go.RowKit Go.Maps
open W16 (WtV Lies u8v i64v dec decV DecAns)
/-- A byte more, out of a block of its own. -/
theorem newB1 {B : Nat} {W : World} {v : Value} {bs : List Nat} (h : W16.ByRow B W v bs) (hB : B ≤ W.heap.size) (hl : bs.length < 140737488355328) (y : Nat) :
    ∃ a' n' c' w', (∀ ty, (Builtin.append_ #[23, 23] ty #[v, .slice (some ⟨W.heap.size, 0, none⟩) 1 1]).run Tryz.prog (W.alloc (.cells #[.int .u8 (y : Nat)] 5)) = .ok (.slice a' n' c') w') ∧ W16.ByRow B w' (.slice a' n' c') (bs ++ [y]) ∧ Below B W w' := by
  have hb := below_new W (.cells #[.int .u8 (y : Nat)] 5)
  have hlz : Lies u8v (W.alloc (.cells #[.int .u8 (y : Nat)] 5)) (.slice (some ⟨W.heap.size, 0, none⟩) 1 1) [y] := ⟨_, 1, rfl, by simp, fun e => (by cases e), .inr ⟨W.heap.size, 0, rfl, fun i x hx => by
    obtain rfl : i = 0 := by have := (List.getElem?_eq_some_iff.1 hx).1; simp at this; omega
    obtain rfl : y = x := by simpa using hx
    exact (cell_of_row _ _ 0 _ _ (0, 0) (heap_alloc_new W (.cells #[.int .u8 (y : Nat)] 5))).trans rfl⟩⟩
  obtain ⟨a', n', c', w', r, g1, g2, -⟩ := W16.run_appBs (W16.rrow_below h hb) (Nat.le_trans hB hb.size) hlz (by simp; omega)
  refine ⟨a', n', c', w', r, g1, (hb.mono hB).trans (g2.below (Nat.le_trans hB hb.size) (fun k e => ?_))⟩
  exact (h.lt k e).1
set_option maxHeartbeats 16000000 in
set_option maxRecDepth 100000 in
theorem own17 [Inhabited EntI] (a : Option Addr) (len cap : Nat) (o : Nat → OpV) (w : World) (h : IsOps w a len o) {v : Value} {bs : List Nat} (hv : Lies u8v w v bs) (hx : ∀ x ∈ bs, x < 256) (hl : bs.length ≤ 140737488351232) :
    Calls Tryz.prog 7 #[.slice a len cap, v] w fun e w' => e = .returned (.bool true) ∧ Hid (Below w.heap.size w w') := by
  have CB := hide (builtS a len cap o w h)
  have CW : Hid (∀ W : World, Calls Tryz.prog 9 #[] W fun e w' => e = .returned (.bool true) ∧ Hid (Below W.heap.size W w')) := fun W => awake17S W
  have HV : Hid (Lies u8v w v bs ∧ (∀ x ∈ bs, x < 256) ∧ bs.length ≤ 140737488351232) := ⟨hv, hx, hl⟩
  obtain ⟨va, vc, hva⟩ := W16.lies_shape hv
  obtain ⟨bn, hbn⟩ : ∃ bn, bn = bs.length := ⟨_, rfl⟩
  rw [← hbn] at hva
  have HBN : Hid (bn = bs.length) := hbn
  clear h hv hx hl hbn
  subst hva
  go_enter Tryz.func7, Tryz.ntmps7
  go_wp2_with fail
  refine (unhide CB).mono ?_
  rintro e w1 hh
  obtain ⟨s, a1, m1, q1, a2, m2, q2, rd, wr0, rfl, n, X, g, vs, gs, hn, hG, hs, hL, hB, hrd, hwr⟩ := unhide hh
  obtain ⟨hK, hP, hr0, hr1⟩ := kc_built hG hs hrd hwr hL hB
  have HP := hide hP
  have HR : Hid (0 ≤ rd ∧ rd ≤ 120) := ⟨hr0, by omega⟩
  obtain ⟨ps, hps⟩ : ∃ ps, ps = g.ps := ⟨_, rfl⟩
  rw [← hps] at HP
  have hK0 := kg_start hG hps.symm hL hB (oG (.slice a1 m1 q1) (.slice a2 m2 q2) rd wr0)
  rw [hrd] at hK0
  have HK := hide hK0
  clear hK0
  have HG := hide hG
  have HLO : Hid (w.heap.size ≤ w1.heap.size) := hB.size
  have HGB : Hid (n ≤ 120 ∧ g.rd = rd ∧ g.wr = wr0) := ⟨hn, hrd, hwr⟩
  subst hs
  clear hh hG hL hB hrd hwr CB hn hK hP hr0 hr1 hps
  go_upto_region 2 with fail
  change Code.wp _ _ _ _ (w1.alloc (oG (.slice a1 m1 q1) (.slice a2 m2 q2) rd wr0))
  generalize w1.alloc (oG (.slice a1 m1 q1) (.slice a2 m2 q2) rd wr0) = w2 at *
  generalize w1.heap.size = b6 at *
  go_wp2_with fail
  refine (unhide CW _).mono ?_
  rintro e w3 ⟨rfl, hb3⟩
  have HK3 := hide ((unhide HK).below (unhide hb3))
  clear HK hb3 CW
  obtain ⟨v4_, c4_, n4_, w4, hr4, g1, g2⟩ := W16.newB (W16.lies_below (unhide HV).1 (unhide HK3).1.bel) (by have := (unhide HV).2.2; omega)
  obtain ⟨v5_, bm, n5_, w5, hr5, k1, k2⟩ := newB1 g1 g2.size (by have := (unhide HV).2.2; omega) 7
  have HR4 := hide hr4
  have HR5 := hide hr5
  obtain ⟨q, qc, hq⟩ := W16.rrow_shape k1
  obtain ⟨rg, rfl⟩ : ∃ rg, v5_ = some ⟨rg, 0, none⟩ := W16.rrow_some k1 (by simp)
  have HBM : Hid (bm = bn + 1) := by
    have h1 := W16.rrow_len k1
    have h2 := unhide HBN
    rw [List.length_append, ← h2] at h1
    exact h1
  have hB5 : Below w3.heap.size w3 w5 := g2.trans k2
  have HK5 := hide ((unhide HK3).room hB5 k1)
  have HQC : Hid (bm ≤ n5_) := row_cap17 k1
  clear hr4 hr5 g1 g2 k1 k2 hB5 hq q qc HK3
  go_upto_region 5 with (at_builtin; first | (have h := HR4; clear HR4; refine Lib.wpList_append_run _ rfl _ _ 23 23 rfl _ _ rfl rfl _ _ (unhide h _) ?_; clear h) | (have h := HR5; clear HR5; refine Lib.wpList_append_run _ rfl _ _ 23 23 rfl _ _ rfl rfl _ _ (unhide h _) ?_; clear h))
  have HLB : Hid (∀ W r kb rows, KG kb rows (.slice (some ⟨rg, 0, none⟩) bm n5_) (bs ++ [7]) w X r ps (.slice a1 m1 q1) (.slice a2 m2 q2) vs gs W → Lies u8v W (.slice (some ⟨rg, 0, none⟩) bn n5_) bs ∧ ∀ c, (Value.slice (some ⟨rg, 0, none⟩) bn n5_).ownBlock = some c → c < W.heap.size) := fun W r kb rows hW => by
    have h1 := W16.rrow_take W16.kitB hW.2.1 (m := bn) (by have := unhide HBM; omega)
    rw [List.take_left' (unhide HBN).symm] at h1
    exact ⟨W16.byrow_lies h1, fun c e => (h1.lt c e).2⟩
  have hbq : bn ≤ n5_ := by have := unhide HQC; have := unhide HBM; omega
  obtain ⟨C, hC⟩ : ∃ C, C = chkA (fun k => decide (k ∈ vs)) ps bs := ⟨_, rfl⟩
  have hlen := chkA_len (V := fun k => decide (k ∈ vs)) (ps := ps) (unhide HV).2.1
  rw [← hC] at hlen
  have HC := hide hC
  clear hC
  obtain ⟨⟨F, T, u, es⟩, pl, cd⟩ := C
  have HLN : Hid (es.length ≤ 1024 ∧ (decV bs).1.2.2.2.length ≤ 1024) := hlen
  clear hlen
  have CD := hide (kgCheck (unhide HP) (unhide HK5) (unhide HLB _ _ _ _ (unhide HK5)).1 (unhide HV).2.1 (by have := (unhide HV).2.2; omega) (unhide HLB _ _ _ _ (unhide HK5)).2 (unhide HR).1 (by have := (unhide HR).2; omega))
  rw [← (unhide HC)] at CD
  go_wp2_with fail
  refine (unhide CD).mono ?_
  intro e y1 H6
  obtain ⟨ev, k, rfl, k1, hK6⟩ := unhide H6
  simp only at hK6 k1 ⊢
  obtain ⟨ea1, ec1, hev⟩ := W16.rrow_shape (hK6.getr (List.mem_cons_self ..))
  obtain ⟨en1, hen⟩ : ∃ en1, en1 = es.length := ⟨_, rfl⟩
  rw [← hen] at hev
  clear hen
  subst hev
  obtain ⟨rd1, hrd1⟩ : ∃ rd1, rd1 = rd + (k : Int) := ⟨_, rfl⟩
  rw [← hrd1] at hK6
  have HK6 := hide (hK6.box (oWt F T u (.slice ea1 en1 ec1)))
  have HB1 : Hid (0 ≤ rd1 ∧ rd1 ≤ 1200) := by
    have h1 := unhide HR
    have h2 := (unhide HLN).2
    exact ⟨by omega, by omega⟩
  clear CD H6 hK6 k1 hrd1 HR HK5
  go_upto_region 6 with fail
  change Code.wp _ _ _ _ (y1.alloc (oWt F T u (.slice ea1 en1 ec1)))
  generalize y1.alloc (oWt F T u (.slice ea1 en1 ec1)) = w6 at *
  generalize y1.heap.size = b9 at *
  have CL := hide (kgClaim (unhide HP) (unhide HK6) 1 2 3 (unhide HLB _ _ _ _ (unhide HK6)).1 (unhide HV).2.1 (by have := (unhide HV).2.2; omega) (unhide HLB _ _ _ _ (unhide HK6)).2 (unhide HB1).1 (by have := (unhide HB1).2; omega))
  clear HK6
  go_wp2_with fail
  refine (unhide CL).mono ?_
  rintro e w7 ⟨rfl, H7⟩
  obtain ⟨k, k1, hK7⟩ := unhide H7
  obtain ⟨rd2, hrd2⟩ : ∃ rd2, rd2 = rd1 + (k : Int) := ⟨_, rfl⟩
  rw [← hrd2] at hK7
  have HK7 := hide hK7
  have HB2 : Hid (0 ≤ rd2 ∧ rd2 ≤ 2300) := by
    have h1 := unhide HB1
    have h2 := (unhide HLN).2
    exact ⟨by omega, by omega⟩
  clear CL H7 hK7 k1 hrd2 HB1
  go_upto_region 7 with fail
  have hK7d := (unhide HK7).below (W' := w7.drew) ((Below.refl _ _).drew)
  have hs1 := W16.convB (unhide HLB _ _ _ _ hK7d).1 (unhide HV).2.1
  have hs2 := W16.convB (W16.lies_below (unhide HV).1 hK7d.1.bel) (unhide HV).2.1
  have hs3 : w7.drew.cell? ⟨rg, bn, none⟩ = some (.int .u8 7) := by
    have := W16.rrow_at W16.kitB hK7d.2.1 (i := bn) (x := 7) (by rw [unhide HBN]; simp) (j := 0) rfl
    simpa using this
  generalize W16.strB bs = sb at *
  have z1 : (bn : Int) < (bm : Int) := by have := unhide HBM; omega
  refine wp_region_noPanic ?_
  refine regionL [] (fun y => (convert 23 9 (.slice (some ⟨rg, 0, none⟩) bn n5_)).run Tryz.prog y = .ok (.string sb) y ∧ (convert 23 9 (.slice va bn vc)).run Tryz.prog y = .ok (.string sb) y ∧ y.cell? ⟨rg, bn, none⟩ = some (.int .u8 7)) (by kernel_rfl) (And.intro hs1 (And.intro hs2 hs3)) (fun hHeld => ?_)
  refine takeN 0 51 rfl ?_
  (try simp only [sl])
  refine takeN 1 52 rfl ?_
  (try simp only [sl])
  refine takeN 2 53 rfl ?_
  (try simp only [sl])
  refine takeN 3 54 rfl ?_
  (try simp only [sl])
  refine takeN 4 55 rfl ?_
  (try simp only [sl])
  refine takeN 5 56 rfl ?_
  (try simp only [sl])
  refine takeN 6 57 rfl ?_
  (try simp only [sl])
  refine takeN 7 58 rfl ?_
  (try simp only [sl])
  refine takeN 8 59 rfl ?_
  (try simp only [sl])
  refine takeN 9 60 rfl ?_
  (try simp only [sl])
  refine takeN 10 61 rfl ?_
  (try simp only [sl])
  refine takeN 11 62 rfl ?_
  (try simp only [sl])
  refine takeN 12 63 rfl ?_
  (try simp only [sl])
  refine takeN 13 64 rfl ?_
  (try simp only [sl])
  refine takeN 14 65 rfl ?_
  (try simp only [sl])
  refine takeN 15 66 rfl ?_
  (try simp only [sl])
  refine doneL (by kernel_rfl) ?_ _
  refine NoPanic.normal ?_
  have HK8 := hide hK7d
  clear hHeld hs1 hs2 hs3 hK7d HK7 z1 HLB
  generalize w7.drew = w8 at *
  go_upto_region 10 with fail
  go_loopw [69] (fun s69 W => ∃ i : Nat, s69 = .int .i64 i ∧ i ≤ bm ∧ Hid (∃ rb : List Nat, rb.length = bm ∧ KG [(b9, oWt F T u (.slice ea1 en1 ec1)), (b6, oG (.slice a1 m1 q1) (.slice a2 m2 q2) rd wr0)] [(.slice ea1 en1 ec1, es)] (.slice (some ⟨rg, 0, none⟩) bm n5_) rb w X rd2 ps (.slice a1 m1 q1) (.slice a2 m2 q2) vs gs W)) (fun s69 _ => bm - (intOf s69).toNat)
  case atStart => exact ⟨0, rfl, Nat.zero_le _, bs ++ [7], by rw [unhide HBM, unhide HBN]; simp, unhide HK8⟩
  case round =>
    obtain ⟨i, rfl, hi, HS⟩ := hrel
    clear HK8
    by_cases hlt : i < bm
    · obtain ⟨rb, hrb, hK⟩ := unhide HS
      obtain ⟨x, hx⟩ : ∃ x, rb[i]? = some x := ⟨_, List.getElem?_eq_getElem (by omega)⟩
      have hcell : wr.cell? ⟨rg, i, none⟩ = some (.int .u8 (x : Nat)) := by
        have := W16.rrow_at W16.kitB hK.2.1 hx (j := 0) rfl
        simpa using this
      have hfz := W16.rrow_frozen hK.2.1 (by omega)
      have HN : Hid (∃ rb : List Nat, rb.length = bm ∧ KG [(b9, oWt F T u (.slice ea1 en1 ec1)), (b6, oG (.slice a1 m1 q1) (.slice a2 m2 q2) rd wr0)] [(.slice ea1 en1 ec1, es)] (.slice (some ⟨rg, 0, none⟩) bm n5_) rb w X rd2 ps (.slice a1 m1 q1) (.slice a2 m2 q2) vs gs (wr.setCell ⟨rg, i, none⟩ (.int .u8 0))) := ⟨_, by rw [List.length_set]; exact hrb, hK.byte hx 0⟩
      have hz : (i : Int) < (bm : Int) := by omega
      have HWI : Hid (wrap64 ((i : Int) + 1) = ((i + 1 : Nat) : Int)) := by
        show wrap64 ((i : Int) + 1) = ((i + 1 : Nat) : Int)
        have := unhide HBM; have := unhide HBN; have := (unhide HV).2.2; unfold wrap64; omega
      clear HS hK hrb hx
      go_wp2_with fail
      (try rw [unhide HWI])
      exact ⟨⟨i + 1, rfl, by omega, HN⟩, by simp [intOf]; omega⟩
    · have hz : ¬ (i : Int) < (bm : Int) := by omega
      clear hlt hi
      go_upto_region 14 with fail
      obtain ⟨rb, hrb, hK⟩ := unhide HS
      have HK9 := hide hK
      clear HS hK hrb hz
      have CRf := hide (kgRefCheck (rd' := rd) (wr' := wr0) (unhide HP) (unhide HK9) (unhide HV).1 (unhide HV).2.1 (by have := (unhide HV).2.2; omega))
      rw [← unhide HC] at CRf
      obtain ⟨c0, c1, c2, c3, -⟩ := cellsG ((unhide HK9).get (b := b6) (o := oG (.slice a1 m1 q1) (.slice a2 m2 q2) rd wr0) (by simp))
      go_wp2_with fail
      refine (unhide CRf).mono ?_
      intro e w10 H10
      obtain ⟨ev8, rfl, g1, g2⟩ := unhide H10
      simp only at g1 ⊢
      have hK10 := (unhide HK9).row (Nat.le_refl _) ((unhide HK9).below g2) g1
      obtain ⟨ea2, ec2, hev⟩ := W16.rrow_shape g1
      obtain ⟨en2, hen⟩ : ∃ en2, en2 = es.length := ⟨_, rfl⟩
      rw [← hen] at hev
      clear hen
      subst hev
      have HK11 := hide (hK10.box (oWt F T u (.slice ea2 en2 ec2)))
      clear CRf H10 g1 g2 HK9 hK10 c0 c1 c2 c3
      go_upto_region 15 with fail
      change Code.wp _ _ _ _ (w10.alloc (oWt F T u (.slice ea2 en2 ec2)))
      generalize w10.alloc (oWt F T u (.slice ea2 en2 ec2)) = w11 at *
      generalize w10.heap.size = b13 at *
      have CRd := hide (kgReads (unhide HK11))
      have hb6 := (unhide HK11).get (b := b6) (o := oG (.slice a1 m1 q1) (.slice a2 m2 q2) rd wr0) (by simp)
      obtain ⟨c0, c1, c2, c3, cf⟩ := cellsG hb6
      have hK12 := ((unhide HK11).less (kb' := [(b6, oG (.slice a1 m1 q1) (.slice a2 m2 q2) rd wr0), (b13, oWt F T u (.slice ea2 en2 ec2)), (b9, oWt F T u (.slice ea1 en1 ec1))]) (by intro p hp; simp at hp ⊢; rcases hp with e | e | e <;> simp [e])).gbox (unhide HLO) (by intro p hp; simp at hp; rcases hp with e | e <;> exact ⟨_, _, _, _, by rw [e]⟩) rd2
      have HK12 := hide hK12
      clear hb6 hK12 HK11
      go_wp2_with fail
      refine (unhide CRd).mono ?_
      rintro e w12 ⟨rfl, hw12⟩
      rw [hw12]
      clear hw12 CRd
      go_upto_region 16 with fail
      generalize w11.setCell ⟨b6, 2, none⟩ (.int .i64 rd2) = w13 at *
      obtain ⟨hK13, hbx⟩ := unhide HK12
      have HK13 := hide hK13
      have HBX := hide hbx
      obtain ⟨x0, x1, x2, x3⟩ := oWt_cells (hK13.get (b := b9) (o := oWt F T u (.slice ea1 en1 ec1)) (by simp))
      obtain ⟨y0, y1, y2, y3⟩ := oWt_cells (hK13.get (b := b13) (o := oWt F T u (.slice ea2 en2 ec2)) (by simp))
      have CS := W16.sameR F T F T u u (W16.nrow_lies (hK13.getr (v := .slice ea1 en1 ec1) (ks := es) (by simp))) (W16.nrow_lies (hK13.getr (v := .slice ea2 en2 ec2) (ks := es) (by simp))) (by have := (unhide HLN).1; omega)
      rw [show decide ((F, T, u, es) = (F, T, u, es)) = true from decide_eq_true rfl] at CS
      have CS1 := hide CS
      clear CS hK13 hbx HK12 c0 c1 c2 c3 cf
      go_wp2_with fail
      refine (unhide CS1).mono ?_
      rintro e w14 ⟨rfl, hb14⟩
      have hK14 := (unhide HK13).below (unhide hb14)
      have hG14 := hK14.game (n := 3000) (unhide HG) (by have := (unhide HGB).1; omega) (by omega) (unhide HB2).1 (by have := (unhide HB2).2; omega)
      have CTl := tellsS hG14
      rw [show ({ g with rd := rd2 } : Gr).wr = wr0 from (unhide HGB).2.2] at CTl
      have CT1 : Hid (Calls Tryz.prog 28 #[.pointer (some ⟨X.s, 0, none⟩), .agg #[.slice a1 m1 q1, .slice a2 m2 q2, .int .i64 rd2, .int .i64 wr0]] w14 fun e w' => e = .returned (.bool true) ∧ Hid (Below w14.heap.size w14 w')) := CTl
      obtain ⟨c0, c1, c2, c3, -⟩ := cellsG (((unhide hb14).block _ (heap_lt (unhide HBX))).trans (unhide HBX))
      have HO := hide hK14.1.bel
      clear CS1 hK14 hG14 CTl hb14 HBX HK13 HG x0 x1 x2 x3 y0 y1 y2 y3
      go_wp2_with fail
      refine (unhide CT1).mono ?_
      rintro e w15 ⟨rfl, hb15⟩
      have HE : Hid (Below w.heap.size w w15) := (unhide HO).trans ((unhide hb15).mono (unhide HO).size)
      clear CT1 hb15 HO
      go_wp2_with fail
      go_ret
      exact ⟨rfl, HE⟩
end

namespace W16
open Go.ChangeShapes Go.WideShapes Go.ChangeAt Go.RowKit
theorem cellsOf3 : Tryz.prog.cellsOf 3 = 1 := by kernel_rfl
theorem cellsOfB : Tryz.prog.cellsOf 5 = 1 := by kernel_rfl
theorem bytesB : Tryz.prog.bytesOf 5 = 1 := by kernel_rfl
theorem addr_none {w : World} {x : Addr} {v : Value} (h : w.cell? (x.add 0) = some v) : x.spot = none := by
  have := World.cell?_spot h
  simpa [Addr.add] using this
/-- A slice whose elements are one cell each, opened. -/
theorem open_lies {H : Type} {enc : TypeId × Value → H} {W : World} {spare : Nat → Bool} {held : Bool} {v : Value} {fuel : Nat} {x : DataW H × List MemPlace} {t e : TypeId} {α : Type} [Inhabited α] (f : α → Value) (Q : α → Prop) (ht : Tryz.prog.underlying t = some (.slice e)) (he : Tryz.prog.cellsOf e = 1)
    (hf : ∀ n (u : Value) y, DataW.trod enc Tryz.prog W 0 spare held n e [u] = some y → ∃ x, u = f x ∧ Q x) (h : DataW.trod enc Tryz.prog W 0 spare held fuel t [v] = some x) :
    ∃ (xs : List α) (a : Option Addr) (len cap : Nat), v = .slice a len cap ∧ Lies f W v xs ∧ (∀ x ∈ xs, Q x) ∧ len = xs.length ∧ (x.1 = .nil ∧ xs = [] ∨ ∃ es sp, x.1 = .slice es sp ∧ xs.length ≤ es.length) := by
  rcases Deep.open_slice1 ht he h with ⟨hcs, hx⟩ | ⟨y, l, c, m, n, V, D, Pl, hcs, -, hl, -, hmm, hx, hel⟩
  · simp only [List.cons.injEq, and_true] at hcs
    subst hcs
    exact ⟨[], none, 0, 0, rfl, ⟨none, 0, rfl, Nat.le_refl _, fun _ => rfl, .inl rfl⟩, fun x hx => (by cases hx), rfl, .inl ⟨by rw [hx], rfl⟩⟩
  · simp only [List.cons.injEq, and_true] at hcs
    subst hcs
    have hlm : l ≤ m := by rw [hmm]; split <;> omega
    obtain ⟨z, hz⟩ := Deep.choose_lt (α := α) (n := l) (p := fun i y' => W.cell? (y.add i) = some (f y') ∧ Q y') (fun i hi => by
      obtain ⟨h1, h2⟩ := hel i (by omega)
      obtain ⟨y', hy, hq⟩ := hf _ _ _ h2
      exact ⟨y', by rw [h1, hy], hq⟩)
    refine ⟨(List.range l).map z, some y, l, c, rfl, ⟨some y, c, by simp, by simpa using hl, fun e => (by cases e), ?_⟩, fun x hx => ?_, by simp, .inr ⟨_, _, by rw [hx], by simp⟩⟩
    · rcases Nat.eq_zero_or_pos l with h0 | h0
      · exact .inl (by rw [h0]; rfl)
      · obtain ⟨b, off, spot⟩ := y
        obtain rfl : spot = none := addr_none (hz 0 h0).1
        refine .inr ⟨b, off, rfl, fun i x hx => ?_⟩
        have hi : i < l := by have := (List.getElem?_eq_some_iff.1 hx).1; simpa using this
        have e : z i = x := by simpa [hi] using hx
        have := (hz i hi).1
        rw [add_off13, e] at this
        exact this
    · simp only [List.mem_map, List.mem_range] at hx
      obtain ⟨i, hi, rfl⟩ := hx
      exact (hz i hi).2
theorem open_by {H : Type} {enc : TypeId × Value → H} {W : World} {spare : Nat → Bool} {held : Bool} {v : Value} {d : DataW H} {p : List MemPlace} (hv : ∃ c, v.cells = #[c] ∧ c = v) (h : DataW.Trod enc Tryz.prog W 0 spare held 23 v d p) :
    ∃ (bs : List Nat) (a : Option Addr) (len cap : Nat), v = .slice a len cap ∧ Lies u8v W v bs ∧ (∀ x ∈ bs, x < 256) ∧ len = bs.length ∧ (d = .nil ∧ bs = [] ∨ ∃ es sp, d = .slice es sp ∧ bs.length ≤ es.length) := by
  obtain ⟨fuel, hf⟩ := h
  obtain ⟨c, hc, rfl⟩ := hv
  rw [show c.cells.toList = [c] by rw [hc]] at hf
  exact open_lies u8v (fun x => x < 256) Tryz.underlying23 cellsOfB (fun n u y hy => by
    obtain ⟨k, e, -, wk⟩ := DataW.trod_int Tryz.underlying5 hy
    have hk : 0 ≤ k ∧ k < 256 := by
      have h1 : IntKind.u8.min = 0 := by decide
      have h2 : IntKind.u8.max = 255 := by decide
      simp [Lit.wf] at wk; omega
    exact ⟨k.toNat, by simp only [List.cons.injEq, and_true] at e; rw [e]; simp [u8v]; omega, by omega⟩) hf
theorem by_sized {H : Type} {ts : List TypeId} {ds : List (DataW H)} (hsz : (DataW.weightsEach Tryz.prog ts ds).all (· ≤ reachBytes) = true) {j : Nat} {d : DataW H} (ht : ts[j]? = some 23) (hd : ds[j]? = some d) {bs : List Nat} (h : d = .nil ∧ bs = [] ∨ ∃ xs sp, d = .slice xs sp ∧ bs.length ≤ xs.length) : bs.length ≤ 140737488351232 := by
  rcases h with ⟨-, rfl⟩ | ⟨xs, sp, rfl, h⟩
  · simp
  · have := sized_slice hsz ht hd Tryz.underlying23
    rw [bytesB] at this
    unfold reachBytes at this
    omega
end W16

section
open Go.ChangeShapes Go.WideShapes Go.ChangeAt Go.RowKit

end

end Go.Proofs.YtagibmgbjhemkaaGreat

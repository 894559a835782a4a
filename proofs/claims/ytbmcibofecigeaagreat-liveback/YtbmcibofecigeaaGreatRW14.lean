/- Right: all that a tree tells is right. -/
import Derived.Test.YtbmcibofecigeaaGreatHG14
import Derived.Test.YtbmcibofecigeaaGreatRDW13
namespace Go.Proofs.YtbmcibofecigeaaGreat
open Go.RowKit Go.Maps
theorem near_snoc {ds : List DiV} {i : Nat} {v : Int} {f : Bool} {b : Nat} {e : Int} (h : ds[i]? = some (v, f, b, e)) : nearV (ds.take (i + 1)) = if f = true then nearV (ds.take i) else nearV (ds.take i) ++ [v] := by
  unfold nearV
  rw [List.take_add_one, h, List.filter_append]
  cases f <;> simp
set_option maxHeartbeats 16000000 in
set_option maxRecDepth 100000 in
theorem rightL {w : World} {p : Nat} {s : Int} {ys : List Int} {es : List EdV} {ds : List DiV} {T : L14.Tr} {vv ev : Value} {rd wr0 : Int} (hT : TLv w p s ys es ds T) (hV : NRow w vv ys) (hE : ERow 0 w ev es) (hl : es.length ≤ 1000) :
    Calls Tryz.prog 10 #[.iface 23 (.pointer (some ⟨p, 0, none⟩)), .agg #[vv, ev, .int .i64 rd, .int .i64 wr0], .int .i64 s] w fun e w' => e = .returned (.bool true) ∧ Hid (Below w.heap.size w w') := by
  have hbn := below_new w (oGr vv ev rd wr0)
  have hbx := heap_alloc_new w (oGr vv ev rd wr0)
  have hL := hT.lst
  have hg := hT.gok
  have hpos : 0 < ys.length := List.length_pos_of_mem hT.src
  obtain ⟨va, vc, rfl, -⟩ := brow_shape hV
  obtain ⟨gv, rfl⟩ := brow_some hV hpos
  obtain ⟨n, hn⟩ : ∃ n, n = ys.length := ⟨_, rfl⟩
  rw [← hn] at hV hbn hbx ⊢
  obtain ⟨gb, hgb⟩ : ∃ gb, gb = w.heap.size := ⟨_, rfl⟩
  obtain ⟨W1, hW1⟩ : ∃ W1, W1 = w.alloc (oGr (.slice (some ⟨gv, 0, none⟩) n vc) ev rd wr0) := ⟨_, rfl⟩
  rw [← hW1] at hbn hbx
  rw [← hgb] at hbx
  have hgl : gb < W1.heap.size := (Array.getElem?_eq_some_iff.1 hbx).1
  have HX : Hid (∀ W, Below W1.heap.size W1 W → (W.cell? ⟨gb, 0, none⟩ = some (.slice (some ⟨gv, 0, none⟩) n vc) ∧ W.cell? ⟨gb, 1, none⟩ = some ev ∧ W.cell? ⟨gb, 2, none⟩ = some (.int .i64 rd) ∧ W.cell? ⟨gb, 3, none⟩ = some (.int .i64 wr0)) ∧ NRow W (.slice (some ⟨gv, 0, none⟩) n vc) ys ∧ ERow 0 W ev es ∧ TLv W p s ys es ds T ∧ Below w.heap.size w W) := fun W hW => by
    obtain ⟨c0, c1, c2, c3, -⟩ := cellsGr ((hW.block gb hgl).trans hbx)
    have hB := hbn.trans (hW.mono hbn.size)
    exact ⟨⟨c0, c1, c2, c3⟩, nrow_below hV hB, rrow_below hE hB, hT.below hB, hB⟩
  have HN : Hid (n = ys.length ∧ n ≤ 1000 ∧ ds.length = n ∧ ds.map (·.1) = ys ∧ Lst ys es s (farAt ds) (bitsAt ds) ∧ GOk es ∧ es.length ≤ 1000) := ⟨hn, by rw [hn]; exact hT.len, by rw [hn]; exact hT.dl, hT.vs, hL, hg, hl⟩
  have C1 := hide (distsR (rd := rd) (wr0 := wr0) (unhide HX W1 (Below.refl _ _)).2.1 (unhide HX W1 (Below.refl _ _)).2.2.1 hL)
  rw [← hn] at C1
  obtain ⟨⟨c0, c1, c2, c3⟩, -⟩ := unhide HX W1 (Below.refl _ _)
  have HW1 := hide hW1
  have HGB := hide hgb
  clear hT hV hE hl hbn hbx hL hg hpos hn hgb hW1 hgl
  go_enter Tryz.func10, Tryz.ntmps10
  go_upto_region 1 with fail
  rw [show w.alloc (.cells #[.slice (some ⟨gv, 0, none⟩) n vc, ev, .int .i64 rd, .int .i64 wr0] 27 (0, 0)) = W1 from (unhide HW1).symm, ← unhide HGB]
  clear HW1 HGB
  go_wp2_with fail
  refine (unhide C1).mono ?_
  intro e w2 H2
  obtain ⟨gD, nD, rfl, d1, d2, d3⟩ := unhide H2
  obtain rfl : nD = n := by rw [d1]; unfold refD; simp
  have C2 := hide (distsL (unhide HX w2 d3).2.2.2.1)
  have HD : Hid (URow 0 w2 (.slice (some ⟨gD, 0, none⟩) nD nD) (refD nD (farAt ds) (bitsAt ds)) ∧ Below W1.heap.size W1 w2) := ⟨rrow_low d2 (Nat.zero_le _), d3⟩
  clear C1 H2 d1 d2 d3 c0 c1 c2 c3
  go_wp2_with fail
  refine (unhide C2).mono ?_
  rintro e w3 ⟨a3, n3, k3, rfl, H3⟩
  obtain ⟨q1, q2⟩ := unhide H3
  have hB3 : Below W1.heap.size W1 w3 := (unhide HD).2.trans (q2.mono (unhide HD).2.size)
  obtain rfl : n3 = nD := by rw [rrow_len q1]; exact (unhide HN).2.2.1
  obtain ⟨gl, rfl⟩ := rrow_some q1 (by rw [(unhide HN).2.2.1, (unhide HN).1]; exact List.length_pos_of_mem (unhide HN).2.2.2.2.1.src)
  have HR : Hid (∀ W, Below w3.heap.size w3 W → URow 0 W (.slice (some ⟨gD, 0, none⟩) n3 n3) (refD n3 (farAt ds) (bitsAt ds)) ∧ DRow 0 W (.slice (some ⟨gl, 0, none⟩) n3 k3) ds ∧ Below W1.heap.size W1 W) := fun W hW => ⟨rrow_below (rrow_below (unhide HD).1 q2) hW, rrow_below (rrow_low q1 (Nat.zero_le _)) hW, hB3.trans (hW.mono hB3.size)⟩
  have C3 := hide (sourceL (unhide HX w3 hB3).2.2.2.1)
  obtain ⟨⟨c0, c1, c2, c3⟩, -⟩ := unhide HX w3 hB3
  clear C2 H3 q1 q2 hB3 HD
  go_wp2_with fail
  refine (unhide C3).mono ?_
  rintro e w4 ⟨rfl, hw4⟩
  rw [hw4]
  clear C3 hw4 w4
  go_wp2_with fail
  clear c0 c1 c2 c3
  go_loopw [41, 9] (fun s41 s9 wr => ∃ (i : Nat) (y : Option Addr) (yn yc : Nat), s41 = .int .i64 i ∧ s9 = .slice y yn yc ∧ Hid (i ≤ n3 ∧ BRow w3.heap.size wr (.slice y yn yc) (nearV (ds.take i)) ∧ Below w3.heap.size w3 wr)) (fun s41 _ _ => n3 - (intOf s41).toNat)
  case atStart => exact ⟨0, none, 0, 0, rfl, rfl, Nat.zero_le _, ⟨rfl, .inl ⟨rfl, rfl⟩⟩, Below.refl _ _⟩
  case round =>
    obtain ⟨i, y, yn, yc, rfl, rfl, HI⟩ := hrel
    obtain ⟨i1, i2, i3⟩ := unhide HI
    obtain ⟨l1, l2, l3, l4, l5, l6, l7⟩ := unhide HN
    by_cases hlt : i < n3
    · obtain ⟨v, hv⟩ : ∃ v, ys[i]? = some v := ⟨_, List.getElem?_eq_getElem (by omega)⟩
      have hB := (unhide HR wr i3).2.2
      obtain ⟨-, hrv, -, hT, -⟩ := unhide HX wr hB
      have kv := brow_at hrv hv
      obtain ⟨f, b, e, hx, a1, a2, a3, a4, a5, a6, a7, a8, a9, a10⟩ := hT.ith hv
      rw [← l1] at a4
      have HOV : Hid (okN v) := hT.okV hv
      have C1 := hide (distL hT (unhide HOV))
      have HTW : Hid (∀ W, Below wr.heap.size wr W → TLv W p s ys es ds T ∧ Below w3.heap.size w3 W) := fun W hW => by
        have h3 := i3.trans (hW.mono i3.size)
        exact ⟨(unhide HX W (unhide HR W h3).2.2).2.2.2.1, h3⟩
      have HC : Hid (∀ W, Below w3.heap.size w3 W → W.cell? ⟨gl, i * 4, none⟩ = some (.int .i64 v) ∧ W.cell? ⟨gl, i * 4 + 1, none⟩ = some (.bool f) ∧ W.cell? ⟨gl, i * 4 + 2, none⟩ = some (.int .u32 (b : Nat)) ∧ W.cell? ⟨gl, i * 4 + 3, none⟩ = some (.int .i64 e) ∧ W.cell? ⟨gD, i, none⟩ = some (.int .u32 ((if f = true then 4294967295 else b : Nat) : Int))) := fun W hW => by
        obtain ⟨r1, r2, -⟩ := unhide HR W hW
        obtain ⟨e0, e1, e2, e3⟩ := drow_at r2 hx
        exact ⟨e0, e1, e2, e3, urow_at r1 a4⟩
      obtain ⟨j, hj⟩ : ∃ j, j = i + 1 := ⟨_, rfl⟩
      have zw : Hid (wrap64 ((i : Int) + 1) = (j : Int)) := by show wrap64 ((i : Int) + 1) = (j : Int); unfold wrap64; omega
      have HJ : Hid (j = i + 1 ∧ n3 - j < n3 - i ∧ j ≤ n3 ∧ nearV (ds.take j) = (if f = true then nearV (ds.take i) else nearV (ds.take i) ++ [v]) ∧ (nearV (ds.take i)).length ≤ 1000) := ⟨hj, by omega, by omega, by rw [hj]; exact near_snoc hx, by unfold nearV; rw [List.length_map]; have := List.length_filter_le (fun d : DiV => !d.2.1) (ds.take i); rw [List.length_take] at this; omega⟩
      obtain ⟨cc, hcc⟩ : ∃ cc : Int, cc = (if f = true then 130 else 0) := ⟨_, rfl⟩
      rw [← hcc] at a1
      have HCC := hide hcc
      have HQ : Hid (BRow w3.heap.size wr (.slice y yn yc) (nearV (ds.take i)) ∧ Below w3.heap.size w3 wr ∧ askC ys ds v = cc ∧ plc ys v = i ∧ f = farAt ds i ∧ b = bitsAt ds i ∧ e = edgeAt ds i ∧ b ≤ 2139095040 ∧ ys[i]? = some v) := ⟨i2, i3, a1, a6, a7, a8, a9, a10, hv⟩
      have C2 : Hid (∀ W, Below wr.heap.size wr W → Calls Tryz.prog 22 #[.pointer (some ⟨p, 0, none⟩), .int .i64 v] W fun r w' => ∃ a n c, r = .returned (.tuple #[.slice a n c, .int .i64 cc]) ∧ Hid (PathAnsL W s ys es ds T v (.slice a n c) w')) := fun W hW => by
        have := pathLL (unhide HTW W hW).1 (unhide HOV)
        rwa [a1] at this
      have C3 : Hid (∀ W, Below wr.heap.size wr W → Calls Tryz.prog 62 #[.pointer (some ⟨p, 0, none⟩), .int .i64 v] W fun r w' => r = .returned (.int .i64 e) ∧ Hid (Below W.heap.size W w')) := fun W hW => by
        have := lastL (unhide HTW W hW).1 (unhide HOV)
        rwa [a3] at this
      rw [a1, a2] at C1
      have z1 : (i : Int) < (n3 : Int) := by omega
      have hfz := a5
      clear HI i1 i2 i3 l1 l2 l3 l4 l5 l6 l7 hlt hv hB hrv hT hx a1 a2 a3 a4 a5 a6 a7 a8 a9 a10 hj hcc
      go_wp2_with fail
      refine (unhide C1).mono ?_
      rintro r w5 ⟨rfl, hb5⟩
      have C4 := hide (unhide C2 w5 (unhide hb5))
      clear C1 C2 kv
      go_wp2_with fail
      refine (unhide C4).mono ?_
      rintro r w6 ⟨pa, pn, pc, rfl, H6⟩
      have HB6 : Hid (Below wr.heap.size wr w6) := (unhide hb5).trans ((unhide H6).1.mono (unhide hb5).size)
      have C5 := hide (unhide C3 w6 (unhide HB6))
      clear C4 C3
      go_wp2_with fail
      refine (unhide C5).mono ?_
      rintro r w7 ⟨rfl, hb7⟩
      have HB7 : Hid (Below wr.heap.size wr w7 ∧ Below w6.heap.size w6 w7) := ⟨(unhide HB6).trans ((unhide hb7).mono (unhide HB6).size), unhide hb7⟩
      clear C5 hb7 HB6
      obtain ⟨k0, k1, k2, k3', k4⟩ := unhide HC w7 (unhide HTW w7 (unhide HB7).1).2
      cases f with
      | true =>
        obtain ⟨rfl, rfl⟩ := hfz rfl
        have hcc : cc = 130 := unhide HCC
        have hpn : Value.slice pa pn pc = .slice none 0 0 := (unhide H6).2.1 (by rw [(unhide HQ).2.2.1, hcc]; decide)
        subst hcc
        injection hpn with e1 e2 e3
        subst e1 e2 e3
        have k5 : w7.cell? ⟨gD, i, none⟩ = some (.int .u32 4294967295) := k4
        have HJ2 : Hid (BRow w3.heap.size w7 (.slice y yn yc) (nearV (ds.take j)) ∧ Below w3.heap.size w3 w7) := by
          have e4 : nearV (ds.take j) = nearV (ds.take i) := (unhide HJ).2.2.2.1
          have h1 := (unhide HQ).1
          rw [e4]
          exact ⟨brow_kept h1 (fun b e => (unhide HB7).1.block b (h1.lt b e).2), (unhide HTW w7 (unhide HB7).1).2⟩
        clear k4 HQ H6 HB7 HTW HC hfz hb5
        go_upto_region 12 with fail
        go_quiet (fail)
        go_wp2_with fail
        (try rw [unhide zw])
        exact ⟨⟨j, y, yn, yc, by first | rfl | (rw [(unhide HJ).1]; rfl), rfl, (unhide HJ).2.2.1, brow_kept (unhide HJ2).1 (fun _ _ => rfl), below_drewN (unhide HJ2).2 _⟩, by have := unhide HJ; simp [intOf]; omega⟩
      | false =>
        have hcc : cc = 0 := unhide HCC
        have k5 : w7.cell? ⟨gD, i, none⟩ = some (.int .u32 (b : Nat)) := k4
        have zb : (((b : Nat) : Int) == 4294967295) = false := by
          have := (unhide HQ).2.2.2.2.2.2.2.1
          simpa using (by omega : ¬ (b : Int) = 4294967295)
        have HP : Hid (∃ l, BackL s ys es T i l ∧ NRow w7 (.slice pa pn pc) l.reverse ∧ l.length ≤ 1001 ∧ ∀ b, (Value.slice pa pn pc).ownBlock = some b → wr.heap.size ≤ b) := by
          obtain ⟨l, b1, b2, b4⟩ := (unhide H6).2.2 (by rw [(unhide HQ).2.2.1, hcc])
          rw [(unhide HQ).2.2.2.1] at b1
          exact ⟨l, b1, nrow_below (brow_at0 b2) (unhide HB7).2, b4, fun b e => Nat.le_trans (unhide hb5).size (b2.lt b e).1⟩
        subst hcc
        have HA : Hid (∀ q, ∃ a' n' c' w', (∀ ty, (Builtin.append_ #[24, 24] ty #[.slice y yn yc, .slice (some ⟨(w7.drewN q).heap.size, 0, none⟩) 1 1]).run Tryz.prog ((w7.drewN q).alloc (.cells #[.int .i64 v] 3)) = .ok (.slice a' n' c') w') ∧ BRow w3.heap.size w' (.slice a' n' c') (nearV (ds.take j)) ∧ Below w3.heap.size w3 w' ∧ ∃ l, BackL s ys es T i l ∧ NRow w' (.slice pa pn pc) l.reverse ∧ l.length ≤ 1001) := fun q => by
          have h1 := (unhide HQ).1
          have hb' : BRow w3.heap.size (w7.drewN q) (.slice y yn yc) (nearV (ds.take i)) := brow_kept h1 (fun b e => (unhide HB7).1.block b (h1.lt b e).2)
          have h3 : Below w3.heap.size w3 (w7.drewN q) := below_drewN (unhide HTW w7 (unhide HB7).1).2 q
          obtain ⟨a', n', c', w', r, g1, g2, -⟩ := run_app8 v hb' h3.size (by have := (unhide HJ).2.2.2.2; omega)
          have e4 : nearV (ds.take j) = nearV (ds.take i) ++ [v] := (unhide HJ).2.2.2.1
          rw [e4]
          obtain ⟨l, b1, hp7, b3, b5⟩ := unhide HP
          refine ⟨a', n', c', w', r, g1, h3.trans (g2.below h3.size (fun b e => (hb'.lt b e).1)), l, b1, ?_, b3⟩
          refine brow_kept hp7 (fun b e => (g2.block b (hp7.lt b e).2 (fun z => ?_)).trans rfl)
          have := b5 b e
          have := (h1.lt b z).2
          omega
        have HV : Hid (farAt ds i = false ∧ b = bitsAt ds i ∧ e = edgeAt ds i ∧ ys[i]? = some v) := ⟨(unhide HQ).2.2.2.2.1.symm, (unhide HQ).2.2.2.2.2.1, (unhide HQ).2.2.2.2.2.2.1, (unhide HQ).2.2.2.2.2.2.2.2⟩
        clear k4 HQ H6 HB7 HTW hfz hb5 HP
        go_upto_region 12 with fail
        go_quiet (fail)
        obtain ⟨a', n', c', w8, r, g1, g2, g3⟩ := unhide HA nq
        have HR2 := hide r
        have HE2 : Hid (BRow w3.heap.size w8 (.slice a' n' c') (nearV (ds.take j)) ∧ Below w3.heap.size w3 w8) := ⟨g1, g2⟩
        have HCH : Hid (∀ W, Below w8.heap.size w8 W → Calls Tryz.prog 27 #[.agg #[.slice (some ⟨gv, 0, none⟩) n3 vc, ev, .int .i64 rd, .int .i64 wr0], .int .i64 s, .int .i64 v, .slice pa pn pc, .int .u32 (b : Nat)] W fun e w' => e = .returned (.bool true) ∧ Hid (Below W.heap.size W w')) := fun W hW => by
          have hB := (unhide HR W (g2.trans (hW.mono g2.size))).2.2
          obtain ⟨-, -, hE, hT, -⟩ := unhide HX W hB
          obtain ⟨l, b1, b2, b3⟩ := g3
          obtain ⟨f1, f2, f3, f4⟩ := unhide HV
          obtain ⟨ms, m1, m2, m3, m4, m5, m6⟩ := hT.walk f1 b1
          exact cheapestR hE (unhide HN).2.2.2.2.2.1 (by rw [m1]; exact nrow_below b2 hW) m2 (by omega) ⟨m6, by rw [m4]; exact f4⟩ (by rw [f2, m5])
        have HHG : Hid (∀ W, Below w8.heap.size w8 W → Calls Tryz.prog 28 #[.iface 23 (.pointer (some ⟨p, 0, none⟩)), .agg #[.slice (some ⟨gv, 0, none⟩) n3 vc, ev, .int .i64 rd, .int .i64 wr0], .slice pa pn pc, .int .i64 e] W fun e w' => e = .returned (.bool true) ∧ Hid (Below W.heap.size W w')) := fun W hW => by
          have hB := (unhide HR W (g2.trans (hW.mono g2.size))).2.2
          obtain ⟨-, -, hE, hT, -⟩ := unhide HX W hB
          obtain ⟨l, b1, b2, b3⟩ := g3
          obtain ⟨f1, f2, f3, f4⟩ := unhide HV
          exact hangsL hT hE (unhide HN).2.2.2.2.2.2 f1 b1 (nrow_below b2 hW) b3 f3
        have HPC : Hid (∀ W, Below w8.heap.size w8 W → ((W.cell? ⟨gb, 0, none⟩ = some (.slice (some ⟨gv, 0, none⟩) n3 vc) ∧ W.cell? ⟨gb, 1, none⟩ = some ev ∧ W.cell? ⟨gb, 2, none⟩ = some (.int .i64 rd) ∧ W.cell? ⟨gb, 3, none⟩ = some (.int .i64 wr0)) ∧ W.cell? ⟨gD, i, none⟩ = some (.int .u32 (b : Nat)))) := fun W hW => ⟨(unhide HX W (unhide HR W (g2.trans (hW.mono g2.size))).2.2).1, (unhide HC W (g2.trans (hW.mono g2.size))).2.2.2.2⟩
        obtain ⟨⟨c0, c1, c2, c3⟩, c4⟩ := unhide HPC w8 (Below.refl _ _)
        clear HA r g1 g2 g3 k0 k1 k2 k3' HV
        go_upto_region 18 with (at_builtin; refine Lib.wpList_append_run _ rfl _ _ 24 24 rfl _ _ rfl rfl _ _ (unhide HR2 _) ?_)
        clear HR2 k5 HC
        refine wp_region_noPanic ?_
        refine regionL [] (fun y => (y.cell? ⟨gb, 0, none⟩ = some (.slice (some ⟨gv, 0, none⟩) n3 vc) ∧ y.cell? ⟨gb, 1, none⟩ = some ev ∧ y.cell? ⟨gb, 2, none⟩ = some (.int .i64 rd) ∧ y.cell? ⟨gb, 3, none⟩ = some (.int .i64 wr0)) ∧ y.cell? ⟨gD, i, none⟩ = some (.int .u32 (b : Nat))) (by kernel_rfl) ⟨⟨c0, c1, c2, c3⟩, c4⟩ (fun hHeld => ?_)
        refine takeL (i := 0) (v := ?t2v0) (some 128) rfl rfl (by kernel_rfl) (by kernel_rfl) (by kernel_rfl) (by kernel_rfl) (by kernel_rfl) (fun _ _ _ h => h) (Or.inl ⟨by rfl, ?t2h0⟩) (by assumption) ?t2r0
        case t2h0 => (intro y hSu; (try dsimp only at hSu); go_simp; first | done | with_reducible rfl)
        (try simp only [Act.put, List.setIfInBounds_toArray, List.set_cons_zero, List.set_cons_succ])
        refine takeL (i := 1) (v := ?t2v1) (some 129) rfl rfl (by kernel_rfl) (by kernel_rfl) (by kernel_rfl) (by kernel_rfl) (by kernel_rfl) (fun _ _ _ h => h) (Or.inl ⟨by rfl, ?t2h1⟩) (by assumption) ?t2r1
        case t2h1 => (intro y hSu; (try dsimp only at hSu); go_simp; first | done | with_reducible rfl)
        (try simp only [Act.put, List.setIfInBounds_toArray, List.set_cons_zero, List.set_cons_succ])
        refine takeL (i := 2) (v := ?t2v2) (some 130) rfl rfl (by kernel_rfl) (by kernel_rfl) (by kernel_rfl) (by kernel_rfl) (by kernel_rfl) (fun _ _ _ h => h) (Or.inl ⟨by rfl, ?t2h2⟩) (by assumption) ?t2r2
        case t2h2 => (intro y hSu; (try dsimp only at hSu); go_simp; first | done | with_reducible rfl)
        (try simp only [Act.put, List.setIfInBounds_toArray, List.set_cons_zero, List.set_cons_succ])
        refine takeL (i := 3) (v := ?t2v3) (some 131) rfl rfl (by kernel_rfl) (by kernel_rfl) (by kernel_rfl) (by kernel_rfl) (by kernel_rfl) (fun _ _ _ h => h) (Or.inl ⟨by rfl, ?t2h3⟩) (by assumption) ?t2r3
        case t2h3 => (intro y hSu; (try dsimp only at hSu); go_simp; first | done | with_reducible rfl)
        (try simp only [Act.put, List.setIfInBounds_toArray, List.set_cons_zero, List.set_cons_succ])
        refine takeL (i := 4) (v := ?t2v4) (some 132) rfl rfl (by kernel_rfl) (by kernel_rfl) (by kernel_rfl) (by kernel_rfl) (by kernel_rfl) (fun _ _ _ h => h) (Or.inl ⟨by rfl, ?t2h4⟩) (by assumption) ?t2r4
        case t2h4 => (intro y hSu; (try dsimp only at hSu); go_simp; first | done | with_reducible rfl)
        (try simp only [Act.put, List.setIfInBounds_toArray, List.set_cons_zero, List.set_cons_succ])
        refine takeL (i := 5) (v := ?t2v5) (some 133) rfl rfl (by kernel_rfl) (by kernel_rfl) (by kernel_rfl) (by kernel_rfl) (by kernel_rfl) (fun _ _ _ h => h) (Or.inl ⟨by rfl, ?t2h5⟩) (by assumption) ?t2r5
        case t2h5 => (intro y hSu; (try dsimp only at hSu); go_simp; first | done | with_reducible rfl)
        (try simp only [Act.put, List.setIfInBounds_toArray, List.set_cons_zero, List.set_cons_succ])
        refine takeL (i := 6) (v := ?t2v6) (some 134) rfl rfl (by kernel_rfl) (by kernel_rfl) (by kernel_rfl) (by kernel_rfl) (by kernel_rfl) (fun _ _ _ h => h) (Or.inl ⟨by rfl, ?t2h6⟩) (by assumption) ?t2r6
        case t2h6 => (intro y hSu; (try dsimp only at hSu); go_simp; first | done | with_reducible rfl)
        (try simp only [Act.put, List.setIfInBounds_toArray, List.set_cons_zero, List.set_cons_succ])
        refine takeL (i := 7) (v := ?t2v7) (some 135) rfl rfl (by kernel_rfl) (by kernel_rfl) (by kernel_rfl) (by kernel_rfl) (by kernel_rfl) (fun _ _ _ h => h) (Or.inl ⟨by rfl, ?t2h7⟩) (by assumption) ?t2r7
        case t2h7 => (intro y hSu; (try dsimp only at hSu); go_simp; first | done | with_reducible rfl)
        (try simp only [Act.put, List.setIfInBounds_toArray, List.set_cons_zero, List.set_cons_succ])
        refine takeL (i := 8) (v := ?t2v8) (some 136) rfl rfl (by kernel_rfl) (by kernel_rfl) (by kernel_rfl) (by kernel_rfl) (by kernel_rfl) (fun _ _ _ h => h) (Or.inl ⟨by rfl, ?t2h8⟩) (by assumption) ?t2r8
        case t2h8 => (intro y hSu; (try dsimp only at hSu); go_simp; first | done | with_reducible rfl)
        (try simp only [Act.put, List.setIfInBounds_toArray, List.set_cons_zero, List.set_cons_succ])
        refine takeL (i := 9) (v := ?t2v9) (some 137) rfl rfl (by kernel_rfl) (by kernel_rfl) (by kernel_rfl) (by kernel_rfl) (by kernel_rfl) (fun _ _ _ h => h) (Or.inl ⟨by rfl, ?t2h9⟩) (by assumption) ?t2r9
        case t2h9 => (intro y hSu; (try dsimp only at hSu); go_simp; first | done | with_reducible rfl)
        (try simp only [Act.put, List.setIfInBounds_toArray, List.set_cons_zero, List.set_cons_succ])
        refine takeL (i := 10) (v := ?t2v10) (some 138) rfl rfl (by kernel_rfl) (by kernel_rfl) (by kernel_rfl) (by kernel_rfl) (by kernel_rfl) (fun _ _ _ h => h) (Or.inl ⟨by rfl, ?t2h10⟩) (by assumption) ?t2r10
        case t2h10 => (intro y hSu; (try dsimp only at hSu); go_simp; first | done | with_reducible rfl)
        (try simp only [Act.put, List.setIfInBounds_toArray, List.set_cons_zero, List.set_cons_succ])
        refine takeL (i := 11) (v := ?t2v11) (some 139) rfl rfl (by kernel_rfl) (by kernel_rfl) (by kernel_rfl) (by kernel_rfl) (by kernel_rfl) (fun _ _ _ h => h) (Or.inl ⟨by rfl, ?t2h11⟩) (by assumption) ?t2r11
        case t2h11 => (intro y hSu; (try dsimp only at hSu); go_simp; first | done | with_reducible rfl)
        (try simp only [Act.put, List.setIfInBounds_toArray, List.set_cons_zero, List.set_cons_succ])
        refine takeL (i := 12) (v := ?t2v12) (some 140) rfl rfl (by kernel_rfl) (by kernel_rfl) (by kernel_rfl) (by kernel_rfl) (by kernel_rfl) (fun _ _ _ h => h) (Or.inl ⟨by rfl, ?t2h12⟩) (by assumption) ?t2r12
        case t2h12 => (intro y hSu; (try dsimp only at hSu); go_simp; first | done | with_reducible rfl)
        (try simp only [Act.put, List.setIfInBounds_toArray, List.set_cons_zero, List.set_cons_succ])
        refine takeL (i := 13) (v := ?t2v13) (some 141) rfl rfl (by kernel_rfl) (by kernel_rfl) (by kernel_rfl) (by kernel_rfl) (by kernel_rfl) (fun _ _ _ h => h) (Or.inl ⟨by rfl, ?t2h13⟩) (by assumption) ?t2r13
        case t2h13 => (intro y hSu; (try dsimp only at hSu); go_simp; first | done | with_reducible rfl)
        (try simp only [Act.put, List.setIfInBounds_toArray, List.set_cons_zero, List.set_cons_succ])
        refine takeL (i := 14) (v := ?t2v14) (some 142) rfl rfl (by kernel_rfl) (by kernel_rfl) (by kernel_rfl) (by kernel_rfl) (by kernel_rfl) (fun _ _ _ h => h) (Or.inl ⟨by rfl, ?t2h14⟩) (by assumption) ?t2r14
        case t2h14 => (intro y hSu; (try dsimp only at hSu); go_simp; first | done | with_reducible rfl)
        (try simp only [Act.put, List.setIfInBounds_toArray, List.set_cons_zero, List.set_cons_succ])
        refine takeL (i := 15) (v := ?t2v15) (some 143) rfl rfl (by kernel_rfl) (by kernel_rfl) (by kernel_rfl) (by kernel_rfl) (by kernel_rfl) (fun _ _ _ h => h) (Or.inl ⟨by rfl, ?t2h15⟩) (by assumption) ?t2r15
        case t2h15 => (intro y hSu; (try dsimp only at hSu); go_simp; first | done | with_reducible rfl)
        (try simp only [Act.put, List.setIfInBounds_toArray, List.set_cons_zero, List.set_cons_succ])
        refine takeL (i := 16) (v := ?t2v16) (some 144) rfl rfl (by kernel_rfl) (by kernel_rfl) (by kernel_rfl) (by kernel_rfl) (by kernel_rfl) (fun _ _ _ h => h) (Or.inl ⟨by rfl, ?t2h16⟩) (by assumption) ?t2r16
        case t2h16 => (intro y hSu; (try dsimp only at hSu); go_simp; first | done | with_reducible rfl)
        (try simp only [Act.put, List.setIfInBounds_toArray, List.set_cons_zero, List.set_cons_succ])
        refine takeL (i := 17) (v := ?t2v17) (some 145) rfl rfl (by kernel_rfl) (by kernel_rfl) (by kernel_rfl) (by kernel_rfl) (by kernel_rfl) (fun _ _ _ h => h) (Or.inl ⟨by rfl, ?t2h17⟩) (by assumption) ?t2r17
        case t2h17 => (intro y hSu; (try dsimp only at hSu); go_simp; first | done | with_reducible rfl)
        (try simp only [Act.put, List.setIfInBounds_toArray, List.set_cons_zero, List.set_cons_succ])
        refine takeL (i := 18) (v := ?t2v18) (some 146) rfl rfl (by kernel_rfl) (by kernel_rfl) (by kernel_rfl) (by kernel_rfl) (by kernel_rfl) (fun _ _ _ h => h) (Or.inl ⟨by rfl, ?t2h18⟩) (by assumption) ?t2r18
        case t2h18 => (intro y hSu; (try dsimp only at hSu); go_simp; first | done | with_reducible rfl)
        (try simp only [Act.put, List.setIfInBounds_toArray, List.set_cons_zero, List.set_cons_succ])
        refine readyL (i := 19) (by kernel_rfl) rfl (fun K hK => ?_)
        go_simp
        refine (unhide HCH _ (below_drewN (Below.refl _ _) 1)).mono ?_
        rintro r w9 ⟨rfl, hb9⟩
        have HB9 : Hid (Below w8.heap.size w8 w9) := (below_drewN (Below.refl w8.heap.size w8) 1).trans ((unhide hb9).mono (below_drewN (Below.refl w8.heap.size w8) 1).size)
        clear HCH hb9
        have HO9 := hide (unhide HPC w9 (unhide HB9))
        (try dsimp only)
        refine hK.out _ _ (fun _ => (unhide HO9)) ?_
        clear hK K
        (try simp only [Act.put, List.setIfInBounds_toArray, List.set_cons_zero, List.set_cons_succ])
        have hH4 := (unhide HO9)
        refine takeL (i := 20) (v := ?t5v20) (some 148) rfl rfl (by kernel_rfl) (by kernel_rfl) (by kernel_rfl) (by kernel_rfl) (by kernel_rfl) (fun _ _ _ h => h) (Or.inl ⟨by rfl, ?t5h20⟩) (by assumption) ?t5r20
        case t5h20 => (intro y hSu; (try dsimp only at hSu); go_simp; first | done | with_reducible rfl)
        (try simp only [Act.put, List.setIfInBounds_toArray, List.set_cons_zero, List.set_cons_succ])
        refine takeL (i := 21) (v := ?t5v21) (some 149) rfl rfl (by kernel_rfl) (by kernel_rfl) (by kernel_rfl) (by kernel_rfl) (by kernel_rfl) (fun _ _ _ h => h) (Or.inl ⟨by rfl, ?t5h21⟩) (by assumption) ?t5r21
        case t5h21 => (intro y hSu; (try dsimp only at hSu); go_simp; first | done | with_reducible rfl)
        (try simp only [Act.put, List.setIfInBounds_toArray, List.set_cons_zero, List.set_cons_succ])
        refine takeL (i := 22) (v := ?t5v22) (some 150) rfl rfl (by kernel_rfl) (by kernel_rfl) (by kernel_rfl) (by kernel_rfl) (by kernel_rfl) (fun _ _ _ h => h) (Or.inl ⟨by rfl, ?t5h22⟩) (by assumption) ?t5r22
        case t5h22 => (intro y hSu; (try dsimp only at hSu); go_simp; first | done | with_reducible rfl)
        (try simp only [Act.put, List.setIfInBounds_toArray, List.set_cons_zero, List.set_cons_succ])
        refine takeL (i := 23) (v := ?t5v23) (some 151) rfl rfl (by kernel_rfl) (by kernel_rfl) (by kernel_rfl) (by kernel_rfl) (by kernel_rfl) (fun _ _ _ h => h) (Or.inl ⟨by rfl, ?t5h23⟩) (by assumption) ?t5r23
        case t5h23 => (intro y hSu; (try dsimp only at hSu); go_simp; first | done | with_reducible rfl)
        (try simp only [Act.put, List.setIfInBounds_toArray, List.set_cons_zero, List.set_cons_succ])
        refine takeL (i := 24) (v := ?t5v24) (some 152) rfl rfl (by kernel_rfl) (by kernel_rfl) (by kernel_rfl) (by kernel_rfl) (by kernel_rfl) (fun _ _ _ h => h) (Or.inl ⟨by rfl, ?t5h24⟩) (by assumption) ?t5r24
        case t5h24 => (intro y hSu; (try dsimp only at hSu); go_simp; first | done | with_reducible rfl)
        (try simp only [Act.put, List.setIfInBounds_toArray, List.set_cons_zero, List.set_cons_succ])
        refine takeL (i := 25) (v := ?t5v25) (some 153) rfl rfl (by kernel_rfl) (by kernel_rfl) (by kernel_rfl) (by kernel_rfl) (by kernel_rfl) (fun _ _ _ h => h) (Or.inl ⟨by rfl, ?t5h25⟩) (by assumption) ?t5r25
        case t5h25 => (intro y hSu; (try dsimp only at hSu); go_simp; first | done | with_reducible rfl)
        (try simp only [Act.put, List.setIfInBounds_toArray, List.set_cons_zero, List.set_cons_succ])
        refine takeL (i := 26) (v := ?t5v26) (some 154) rfl rfl (by kernel_rfl) (by kernel_rfl) (by kernel_rfl) (by kernel_rfl) (by kernel_rfl) (fun _ _ _ h => h) (Or.inl ⟨by rfl, ?t5h26⟩) (by assumption) ?t5r26
        case t5h26 => (intro y hSu; (try dsimp only at hSu); go_simp; first | done | with_reducible rfl)
        (try simp only [Act.put, List.setIfInBounds_toArray, List.set_cons_zero, List.set_cons_succ])
        refine readyL (i := 27) (by kernel_rfl) rfl (fun K hK => ?_)
        go_simp
        refine (unhide HHG w9 (unhide HB9)).mono ?_
        rintro r w10 ⟨rfl, hb10⟩
        have HB10 : Hid (Below w8.heap.size w8 w10) := (unhide HB9).trans ((unhide hb10).mono (unhide HB9).size)
        clear HHG hb10
        have HO10 := hide (unhide HPC w10 (unhide HB10))
        (try dsimp only)
        refine hK.out _ _ (fun _ => (unhide HO10)) ?_
        clear hK K
        (try simp only [Act.put, List.setIfInBounds_toArray, List.set_cons_zero, List.set_cons_succ])
        have hH7 := (unhide HO10)
        refine takeL (i := 28) (v := ?t8v28) (some 156) rfl rfl (by kernel_rfl) (by kernel_rfl) (by kernel_rfl) (by kernel_rfl) (by kernel_rfl) (fun _ _ _ h => h) (Or.inl ⟨by rfl, ?t8h28⟩) (by assumption) ?t8r28
        case t8h28 => (intro y hSu; (try dsimp only at hSu); go_simp; first | done | with_reducible rfl)
        (try simp only [Act.put, List.setIfInBounds_toArray, List.set_cons_zero, List.set_cons_succ])
        refine takeL (i := 29) (v := ?t8v29) (some 157) rfl rfl (by kernel_rfl) (by kernel_rfl) (by kernel_rfl) (by kernel_rfl) (by kernel_rfl) (fun _ _ _ h => h) (Or.inl ⟨by rfl, ?t8h29⟩) (by assumption) ?t8r29
        case t8h29 => (intro y hSu; (try dsimp only at hSu); go_simp; first | done | with_reducible rfl)
        (try simp only [Act.put, List.setIfInBounds_toArray, List.set_cons_zero, List.set_cons_succ])
        refine doneL (by kernel_rfl) ?_ _
        refine NoPanic.normal ?_
        have HJ2 : Hid (BRow w3.heap.size w10 (.slice a' n' c') (nearV (ds.take j)) ∧ Below w3.heap.size w3 w10) := by
          obtain ⟨h1, h2⟩ := unhide HE2
          exact ⟨brow_kept h1 (fun b e => (unhide HB10).block b (h1.lt b e).2), h2.trans ((unhide HB10).mono h2.size)⟩
        clear hHeld c0 c1 c2 c3 c4 HO9 HO10 HPC HE2 HB9 HB10
        go_wp2_with fail
        (try rw [unhide zw])
        exact ⟨⟨j, a', n', c', by first | rfl | (rw [(unhide HJ).1]; rfl), rfl, (unhide HJ).2.2.1, unhide HJ2⟩, by have := unhide HJ; simp [intOf]; omega⟩
    · have z1 : ¬ (i : Int) < (n3 : Int) := by omega
      have hB := (unhide HR wr i3).2.2
      obtain ⟨-, -, -, hT, -⟩ := unhide HX wr hB
      rw [List.take_of_length_le (by omega)] at i2
      have HQ : Hid (BRow w3.heap.size wr (.slice y yn yc) (nearV ds) ∧ (nearV ds).length ≤ 1000) := ⟨i2, by unfold nearV; rw [List.length_map]; have := List.length_filter_le (fun d : DiV => !d.2.1) ds; omega⟩
      have HTW : Hid (∀ W, Below wr.heap.size wr W → TLv W p s ys es ds T ∧ Below W1.heap.size W1 W ∧ Below w.heap.size w W) := fun W hW => by
        have h3 := (unhide HR W (i3.trans (hW.mono i3.size))).2.2
        exact ⟨(unhide HX W h3).2.2.2.1, h3, (unhide HX W h3).2.2.2.2⟩
      have C1 := hide (distL hT ok_far)
      have C2 : Hid (∀ W, Below wr.heap.size wr W → Calls Tryz.prog 22 #[.pointer (some ⟨p, 0, none⟩), .int .i64 2199023255552] W fun r w' => ∃ a n c, r = .returned (.tuple #[.slice a n c, .int .i64 (askC ys ds 2199023255552)]) ∧ Hid (PathAnsL W s ys es ds T 2199023255552 (.slice a n c) w')) := fun W hW => pathLL (unhide HTW W hW).1 ok_far
      have C3 : Hid (∀ W, Below wr.heap.size wr W → Calls Tryz.prog 62 #[.pointer (some ⟨p, 0, none⟩), .int .i64 2199023255552] W fun r w' => r = .returned (.int .i64 (askE ys ds 2199023255552)) ∧ Hid (Below W.heap.size W w')) := fun W hW => lastL (unhide HTW W hW).1 ok_far
      have C4 : Hid (∀ W, Below wr.heap.size wr W → Calls Tryz.prog 29 #[.agg #[.slice (some ⟨gv, 0, none⟩) n3 vc, ev, .int .i64 rd, .int .i64 wr0], .int .i64 2199023255552] W fun r w' => r = .returned (.int .i64 (placeOf ys 2199023255552)) ∧ Below W.heap.size W w') := fun W hW => placeR (unhide HX W (unhide HTW W hW).2.1).2.1 l5.rise (by omega)
      have C5 : Hid (∀ W, Below wr.heap.size wr W → Calls Tryz.prog 17 #[.pointer (some ⟨p, 0, none⟩)] W fun e w' => ∃ a n c, e = .returned (.slice a n c) ∧ Hid (RowAns W (nearV ds) (.slice a n c) w')) := fun W hW => reachedLL (unhide HTW W hW).1
      have HM : Hid ((2199023255552 ∈ ys ∧ ∃ k : Nat, placeOf ys 2199023255552 = (k : Int)) ∨ (placeOf ys 2199023255552 = -1 ∧ askC ys ds 2199023255552 = 5 ∧ askB ys ds 2199023255552 = 0 ∧ askE ys ds 2199023255552 = 0)) := by
        by_cases hX : (2199023255552 : Int) ∈ ys
        · exact .inl ⟨hX, plc ys 2199023255552, placeOf_some l5.rise (at_plc l5.rise hX)⟩
        · have hc : askC ys ds 2199023255552 = 5 := if_neg hX
          exact .inr ⟨if_neg hX, hc, if_neg (by rw [hc]; decide), if_neg (by rw [hc]; decide)⟩
      have HPN : Hid (∀ W a n c w', PathAnsL W s ys es ds T 2199023255552 (.slice a n c) w' → Below W.heap.size W w' ∧ (askC ys ds 2199023255552 = 5 → a = none ∧ n = 0 ∧ c = 0)) := fun W a n c w' h => ⟨h.1, fun z => by
        have := h.2.1 (by rw [z]; decide)
        injection this with e1 e2 e3
        exact ⟨e1, e2, e3⟩⟩
      have HBX : Hid (∀ W, Below wr.heap.size wr W → (W.cell? ⟨gb, 0, none⟩ = some (.slice (some ⟨gv, 0, none⟩) n3 vc) ∧ W.cell? ⟨gb, 1, none⟩ = some ev ∧ W.cell? ⟨gb, 2, none⟩ = some (.int .i64 rd) ∧ W.cell? ⟨gb, 3, none⟩ = some (.int .i64 wr0)) ∧ Below w.heap.size w W) := fun W hW => ⟨(unhide HX W (unhide HTW W hW).2.1).1, (unhide HTW W hW).2.2⟩
      generalize placeOf ys 2199023255552 = pl at *
      generalize askC ys ds 2199023255552 = cX at *
      generalize askB ys ds 2199023255552 = bX at *
      generalize askE ys ds 2199023255552 = eX at *
      clear HI i1 i2 i3 l1 l2 l3 l4 l5 l6 l7 hlt hB hT HX HR HTW HN
      go_wp2_with fail
      refine (unhide C1).mono ?_
      rintro r w5 ⟨rfl, hb5⟩
      have D2 := hide (unhide C2 w5 (unhide hb5))
      clear C1 C2
      go_wp2_with fail
      refine (unhide D2).mono ?_
      rintro r w6 ⟨pa, pn, pc, rfl, H6⟩
      obtain ⟨hb6, hnil⟩ := unhide HPN _ _ _ _ _ (unhide H6)
      have HB6 : Hid (Below wr.heap.size wr w6) := (unhide hb5).trans (hb6.mono (unhide hb5).size)
      have D4 := hide (unhide C4 w6 (unhide HB6))
      obtain ⟨⟨c0, c1, c2, c3⟩, -⟩ := unhide HBX w6 (unhide HB6)
      clear D2 C4 H6 hb5 hb6 HPN
      go_wp2_with fail
      refine (unhide D4).mono ?_
      rintro r w7 ⟨rfl, hb7⟩
      have HB7 : Hid (Below wr.heap.size wr w7) := (unhide HB6).trans (hb7.mono (unhide HB6).size)
      clear D4 hb7 HB6 c0 c1 c2 c3
      rcases unhide HM with ⟨-, k, rfl⟩ | ⟨rfl, rfl, rfl, rfl⟩
      · have z2 : ¬ (k : Int) < 0 := by omega
        have D5 := hide (unhide C5 w7 (unhide HB7))
        clear HM C3 C5 hnil
        go_wp2_with fail
        refine (unhide D5).mono ?_
        rintro r w8 ⟨ra, rn, rc, rfl, H8⟩
        have HB8 : Hid (Below wr.heap.size wr w8) := (unhide HB7).trans ((unhide H8).2.mono (unhide HB7).size)
        have hq := (unhide HQ).1
        have CS := hide (sameInts9 (brow_at0 (unhide H8).1) (brow_at0 (brow_kept hq (fun b e => (unhide HB8).block b (hq.lt b e).2))) (by have := (unhide HQ).2; omega))
        rw [decide_eq_true rfl] at CS
        have HF := hide (unhide HBX w8 (unhide HB8)).2
        clear D5 H8 hq HB7 HB8 HBX HQ
        go_wp2_with fail
        refine (unhide CS).mono ?_
        rintro r w9 ⟨rfl, q9, hw9⟩
        have HF9 : Hid (Below w.heap.size w w9) := by
          show Below w.heap.size w w9
          rw [hw9]; exact below_drewN (unhide HF) q9
        clear CS hw9 HF
        go_wp2_with fail
        go_ret
        exact ⟨rfl, HF9⟩
      · obtain ⟨rfl, rfl, rfl⟩ := hnil rfl
        have D3 := hide (unhide C3 w7 (unhide HB7))
        clear HM C3
        go_wp2_with fail
        refine (unhide D3).mono ?_
        rintro r w8 ⟨rfl, hb8⟩
        have HB8 : Hid (Below wr.heap.size wr w8) := (unhide HB7).trans ((unhide hb8).mono (unhide HB7).size)
        have D5 := hide (unhide C5 w8 (unhide HB8))
        clear D3 C5 hb8 HB7
        go_wp2_with fail
        refine (unhide D5).mono ?_
        rintro r w9 ⟨ra, rn, rc, rfl, H9⟩
        have HB9 : Hid (Below wr.heap.size wr w9) := (unhide HB8).trans ((unhide H9).2.mono (unhide HB8).size)
        have hq := (unhide HQ).1
        have CS := hide (sameInts9 (brow_at0 (unhide H9).1) (brow_at0 (brow_kept hq (fun b e => (unhide HB9).block b (hq.lt b e).2))) (by have := (unhide HQ).2; omega))
        rw [decide_eq_true rfl] at CS
        have HF := hide (unhide HBX w9 (unhide HB9)).2
        clear D5 H9 hq HB8 HB9 HBX HQ
        go_wp2_with fail
        refine (unhide CS).mono ?_
        rintro r w10 ⟨rfl, q9, hw9⟩
        have HF9 : Hid (Below w.heap.size w w10) := by
          show Below w.heap.size w w10
          rw [hw9]; exact below_drewN (unhide HF) q9
        clear CS hw9 HF
        go_wp2_with fail
        go_ret
        exact ⟨rfl, HF9⟩
end Go.Proofs.YtbmcibofecigeaaGreat

/- whole, walked: all that the index tells is the reference's. -/
import Derived.Test.YtkmhcgmmbkchaaaGreatWhM10
namespace Go.Proofs.YtkmhcgmmbkchaaaGreat
open Go.RowKit Go.Maps T9
structure NPic (w : World) (wv : Value) (ks : List Int) (W : World) : Prop where
  bel : Below w.heap.size w W
  row : BRow w.heap.size W wv ks
theorem NPic.app {w W : World} {wv : Value} {ks : List Int} (h : NPic w wv ks W) (x : Int) (hl : ks.length ≤ 900000) :
    ∃ a' n' c' w', (∀ ty, (Builtin.append_ #[25, 25] ty #[wv, .slice (some ⟨W.heap.size, 0, none⟩) 1 1]).run Tryz.prog (W.alloc (.cells #[.int .i64 x] 3)) = .ok (.slice a' n' c') w') ∧ NPic w (.slice a' n' c') (ks ++ [x]) w' := by
  obtain ⟨a', n', c', w', r, g1, g2, g3⟩ := run_app8 x h.row h.bel.size (by omega)
  exact ⟨a', n', c', w', r, h.bel.trans (g2.below h.bel.size (fun b e => (h.row.lt b e).1)), g1⟩
/-- What stands in memory while whole goes on. -/
structure WF (L : Nat → Nat) (c p m ma ml me : Nat) (lk : Int) (V : List Int) (es : List EdV) (N : Nat) (css : List (List Int)) (gb : Nat) (vv ev : Value) (rd wr_0 : Int) (cv0 : Value) (W : World) : Prop where
  k : KSt L W c p m ma ml me lk V es N
  box : W.heap[gb]? = some (oG vv ev rd wr_0)
  vs : NRow W vv V
  es_ : GRow 0 W ev es
  ll : LLr W cv0 css
theorem WF.below {L : Nat → Nat} {c p m ma ml me : Nat} {lk : Int} {V : List Int} {es : List EdV} {N : Nat} {css : List (List Int)} {gb : Nat} {vv ev : Value} {rd wr_0 : Int} {cv0 : Value} {W W' : World} (h : WF L c p m ma ml me lk V es N css gb vv ev rd wr_0 cv0 W) (hb : Below W.heap.size W W') : WF L c p m ma ml me lk V es N css gb vv ev rd wr_0 cv0 W' :=
  ⟨h.k.below hb, (hb.block gb (heap_lt h.box)).trans h.box, nrow_below h.vs hb, grow_below h.es_ hb, llr_below h.ll hb⟩
theorem okN_far : okN 1099511627776 ∧ okN (-5) := ⟨by unfold okN; rfl, by unfold okN; rfl⟩
set_option maxHeartbeats 8000000 in
set_option maxRecDepth 100000 in
theorem wholeS {L : Nat → Nat} {w : World} {c p m ma ml me : Nat} {lk : Int} {V : List Int} {es : List EdV} {N : Nat} {vv ev : Value} {rd wr_0 : Int} (hK : KSt L w c p m ma ml me lk V es N) (hG : GOk V es N) (hN : N ≤ 900) (hvv : NRow w vv V) (hev : GRow 0 w ev es) :
    Calls Tryz.prog 10 #[.pointer (some ⟨c, 0, none⟩), .agg #[vv, ev, .int .i64 rd, .int .i64 wr_0]] w fun e w' => e = .returned (.bool true) ∧ Hid (Below w.heap.size w w') := by
  obtain ⟨h, H⟩ := heads_ex (nextOf V (arcsE es)) V.length
  obtain ⟨css, hcs⟩ : ∃ css, css = compsV V h V.length := ⟨_, rfl⟩
  have lV := hG.lenV
  have lE := hG.lenE
  have hcl : css.length ≤ 900 := by
    have h2 := outR_len V h V.length V.length
    rw [outR_all] at h2
    rw [hcs]; omega
  have hcm : ∀ l ∈ css, 0 < l.length ∧ l.length ≤ 1000 := fun l hl => by
    rw [hcs] at hl
    obtain ⟨a, t, e⟩ := comps_some H hl
    obtain ⟨i, hi⟩ := List.getElem?_of_mem hl
    obtain ⟨m', hm, e2⟩ := comp_at9.1 hi
    refine ⟨by rw [e]; simp, ?_⟩
    rw [e2]
    have := partTo_le h V.length m'
    simp only [cv, List.length_map]; omega
  have hb := below_new w (oG vv ev rd wr_0)
  have hbx := heap_alloc_new w (oG vv ev rd wr_0)
  have CO := hide (ofrS (rd := rd) (wr_ := wr_0) (nrow_below hvv hb) (grow_below hev hb) hG.rise hG.ends (by omega) (by omega) H)
  obtain ⟨va, vc, hv0, -⟩ := brow_shape hvv
  obtain ⟨vn, hvn⟩ : ∃ vn, vn = V.length := ⟨_, rfl⟩
  rw [← hvn] at hv0
  obtain ⟨ea, en, ec, he0⟩ := grow_shape hev
  subst hv0 he0
  have HB : Hid (Below w.heap.size w (w.alloc (oG (.slice va vn vc) (.slice ea en ec) rd wr_0)) ∧ (w.alloc (oG (.slice va vn vc) (.slice ea en ec) rd wr_0)).heap[w.heap.size]? = some (oG (.slice va vn vc) (.slice ea en ec) rd wr_0)) := ⟨hb, hbx⟩
  have HK := hide hK
  have HR := hide (And.intro hvv hev)
  have HG : Hid (GOk V es N ∧ N ≤ 900 ∧ Heads (nextOf V (arcsE es)) V.length h ∧ css = compsV V h V.length ∧ css.length ≤ 900 ∧ vn = V.length ∧ vn ≤ 900 ∧ es.length ≤ 900) := ⟨hG, hN, H, hcs, hcl, hvn, by omega, by omega⟩
  have HM := hide hcm
  clear hK hG hN hvv hev H hcs lV lE hcl hcm hb hbx hvn
  go_enter Tryz.func10, Tryz.ntmps10
  go_upto_region 1 with fail
  change Code.wp _ _ _ _ (w.alloc (oG (.slice va vn vc) (.slice ea en ec) rd wr_0))
  generalize w.alloc (oG (.slice va vn vc) (.slice ea en ec) rd wr_0) = wb at *
  obtain ⟨gb, hgb⟩ : ∃ gb, gb = w.heap.size := ⟨_, rfl⟩
  have HGB := hide hgb
  rw [← hgb] at HB ⊢
  clear hgb
  obtain ⟨d0, d1, d2, d3, -⟩ := cellsG (unhide HB).2
  go_wp2_with fail
  refine (unhide CO).mono ?_
  intro r w1 hh
  obtain ⟨x, n, xc, rfl, hLL, hB1⟩ := unhide hh
  rw [← (unhide HG).2.2.2.1] at hLL
  have hn : n = css.length := by
    obtain ⟨x', c', e, -⟩ := hLL
    injection e
  have HB1 : Hid (Below w.heap.size w w1) := by
    have hb := (unhide HB).1
    rw [unhide HGB] at hb
    exact hb.trans (hB1.mono hb.size)
  have HW1 : Hid (WF L c p m ma ml me lk V es N css gb (.slice va vn vc) (.slice ea en ec) rd wr_0 (.slice x n xc) w1) :=
    ⟨(unhide HK).below (unhide HB1), (hB1.block gb (heap_lt (unhide HB).2)).trans (unhide HB).2, nrow_below (unhide HR).1 (unhide HB1), grow_below (unhide HR).2 (unhide HB1), hLL⟩
  have HNC := hide hn
  clear CO hh d0 d1 d2 d3 hLL hB1 hn HB HGB HK HR
  go_upto_region 4 with fail
  go_loopw [15, 6] (fun s15 s6 W => ∃ (i : Nat) (y : Option Addr) (yn yc : Nat), s15 = .int .i64 (i : Nat) ∧ s6 = .slice y yn yc ∧ i ≤ n ∧ Hid (NPic w1 (.slice y yn yc) ((hdsOf css).take i) W)) (fun s15 _ _ => n - (intOf s15).toNat)
  case atStart => exact ⟨0, none, 0, 0, rfl, rfl, Nat.zero_le _, ⟨Below.refl _ _, ⟨rfl, .inl ⟨rfl, rfl⟩⟩⟩⟩
  case round =>
    obtain ⟨i, y, yn, yc, rfl, rfl, hi, hS⟩ := hrel
    by_cases hlt : i < n
    · have z1 : (i : Int) < (n : Int) := by omega
      obtain ⟨i1, hi1⟩ : ∃ i1, i1 = i + 1 := ⟨_, rfl⟩
      have zi : Hid (wrap64 ((i : Int) + 1) = (i1 : Int)) := by
        have := unhide HNC
        have := (unhide HG).2.2.2.2.1
        show wrap64 ((i : Int) + 1) = (i1 : Int); unfold wrap64; omega
      have HI : Hid (i1 ≤ n ∧ n - i1 < n - i) := ⟨by omega, by omega⟩
      obtain ⟨X, hX⟩ : ∃ X, css[i]? = some X := ⟨_, List.getElem?_eq_getElem (by have := unhide HNC; omega)⟩
      have hXl := (unhide HM X (List.mem_of_getElem? hX)).1
      obtain ⟨x0, t0, ex0⟩ : ∃ x0 t0, X = x0 :: t0 := List.exists_cons_of_ne_nil (by intro q; rw [q] at hXl; simp at hXl)
      have hF := (unhide HW1).below (unhide hS).bel
      obtain ⟨x', cc', ex, hcell⟩ := hF.ll
      injection ex with ex1 ex2 ex3
      subst ex1 ex3
      clear ex2
      obtain ⟨gc, vX, hgc, cX, rX⟩ := hcell i X hX
      subst hgc
      obtain ⟨xa, xcc, hxv, -⟩ := brow_shape rX
      obtain ⟨nX, hnX⟩ : ∃ nX, nX = X.length := ⟨_, rfl⟩
      rw [← hnX] at hxv
      subst hxv
      obtain ⟨gX, hgX⟩ := brow_some rX (by omega)
      subst hgX
      have hX0 : X[0]? = some x0 := by rw [ex0]; rfl
      have cx0 := brow_at rX hX0
      have z6 : 0 < nX := by omega
      have z4 : (0 : Int) < (nX : Int) := by omega
      obtain ⟨a', n', c', w5, r5, hP5⟩ := (unhide hS).app x0 (by
        have := (unhide HG).2.2.2.2.1
        rw [List.length_take]
        unfold hdsOf
        rw [List.length_map]; omega)
      have HD : Hid (NPic w1 (.slice a' n' c') ((hdsOf css).take i1) w5) := by
        have e1 : (hdsOf css)[i]? = some x0 := by
          unfold hdsOf
          rw [List.getElem?_map, hX, ex0]; rfl
        rw [hi1, List.take_add_one, e1]
        exact hP5
      have HR5 := hide r5
      clear hS hi hlt hi1 hX hX0 hXl ex0 hF hcell rX hnX r5 hP5
      go_wp2_with (at_builtin; refine Lib.wpList_append_run _ rfl _ _ 25 25 rfl _ _ rfl rfl _ _ (unhide HR5 _) ?_)
      (try rw [unhide zi])
      exact ⟨⟨i1, _, _, _, rfl, rfl, (unhide HI).1, HD⟩, by have := (unhide HI).2; simp [intOf]; omega⟩
    · have z1 : ¬ (i : Int) < (n : Int) := by omega
      have HH : Hid (NRow wr (.slice y yn yc) (hdsOf css)) := by
        have q := (unhide hS).row
        rw [List.take_of_length_le (by unfold hdsOf; rw [List.length_map]; have := unhide HNC; omega)] at q
        exact brow_low q (Nat.zero_le _)
      have HW2 := hide ((unhide HW1).below (unhide hS).bel)
      have HB2 : Hid (Below w.heap.size w wr) := (unhide HB1).trans ((unhide hS).bel.mono (unhide HB1).size)
      clear hS hi hlt HW1 HB1
      obtain ⟨w2, hw2⟩ : ∃ w2, w2 = wr := ⟨_, rfl⟩
      rw [← hw2] at HH HW2 HB2 ⊢
      clear hw2 wr
      obtain ⟨b0, b1, b2, b3, -⟩ := cellsG (unhide HW2).box
      go_upto_region 9 with fail
      clear b0 b1 b2 b3 z1
      go_loopw [29] (fun s29 W => ∃ (k : Nat), s29 = .int .i64 (k : Nat) ∧ k ≤ vn ∧ Hid (Below w2.heap.size w2 W)) (fun s29 _ => vn - (intOf s29).toNat)
      case atStart => exact ⟨0, rfl, Nat.zero_le _, Below.refl _ _⟩
      case round =>
        obtain ⟨k, rfl, hk, hS⟩ := hrel
        have hF := (unhide HW2).below (unhide hS)
        obtain ⟨b0, b1, b2, b3, -⟩ := cellsG hF.box
        by_cases hlt : k < vn
        · have z1 : (k : Int) < (vn : Int) := by omega
          have z2 : 0 < vn := by omega
          have z3 : (0 : Int) < (vn : Int) := by omega
          obtain ⟨k1, hk1⟩ : ∃ k1, k1 = k + 1 := ⟨_, rfl⟩
          have zk : Hid (wrap64 ((k : Int) + 1) = (k1 : Int)) := by
            have := (unhide HG).2.2.2.2.2.2.1
            show wrap64 ((k : Int) + 1) = (k1 : Int); unfold wrap64; omega
          have HI : Hid (k1 ≤ vn ∧ vn - k1 < vn - k) := ⟨by omega, by omega⟩
          obtain ⟨xk, hxk⟩ : ∃ xk, V[k]? = some xk := ⟨_, List.getElem?_eq_getElem (by have := (unhide HG).2.2.2.2.2.1; omega)⟩
          obtain ⟨x0, hx0⟩ : ∃ x0, V[0]? = some x0 := ⟨_, List.getElem?_eq_getElem (by have := (unhide HG).2.2.2.2.2.1; omega)⟩
          obtain ⟨gv, hgv⟩ := brow_some hF.vs (by have := (unhide HG).2.2.2.2.2.1; omega)
          subst hgv
          have ck := brow_at hF.vs hxk
          have c0 := brow_at hF.vs hx0
          have CA := hide (asksS (vv := .slice (some ⟨gv, 0, none⟩) vn vc) (ev := .slice ea en ec) (rd := rd) (wr_0 := wr_0) (u := xk) (v := x0) (hF.k.below (below_drewN (Below.refl _ wr) 1)) (unhide HG).1 (by have := (unhide HG).2.1; omega) (unhide HG).2.2.1 (by rw [← (unhide HG).2.2.2.1]; exact llr_below hF.ll (below_drewN (Below.refl _ wr) 1)) ((unhide HG).1.okV _ (List.mem_of_getElem? hxk)) ((unhide HG).1.okV _ (List.mem_of_getElem? hx0)))
          have HF := hide hF
          have HS := hide (unhide hS)
          have HC0 := hide hx0
          clear hF hS hk hlt hk1 hxk hx0
          go_upto_region 11 with fail
          refine wp_region_noPanic ?_
          refine regionL [] (fun y => y.cell? ⟨gb, 0, none⟩ = some (.slice (some ⟨gv, 0, none⟩) vn vc) ∧ y.cell? ⟨gb, 1, none⟩ = some (.slice ea en ec) ∧ y.cell? ⟨gb, 2, none⟩ = some (.int .i64 rd) ∧ y.cell? ⟨gb, 3, none⟩ = some (.int .i64 wr_0) ∧ y.cell? ⟨gv, 0, none⟩ = some (.int .i64 x0)) (by kernel_rfl) ⟨b0, b1, b2, b3, c0⟩ (fun hHeld => ?_)
          refine takeL (i := 0) (v := ?t2v0) (some 33) rfl rfl (by kernel_rfl) (by kernel_rfl) (by kernel_rfl) (by kernel_rfl) (by kernel_rfl) (fun _ _ _ h => h) (Or.inl ⟨by rfl, ?t2h0⟩) (by assumption) ?t2r0
          case t2h0 => (intro y hSu; (try dsimp only at hSu); go_simp; first | done | with_reducible rfl)
          (try simp only [Act.put, List.setIfInBounds_toArray, List.set_cons_zero, List.set_cons_succ])
          refine takeL (i := 1) (v := ?t2v1) (some 34) rfl rfl (by kernel_rfl) (by kernel_rfl) (by kernel_rfl) (by kernel_rfl) (by kernel_rfl) (fun _ _ _ h => h) (Or.inl ⟨by rfl, ?t2h1⟩) (by assumption) ?t2r1
          case t2h1 => (intro y hSu; (try dsimp only at hSu); go_simp; first | done | with_reducible rfl)
          (try simp only [Act.put, List.setIfInBounds_toArray, List.set_cons_zero, List.set_cons_succ])
          refine takeL (i := 2) (v := ?t2v2) (some 35) rfl rfl (by kernel_rfl) (by kernel_rfl) (by kernel_rfl) (by kernel_rfl) (by kernel_rfl) (fun _ _ _ h => h) (Or.inl ⟨by rfl, ?t2h2⟩) (by assumption) ?t2r2
          case t2h2 => (intro y hSu; (try dsimp only at hSu); go_simp; first | done | with_reducible rfl)
          (try simp only [Act.put, List.setIfInBounds_toArray, List.set_cons_zero, List.set_cons_succ])
          refine takeL (i := 3) (v := ?t2v3) (some 36) rfl rfl (by kernel_rfl) (by kernel_rfl) (by kernel_rfl) (by kernel_rfl) (by kernel_rfl) (fun _ _ _ h => h) (Or.inl ⟨by rfl, ?t2h3⟩) (by assumption) ?t2r3
          case t2h3 => (intro y hSu; (try dsimp only at hSu); go_simp; first | done | with_reducible rfl)
          (try simp only [Act.put, List.setIfInBounds_toArray, List.set_cons_zero, List.set_cons_succ])
          refine takeL (i := 4) (v := ?t2v4) (some 37) rfl rfl (by kernel_rfl) (by kernel_rfl) (by kernel_rfl) (by kernel_rfl) (by kernel_rfl) (fun _ _ _ h => h) (Or.inl ⟨by rfl, ?t2h4⟩) (by assumption) ?t2r4
          case t2h4 => (intro y hSu; (try dsimp only at hSu); go_simp; first | done | with_reducible rfl)
          (try simp only [Act.put, List.setIfInBounds_toArray, List.set_cons_zero, List.set_cons_succ])
          refine takeL (i := 5) (v := ?t2v5) (some 38) rfl rfl (by kernel_rfl) (by kernel_rfl) (by kernel_rfl) (by kernel_rfl) (by kernel_rfl) (fun _ _ _ h => h) (Or.inl ⟨by rfl, ?t2h5⟩) (by assumption) ?t2r5
          case t2h5 => (intro y hSu; (try dsimp only at hSu); go_simp; first | done | with_reducible rfl)
          (try simp only [Act.put, List.setIfInBounds_toArray, List.set_cons_zero, List.set_cons_succ])
          refine takeL (i := 6) (v := ?t2v6) (some 39) rfl rfl (by kernel_rfl) (by kernel_rfl) (by kernel_rfl) (by kernel_rfl) (by kernel_rfl) (fun _ _ _ h => h) (Or.inl ⟨by rfl, ?t2h6⟩) (by assumption) ?t2r6
          case t2h6 => (intro y hSu; (try dsimp only at hSu); go_simp; first | done | with_reducible rfl)
          (try simp only [Act.put, List.setIfInBounds_toArray, List.set_cons_zero, List.set_cons_succ])
          refine takeL (i := 7) (v := ?t2v7) (some 40) rfl rfl (by kernel_rfl) (by kernel_rfl) (by kernel_rfl) (by kernel_rfl) (by kernel_rfl) (fun _ _ _ h => h) (Or.inl ⟨by rfl, ?t2h7⟩) (by assumption) ?t2r7
          case t2h7 => (intro y hSu; (try dsimp only at hSu); go_simp; first | done | with_reducible rfl)
          (try simp only [Act.put, List.setIfInBounds_toArray, List.set_cons_zero, List.set_cons_succ])
          refine readyL (i := 8) (by kernel_rfl) rfl (fun K hK => ?_)
          go_simp
          refine (unhide CA).mono ?_
          rintro r6 w6 ⟨rfl, hb6⟩
          have HS6 : Hid (Below w2.heap.size w2 w6) := (below_drewN (unhide HS) 1).trans ((unhide hb6).mono (unhide HS).size)
          have HE6 : Hid (w6.cell? ⟨gb, 0, none⟩ = some (.slice (some ⟨gv, 0, none⟩) vn vc) ∧ w6.cell? ⟨gb, 1, none⟩ = some (.slice ea en ec) ∧ w6.cell? ⟨gb, 2, none⟩ = some (.int .i64 rd) ∧ w6.cell? ⟨gb, 3, none⟩ = some (.int .i64 wr_0) ∧ w6.cell? ⟨gv, 0, none⟩ = some (.int .i64 x0)) := by
            have hF6 := (unhide HW2).below (unhide HS6)
            obtain ⟨q0, q1, q2, q3, -⟩ := cellsG hF6.box
            exact ⟨q0, q1, q2, q3, brow_at hF6.vs (unhide HC0)⟩
          clear CA hb6 HF HS HC0 b0 b1 b2 b3 c0 ck
          (try dsimp only)
          refine hK.out _ _ (fun _ => (unhide HE6)) ?_
          clear hK K
          (try simp only [Act.put, List.setIfInBounds_toArray, List.set_cons_zero, List.set_cons_succ])
          have hH4 := (unhide HE6)
          refine takeL (i := 9) (v := ?t5v9) (some 42) rfl rfl (by kernel_rfl) (by kernel_rfl) (by kernel_rfl) (by kernel_rfl) (by kernel_rfl) (fun _ _ _ h => h) (Or.inl ⟨by rfl, ?t5h9⟩) (by assumption) ?t5r9
          case t5h9 => (intro y hSu; (try dsimp only at hSu); go_simp; first | done | with_reducible rfl)
          (try simp only [Act.put, List.setIfInBounds_toArray, List.set_cons_zero, List.set_cons_succ])
          refine doneL (by kernel_rfl) ?_ _
          refine NoPanic.normal ?_
          clear HE6
          go_wp2_with fail
          (try rw [unhide zk])
          exact ⟨⟨k1, rfl, (unhide HI).1, HS6⟩, by have := (unhide HI).2; simp [intOf]; omega⟩
        · have z1 : ¬ (k : Int) < (vn : Int) := by omega
          obtain ⟨w3, hw3⟩ : ∃ w3, w3 = wr := ⟨_, rfl⟩
          have HF3 := hide hF
          have HH3 := hide (nrow_below (unhide HH) (unhide hS))
          have HB3 : Hid (Below w.heap.size w wr) := (unhide HB2).trans ((unhide hS).mono (unhide HB2).size)
          rw [← hw3] at HF3 HH3 HB3 b0 b1 b2 b3 ⊢
          clear hw3 hS hk hlt hF HH HW2 HB2 wr
          have hd1 : Below w3.heap.size w3 (w3.drewN 1) := below_drewN (Below.refl _ w3) 1
          have HCE : Hid (∀ W, Below w3.heap.size w3 W → W.cell? ⟨gb, 0, none⟩ = some (.slice va vn vc) ∧ W.cell? ⟨gb, 1, none⟩ = some (.slice ea en ec) ∧ W.cell? ⟨gb, 2, none⟩ = some (.int .i64 rd) ∧ W.cell? ⟨gb, 3, none⟩ = some (.int .i64 wr_0)) := fun W hW => by
            obtain ⟨q0, q1, q2, q3, -⟩ := cellsG ((unhide HF3).below hW).box
            exact ⟨q0, q1, q2, q3⟩
          have C1 : Hid (Calls Tryz.prog 18 #[.pointer (some ⟨c, 0, none⟩)] (w3.drewN 1) fun e w' => ∃ a n c', e = .returned (.slice a n c') ∧ Hid (NRow w' (.slice a n c') (hdsOf css) ∧ Below w3.heap.size w3 w')) := by
            obtain ⟨S, k1, k2⟩ := ((unhide HF3).below hd1).k
            refine (kHeadsS k1 (by have := (unhide HG).2.1; omega)).mono ?_
            rintro e w' ⟨v, rfl, hq⟩
            obtain ⟨ys, q1, q2, q3, q4⟩ := unhide hq
            rw [heads_same (unhide HG).1 (unhide HG).2.2.1 k2 k1.at_.fam q1 q2, ← (unhide HG).2.2.2.1] at q3
            obtain ⟨a, c', rfl, -⟩ := brow_shape q3
            exact ⟨a, _, c', rfl, brow_low q3 (Nat.zero_le _), hd1.trans (q4.mono hd1.size)⟩
          clear hd1
          go_upto_region 14 with fail
          refine wp_region_noPanic ?_
          refine regionL [] (fun y => y.cell? ⟨gb, 0, none⟩ = some (.slice va vn vc) ∧ y.cell? ⟨gb, 1, none⟩ = some (.slice ea en ec) ∧ y.cell? ⟨gb, 2, none⟩ = some (.int .i64 rd) ∧ y.cell? ⟨gb, 3, none⟩ = some (.int .i64 wr_0)) (by kernel_rfl) ⟨b0, b1, b2, b3⟩ (fun hHeld => ?_)
          refine takeL (i := 0) (v := ?t8v0) (some 44) rfl rfl (by kernel_rfl) (by kernel_rfl) (by kernel_rfl) (by kernel_rfl) (by kernel_rfl) (fun _ _ _ h => h) (Or.inl ⟨by rfl, ?t8h0⟩) (by assumption) ?t8r0
          case t8h0 => (intro y hSu; (try dsimp only at hSu); go_simp; first | done | with_reducible rfl)
          (try simp only [Act.put, List.setIfInBounds_toArray, List.set_cons_zero, List.set_cons_succ])
          refine takeL (i := 2) (v := ?t8v2) (some 46) rfl rfl (by kernel_rfl) (by kernel_rfl) (by kernel_rfl) (by kernel_rfl) (by kernel_rfl) (fun _ _ _ h => h) (Or.inl ⟨by rfl, ?t8h2⟩) (by assumption) ?t8r2
          case t8h2 => (intro y hSu; (try dsimp only at hSu); go_simp; first | done | with_reducible rfl)
          (try simp only [Act.put, List.setIfInBounds_toArray, List.set_cons_zero, List.set_cons_succ])
          refine readyL (i := 1) (by kernel_rfl) rfl (fun K hK => ?_)
          go_simp
          refine (unhide C1).mono ?_
          rintro r4 w4 ⟨ha, hn, hc, rfl, HQ⟩
          have HB4 := hide (unhide HQ).2
          have C2 : Hid (Calls Tryz.prog 17 #[.slice ha hn hc, .slice y yn yc] w4 fun e w' => e = .returned (.bool true) ∧ Hid (Below w3.heap.size w3 w')) := by
            refine (sameInts9 (unhide HQ).1 (nrow_below (unhide HH3) (unhide HB4)) (by
              have := (unhide HG).2.2.2.2.1
              unfold hdsOf
              rw [List.length_map]; omega)).mono ?_
            rintro e w' ⟨rfl, q, rfl⟩
            exact ⟨by rw [decide_eq_true rfl], below_drewN (unhide HB4) q⟩
          have HE4 := hide (unhide HCE w4 (unhide HB4))
          clear C1 HQ HB4 b0 b1 b2 b3
          (try dsimp only)
          refine hK.out _ _ (fun _ => (unhide HE4)) ?_
          clear hK K
          (try simp only [Act.put, List.setIfInBounds_toArray, List.set_cons_zero, List.set_cons_succ])
          have hH10 := (unhide HE4)
          refine readyL (i := 3) (by kernel_rfl) rfl (fun K hK => ?_)
          go_simp
          refine (unhide C2).mono ?_
          rintro r5 w5 ⟨rfl, HB5⟩
          have HE5 := hide (unhide HCE w5 (unhide HB5))
          have C3 : Hid (Calls Tryz.prog 20 #[.pointer (some ⟨c, 0, none⟩)] w5 fun e w' => ∃ a n c', e = .returned (.slice a n c') ∧ Hid (ABRow 0 w' (.slice a n c') (arcA css es css.length) ∧ Below w3.heap.size w3 w' ∧ (arcA css es css.length).length ≤ N)) := by
            obtain ⟨S, k1, k2⟩ := ((unhide HF3).below (unhide HB5)).k
            refine (kArcsS k1 (by have := (unhide HG).2.1; omega) (fun e u v he hf => ?_)).mono ?_
            · obtain ⟨x, hx, -, e2⟩ := arcF_some hf
              injection e2 with e2 e3
              rw [e2, e3]
              exact ⟨(unhide HG).1.okV _ ((unhide HG).1.end1 hx).1, (unhide HG).1.okV _ ((unhide HG).1.end1 hx).2⟩
            · rintro e w' ⟨a, n, c', rfl, hq⟩
              obtain ⟨l, q1, q2, q3, q4, q5⟩ := unhide hq
              have el := arcs_same (unhide HG).1 (unhide HG).2.2.1 k2 q2 q3
              rw [← (unhide HG).2.2.2.1] at el
              rw [el] at q1 q4
              exact ⟨a, n, c', rfl, abrow_low q1 (Nat.zero_le _), (unhide HB5).trans (q5.mono (unhide HB5).size), q4⟩
          clear C2 HE4
          (try dsimp only)
          refine hK.out _ _ (fun _ => (unhide HE5)) ?_
          clear hK K
          (try simp only [Act.put, List.setIfInBounds_toArray, List.set_cons_zero, List.set_cons_succ])
          have hH12 := (unhide HE5)
          refine takeL (i := 4) (v := ?t13v4) (some 48) rfl rfl (by kernel_rfl) (by kernel_rfl) (by kernel_rfl) (by kernel_rfl) (by kernel_rfl) (fun _ _ _ h => h) (Or.inl ⟨by rfl, ?t13h4⟩) (by assumption) ?t13r4
          case t13h4 => (intro y hSu; (try dsimp only at hSu); go_simp; first | done | with_reducible rfl)
          (try simp only [Act.put, List.setIfInBounds_toArray, List.set_cons_zero, List.set_cons_succ])
          refine takeL (i := 5) (v := ?t13v5) (some 49) rfl rfl (by kernel_rfl) (by kernel_rfl) (by kernel_rfl) (by kernel_rfl) (by kernel_rfl) (fun _ _ _ h => h) (Or.inl ⟨by rfl, ?t13h5⟩) (by assumption) ?t13r5
          case t13h5 => (intro y hSu; (try dsimp only at hSu); go_simp; first | done | with_reducible rfl)
          (try simp only [Act.put, List.setIfInBounds_toArray, List.set_cons_zero, List.set_cons_succ])
          refine takeL (i := 7) (v := ?t13v7) (some 51) rfl rfl (by kernel_rfl) (by kernel_rfl) (by kernel_rfl) (by kernel_rfl) (by kernel_rfl) (fun _ _ _ h => h) (Or.inl ⟨by rfl, ?t13h7⟩) (by assumption) ?t13r7
          case t13h7 => (intro y hSu; (try dsimp only at hSu); go_simp; first | done | with_reducible rfl)
          (try simp only [Act.put, List.setIfInBounds_toArray, List.set_cons_zero, List.set_cons_succ])
          refine readyL (i := 6) (by kernel_rfl) rfl (fun K hK => ?_)
          go_simp
          refine (unhide C3).mono ?_
          rintro r6 w6 ⟨aa, an, ac, rfl, HQ⟩
          have HB6 := hide (unhide HQ).2.1
          have HE6 := hide (unhide HCE w6 (unhide HB6))
          have C4 : Hid (Calls Tryz.prog 31 #[.agg #[.slice va vn vc, .slice ea en ec, .int .i64 rd, .int .i64 wr_0]] w6 fun e w' => ∃ a n c', e = .returned (.slice a n c') ∧ Hid (ABRow 0 w' (.slice a n c') (arcA css es css.length) ∧ ABRow 0 w' (.slice aa an ac) (arcA css es css.length) ∧ Below w3.heap.size w3 w' ∧ (arcA css es css.length).length ≤ N)) := by
            have hF6 := (unhide HF3).below (unhide HB6)
            refine (refArcsS (rd := rd) (wr_ := wr_0) hF6.vs hF6.es_ (unhide HG).1.rise (unhide HG).1.ends (by have := (unhide HG).2.2.2.2.2.1; have := (unhide HG).2.2.2.2.2.2.1; omega) (unhide HG).2.2.2.2.2.2.2 (unhide HG).2.2.1 (unhide HG).2.2.2.1 (unhide HG).2.2.2.2.1 (unhide HM)).mono ?_
            intro e w' hq
            obtain ⟨a, n, c', rfl, q1, q2⟩ := unhide hq
            exact ⟨a, n, c', rfl, abrow_low q1 (Nat.zero_le _), abrow_kept (unhide HQ).1 (fun b q => q2.block b ((unhide HQ).1.lt b q).2), (unhide HB6).trans (q2.mono (unhide HB6).size), (unhide HQ).2.2⟩
          clear C3 HE5 HB5 HQ
          (try dsimp only)
          refine hK.out _ _ (fun _ => (unhide HE6)) ?_
          clear hK K
          (try simp only [Act.put, List.setIfInBounds_toArray, List.set_cons_zero, List.set_cons_succ])
          have hH15 := (unhide HE6)
          refine readyL (i := 8) (by kernel_rfl) rfl (fun K hK => ?_)
          go_simp
          refine (unhide C4).mono ?_
          rintro r7 w7 ⟨ba, bn, bc, rfl, HQ⟩
          have HB7 := hide (unhide HQ).2.2.1
          have HE7 := hide (unhide HCE w7 (unhide HB7))
          have C5 : Hid (Calls Tryz.prog 19 #[.slice aa an ac, .slice ba bn bc] w7 fun e w' => e = .returned (.bool true) ∧ Hid (Below w3.heap.size w3 w')) := by
            refine (sameArcsS (unhide HQ).2.1 (unhide HQ).1 (by have := (unhide HQ).2.2.2; have := (unhide HG).2.1; omega)).mono ?_
            rintro e w' ⟨rfl, q, rfl⟩
            exact ⟨rfl, below_drewN (unhide HB7) q⟩
          clear C4 HE6 HB6 HQ
          (try dsimp only)
          refine hK.out _ _ (fun _ => (unhide HE7)) ?_
          clear hK K
          (try simp only [Act.put, List.setIfInBounds_toArray, List.set_cons_zero, List.set_cons_succ])
          have hH17 := (unhide HE7)
          refine readyL (i := 9) (by kernel_rfl) rfl (fun K hK => ?_)
          go_simp
          refine (unhide C5).mono ?_
          rintro r8 w8 ⟨rfl, HB8⟩
          have HE8 := hide (unhide HCE w8 (unhide HB8))
          have C6 : Hid (Calls Tryz.prog 29 #[.pointer (some ⟨c, 0, none⟩), .agg #[.slice va vn vc, .slice ea en ec, .int .i64 rd, .int .i64 wr_0], .slice x n xc, .int .i64 1099511627776, .int .i64 (-5)] w8 fun e w' => e = .returned (.bool true) ∧ Hid (Below w8.heap.size w8 w')) := by
            have hF8 := (unhide HF3).below (unhide HB8)
            exact asksS hF8.k (unhide HG).1 (by have := (unhide HG).2.1; omega) (unhide HG).2.2.1 (by rw [← (unhide HG).2.2.2.1]; exact hF8.ll) okN_far.1 okN_far.2
          clear C5 HE7 HB7
          (try dsimp only)
          refine hK.out _ _ (fun _ => (unhide HE8)) ?_
          clear hK K
          (try simp only [Act.put, List.setIfInBounds_toArray, List.set_cons_zero, List.set_cons_succ])
          have hH19 := (unhide HE8)
          refine takeL (i := 10) (v := ?t20v10) (some 54) rfl rfl (by kernel_rfl) (by kernel_rfl) (by kernel_rfl) (by kernel_rfl) (by kernel_rfl) (fun _ _ _ h => h) (Or.inl ⟨by rfl, ?t20h10⟩) (by assumption) ?t20r10
          case t20h10 => (intro y hSu; (try dsimp only at hSu); go_simp; first | done | with_reducible rfl)
          (try simp only [Act.put, List.setIfInBounds_toArray, List.set_cons_zero, List.set_cons_succ])
          refine takeL (i := 11) (v := ?t20v11) (some 55) rfl rfl (by kernel_rfl) (by kernel_rfl) (by kernel_rfl) (by kernel_rfl) (by kernel_rfl) (fun _ _ _ h => h) (Or.inl ⟨by rfl, ?t20h11⟩) (by assumption) ?t20r11
          case t20h11 => (intro y hSu; (try dsimp only at hSu); go_simp; first | done | with_reducible rfl)
          (try simp only [Act.put, List.setIfInBounds_toArray, List.set_cons_zero, List.set_cons_succ])
          refine takeL (i := 12) (v := ?t20v12) (some 56) rfl rfl (by kernel_rfl) (by kernel_rfl) (by kernel_rfl) (by kernel_rfl) (by kernel_rfl) (fun _ _ _ h => h) (Or.inl ⟨by rfl, ?t20h12⟩) (by assumption) ?t20r12
          case t20h12 => (intro y hSu; (try dsimp only at hSu); go_simp; first | done | with_reducible rfl)
          (try simp only [Act.put, List.setIfInBounds_toArray, List.set_cons_zero, List.set_cons_succ])
          refine takeL (i := 13) (v := ?t20v13) (some 57) rfl rfl (by kernel_rfl) (by kernel_rfl) (by kernel_rfl) (by kernel_rfl) (by kernel_rfl) (fun _ _ _ h => h) (Or.inl ⟨by rfl, ?t20h13⟩) (by assumption) ?t20r13
          case t20h13 => (intro y hSu; (try dsimp only at hSu); go_simp; first | done | with_reducible rfl)
          (try simp only [Act.put, List.setIfInBounds_toArray, List.set_cons_zero, List.set_cons_succ])
          refine takeL (i := 14) (v := ?t20v14) (some 58) rfl rfl (by kernel_rfl) (by kernel_rfl) (by kernel_rfl) (by kernel_rfl) (by kernel_rfl) (fun _ _ _ h => h) (Or.inl ⟨by rfl, ?t20h14⟩) (by assumption) ?t20r14
          case t20h14 => (intro y hSu; (try dsimp only at hSu); go_simp; first | done | with_reducible rfl)
          (try simp only [Act.put, List.setIfInBounds_toArray, List.set_cons_zero, List.set_cons_succ])
          refine readyL (i := 15) (by kernel_rfl) rfl (fun K hK => ?_)
          go_simp
          refine (unhide C6).mono ?_
          rintro r9 w9 ⟨rfl, hb9⟩
          have HB9 : Hid (Below w3.heap.size w3 w9) := (unhide HB8).trans ((unhide hb9).mono (unhide HB8).size)
          have HE9 := hide (unhide HCE w9 (unhide HB9))
          clear C6 HE8 HB8 hb9
          (try dsimp only)
          refine hK.out _ _ (fun _ => (unhide HE9)) ?_
          clear hK K
          (try simp only [Act.put, List.setIfInBounds_toArray, List.set_cons_zero, List.set_cons_succ])
          have hH22 := (unhide HE9)
          refine takeL (i := 16) (v := ?t23v16) (some 60) rfl rfl (by kernel_rfl) (by kernel_rfl) (by kernel_rfl) (by kernel_rfl) (by kernel_rfl) (fun _ _ _ h => h) (Or.inl ⟨by rfl, ?t23h16⟩) (by assumption) ?t23r16
          case t23h16 => (intro y hSu; (try dsimp only at hSu); go_simp; first | done | with_reducible rfl)
          (try simp only [Act.put, List.setIfInBounds_toArray, List.set_cons_zero, List.set_cons_succ])
          refine takeL (i := 17) (v := ?t23v17) (some 4) rfl rfl (by kernel_rfl) (by kernel_rfl) (by kernel_rfl) (by kernel_rfl) (by kernel_rfl) (fun _ _ _ h => h) (Or.inl ⟨by rfl, ?t23h17⟩) (by assumption) ?t23r17
          case t23h17 => (intro y hSu; (try dsimp only at hSu); go_simp; first | done | with_reducible rfl)
          (try simp only [Act.put, List.setIfInBounds_toArray, List.set_cons_zero, List.set_cons_succ])
          refine doneL (by kernel_rfl) ?_ _
          refine NoPanic.normal ?_
          have HEND : Hid (Below w.heap.size w w9) := (unhide HB3).trans ((unhide HB9).mono (unhide HB3).size)
          clear HE9 HB9 HCE HF3 HH3
          go_wp2_with fail
          go_ret
          exact ⟨rfl, unhide HEND⟩
end Go.Proofs.YtkmhcgmmbkchaaaGreat

/- The reference's Encode. -/
import Derived.Test.YtagibmgbjhemkaaGreatEn16
import Derived.Test.YtagibmgbjhemkaaGreatRn16
namespace Go.Proofs.YtagibmgbjhemkaaGreat.W16
open Go.RowKit Go.Maps
/-- A list appended that a call has made. -/
theorem encP_app {w0 w w1 : World} {F T : Int} {u : Nat} {ev v v2 : Value} {es : List Int} {bs ys : List Nat} (h : EncP w0 F T u ev es w v bs) (g : Grows w.heap.size w (.slice none 0 0) w1 v2 ys) (he : Lies i64v w0 ev es) (hl : bs.length + ys.length ≤ 1000000) :
    ∃ a' n' c' w2, (∀ ty, (Builtin.append_ #[23, 23] ty #[v, v2]).run Tryz.prog w1 = .ok (.slice a' n' c') w2) ∧ EncP w0 F T u ev es w2 (.slice a' n' c') (bs ++ ys) := by
  have hb := below_grows g
  have hr : ByRow (w0.heap.size + 1) w1 v bs := rrow_below h.1 hb
  obtain ⟨a', n', c', w2, r, g1, g2, g3⟩ := run_appBs hr (Nat.le_trans h.room hb.size) (byrow_lies g.1) (by omega)
  have hg : Grows (w0.heap.size + 1) w v w2 (.slice a' n' c') (bs ++ ys) := ⟨g1, (turned_of_below hb).trans g2, fun b e => (g3 b e).imp id (fun q => Nat.le_trans hb.size q)⟩
  exact ⟨a', n', c', w2, r, h.grow hg he⟩
theorem encP_app1 {w0 w : World} {F T : Int} {u : Nat} {ev v : Value} {es : List Int} {bs : List Nat} (y : Nat) (h : EncP w0 F T u ev es w v bs) (he : Lies i64v w0 ev es) (hl : bs.length < 1000000) :
    ∃ a' n' c' w2, (∀ ty, (Builtin.append_ #[23, 23] ty #[v, .slice (some ⟨w.heap.size, 0, none⟩) 1 1]).run Tryz.prog (w.alloc (.cells #[.int .u8 (y : Nat)] 5)) = .ok (.slice a' n' c') w2) ∧ EncP w0 F T u ev es w2 (.slice a' n' c') (bs ++ [y]) := by
  obtain ⟨a', n', c', w2, r, g1, g2, g3⟩ := run_app1B y h.1 h.room hl
  exact ⟨a', n', c', w2, r, h.grow ⟨g1, g2, g3⟩ he⟩
set_option maxHeartbeats 4000000 in
set_option maxRecDepth 100000 in
theorem encodeR {w : World} {ev : Value} (f t : Nat) (u : Nat) {es : List Int} (h : Lies i64v w ev es) (hg : Good ((f : Nat), (t : Nat), u, es)) :
    Calls Tryz.prog 36 #[.agg #[.int .i64 (f : Nat), .int .i64 (t : Nat), .int .u32 (u : Nat), ev]] w fun e w' => ∃ v', e = .returned v' ∧ Hid (ByRow w.heap.size w' v' (encWt ((f : Nat), (t : Nat), u, es)) ∧ Below w.heap.size w w') := by
  obtain ⟨g1, g2, g3, g4, g5⟩ := hg
  simp only at g1 g2 g3 g4 g5
  obtain ⟨a, c, hv⟩ := lies_shape h
  obtain ⟨n, hn⟩ : ∃ n, n = es.length := ⟨_, rfl⟩
  rw [← hn] at hv
  subst hv
  have HG : Hid ((f ≤ 2147483647 ∧ t ≤ 2147483647 ∧ u < 4294967296 ∧ n ≤ 1024 ∧ n = es.length) ∧ (∀ x ∈ es, 1 ≤ x ∧ x ≤ 1024) ∧ Lies i64v w (.slice a n c) es) := ⟨⟨by omega, by omega, g4, by omega, hn⟩, g5, h⟩
  have HP := hide (encP_start (F := (f : Nat)) (T := (t : Nat)) (u := u) h)
  clear h g1 g2 g3 g4 g5 hn
  unfold oV at *
  go_enter Tryz.func36, Tryz.ntmps36
  go_upto_region 1 with fail
  have Lf : Hid ((nb f).length ≤ 5) := nb_len 4 f (by have := (unhide HG).1; omega)
  have Lt : Hid ((nb t).length ≤ 5) := nb_len 4 t (by have := (unhide HG).1; omega)
  have Ln : Hid ((nb n).length ≤ 2) := nb_len 1 n (by have := (unhide HG).1; omega)
  have CA := hide (numberR (n := f) ((w.alloc (oV (f : Nat) (t : Nat) u (.slice a n c))).alloc (.cells #[.int .u8 183] 5)) (by have := (unhide HG).1; omega))
  unfold oV at CA
  go_wp2_with fail
  refine (unhide CA).mono ?_
  rintro e x1 ⟨y1, rfl, HG1⟩
  obtain ⟨a1, n1, k1, w1, hr, hP⟩ := encP_app (unhide HP) (unhide HG1) (unhide HG).2.2 (by simp; try have := unhide Lf; try have := unhide Lt; try have := unhide Ln; simp at *; omega)
  have HR := hide hr
  have HP1 := hide hP
  clear hr hP CA HP HG1
  have HP := HP1
  clear HP1
  go_upto_region 2 with (at_builtin; refine Lib.wpList_append_run _ rfl _ _ 23 23 rfl _ _ rfl rfl _ _ (unhide HR _) ?_)
  clear HR
  obtain ⟨c0, c1, c2, c3⟩ := oV_cells (unhide HP).2.1
  have CA := hide (numberR (n := t) w1 (by have := (unhide HG).1; omega))
  go_wp2_with fail
  refine (unhide CA).mono ?_
  rintro e x2 ⟨y2, rfl, HG1⟩
  obtain ⟨a2, n2, k2, w2, hr, hP⟩ := encP_app (unhide HP) (unhide HG1) (unhide HG).2.2 (by simp; try have := unhide Lf; try have := unhide Lt; try have := unhide Ln; simp at *; omega)
  have HR := hide hr
  have HP2 := hide hP
  clear hr hP CA HP HG1
  have HP := HP2
  clear HP2
  go_upto_region 3 with (at_builtin; refine Lib.wpList_append_run _ rfl _ _ 23 23 rfl _ _ rfl rfl _ _ (unhide HR _) ?_)
  clear HR
  clear c0 c1 c2 c3
  obtain ⟨c0, c1, c2, c3⟩ := oV_cells (unhide HP).2.1
  have hu := (unhide HG).1.2.2.1
  go_wp2_with fail
  clear c0 c1 c2 c3 hu
  have HL2 : Hid ((([183] ++ nb f) ++ nb t).length ≤ 20) := by show _ ≤ 20; have := unhide Lf; have := unhide Lt; simp; omega
  obtain ⟨base, hbase⟩ : ∃ base, base = (([183] : List Nat) ++ nb f) ++ nb t := ⟨_, rfl⟩
  have HBA := hide hbase
  rw [← hbase] at HP HL2
  clear hbase
  go_loopw [3, 4, 5] (fun s3 s4 s5 wr => ∃ (k q a' n' c' : _), s3 = .slice a' n' c' ∧ s4 = .int .i64 (q : Nat) ∧ s5 = .int .i64 (k : Nat) ∧ Hid (k ≤ 4 ∧ q = u / 256 ^ k ∧ EncP w (f : Nat) (t : Nat) u (.slice a n c) es wr (.slice a' n' c') (base ++ (bb u).take k))) (fun _ _ s5 _ => 4 - (intOf s5).toNat)
  case atStart => exact ⟨0, u, _, _, _, rfl, rfl, rfl, Nat.zero_le _, by simp, by rw [List.take_zero, List.append_nil]; exact unhide HP⟩
  case round =>
    obtain ⟨k, q, a', n', c', rfl, rfl, rfl, HI⟩ := hrel
    obtain ⟨i1, i2, i3⟩ := unhide HI
    have hl2 := unhide HL2
    by_cases hk4 : k < 4
    · have z1 : (k : Int) < 4 := by omega
      have hd : (bb u)[k]? = some (q % 256) := by
        have hk : k = 0 ∨ k = 1 ∨ k = 2 ∨ k = 3 := by omega
        rcases hk with rfl | rfl | rfl | rfl <;> subst i2 <;> simp [bb]
      obtain ⟨d, hdd⟩ : ∃ d, d = q % 256 := ⟨_, rfl⟩
      obtain ⟨q2, hq2⟩ : ∃ q2, q2 = q / 256 := ⟨_, rfl⟩
      obtain ⟨j, hj⟩ : ∃ j, j = k + 1 := ⟨_, rfl⟩
      have ed : ((d : Nat) : Int) = (q : Int) % 256 := by omega
      have HQ : Hid (wrap64 ((q : Int) / 256) = (q2 : Int)) := by
        have : q ≤ u := by rw [i2]; exact Nat.div_le_self _ _
        have := (unhide HG).1
        show wrap64 ((q : Int) / 256) = (q2 : Int); unfold wrap64; omega
      have zj : Hid ((k : Int) + 1 = (j : Int)) := by show (k : Int) + 1 = (j : Int); omega
      obtain ⟨a2, n2, c2, w6, hr, hP⟩ := encP_app1 d i3 (unhide HG).2.2 (by simp [bb]; omega)
      rw [ed] at hr
      have HR := hide hr
      have HJ : Hid (j ≤ 4 ∧ q2 = u / 256 ^ j ∧ EncP w (f : Nat) (t : Nat) u (.slice a n c) es w6 (.slice a2 n2 c2) (base ++ (bb u).take j) ∧ 4 - j < 4 - k) := by
        refine ⟨by omega, by rw [hj, Nat.pow_succ, ← Nat.div_div_eq_div_mul, ← i2]; exact hq2, ?_, by omega⟩
        have e : (bb u).take j = (bb u).take k ++ [d] := by rw [hj, List.take_add_one, hd, hdd]; rfl
        rw [e, ← List.append_assoc]; exact hP
      clear HI i1 i2 i3 hl2 hk4 hd hdd hq2 hj ed hr hP
      go_wp2_with (at_builtin; refine Lib.wpList_append_run _ rfl _ _ 23 23 rfl _ _ rfl rfl _ _ (unhide HR _) ?_)
      exact ⟨⟨j, q2, a2, n2, c2, rfl, by rw [unhide HQ], by rw [unhide zj], (unhide HJ).1, (unhide HJ).2.1, (unhide HJ).2.2.1⟩, by rw [unhide zj]; exact (unhide HJ).2.2.2⟩
    · obtain rfl : k = 4 := by omega
      have z1 : ¬ ((4 : Nat) : Int) < 4 := by omega
      have HP5 : Hid (EncP w (f : Nat) (t : Nat) u (.slice a n c) es wr (.slice a' n' c') (base ++ bb u)) := i3
      clear HI i1 i2 i3 hl2 hk4 HP
      go_upto_region 9 with fail
      obtain ⟨c0, c1, c2, c3⟩ := oV_cells (unhide HP5).2.1
      have CA := hide (numberR (n := n) wr (by have := (unhide HG).1; omega))
      go_wp2_with fail
      refine (unhide CA).mono ?_
      rintro e x3 ⟨y3, rfl, HG1⟩
      obtain ⟨a3, n3, k3, w3, hr, hP⟩ := encP_app (unhide HP5) (unhide HG1) (unhide HG).2.2 (by have := unhide HL2; have := unhide Ln; simp [bb] at *; omega)
      have HR := hide hr
      have HP := hide hP
      clear hr hP CA HG1 HP5 c0 c1 c2 c3
      go_upto_region 10 with (at_builtin; refine Lib.wpList_append_run _ rfl _ _ 23 23 rfl _ _ rfl rfl _ _ (unhide HR _) ?_)
      clear HR
      have HL : Hid (((base ++ bb u) ++ nb n).length ≤ 100) := by show _ ≤ 100; have := unhide HL2; have := unhide Ln; simp [bb]; omega
      have HZ : Hid (∀ W V, EncP w (f : Nat) (t : Nat) u (.slice a n c) es W V (((base ++ bb u) ++ nb n) ++ encEs es) → ByRow w.heap.size W V (encWt ((f : Nat), (t : Nat), u, es)) ∧ Below w.heap.size w W) := fun W V h => by
        refine ⟨?_, h.2.2.2⟩
        have e : encWt ((f : Nat), (t : Nat), u, es) = ((base ++ bb u) ++ nb n) ++ encEs es := by rw [unhide HBA]; simp [encWt, (unhide HG).1.2.2.2.2]
        rw [e]
        exact rrow_low h.1 (by omega)
      generalize (base ++ bb u) ++ nb n = bas2 at *
      clear HBA HL2
      go_wp2_with fail
      go_loopw [3, 6] (fun s3 s6 wr => ∃ (i a' n' c' : _), s3 = .slice a' n' c' ∧ s6 = .int .i64 (i : Nat) ∧ Hid (i ≤ n ∧ EncP w (f : Nat) (t : Nat) u (.slice a n c) es wr (.slice a' n' c') (bas2 ++ encEs (es.take i)))) (fun _ s6 _ => n - (intOf s6).toNat)
      case atStart => exact ⟨0, _, _, _, rfl, rfl, Nat.zero_le _, by rw [List.take_zero]; show EncP _ _ _ _ _ _ _ _ (bas2 ++ []); rw [List.append_nil]; exact unhide HP⟩
      case round =>
        obtain ⟨i, a', n', c', rfl, rfl, HI⟩ := hrel
        obtain ⟨i1, i2⟩ := unhide HI
        obtain ⟨⟨g1, g2, g3, g4, g5⟩, g6, g7⟩ := unhide HG
        have hl0 := unhide HL
        obtain ⟨c0, c1, c2, c3⟩ := oV_cells i2.2.1
        by_cases hlt : i < n
        · obtain ⟨x, hx⟩ : ∃ x, es[i]? = some x := ⟨_, List.getElem?_eq_getElem (by omega)⟩
          have hx2 := g6 x (List.mem_of_getElem? hx)
          obtain ⟨m, rfl⟩ := Int.eq_ofNat_of_zero_le (show 0 ≤ x by omega)
          obtain ⟨bq, off, rfl, k0⟩ := lies_at i2.2.2.1 hx
          have z1 : (i : Int) < (n : Int) := by omega
          obtain ⟨j, hj⟩ : ∃ j, j = i + 1 := ⟨_, rfl⟩
          have zw : Hid (wrap64 ((i : Int) + 1) = (j : Int)) := by show wrap64 ((i : Int) + 1) = (j : Int); unfold wrap64; omega
          have hll : (encEs (es.take i)).length ≤ i * 2 := by
            have := encEs_len (es.take i) (fun y hy => g6 y (List.mem_of_mem_take hy))
            rw [List.length_take] at this; omega
          have hm2 := nb_len 1 m (by omega)
          have CA := hide (numberR (n := m) wr (by omega))
          have HAP : Hid (∀ W V, Grows wr.heap.size wr (.slice none 0 0) W V (nb m) → ∃ a2 n2 c2 w2, (∀ ty, (Builtin.append_ #[23, 23] ty #[.slice a' n' c', V]).run Tryz.prog W = .ok (.slice a2 n2 c2) w2) ∧ j ≤ n ∧ EncP w (f : Nat) (t : Nat) u (.slice (some ⟨bq, off, none⟩) n c) es w2 (.slice a2 n2 c2) (bas2 ++ encEs (es.take j))) := fun W V hgr => by
            obtain ⟨a2, n2, c2, w2, r, hp⟩ := encP_app i2 hgr g7 (by rw [List.length_append]; omega)
            refine ⟨a2, n2, c2, w2, r, by omega, ?_⟩
            have e : es.take j = es.take i ++ [(m : Int)] := by rw [hj, List.take_add_one, hx]; rfl
            rw [e, encEs_append, ← List.append_assoc]
            have e2 : encEs [(m : Int)] = nb m := by simp [encEs]
            rw [e2]; exact hp
          have HM : Hid (n - j < n - i) := by show n - j < n - i; omega
          unfold i64v at k0
          clear HI i1 i2 g1 g2 g3 g4 g5 g6 g7 hl0 hlt hx hx2 hj hll hm2
          go_wp2_with fail
          refine (unhide CA).mono ?_
          rintro e x7 ⟨y7, rfl, HG7⟩
          obtain ⟨a2, n2, c2', w2, hr, u1, u2⟩ := unhide HAP _ _ (unhide HG7)
          have HR := hide hr
          have HU := hide u2
          clear hr u2 HG7 HAP CA c0 c1 c2 c3 k0
          go_wp2_with (at_builtin; refine Lib.wpList_append_run _ rfl _ _ 23 23 rfl _ _ rfl rfl _ _ (unhide HR _) ?_)
          exact ⟨⟨j, a2, n2, c2', rfl, by rw [unhide zw], u1, unhide HU⟩, by rw [unhide zw]; exact unhide HM⟩
        · have z1 : ¬ (i : Int) < (n : Int) := by omega
          have HA := hide (unhide HZ _ _ (by rw [List.take_of_length_le (by omega)] at i2; exact i2))
          clear HI i1 i2 g1 g2 g3 g4 g5 g6 g7 hl0 hlt
          go_wp2_with fail
          go_ret
          exact ⟨_, rfl, HA⟩
end Go.Proofs.YtagibmgbjhemkaaGreat.W16

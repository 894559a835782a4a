/- The reference's Add. -/
import Derived.Test.YtfhidghjmookhaaRefCopy
import Derived.Deep.RegionHeld3
namespace Go.Proofs.Ytfhidghjmookhaa
open Go.RowKit Go.Maps

/-- What lies at the box and at the result's block. -/
def Boxes (w u : World) (x y x' y' : Value) : Prop :=
  (u.cell? ⟨w.heap.size, 0, none⟩ = some x ∧ u.cell? ⟨w.heap.size, 1, none⟩ = some y) ∧ (u.cell? ⟨w.heap.size + 1, 0, none⟩ = some x' ∧ u.cell? ⟨w.heap.size + 1, 1, none⟩ = some y') ∧ (∀ o, u.frozen? ⟨w.heap.size, o, none⟩ = false) ∧ ∀ o, u.frozen? ⟨w.heap.size + 1, o, none⟩ = false

/-- The two new blocks: the box of what came, the result's. -/
def two (w : World) (v : Value) (nx : Int) : World := (w.alloc (.cells #[v, .int .i64 nx] 28)).alloc (.cells #[.slice none 0 0, .int .i64 0] 28)
theorem two_at (w : World) (v : Value) (nx : Int) : Boxes w (two w v nx) v (.int .i64 nx) (.slice none 0 0) (.int .i64 0) ∧ (two w v nx).heap.size = w.heap.size + 2 ∧ Below w.heap.size w (two w v nx) := by
  obtain ⟨h1, h2, h3, h4, h5, h6⟩ := boxes w v (.int .i64 nx) (.slice none 0 0) (.int .i64 0)
  exact ⟨⟨h1, h2, h3, h4⟩, h5, h6⟩
theorem Boxes.kept {w W w3 : World} {x y x' y' : Value} (h : Boxes w W x y x' y') (hs : W.heap.size = w.heap.size + 2) (hb : Below W.heap.size W w3) : Boxes w w3 x y x' y' :=
  boxes_kept hs hb h.1.1 h.1.2 h.2.1.1 h.2.1.2 h.2.2.1 h.2.2.2

/-- Behind the store into the result. -/
theorem res_end {w w5 : World} {v2 : Value} {L B : Nat} {xs : List Value} {x : Value} (hB : w.heap.size + 2 ≤ B) (h5 : w5.ownsRow B 35 2 v2 L xs) (hb : Below w.heap.size w w5) (c0 : ∃ u, w5.cell? ⟨w.heap.size + 1, 0, none⟩ = some u) (c1 : ∃ u, w5.cell? ⟨w.heap.size + 1, 1, none⟩ = some u) :
    (((w5.setCell ⟨w.heap.size + 1, 0, none⟩ v2).setCell ⟨w.heap.size + 1, 1, none⟩ x).cell? ⟨w.heap.size + 1, 0, none⟩ = some v2 ∧ ((w5.setCell ⟨w.heap.size + 1, 0, none⟩ v2).setCell ⟨w.heap.size + 1, 1, none⟩ x).cell? ⟨w.heap.size + 1, 1, none⟩ = some x) ∧
    ((w5.setCell ⟨w.heap.size + 1, 0, none⟩ v2).setCell ⟨w.heap.size + 1, 1, none⟩ x).ownsRow w.heap.size 35 2 v2 L xs ∧ Below w.heap.size w ((w5.setCell ⟨w.heap.size + 1, 0, none⟩ v2).setCell ⟨w.heap.size + 1, 1, none⟩ x) := by
  obtain ⟨u0, c0⟩ := c0
  obtain ⟨u1, c1⟩ := c1
  refine ⟨stored2 c0 c1 _ _, row_low h5 (by omega) (fun k hk => ?_), below2 hb (by omega) _ _⟩
  have hk1 := (h5.lt k hk).1
  have n2 : k ≠ w.heap.size + 1 := by omega
  rw [heap_setCell_other _ _ _ _ n2, heap_setCell_other _ _ _ _ n2]

set_option maxHeartbeats 1000000 in
set_option maxRecDepth 100000 in
theorem refAddNo {v : Value} {its : List (Int × Int)} (nx k : Int) (w : World) (h : w.ownsRow 0 35 2 v its.length (enc .i64 its)) (hn : its.length ≤ 1000000) (hi : ¬ Out its k) :
    Calls Try.prog 30 #[.agg #[v, .int .i64 nx], .int .i64 k] w fun e w' => e = .returned (.tuple #[.agg #[v, .int .i64 nx], .bool false]) ∧ Hid (Below w.heap.size w w') := by
  obtain ⟨hbx, hsz, hb⟩ := two_at w v nx
  have CF := hide (refFind nx k _ (items_below h hb) hn)
  obtain ⟨a, c, rfl⟩ := item_shape h
  have HI := hide hi
  have HB := hide hb
  have HSZ := hide hsz
  have HBX := hide hbx
  generalize hL : its.length = L at *
  obtain ⟨⟨a0, a1⟩, ⟨r0, r1⟩, fa, fr⟩ := hbx
  clear h hn hi hb hsz hL
  go_enter Try.func30, Try.ntmps30
  go_upto_region 1 with fail
  unfold two at *
  generalize ((w.alloc (.cells #[.slice a L c, .int .i64 nx] 28)).alloc (.cells #[.slice none 0 0, .int .i64 0] 28)) = W at *
  go_wp2_with fail
  refine (unhide CF).mono ?_
  rintro e w3 ⟨r, rfl, h3⟩
  obtain ⟨ha, hb3⟩ := unhide h3
  have hr : 0 ≤ r := by
    rcases Int.lt_or_le r 0 with e | e
    · exact absurd (out_of ha e) (unhide HI)
    · exact e
  obtain ⟨⟨d0, d1⟩, ⟨e0, e1⟩, -, ef⟩ := (unhide HBX).kept (unhide HSZ) hb3
  have HR := hide (stored2 e0 e1 (.slice a L c) (.int .i64 nx))
  have HBR := hide (below2 ((unhide HB).trans (hb3.mono (unhide HB).size)) (by omega : w.heap.size ≤ w.heap.size + 1) (.slice a L c) (.int .i64 nx))
  clear CF h3 ha hb3 HB HSZ HBX a0 a1 r0 r1 fa fr
  go_wp2_with fail
  (try simp only [Exit.inBlock, Exit.then])
  refine bodyPost_ret (res2 rfl _ _ (w.heap.size + 1) _ _ rfl (unhide HR).1 (unhide HR).2) rfl ?_
  exact ⟨rfl, unhide HBR⟩

/-- Where k is to stand. -/
def PlaceIs (its : List (Int × Int)) (k : Int) (i : Nat) : Prop := i ≤ its.length ∧ (∀ j, j < i → lo its j < k) ∧ (i < its.length → ¬ lo its i < k)

set_option maxHeartbeats 2000000 in
set_option maxRecDepth 100000 in
theorem refAddYes {g cap : Nat} {its : List (Int × Int)} (nx k : Int) (i : Nat) (w : World) (h : w.ownsRow 0 35 2 (.slice (some ⟨g, 0, none⟩) its.length cap) its.length (enc .i64 its)) (hn : its.length ≤ 1000000) (ho : Out its k) (hp : PlaceIs its k i) (hnx : 0 ≤ nx ∧ nx ≤ 1000000) :
    Calls Try.prog 30 #[.agg #[.slice (some ⟨g, 0, none⟩) its.length cap, .int .i64 nx], .int .i64 k] w fun e w' => ∃ v', e = .returned (.tuple #[.agg #[v', .int .i64 (nx + 1)], .bool true]) ∧ Hid (w'.ownsRow w.heap.size 35 2 v' (its.length + 1) (enc .i64 (its.take i ++ (k, nx) :: its.drop i)) ∧ Below w.heap.size w w') := by
  obtain ⟨hbx, hsz, hb⟩ := two_at w (.slice (some ⟨g, 0, none⟩) its.length cap) nx
  have h2 := items_below h hb
  have CF := hide (refFind nx k _ h2 hn)
  have HO := hide ho
  have HCC := hide (fun j hj w3 (hb3 : Below (two w (.slice (some ⟨g, 0, none⟩) its.length cap) nx).heap.size _ w3) => (owns_cells (items_below h2 hb3) j hj).1)
  have HP := hide hp
  obtain ⟨hi1, hi2, hi3⟩ := hp
  have hlt : (its.take i).length = i := by simp; omega
  have hcapb : its.length ≤ cap ∧ cap ≤ maxLen := by
    rcases h.2 with ⟨e, -⟩ | ⟨g', cap', cur', e, -, hgg, h1, h2, -⟩
    · cases e
    · cases e; exact ⟨h1, h2⟩
  have HQ : Hid (∀ w3, Below (two w (.slice (some ⟨g, 0, none⟩) its.length cap) nx).heap.size (two w (.slice (some ⟨g, 0, none⟩) its.length cap) nx) w3 → ∃ b1 c1 w4 b2 c2 w5 src b3 c3 w6,
      Hid ((Builtin.append_ #[26, 26] 26 #[.slice (some ⟨w3.heap.size, 0, none⟩) 0 0, .slice (some ⟨g, 0, none⟩) i cap]).run Try.prog (w3.alloc (.cells #[] 35)) = .ok (.slice b1 i c1) w4) ∧
      Boxes w w4 (.slice (some ⟨g, 0, none⟩) its.length cap) (.int .i64 nx) (.slice none 0 0) (.int .i64 0) ∧
      Hid ((Builtin.append_ #[26, 26] 26 #[.slice b1 i c1, .slice (some ⟨w4.heap.size, 0, none⟩) 1 1]).run Try.prog (w4.alloc (.cells #[.int .i64 k, .int .i64 nx] 35)) = .ok (.slice b2 (i + 1) c2) w5) ∧
      Boxes w w5 (.slice (some ⟨g, 0, none⟩) its.length cap) (.int .i64 nx) (.slice none 0 0) (.int .i64 0) ∧
      (if cap = i then (⟨g, 0, none⟩ : Addr) else ⟨g, i * 2, none⟩) = src ∧
      Hid ((Builtin.append_ #[26, 26] 26 #[.slice b2 (i + 1) c2, .slice (some src) (its.length - i) (cap - i)]).run Try.prog w5.drew = .ok (.slice b3 (its.length + 1) c3) w6) ∧
      Boxes w w6 (.slice (some ⟨g, 0, none⟩) its.length cap) (.int .i64 nx) (.slice none 0 0) (.int .i64 0) ∧
      Hid ((((w6.setCell ⟨w.heap.size + 1, 0, none⟩ (.slice b3 (its.length + 1) c3)).setCell ⟨w.heap.size + 1, 1, none⟩ (.int .i64 (nx + 1))).cell? ⟨w.heap.size + 1, 0, none⟩ = some (.slice b3 (its.length + 1) c3) ∧ ((w6.setCell ⟨w.heap.size + 1, 0, none⟩ (.slice b3 (its.length + 1) c3)).setCell ⟨w.heap.size + 1, 1, none⟩ (.int .i64 (nx + 1))).cell? ⟨w.heap.size + 1, 1, none⟩ = some (.int .i64 (nx + 1))) ∧
        ((w6.setCell ⟨w.heap.size + 1, 0, none⟩ (.slice b3 (its.length + 1) c3)).setCell ⟨w.heap.size + 1, 1, none⟩ (.int .i64 (nx + 1))).ownsRow w.heap.size 35 2 (.slice b3 (its.length + 1) c3) (its.length + 1) (enc .i64 (its.take i ++ (k, nx) :: its.drop i)) ∧ Below w.heap.size w ((w6.setCell ⟨w.heap.size + 1, 0, none⟩ (.slice b3 (its.length + 1) c3)).setCell ⟨w.heap.size + 1, 1, none⟩ (.int .i64 (nx + 1))))) := fun w3 hb3 => by
    have l3 : w.heap.size + 2 ≤ w3.heap.size := by have := hb3.size; omega
    have hrow3 := items_below h2 hb3
    obtain ⟨b1, c1, w4, p1, p2, p3⟩ := headRow hrow3 hn hi1
    have hs3 : w3.heap.size ≤ w4.heap.size := p3.size
    obtain ⟨v2, w5, q1, q2, q3⟩ := snocRow (B := w3.heap.size) (v1 := .slice b1 i c1) (its := its.take i) (by rw [hlt]; exact p2) (by rw [hlt]; omega) hs3 k nx
    rw [hlt] at q2
    obtain ⟨b2, c2, hv2⟩ := item_shape (row_low q2 (Nat.zero_le _) (fun _ _ => rfl))
    subst hv2
    have b35 : Below w3.heap.size w3 w5 := p3.trans q3
    have bx4 := hbx.kept hsz (hb3.trans (p3.mono hb3.size))
    have bx5 := hbx.kept hsz (hb3.trans (b35.mono hb3.size))
    obtain ⟨src, b3, c3, w6, t1, t2, t3, t4⟩ := tailRow (w2 := w5.drew) (B := w3.heap.size) (v1 := .slice b2 (i + 1) c2) (n := i + 1) (xs := its.take i ++ [(k, nx)]) (its := its) (g := g) (cap := cap) (t := i) (row_low q2 (Nat.le_refl _) (fun _ _ => rfl)) (items_kept hrow3 (fun j hj => b35.block j (hrow3.lt j hj).2)) hn (by omega) b35.size hi1
    rw [show i + 1 + (its.length - i) = its.length + 1 by omega] at t2 t3
    rw [show its.take i ++ [(k, nx)] ++ its.drop i = its.take i ++ (k, nx) :: its.drop i by simp] at t3
    have b36 : Below w3.heap.size w3 w6 := (below_drewN b35 1).trans t4
    have bx6 := hbx.kept hsz (hb3.trans (b36.mono hb3.size))
    exact ⟨b1, c1, w4, b2, c2, w5, src, b3, c3, w6, p1, bx4, q1, bx5, t1, t2, bx6, res_end l3 t3 (hb.trans ((hb3.trans (b36.mono hb3.size)).mono hb.size)) ⟨_, bx6.2.1.1⟩ ⟨_, bx6.2.1.2⟩⟩
  have hnx1 : IntKind.i64.wrap (nx + 1) = nx + 1 := by rw [IntKind.wrap_i64]; omega
  have hcb : (i : Int) ≤ (cap : Int) := by omega
  have hiL : (i : Int) ≤ (its.length : Int) := by omega
  have hcb2 : (its.length : Int) ≤ (cap : Int) := by omega
  have HSZ := hide hsz
  have HBX := hide hbx
  obtain ⟨⟨a0, a1⟩, ⟨r0, r1⟩, fa, fr⟩ := hbx
  generalize hLL : its.length = L at *
  have HL6 : Hid (L ≤ 1000000) := hn
  have HI1 := hide hi1
  have HLL := hide hLL
  clear h hn hb hsz h2 hi2 hi3 hlt hcapb ho hLL hnx hi1
  unfold two at *
  go_enter Try.func30, Try.ntmps30
  go_upto_region 1 with fail
  generalize ((w.alloc (.cells #[.slice (some ⟨g, 0, none⟩) L cap, .int .i64 nx] 28)).alloc (.cells #[.slice none 0 0, .int .i64 0] 28)) = W at *
  go_wp2_with fail
  refine (unhide CF).mono ?_
  rintro e w3 ⟨r, rfl, h3⟩
  obtain ⟨ha, hb3⟩ := unhide h3
  have hr : r < 0 := by
    rcases Int.lt_or_le r 0 with e | e
    · exact e
    · exact absurd (unhide HO) (in_of ha (by omega))
  obtain ⟨⟨d0, d1⟩, ⟨e0, e1⟩, df, ef⟩ := (unhide HBX).kept (unhide HSZ) hb3
  have HC3 : Hid (∀ j, j < L → w3.cell? ⟨g, j * 2, none⟩ = some (.int .i64 (lo its j))) := fun j hj => unhide HCC j hj w3 hb3
  have HQ3 := hide (unhide HQ w3 hb3)
  clear CF h3 ha hb3 HQ HO HCC HBX HSZ a0 a1 r0 r1 fa fr
  go_wp2_with fail
  go_loopw [6] (fun s6 wr => ∃ j : Nat, j ≤ i ∧ s6 = .int .i64 j ∧ wr = w3) (fun s6 _ => i - (intOf s6).toNat)
  case atStart => exact ⟨0, Nat.zero_le _, rfl, rfl⟩
  case round =>
    obtain ⟨j, hj, rfl, rfl⟩ := hrel
    rename World => w3
    by_cases hji : j < i
    · have hjL : j < L := by have := unhide HI1; omega
      have hjz : (j : Int) < (L : Int) := by omega
      have hc := unhide HC3 j hjL
      have hlo := (unhide HP).2.1 j hji
      have hL6 := unhide HL6
      generalize lo its j = kj at hc hlo
      go_wp2_with fail
      go_roundw
      case rel => exact ⟨j + 1, by omega, by go_num, by first | trivial | rfl⟩
      case measure => simp [intOf]; omega
    · obtain rfl : j = i := by omega
      go_upto_region 4 with fail
      go_cut [27] from 13 to 29 (fun s27 wq => s27 = .bool false ∧ wq = w3)
      case first =>
        by_cases hjL : j < L
        · have hjz : (j : Int) < (L : Int) := by omega
          have hc := unhide HC3 j hjL
          have hlo := (unhide HP).2.2 (by rw [unhide HLL]; exact hjL)
          generalize lo its j = kj at hc hlo
          go_wp2_with fail
          go_meet
          case rel => exact ⟨rfl, rfl⟩
        · have hjz : ¬ (j : Int) < (L : Int) := by omega
          go_wp2_with fail
          go_meet
          case rel => exact ⟨rfl, rfl⟩
      case rest =>
        obtain ⟨rfl, rfl⟩ := hcut
        rename World => w3
        obtain ⟨b1, c1, w4, b2, c2, w5, src, b3, c3, w6, HR1, x4, HR2, x5, hsrc, HR3, x6, HE⟩ := unhide HQ3
        obtain ⟨⟨f0, f1⟩, -, -, -⟩ := x4
        obtain ⟨⟨g0, g1⟩, ⟨g2, g3⟩, gf, gg⟩ := x5
        obtain ⟨⟨h0, h1⟩, ⟨h2, h3⟩, hf, hg⟩ := x6
        have d2 := cell_made (.cells #[] 35) d0
        have hLi : (j : Int) ≤ (L : Int) := by omega
        clear HQ3 HC3
        by_cases hcap : cap = j
        · subst hcap
          have hL2 : L = cap := by have := unhide HI1; omega
          subst hL2
          rw [if_pos rfl] at hsrc
          subst hsrc
          rw [Nat.sub_self] at HR3
          go_upto_region 8 with (at_builtin; first | refine Lib.wpList_append_run _ rfl _ _ 26 26 rfl (.slice (some ⟨w3.heap.size, 0, none⟩) 0 0) (.slice (some ⟨g, 0, none⟩) L L) rfl rfl _ _ HR1.out ?_ | refine Lib.wpList_append_run _ rfl _ _ 26 26 rfl (.slice b1 L c1) (.slice (some ⟨w4.heap.size, 0, none⟩) 1 1) rfl rfl _ _ HR2.out ?_)
          go_region_law (refine step_append_run rfl (.tmp 43) (.tmp 47) 26 rfl _ _ (by first | rfl | simp [Act.eval]) (by first | rfl | simp [Act.eval]) _ _ HR3.out ?_)
          all_goals
            go_wp2_with fail
            (try simp only [Exit.inBlock, Exit.then])
            refine bodyPost_ret (res2 rfl _ _ (w.heap.size + 1) _ _ rfl (unhide HE).1.1 (unhide HE).1.2) rfl ?_
            exact ⟨_, rfl, (unhide HE).2⟩
        · rw [if_neg hcap] at hsrc
          subst hsrc
          go_upto_region 8 with (at_builtin; first | refine Lib.wpList_append_run _ rfl _ _ 26 26 rfl (.slice (some ⟨w3.heap.size, 0, none⟩) 0 0) (.slice (some ⟨g, 0, none⟩) j cap) rfl rfl _ _ HR1.out ?_ | refine Lib.wpList_append_run _ rfl _ _ 26 26 rfl (.slice b1 j c1) (.slice (some ⟨w4.heap.size, 0, none⟩) 1 1) rfl rfl _ _ HR2.out ?_)
          go_region_law (refine step_append_run rfl (.tmp 43) (.tmp 47) 26 rfl _ _ (by first | rfl | simp [Act.eval]) (by first | rfl | simp [Act.eval]) _ _ HR3.out ?_)
          all_goals
            go_wp2_with fail
            (try simp only [Exit.inBlock, Exit.then])
            refine bodyPost_ret (res2 rfl _ _ (w.heap.size + 1) _ _ rfl (unhide HE).1.1 (unhide HE).1.2) rfl ?_
            exact ⟨_, rfl, (unhide HE).2⟩
end Go.Proofs.Ytfhidghjmookhaa

/- Path, Reached, Dists over a live tree. -/
import Derived.Test.YtbmcibofecigeaaGreatBuild13
import Derived.Deep.LoopGhost
import Derived.Test.YtbmcibofecigeaaGreatKs14
import Derived.Test.YtbmcibofecigeaaGreatLvL14
namespace Go.Proofs.YtbmcibofecigeaaGreat

section
open Go.RowKit Go.Maps
/-- What is told of a number: 0, or an error. -/
def askC (ys : List Int) (ds : List DiV) (v : Int) : Int := if v ∈ ys then (if farAt ds (plc ys v) = true then 130 else 0) else 5
def askP (ys : List Int) (ds : List DiV) (v : Int) : Nat := if askC ys ds v = 0 then plc ys v else 0
def askB (ys : List Int) (ds : List DiV) (v : Int) : Nat := if askC ys ds v = 0 then bitsAt ds (plc ys v) else 0
def askE (ys : List Int) (ds : List DiV) (v : Int) : Int := if askC ys ds v = 0 then edgeAt ds (plc ys v) else 0
theorem rise_of {ys : List Int} {ds : List DiV} (h : ds.map (·.1) = ys) (hr : ys.Pairwise (· < ·)) : RiseD ds := by unfold RiseD; rw [← h, List.pairwise_map] at hr; exact hr
theorem ask_ok {ys : List Int} {ds : List DiV} {v : Int} : askC ys ds v = 0 ↔ v ∈ ys ∧ farAt ds (plc ys v) = false := by
  unfold askC
  by_cases h : v ∈ ys
  · rw [if_pos h]
    cases farAt ds (plc ys v) <;> simp [h]
  · rw [if_neg h]; simp [h]
section
variable {B : Nat} {W : World} {p : Nat} {s : Int} {ys : List Int} {es : List EdV} {ds : List DiV} {fs : List Int}
theorem TreeAt.vs (h : TreeAt B W p s ys es ds fs) : ds.map (·.1) = ys := by obtain ⟨ord, hd⟩ := h.dj; exact hd.vs
theorem TreeAt.dl (h : TreeAt B W p s ys es ds fs) : ds.length = ys.length := by obtain ⟨ord, hd⟩ := h.dj; exact hd.dl
theorem TreeAt.shape (h : TreeAt B W p s ys es ds fs) : ∃ gd c gf c', TrAt B W p s (.slice (some ⟨gd, 0, none⟩) ys.length c) (.slice (some ⟨gf, 0, none⟩) ys.length c') ds fs := by
  obtain ⟨dv, fv, hT⟩ := h.tr
  obtain ⟨ord, hd⟩ := h.dj
  have hpos : 0 < ys.length := List.length_pos_of_mem h.good.src
  obtain ⟨a1, c1, rfl⟩ := rrow_shape hT.ds_
  obtain ⟨gd, rfl⟩ := rrow_some hT.ds_ (by rw [hd.dl]; exact hpos)
  obtain ⟨a2, c2, rfl, -⟩ := brow_shape hT.fs_
  obtain ⟨gf2, rfl⟩ := brow_some hT.fs_ (by rw [hd.fl]; exact hpos)
  rw [hd.dl, hd.fl] at hT
  exact ⟨gd, c1, gf2, c2, hT⟩
set_option maxHeartbeats 1000000 in
theorem reachedT (h : TreeAt B W p s ys es ds fs) (v : Int) :
    Calls Tryz.prog 161 #[.pointer (some ⟨p, 0, none⟩), .int .i64 v] W fun e w' => e = .returned (.tuple #[.int .i64 (askP ys ds v : Nat), .int .i64 (askC ys ds v)]) ∧ Hid (Below W.heap.size W w') := by
  obtain ⟨gd, c, gf, c', hT⟩ := h.shape
  have hT0 : TrAt 0 W p s (.slice (some ⟨gd, 0, none⟩) ys.length c) (.slice (some ⟨gf, 0, none⟩) ys.length c') ds fs := ⟨hT.box, rrow_low hT.ds_ (Nat.zero_le _), brow_low hT.fs_ (Nat.zero_le _), Nat.zero_le _, hT.ne1, hT.ne2, hT.ne3⟩
  have hvs := h.vs
  have C1 := hide (placeS hT0 (rise_of hvs h.gk.rise) (by rw [h.dl]; exact h.gk.len) v)
  rw [rank_plc, hvs] at C1
  obtain ⟨-, k1, -, -⟩ := cellsT hT.box
  by_cases hv : v ∈ ys
  · rw [decide_eq_true hv] at C1
    have hpl := plc_lt hv
    obtain ⟨d, hd⟩ : ∃ d, ds[plc ys v]? = some d := ⟨_, List.getElem?_eq_getElem (by rw [h.dl]; exact hpl)⟩
    have hf : farAt ds (plc ys v) = d.2.1 := by unfold farAt; rw [List.getD_eq_getElem?_getD, hd]; rfl
    obtain ⟨-, f1, -, -⟩ := drow_at hT.ds_ hd
    have HD : Hid (∀ W', Below W.heap.size W W' → W'.cell? ⟨p, 1, none⟩ = some (.slice (some ⟨gd, 0, none⟩) ys.length c) ∧ W'.cell? ⟨gd, plc ys v * 4 + 1, none⟩ = some (.bool d.2.1)) := fun W' hb => ⟨(hb.cell (p := ⟨p, 1, none⟩) (cell_lt13 k1)).trans k1, (hb.cell (p := ⟨gd, plc ys v * 4 + 1, none⟩) (cell_lt13 f1)).trans f1⟩
    have z1 : ((plc ys v : Nat) : Int) < (ys.length : Int) := by omega
    unfold askP askC
    rw [if_pos hv, hf]
    generalize plc ys v = q at *
    generalize ys.length = n at *
    cases hdf : d.2.1 with
    | true =>
      rw [hdf] at HD
      rw [if_pos rfl, if_neg (by decide)]
      clear hT hT0 hvs k1 hv hpl hd hf f1 hdf h
      go_enter Tryz.func161, Tryz.ntmps161
      go_wp2_with fail
      refine (unhide C1).mono ?_
      rintro e w1 ⟨rfl, hb⟩
      obtain ⟨k1, k2⟩ := unhide HD w1 (unhide hb)
      clear C1 HD
      go_wp2_with fail
      go_ret2
      exact ⟨rfl, hb⟩
    | false =>
      rw [hdf] at HD
      rw [if_neg (show ¬ false = true by decide), if_pos rfl]
      clear hT hT0 hvs k1 hv hpl hd hf f1 hdf h
      go_enter Tryz.func161, Tryz.ntmps161
      go_wp2_with fail
      refine (unhide C1).mono ?_
      rintro e w1 ⟨rfl, hb⟩
      obtain ⟨k1, k2⟩ := unhide HD w1 (unhide hb)
      clear C1 HD
      go_wp2_with fail
      go_ret2
      exact ⟨rfl, hb⟩
  · rw [decide_eq_false hv] at C1
    unfold askP askC
    rw [if_neg hv, if_neg (by decide)]
    generalize plc ys v = q at *
    clear hT hT0 hvs hv h k1
    go_enter Tryz.func161, Tryz.ntmps161
    go_wp2_with fail
    refine (unhide C1).mono ?_
    rintro e w1 ⟨rfl, hb⟩
    clear C1
    go_wp2_with fail
    go_ret2
    exact ⟨rfl, hb⟩
/-- The cells of what is told of a number. -/
theorem TreeAt.cells (h : TreeAt B W p s ys es ds fs) {v : Int} (hv : askC ys ds v = 0) : ∃ gd c gf c', TrAt B W p s (.slice (some ⟨gd, 0, none⟩) ys.length c) (.slice (some ⟨gf, 0, none⟩) ys.length c') ds fs ∧ plc ys v < ys.length ∧
    ∀ W', Below W.heap.size W W' → W'.cell? ⟨p, 1, none⟩ = some (.slice (some ⟨gd, 0, none⟩) ys.length c) ∧ W'.cell? ⟨gd, plc ys v * 4 + 2, none⟩ = some (.int .u32 (bitsAt ds (plc ys v) : Nat)) ∧ W'.cell? ⟨gd, plc ys v * 4 + 3, none⟩ = some (.int .i64 (edgeAt ds (plc ys v))) := by
  obtain ⟨gd, c, gf, c', hT⟩ := h.shape
  have hpl := plc_lt (ask_ok.1 hv).1
  obtain ⟨d, hd⟩ : ∃ d, ds[plc ys v]? = some d := ⟨_, List.getElem?_eq_getElem (by rw [h.dl]; exact hpl)⟩
  have e1 : bitsAt ds (plc ys v) = d.2.2.1 := by unfold bitsAt; rw [List.getD_eq_getElem?_getD, hd]; rfl
  have e2 : edgeAt ds (plc ys v) = d.2.2.2 := by unfold edgeAt; rw [List.getD_eq_getElem?_getD, hd]; rfl
  obtain ⟨-, -, f2, f3⟩ := drow_at hT.ds_ hd
  obtain ⟨-, k1, -, -⟩ := cellsT hT.box
  rw [e1, e2]
  exact ⟨gd, c, gf, c', hT, hpl, fun W' hb => ⟨(hb.cell (p := ⟨p, 1, none⟩) (cell_lt13 k1)).trans k1, (hb.cell (p := ⟨gd, plc ys v * 4 + 2, none⟩) (cell_lt13 f2)).trans f2, (hb.cell (p := ⟨gd, plc ys v * 4 + 3, none⟩) (cell_lt13 f3)).trans f3⟩⟩
set_option maxHeartbeats 1000000 in
theorem distT (h : TreeAt B W p s ys es ds fs) (v : Int) :
    Calls Tryz.prog 157 #[.pointer (some ⟨p, 0, none⟩), .int .i64 v] W fun e w' => e = .returned (.tuple #[.int .u32 (askB ys ds v : Nat), .int .i64 (askC ys ds v)]) ∧ Hid (Below W.heap.size W w') := by
  have C1 := hide (reachedT h v)
  unfold askB
  unfold askP at C1
  by_cases hv : askC ys ds v = 0
  · obtain ⟨gd, c, gf, c', -, hpl, hc⟩ := h.cells hv
    have HD := hide hc
    have z1 : ((plc ys v : Nat) : Int) < (ys.length : Int) := by omega
    rw [if_pos hv, hv]
    rw [if_pos hv, hv] at C1
    generalize plc ys v = q at *
    generalize ys.length = n at *
    generalize bitsAt ds q = bb at *
    clear hc hv hpl h
    go_enter Tryz.func157, Tryz.ntmps157
    go_wp2_with fail
    refine (unhide C1).mono ?_
    rintro e w1 ⟨rfl, hb⟩
    obtain ⟨k1, k2, -⟩ := unhide HD w1 (unhide hb)
    clear C1 HD
    go_wp2_with fail
    go_ret2
    exact ⟨rfl, hb⟩
  · rw [if_neg hv]
    rw [if_neg hv] at C1
    generalize askC ys ds v = r at *
    have z0 : (r != 0) = true := by simpa using hv
    clear h hv
    go_enter Tryz.func157, Tryz.ntmps157
    go_wp2_with fail
    refine (unhide C1).mono ?_
    rintro e w1 ⟨rfl, hb⟩
    clear C1
    go_wp2_with fail
    go_ret2
    exact ⟨rfl, hb⟩
set_option maxHeartbeats 1000000 in
theorem lastT (h : TreeAt B W p s ys es ds fs) (v : Int) :
    Calls Tryz.prog 158 #[.pointer (some ⟨p, 0, none⟩), .int .i64 v] W fun e w' => e = .returned (.int .i64 (askE ys ds v)) ∧ Hid (Below W.heap.size W w') := by
  have C1 := hide (reachedT h v)
  unfold askE
  unfold askP at C1
  by_cases hv : askC ys ds v = 0
  · obtain ⟨gd, c, gf, c', -, hpl, hc⟩ := h.cells hv
    have HD := hide hc
    have z1 : ((plc ys v : Nat) : Int) < (ys.length : Int) := by omega
    rw [if_pos hv]
    rw [if_pos hv, hv] at C1
    generalize plc ys v = q at *
    generalize ys.length = n at *
    generalize edgeAt ds q = bb at *
    clear hc hv hpl h
    go_enter Tryz.func158, Tryz.ntmps158
    go_wp2_with fail
    refine (unhide C1).mono ?_
    rintro e w1 ⟨rfl, hb⟩
    obtain ⟨k1, -, k2⟩ := unhide HD w1 (unhide hb)
    clear C1 HD
    go_wp2_with fail
    go_ret
    exact ⟨rfl, hb⟩
  · rw [if_neg hv]
    rw [if_neg hv] at C1
    generalize askC ys ds v = r at *
    have z0 : (r != 0) = true := by simpa using hv
    clear h hv
    go_enter Tryz.func158, Tryz.ntmps158
    go_wp2_with fail
    refine (unhide C1).mono ?_
    rintro e w1 ⟨rfl, hb⟩
    clear C1
    go_wp2_with fail
    go_ret
    exact ⟨rfl, hb⟩
theorem sourceT (h : TreeAt B W p s ys es ds fs) :
    Calls Tryz.prog 160 #[.pointer (some ⟨p, 0, none⟩)] W fun e w' => e = .returned (.int .i64 s) ∧ w' = W := by
  obtain ⟨gd, c, gf, c', hT⟩ := h.shape
  obtain ⟨k0, -, -, -⟩ := cellsT hT.box
  clear hT h
  go_enter Tryz.func160, Tryz.ntmps160
  go_wp2_with fail
  go_ret
  exact ⟨rfl, rfl⟩
/-- Those to which a walk leads. -/
def nearV (ds : List DiV) : List Int := (ds.filter (fun d => !d.2.1)).map (·.1)
def RowAns (w : World) (ks : List Int) (v : Value) (w' : World) : Prop := BRow w.heap.size w' v ks ∧ Below w.heap.size w w'
theorem cellsDi {w : World} {b : Nat} {x : DiV} (h : w.heap[b]? = some (oD x)) : w.cell? ⟨b, 0, none⟩ = some (.int .i64 x.1) ∧ w.cell? ⟨b, 1, none⟩ = some (.bool x.2.1) :=
  ⟨(cell_of_row _ _ 0 _ _ (0, 0) h).trans rfl, (cell_of_row _ _ 1 _ _ (0, 0) h).trans rfl⟩
set_option maxHeartbeats 1000000 in
set_option maxRecDepth 100000 in
theorem reachedLT (h : TreeAt B W p s ys es ds fs) :
    Calls Tryz.prog 18 #[.pointer (some ⟨p, 0, none⟩)] W fun e w' => ∃ a n c, e = .returned (.slice a n c) ∧ Hid (RowAns W (nearV ds) (.slice a n c) w') := by
  obtain ⟨gd, c, gf, c', hT⟩ := h.shape
  obtain ⟨-, k1, -, -⟩ := cellsT hT.box
  obtain ⟨n, hn⟩ : ∃ n, n = ys.length := ⟨_, rfl⟩
  rw [← hn] at hT k1
  have H : Hid (DRow B W (.slice (some ⟨gd, 0, none⟩) n c) ds ∧ n = ds.length ∧ n ≤ 1000) := ⟨hT.ds_, by rw [hn, h.dl], by rw [hn]; exact h.gk.len⟩
  clear hT h hn
  go_enter Tryz.func18, Tryz.ntmps18
  go_wp2_with fail
  clear k1
  go_loopw [11, 3] (fun s11 s3 wr => ∃ (i : Nat) (y : Option Addr) (yn yc : Nat), s11 = .int .i64 i ∧ s3 = .slice y yn yc ∧ Hid (i ≤ n ∧ BRow W.heap.size wr (.slice y yn yc) (nearV (ds.take i)) ∧ Below W.heap.size W wr)) (fun s11 _ _ => n - (intOf s11).toNat)
  case atStart => exact ⟨0, none, 0, 0, rfl, rfl, Nat.zero_le _, ⟨rfl, .inl ⟨rfl, rfl⟩⟩, Below.refl _ _⟩
  case round =>
    obtain ⟨i, y, yn, yc, rfl, rfl, HI⟩ := hrel
    obtain ⟨i1, i2, i3⟩ := unhide HI
    obtain ⟨h1, n1, n2⟩ := unhide H
    by_cases hlt : i < n
    · obtain ⟨x, hx⟩ : ∃ x, ds[i]? = some x := ⟨_, List.getElem?_eq_getElem (by omega)⟩
      have hrow := rrow_below h1 i3
      obtain ⟨d0, d1, d2, d3⟩ := drow_at hrow hx
      have hb := below_new wr (oD x)
      obtain ⟨o0, o1⟩ := cellsDi (heap_alloc_new wr (oD x))
      have hsz : (wr.alloc (oD x)).heap.size = wr.heap.size + 1 := by simp
      obtain ⟨j, hj⟩ : ∃ j, j = i + 1 := ⟨_, rfl⟩
      have zw : Hid (wrap64 ((i : Int) + 1) = (j : Int)) := by show wrap64 ((i : Int) + 1) = (j : Int); unfold wrap64; omega
      have HJ : Hid (j = i + 1 ∧ n - j < n - i) := ⟨hj, by omega⟩
      have z1 : (i : Int) < (n : Int) := by omega
      have hb2 : Below W.heap.size W (wr.alloc (oD x)) := i3.trans (hb.mono i3.size)
      have hb3 := brow_kept i2 (fun b e => hb.block b (i2.lt b e).2)
      cases hf : x.2.1 with
      | true =>
        have HJ2 : Hid (j ≤ n ∧ BRow W.heap.size (wr.alloc (oD x)) (.slice y yn yc) (nearV (ds.take j)) ∧ Below W.heap.size W (wr.alloc (oD x))) := by
          refine ⟨by omega, ?_, hb2⟩
          have : nearV (ds.take j) = nearV (ds.take i) := by unfold nearV; rw [hj, List.take_add_one, hx, List.filter_append]; simp [hf]
          rw [this]; exact hb3
        clear hrow hx hb i1 i2 i3 n1 n2 h1 HI hj hlt hsz hb2 hb3
        obtain ⟨xv, xf, xb, xe⟩ := x
        unfold oD at *
        (try dsimp only at *)
        subst hf
        go_wp2_with fail
        (try rw [unhide zw])
        exact ⟨⟨j, y, yn, yc, by first | rfl | (rw [(unhide HJ).1]; rfl), rfl, HJ2⟩, by have := unhide HJ; simp [intOf]; omega⟩
      | false =>
        obtain ⟨a', n', c', w', r, g1, g2, -⟩ := run_app8 x.1 hb3 hb2.size (by unfold nearV; rw [List.length_map]; have := List.length_filter_le (fun d : DiV => !d.2.1) (ds.take i); rw [List.length_take] at this; omega)
        have HR := hide r
        have HJ2 : Hid (j ≤ n ∧ BRow W.heap.size w' (.slice a' n' c') (nearV (ds.take j)) ∧ Below W.heap.size W w') := by
          refine ⟨by omega, ?_, hb2.trans (g2.below hb2.size (fun b e => (i2.lt b e).1))⟩
          have : nearV (ds.take j) = nearV (ds.take i) ++ [x.1] := by unfold nearV; rw [hj, List.take_add_one, hx, List.filter_append]; simp [hf]
          rw [this]; exact g1
        rw [hsz] at HR
        clear hrow hx hb i1 i2 i3 n1 n2 h1 HI hj hlt hsz hb2 hb3 g1 g2 r
        obtain ⟨xv, xf, xb, xe⟩ := x
        unfold oD at *
        (try dsimp only at *)
        subst hf
        go_wp2_with (at_builtin; refine Lib.wpList_append_run _ rfl _ _ 24 24 rfl _ _ rfl rfl _ _ (unhide HR _) ?_)
        (try rw [unhide zw])
        exact ⟨⟨j, a', n', c', by first | rfl | (rw [(unhide HJ).1]; rfl), rfl, HJ2⟩, by have := unhide HJ; simp [intOf]; omega⟩
    · have z1 : ¬ (i : Int) < (n : Int) := by omega
      have HE : Hid (RowAns W (nearV ds) (.slice y yn yc) wr) := by
        rw [List.take_of_length_le (by omega)] at i2
        exact ⟨i2, i3⟩
      clear HI i1 i2 i3 n1 n2 h1 hlt
      go_wp2_with fail
      go_ret
      exact ⟨_, _, _, rfl, HE⟩
end
end

section
open Go.RowKit Go.Maps
/-- The edges on the way back from a place, the last one first. -/
def Back (ds : List DiV) (fs : List Int) : Nat → List Int → Prop
  | q, [] => edgeAt ds q = 0
  | q, e :: l => e = edgeAt ds q ∧ e ≠ 0 ∧ ∃ p : Nat, fs[q]? = some (p : Int) ∧ Back ds fs p l
/-- One step back from a place that isn't the source. -/
theorem TreeAt.step {B : Nat} {W : World} {p : Nat} {s : Int} {ys : List Int} {es : List EdV} {ds : List DiV} {fs : List Int} (h : TreeAt B W p s ys es ds fs) :
    ∃ ord : List Nat, ord.length ≤ 1000 ∧ (∀ q, farAt ds q = false → q ∈ ord) ∧ ∀ q, farAt ds q = false → edgeAt ds q ≠ 0 → ∃ pp : Nat, fs[q]? = some (pp : Int) ∧ farAt ds pp = false ∧ ord.idxOf pp < ord.idxOf q := by
  obtain ⟨ord, hd⟩ := h.dj
  have hcov : ∀ q, farAt ds q = false → q ∈ ord := fun q hf => by
    rcases hd.cov q (by rw [← hd.dl]; exact far_lt hf) hf with z | ⟨x, hx, -⟩
    · exact z
    · cases hx
  refine ⟨ord, Nat.le_trans hd.ordl h.gk.len, hcov, fun q hf he => ?_⟩
  have hq : q < ys.length := by rw [← hd.dl]; exact far_lt hf
  obtain ⟨p2, hp2, y, hy, -, -, -, h4, h5⟩ := hd.hang q hq hf (fun z => he (by rw [z]; exact hd.src.2.2.2))
  exact ⟨p2, h4, (hd.oin p2 hp2).2.1, h5 (hcov q hf)⟩
def PathAns (w : World) (ds : List DiV) (fs : List Int) (q : Nat) (v : Value) (w' : World) : Prop := ∃ l, Back ds fs q l ∧ BRow w.heap.size w' v l.reverse ∧ Below w.heap.size w w' ∧ l.length ≤ 1001
/-- slices.Reverse. -/
theorem revN (B : Nat) (v : Value) (ks : List Int) (w : World) (hl : ks.length ≤ 1000000) (h : BRow B w v ks) :
    Calls Tryz.prog 54 #[v] w fun e w' => e = .returned (.tuple #[]) ∧ Hid (BRow B w' v ks.reverse ∧ Turned (fun b => v.ownBlock = some b) w w') := by
  have hb := h
  rcases h.2 with ⟨rfl, h0⟩ | ⟨g, cap, cur, rfl, hB, hg, hcap, hmx, hsz, htk⟩
  · obtain rfl : ks = [] := List.length_eq_zero_iff.1 h0
    refine (Any.slices_Reverse_int_empty Tryz.lays112 none 0 w).mono ?_
    rintro e w' ⟨rfl, rfl⟩
    exact ⟨rfl, hb, Turned.refl _ _⟩
  · refine (Any.slices_Reverse_int_cells Tryz.lays112 g 0 ks.length cap ks w (Nat.le_refl _) (by omega) (fun j hj => ?_) (fun j hj => ?_)).mono ?_
    · rw [Nat.zero_add, brow_at hb (List.getElem?_eq_getElem hj), List.getD_eq_getElem?_getD, List.getElem?_eq_getElem hj]; rfl
    · exact (brow_set hb 0 hj).1 _
    · rintro e w' ⟨rfl, q, rfl⟩
      rw [List.take_of_length_le (Nat.le_refl _)]
      have hlen : (ks.reverse.map (Value.int .i64)).length = ks.length := by simp
      have hs1 : cur.size = cap := by omega
      have hM := setM_list (ks.reverse.map (Value.int .i64)) 0 cur (by rw [hlen]; omega)
      refine ⟨rfl, ⟨by simp, .inr ⟨g, cap, setM cur 0 (ks.reverse.map (Value.int .i64)), by rw [List.length_reverse], hB, setCells_heap g _ 0 (w.drewN q) cur hg, by rw [List.length_reverse]; exact hcap, hmx, by rw [setM_size]; exact hsz, ?_⟩⟩, (Turned.refl _ _).drewN q |>.trans (setCells_turned (S := fun b => (Value.slice (some ⟨g, 0, none⟩) ks.length cap).ownBlock = some b) g (show _ = some g from rfl) _ 0 _)⟩
      rw [hM, List.take_zero, List.nil_append, List.length_reverse, Nat.mul_one, List.take_left' hlen]
def PathAns2 (w : World) (ys : List Int) (ds : List DiV) (fs : List Int) (v : Int) (x : Value) (w' : World) : Prop :=
  Below w.heap.size w w' ∧ (askC ys ds v ≠ 0 → x = .slice none 0 0) ∧ (askC ys ds v = 0 → PathAns w ds fs (plc ys v) x w')
set_option maxHeartbeats 2000000 in
set_option maxRecDepth 100000 in
theorem pathT {B : Nat} {W : World} {p : Nat} {s : Int} {ys : List Int} {es : List EdV} {ds : List DiV} {fs : List Int} (h : TreeAt B W p s ys es ds fs) (v : Int) :
    Calls Tryz.prog 159 #[.pointer (some ⟨p, 0, none⟩), .int .i64 v] W fun e w' => ∃ a n c, e = .returned (.tuple #[.slice a n c, .int .i64 (askC ys ds v)]) ∧ Hid (PathAns2 W ys ds fs v (.slice a n c) w') := by
  have C1 := hide (reachedT h v)
  unfold askP at C1
  by_cases hv : askC ys ds v = 0
  · have HV := hide hv
    rw [if_pos hv, hv] at C1
    rw [hv]
    obtain ⟨ord, ho1, ho2, ho3⟩ := h.step
    obtain ⟨gd, c, gf, c', hT⟩ := h.shape
    have hfar := (ask_ok.1 hv).2
    obtain ⟨q0, hq0⟩ : ∃ q0, q0 = plc ys v := ⟨_, rfl⟩
    obtain ⟨n, hn⟩ : ∃ n, n = ys.length := ⟨_, rfl⟩
    rw [← hq0] at C1 hfar
    rw [← hn] at hT
    have HQ := hide hq0
    have HO : Hid (ord.length ≤ 1000 ∧ (∀ q, farAt ds q = false → q ∈ ord) ∧ (∀ q, farAt ds q = false → edgeAt ds q ≠ 0 → ∃ pp : Nat, fs[q]? = some (pp : Int) ∧ farAt ds pp = false ∧ ord.idxOf pp < ord.idxOf q) ∧ farAt ds q0 = false) := ⟨ho1, ho2, ho3, hfar⟩
    have HT : Hid (TrAt B W p s (.slice (some ⟨gd, 0, none⟩) n c) (.slice (some ⟨gf, 0, none⟩) n c') ds fs ∧ ds.length = n ∧ n ≤ 1000) := ⟨hT, by rw [hn]; exact h.dl, by rw [hn]; exact h.gk.len⟩
    clear hv ho1 ho2 ho3 hT hfar hq0 hn h
    go_enter Tryz.func159, Tryz.ntmps159
    go_wp2_with fail
    refine (unhide C1).mono ?_
    rintro e w1 ⟨rfl, hb1⟩
    clear C1
    go_wp2_with fail
    go_loopg [6, 8] (ord.idxOf q0) (fun g s6 s8 wr => ∃ (q : Nat) (y : Option Addr) (yn yc g0 : Nat), s6 = .int .i64 q ∧ s8 = .slice y yn yc ∧ Hid (g0 = g ∧ g0 = ord.idxOf q ∧ Below W.heap.size W wr ∧ farAt ds q = false ∧ ∃ l, BRow W.heap.size wr (.slice y yn yc) l ∧ (∀ m, Back ds fs q m → Back ds fs q0 (l ++ m)) ∧ l.length + g0 ≤ 1000))
    case atStart =>
      have ho := unhide HO
      exact ⟨q0, none, 0, 0, _, rfl, rfl, rfl, rfl, unhide hb1, ho.2.2.2, [], ⟨rfl, .inl ⟨rfl, rfl⟩⟩, fun m hm => hm, by have := List.idxOf_lt_length_of_mem (ho.2.1 q0 ho.2.2.2); simp; omega⟩
    case round =>
      clear hb1
      obtain ⟨q, y, yn, yc, g0, rfl, rfl, HI⟩ := hrel
      obtain ⟨i1, i2, i3, i4, l, i5, i6, i7⟩ := unhide HI
      obtain ⟨hT, t1, t2⟩ := unhide HT
      obtain ⟨-, -, ho3, -⟩ := unhide HO
      have hTr := hT.below i3
      have hql := far_lt i4
      obtain ⟨d, hd⟩ : ∃ d, ds[q]? = some d := ⟨_, List.getElem?_eq_getElem hql⟩
      obtain ⟨-, -, -, k3⟩ := drow_at hTr.ds_ hd
      have he : edgeAt ds q = d.2.2.2 := by unfold edgeAt; rw [List.getD_eq_getElem?_getD, hd]; rfl
      rw [← he] at k3
      obtain ⟨-, b1, b2, -⟩ := cellsT hTr.box
      have z1 : (q : Int) < (n : Int) := by omega
      have HG := hide i1
      by_cases h0 : edgeAt ds q = 0
      · have hl6 := i6 [] h0
        rw [List.append_nil] at hl6
        have C2 := hide (revN W.heap.size _ l wr (by omega) i5)
        have HB : Hid (Back ds fs q0 l ∧ Below W.heap.size W wr ∧ (∀ b, (Value.slice y yn yc).ownBlock = some b → W.heap.size ≤ b) ∧ l.length ≤ 1001) := ⟨hl6, i3, fun b e => (i5.lt b e).1, by omega⟩
        rw [h0] at k3
        clear HI i1 i2 i3 i4 i5 i6 i7 hT t1 t2 ho3 hTr hql hd he h0 hl6
        go_wp2_with fail
        refine (unhide C2).mono ?_
        rintro e w2 ⟨rfl, H2⟩
        have HE : Hid (PathAns2 W ys ds fs v (.slice y yn yc) w2) := by
          obtain ⟨r1, r2⟩ := unhide H2
          obtain ⟨s1, s2, s3, s4⟩ := unhide HB
          have hbb := s2.trans (r2.below s2.size s3)
          exact ⟨hbb, fun z => absurd (unhide HV) z, fun _ => ⟨l, by rw [← unhide HQ]; exact s1, r1, hbb, s4⟩⟩
        clear C2 H2 HB k3 b1 b2 z1
        go_wp2_with fail
        go_ret2
        exact ⟨_, _, _, rfl, HE⟩
      · obtain ⟨pp, hp1, hp2, hp3⟩ := ho3 q i4 h0
        have kf := brow_at hTr.fs_ hp1
        obtain ⟨a', n', c2, w2, r, g1, g2, -⟩ := run_app8 (edgeAt ds q) i5 i3.size (by omega)
        have HR := hide r
        have hb2 : Below W.heap.size W w2 := i3.trans (g2.below i3.size (fun b e => (i5.lt b e).1))
        obtain ⟨-, -, b3, -⟩ := cellsT (hT.below hb2).box
        have kf2 := brow_at (hT.below hb2).fs_ hp1
        obtain ⟨g1', hg1'⟩ : ∃ g1', g1' = ord.idxOf pp := ⟨_, rfl⟩
        have HJ : Hid (g1' = ord.idxOf pp ∧ Below W.heap.size W w2 ∧ farAt ds pp = false ∧ g1' < g0 ∧ ∃ l, BRow W.heap.size w2 (.slice a' n' c2) l ∧ (∀ m, Back ds fs pp m → Back ds fs q0 (l ++ m)) ∧ l.length + g1' ≤ 1000) := by
          refine ⟨hg1', hb2, hp2, by omega, l ++ [edgeAt ds q], g1, fun m hm => ?_, by rw [List.length_append, List.length_singleton]; omega⟩
          rw [List.append_assoc]
          exact i6 _ ⟨rfl, h0, pp, hp1, hm⟩
        have z0 : (edgeAt ds q != 0) = true := by simpa using h0
        generalize edgeAt ds q = ee at *
        clear HI i1 i2 i3 i4 i5 i6 i7 hT t1 t2 ho3 hTr hql hd he h0 hp1 hp2 hp3 g1 g2 r hb2 hg1' kf
        go_wp2_with (at_builtin; refine Lib.wpList_append_run _ rfl _ _ 24 24 rfl _ _ rfl rfl _ _ (unhide HR _) ?_)
        go_roundg g1'
        case measure => have h1 := unhide HG; have h2 := (unhide HJ).2.2.2.1; omega
        case rel =>
          obtain ⟨j1, j2, j3, j4, j5⟩ := unhide HJ
          exact ⟨pp, a', n', c2, g1', rfl, rfl, rfl, j1, j2, j3, j5⟩
  · have HE : Hid (∀ w', Below W.heap.size W w' → PathAns2 W ys ds fs v (.slice none 0 0) w') := fun w' hb => ⟨hb, fun _ => rfl, fun z => absurd z hv⟩
    rw [if_neg hv] at C1
    generalize askC ys ds v = r at *
    have z0 : (r != 0) = true := by simpa using hv
    clear h hv
    go_enter Tryz.func159, Tryz.ntmps159
    go_wp2_with fail
    refine (unhide C1).mono ?_
    rintro e w1 ⟨rfl, hb⟩
    clear C1
    go_wp2_with fail
    go_ret2
    exact ⟨_, _, _, rfl, unhide HE _ (unhide hb)⟩
end

section
open Go.RowKit Go.Maps
attribute [local go_sem] run_storeF run_fieldE0 run_fieldE1
/-- The vertices, with what is known of them. -/
def dsL (ys : List Int) (T : L14.Tr) : List DiV := ys.map (fun v => (v, !L14.fnd T v, L14.cst T v, L14.lst T v))
section
variable {L : Lab} {w : World} {p mv me : Nat} {s tc : Int} {V : Int → Option Nat} {nv : Nat} {E : L14.Es} {ne : Nat} {T : L14.Tr} {O I : Int → List Int} {vs : List Int} {N : Nat}
theorem ris_eq {ys : List Int} (h1 : Rising ltN ys) (h2 : ∀ k, k ∈ ys ↔ k ∈ vs) (hr : Rising ltN vs) : ys = vs := rising_ext linN h1 hr h2
theorem near_snocL {ys : List Int} {i : Nat} {v : Int} (h : ys[i]? = some v) : nearV (dsL (ys.take (i + 1)) T) = if L14.fnd T v = true then nearV (dsL (ys.take i) T) ++ [v] else nearV (dsL (ys.take i) T) := by
  unfold nearV dsL
  rw [List.take_add_one, h]
  cases hf : L14.fnd T v <;> simp [hf]
theorem near_lenL (ys : List Int) : (nearV (dsL ys T)).length ≤ ys.length := by
  unfold nearV dsL
  rw [List.length_map]
  have := List.length_filter_le (fun d : DiV => !d.2.1) (ys.map (fun v => (v, !L14.fnd T v, L14.cst T v, L14.lst T v)))
  rw [List.length_map] at this
  exact this
set_option maxHeartbeats 2000000 in
set_option maxRecDepth 100000 in
theorem vReachedLT (h : LvAt L w p mv me s tc V nv E ne T O I) (hG : GL V E O I vs N) (hr : Rising ltN vs) (hn : nv ≤ 1000) (hN : N ≤ 200) :
    Calls Tryz.prog 17 #[.pointer (some ⟨p, 0, none⟩)] w fun e w' => ∃ a n c, e = .returned (.slice a n c) ∧ Hid (RowAns w (nearV (dsL vs T)) (.slice a n c) w') := by
  have C1 := hide (vrisingT h hG (by omega))
  have HL : Hid (∀ W, Below w.heap.size w W → LvAt L W p mv me s tc V nv E ne T O I) := fun W hW => h.below hW
  have HG : Hid (GL V E O I vs N ∧ Rising ltN vs ∧ N ≤ 200) := ⟨hG, hr, hN⟩
  clear h hG hr hn hN
  go_enter Tryz.func17, Tryz.ntmps17
  go_wp2_with fail
  refine (unhide C1).mono ?_
  rintro e w1 ⟨a, n, c, rfl, H1⟩
  obtain ⟨ys, r1, r2, r3, r4⟩ := unhide H1
  have hys := ris_eq r2 r3 (unhide HG).2.1
  subst hys
  have hn : n = ys.length := by obtain ⟨_, _, e, -⟩ := brow_shape r1; injection e
  have HY : Hid (n = ys.length ∧ n ≤ 200 ∧ Below w.heap.size w w1 ∧ ∀ W, Below w1.heap.size w1 W → NRow W (.slice a n c) ys) := ⟨hn, by rw [hn]; have := (unhide HG).1.vl; have := (unhide HG).2.2; omega, r4, fun W hW => nrow_kept (brow_at0 r1) (fun b e => hW.block b (r1.lt b e).2)⟩
  clear C1 H1 r1 r2 r3 r4 hn
  go_wp2_with fail
  go_loopw [9, 3] (fun s9 s3 wr => ∃ (i : Nat) (y : Option Addr) (yn yc : Nat), s9 = .int .i64 i ∧ s3 = .slice y yn yc ∧ Hid (i ≤ n ∧ BRow w1.heap.size wr (.slice y yn yc) (nearV (dsL (ys.take i) T)) ∧ Below w1.heap.size w1 wr)) (fun s9 _ _ => n - (intOf s9).toNat)
  case atStart => exact ⟨0, none, 0, 0, rfl, rfl, Nat.zero_le _, ⟨rfl, .inl ⟨rfl, rfl⟩⟩, Below.refl _ _⟩
  case round =>
    obtain ⟨i, y, yn, yc, rfl, rfl, HI⟩ := hrel
    obtain ⟨i1, i2, i3⟩ := unhide HI
    obtain ⟨h1, h2, h3, h4⟩ := unhide HY
    by_cases hlt : i < n
    · obtain ⟨v, hv⟩ : ∃ v, ys[i]? = some v := ⟨_, List.getElem?_eq_getElem (by omega)⟩
      have hrow := h4 wr i3
      obtain ⟨g, rfl⟩ := brow_some hrow (by omega)
      have kk := brow_at hrow hv
      obtain ⟨b, ov, iv, r1, r2, -, r4, -, -⟩ := (unhide HL wr (h3.trans (i3.mono h3.size))).read (unhide HG).1 (List.mem_of_getElem? hv)
      obtain ⟨-, -, d2, -⟩ := cellsSp r4
      have d2' : wr.cell? ⟨b, 2, none⟩ = some (.bool (L14.fnd T v)) := d2
      obtain ⟨j, hj⟩ : ∃ j, j = i + 1 := ⟨_, rfl⟩
      have z1 : (i : Int) < (n : Int) := by omega
      have HJ : Hid (j = i + 1 ∧ j ≤ n ∧ n - j < n - i) := ⟨hj, by omega, by omega⟩
      have hsn := near_snocL (T := T) hv
      have hln := near_lenL (T := T) (ys.take i)
      rw [List.length_take] at hln
      rw [← hj] at hsn
      cases hf : L14.fnd T v with
      | false =>
        rw [hf, if_neg (by decide)] at hsn
        have HQ : Hid (BRow w1.heap.size wr (.slice y yn yc) (nearV (dsL (ys.take j) T)) ∧ Below w1.heap.size w1 wr) := ⟨by rw [hsn]; exact i2, i3⟩
        rw [hf] at d2'
        have zk : Hid (wrap64 ((i : Int) + 1) = (j : Int)) := by show wrap64 ((i : Int) + 1) = (j : Int); unfold wrap64; omega
        clear HI i1 i2 i3 h1 h2 h3 h4 hlt hv hrow r4 d2 hj hsn hln hf
        go_wp2_with fail
        (try rw [unhide zk])
        exact ⟨⟨j, _, _, _, rfl, rfl, (unhide HJ).2.1, unhide HQ⟩, by have := unhide HJ; simp [intOf]; omega⟩
      | true =>
        rw [hf, if_pos rfl] at hsn
        obtain ⟨a', n', c', w', r, g1, g2, -⟩ := run_app8 v i2 i3.size (by omega)
        have HR := hide r
        have HQ : Hid (BRow w1.heap.size w' (.slice a' n' c') (nearV (dsL (ys.take j) T)) ∧ Below w1.heap.size w1 w') := ⟨by rw [hsn]; exact g1, i3.trans (g2.below i3.size (fun b e => (i2.lt b e).1))⟩
        rw [hf] at d2'
        have zk : Hid (wrap64 ((i : Int) + 1) = (j : Int)) := by show wrap64 ((i : Int) + 1) = (j : Int); unfold wrap64; omega
        clear HI i1 i2 i3 h1 h2 h3 h4 hlt hv hrow r4 d2 hj hsn hln hf g1 g2 r
        go_wp2_with (at_builtin; refine Lib.wpList_append_run _ rfl _ _ 24 24 rfl _ _ rfl rfl _ _ (unhide HR _) ?_)
        (try rw [unhide zk])
        exact ⟨⟨j, _, _, _, rfl, rfl, (unhide HJ).2.1, unhide HQ⟩, by have := unhide HJ; simp [intOf]; omega⟩
    · have z1 : ¬ (i : Int) < (n : Int) := by omega
      have HE : Hid (RowAns w (nearV (dsL ys T)) (.slice y yn yc) wr) := by
        rw [List.take_of_length_le (by omega)] at i2
        exact ⟨brow_low i2 h3.size, h3.trans (i3.mono h3.size)⟩
      clear HI i1 i2 i3 h1 h2 h3 h4 hlt
      go_wp2_with fail
      go_ret
      exact ⟨_, _, _, rfl, HE⟩
end
end

end Go.Proofs.YtbmcibofecigeaaGreat

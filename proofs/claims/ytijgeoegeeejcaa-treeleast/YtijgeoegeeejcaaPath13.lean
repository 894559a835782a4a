/- Path, Dists. -/
import Derived.Test.YtijgeoegeeejcaaAsk13
import Derived.Deep.LoopGhost
namespace Go.Proofs.Ytijgeoegeeejcaa
open Go.RowKit Go.Maps
/-- The edges on the way back from a place, the last one first. -/
def Back (ds : List DiV) (fs : List Int) : Nat → List Int → Prop
  | q, [] => edgeAt ds q = 0
  | q, e :: l => e = edgeAt ds q ∧ e ≠ 0 ∧ ∃ p : Nat, fs[q]? = some (p : Int) ∧ Back ds fs p l
/-- One step back from a place that isn't the source. -/
theorem TreeAt.step {B : Nat} {W : World} {p : Nat} {s : Int} {ys : List Int} {es : List EdV} {ds : List DiV} {fs : List Int} (h : TreeAt B W p s ys es ds fs) :
    ∃ ord : List Nat, ord.length ≤ 1000 ∧ (∀ q, farAt ds q = false → q ∈ ord) ∧ ∀ q, farAt ds q = false → edgeAt ds q ≠ 0 → ∃ pp : Nat, fs[q]? = some (pp : Int) ∧ farAt ds pp = false ∧ ord.idxOf pp < ord.idxOf q := by
  obtain ⟨ord, hd⟩ := h.dj
  have hcov : ∀ q, farAt ds q = false → q ∈ ord := fun q hf => by
    rcases hd.cov q (by rw [← hd.dl]; exact far_lt hf) hf with z | ⟨x, hx, -⟩
    · exact z
    · cases hx
  refine ⟨ord, Nat.le_trans hd.ordl h.gk.len, hcov, fun q hf he => ?_⟩
  have hq : q < ys.length := by rw [← hd.dl]; exact far_lt hf
  obtain ⟨p2, hp2, y, hy, -, -, -, h4, h5⟩ := hd.hang q hq hf (fun z => he (by rw [z]; exact hd.src.2.2.2))
  exact ⟨p2, h4, (hd.oin p2 hp2).2.1, h5 (hcov q hf)⟩
def PathAns (w : World) (ds : List DiV) (fs : List Int) (q : Nat) (v : Value) (w' : World) : Prop := ∃ l, Back ds fs q l ∧ BRow w.heap.size w' v l.reverse ∧ Below w.heap.size w w' ∧ l.length ≤ 1001
/-- slices.Reverse. -/
theorem revN (B : Nat) (v : Value) (ks : List Int) (w : World) (hl : ks.length ≤ 1000000) (h : BRow B w v ks) :
    Calls Try.prog 39 #[v] w fun e w' => e = .returned (.tuple #[]) ∧ Hid (BRow B w' v ks.reverse ∧ Turned (fun b => v.ownBlock = some b) w w') := by
  have hb := h
  rcases h.2 with ⟨rfl, h0⟩ | ⟨g, cap, cur, rfl, hB, hg, hcap, hmx, hsz, htk⟩
  · obtain rfl : ks = [] := List.length_eq_zero_iff.1 h0
    refine (Any.slices_Reverse_int_empty Try.lays112 none 0 w).mono ?_
    rintro e w' ⟨rfl, rfl⟩
    exact ⟨rfl, hb, Turned.refl _ _⟩
  · refine (Any.slices_Reverse_int_cells Try.lays112 g 0 ks.length cap ks w (Nat.le_refl _) (by omega) (fun j hj => ?_) (fun j hj => ?_)).mono ?_
    · rw [Nat.zero_add, brow_at hb (List.getElem?_eq_getElem hj), List.getD_eq_getElem?_getD, List.getElem?_eq_getElem hj]; rfl
    · exact (brow_set hb 0 hj).1 _
    · rintro e w' ⟨rfl, q, rfl⟩
      rw [List.take_of_length_le (Nat.le_refl _)]
      have hlen : (ks.reverse.map (Value.int .i64)).length = ks.length := by simp
      have hs1 : cur.size = cap := by omega
      have hM := setM_list (ks.reverse.map (Value.int .i64)) 0 cur (by rw [hlen]; omega)
      refine ⟨rfl, ⟨by simp, .inr ⟨g, cap, setM cur 0 (ks.reverse.map (Value.int .i64)), by rw [List.length_reverse], hB, setCells_heap g _ 0 (w.drewN q) cur hg, by rw [List.length_reverse]; exact hcap, hmx, by rw [setM_size]; exact hsz, ?_⟩⟩, (Turned.refl _ _).drewN q |>.trans (setCells_turned (S := fun b => (Value.slice (some ⟨g, 0, none⟩) ks.length cap).ownBlock = some b) g (show _ = some g from rfl) _ 0 _)⟩
      rw [hM, List.take_zero, List.nil_append, List.length_reverse, Nat.mul_one, List.take_left' hlen]
def PathAns2 (w : World) (ys : List Int) (ds : List DiV) (fs : List Int) (v : Int) (x : Value) (w' : World) : Prop :=
  Below w.heap.size w w' ∧ (askC ys ds v ≠ 0 → x = .slice none 0 0) ∧ (askC ys ds v = 0 → PathAns w ds fs (plc ys v) x w')
set_option maxHeartbeats 2000000 in
set_option maxRecDepth 100000 in
theorem pathT {B : Nat} {W : World} {p : Nat} {s : Int} {ys : List Int} {es : List EdV} {ds : List DiV} {fs : List Int} (h : TreeAt B W p s ys es ds fs) (v : Int) :
    Calls Try.prog 21 #[.pointer (some ⟨p, 0, none⟩), .int .i64 v] W fun e w' => ∃ a n c, e = .returned (.tuple #[.slice a n c, .int .i64 (askC ys ds v)]) ∧ Hid (PathAns2 W ys ds fs v (.slice a n c) w') := by
  have C1 := hide (reachedT h v)
  unfold askP at C1
  by_cases hv : askC ys ds v = 0
  · have HV := hide hv
    rw [if_pos hv, hv] at C1
    rw [hv]
    obtain ⟨ord, ho1, ho2, ho3⟩ := h.step
    obtain ⟨gd, c, gf, c', hT⟩ := h.shape
    have hfar := (ask_ok.1 hv).2
    obtain ⟨q0, hq0⟩ : ∃ q0, q0 = plc ys v := ⟨_, rfl⟩
    obtain ⟨n, hn⟩ : ∃ n, n = ys.length := ⟨_, rfl⟩
    rw [← hq0] at C1 hfar
    rw [← hn] at hT
    have HQ := hide hq0
    have HO : Hid (ord.length ≤ 1000 ∧ (∀ q, farAt ds q = false → q ∈ ord) ∧ (∀ q, farAt ds q = false → edgeAt ds q ≠ 0 → ∃ pp : Nat, fs[q]? = some (pp : Int) ∧ farAt ds pp = false ∧ ord.idxOf pp < ord.idxOf q) ∧ farAt ds q0 = false) := ⟨ho1, ho2, ho3, hfar⟩
    have HT : Hid (TrAt B W p s (.slice (some ⟨gd, 0, none⟩) n c) (.slice (some ⟨gf, 0, none⟩) n c') ds fs ∧ ds.length = n ∧ n ≤ 1000) := ⟨hT, by rw [hn]; exact h.dl, by rw [hn]; exact h.gk.len⟩
    clear hv ho1 ho2 ho3 hT hfar hq0 hn h
    go_enter Try.func21, Try.ntmps21
    go_wp2_with fail
    refine (unhide C1).mono ?_
    rintro e w1 ⟨rfl, hb1⟩
    clear C1
    go_wp2_with fail
    go_loopg [6, 8] (ord.idxOf q0) (fun g s6 s8 wr => ∃ (q : Nat) (y : Option Addr) (yn yc g0 : Nat), s6 = .int .i64 q ∧ s8 = .slice y yn yc ∧ Hid (g0 = g ∧ g0 = ord.idxOf q ∧ Below W.heap.size W wr ∧ farAt ds q = false ∧ ∃ l, BRow W.heap.size wr (.slice y yn yc) l ∧ (∀ m, Back ds fs q m → Back ds fs q0 (l ++ m)) ∧ l.length + g0 ≤ 1000))
    case atStart =>
      have ho := unhide HO
      exact ⟨q0, none, 0, 0, _, rfl, rfl, rfl, rfl, unhide hb1, ho.2.2.2, [], ⟨rfl, .inl ⟨rfl, rfl⟩⟩, fun m hm => hm, by have := List.idxOf_lt_length_of_mem (ho.2.1 q0 ho.2.2.2); simp; omega⟩
    case round =>
      clear hb1
      obtain ⟨q, y, yn, yc, g0, rfl, rfl, HI⟩ := hrel
      obtain ⟨i1, i2, i3, i4, l, i5, i6, i7⟩ := unhide HI
      obtain ⟨hT, t1, t2⟩ := unhide HT
      obtain ⟨-, -, ho3, -⟩ := unhide HO
      have hTr := hT.below i3
      have hql := far_lt i4
      obtain ⟨d, hd⟩ : ∃ d, ds[q]? = some d := ⟨_, List.getElem?_eq_getElem hql⟩
      obtain ⟨-, -, -, k3⟩ := drow_at hTr.ds_ hd
      have he : edgeAt ds q = d.2.2.2 := by unfold edgeAt; rw [List.getD_eq_getElem?_getD, hd]; rfl
      rw [← he] at k3
      obtain ⟨-, b1, b2, -⟩ := cellsT hTr.box
      have z1 : (q : Int) < (n : Int) := by omega
      have HG := hide i1
      by_cases h0 : edgeAt ds q = 0
      · have hl6 := i6 [] h0
        rw [List.append_nil] at hl6
        have C2 := hide (revN W.heap.size _ l wr (by omega) i5)
        have HB : Hid (Back ds fs q0 l ∧ Below W.heap.size W wr ∧ (∀ b, (Value.slice y yn yc).ownBlock = some b → W.heap.size ≤ b) ∧ l.length ≤ 1001) := ⟨hl6, i3, fun b e => (i5.lt b e).1, by omega⟩
        rw [h0] at k3
        clear HI i1 i2 i3 i4 i5 i6 i7 hT t1 t2 ho3 hTr hql hd he h0 hl6
        go_wp2_with fail
        refine (unhide C2).mono ?_
        rintro e w2 ⟨rfl, H2⟩
        have HE : Hid (PathAns2 W ys ds fs v (.slice y yn yc) w2) := by
          obtain ⟨r1, r2⟩ := unhide H2
          obtain ⟨s1, s2, s3, s4⟩ := unhide HB
          have hbb := s2.trans (r2.below s2.size s3)
          exact ⟨hbb, fun z => absurd (unhide HV) z, fun _ => ⟨l, by rw [← unhide HQ]; exact s1, r1, hbb, s4⟩⟩
        clear C2 H2 HB k3 b1 b2 z1
        go_wp2_with fail
        go_ret2
        exact ⟨_, _, _, rfl, HE⟩
      · obtain ⟨pp, hp1, hp2, hp3⟩ := ho3 q i4 h0
        have kf := brow_at hTr.fs_ hp1
        obtain ⟨a', n', c2, w2, r, g1, g2, -⟩ := run_app8 (edgeAt ds q) i5 i3.size (by omega)
        have HR := hide r
        have hb2 : Below W.heap.size W w2 := i3.trans (g2.below i3.size (fun b e => (i5.lt b e).1))
        obtain ⟨-, -, b3, -⟩ := cellsT (hT.below hb2).box
        have kf2 := brow_at (hT.below hb2).fs_ hp1
        obtain ⟨g1', hg1'⟩ : ∃ g1', g1' = ord.idxOf pp := ⟨_, rfl⟩
        have HJ : Hid (g1' = ord.idxOf pp ∧ Below W.heap.size W w2 ∧ farAt ds pp = false ∧ g1' < g0 ∧ ∃ l, BRow W.heap.size w2 (.slice a' n' c2) l ∧ (∀ m, Back ds fs pp m → Back ds fs q0 (l ++ m)) ∧ l.length + g1' ≤ 1000) := by
          refine ⟨hg1', hb2, hp2, by omega, l ++ [edgeAt ds q], g1, fun m hm => ?_, by rw [List.length_append, List.length_singleton]; omega⟩
          rw [List.append_assoc]
          exact i6 _ ⟨rfl, h0, pp, hp1, hm⟩
        have z0 : (edgeAt ds q != 0) = true := by simpa using h0
        generalize edgeAt ds q = ee at *
        clear HI i1 i2 i3 i4 i5 i6 i7 hT t1 t2 ho3 hTr hql hd he h0 hp1 hp2 hp3 g1 g2 r hb2 hg1' kf
        go_wp2_with (at_builtin; refine Lib.wpList_append_run _ rfl _ _ 22 22 rfl _ _ rfl rfl _ _ (unhide HR _) ?_)
        go_roundg g1'
        case measure => have h1 := unhide HG; have h2 := (unhide HJ).2.2.2.1; omega
        case rel =>
          obtain ⟨j1, j2, j3, j4, j5⟩ := unhide HJ
          exact ⟨pp, a', n', c2, g1', rfl, rfl, rfl, j1, j2, j3, j5⟩
  · have HE : Hid (∀ w', Below W.heap.size W w' → PathAns2 W ys ds fs v (.slice none 0 0) w') := fun w' hb => ⟨hb, fun _ => rfl, fun z => absurd z hv⟩
    rw [if_neg hv] at C1
    generalize askC ys ds v = r at *
    have z0 : (r != 0) = true := by simpa using hv
    clear h hv
    go_enter Try.func21, Try.ntmps21
    go_wp2_with fail
    refine (unhide C1).mono ?_
    rintro e w1 ⟨rfl, hb⟩
    clear C1
    go_wp2_with fail
    go_ret2
    exact ⟨_, _, _, rfl, unhide HE _ (unhide hb)⟩
end Go.Proofs.Ytijgeoegeeejcaa

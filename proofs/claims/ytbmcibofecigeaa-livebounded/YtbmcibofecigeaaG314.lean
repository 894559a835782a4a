/- DropEdge, where there is none. -/
import Derived.Test.YtbmcibofecigeaaLvT14
import Derived.Test.YtbmcibofecigeaaRDW13
import Derived.Laws.ResultCell
namespace Go.Proofs.Ytbmcibofecigeaa

section
open Go.RowKit Go.Maps
section
variable {L : Lab} {w : World} {p : Nat} {s tc : Int} {vs : List Int} {gs : List EdV} {T : L14.Tr} {N : Nat}
theorem ltN_rise {ys : List Int} (h : ys.Pairwise (· < ·)) : Rising ltN ys := h.imp (fun h => by simpa [ltN] using h)
/-- What is asked of a vertex, and how it is told. -/
structure AskK (w : World) (p : Nat) (s : Int) (vs : List Int) (gs : List EdV) (T : L14.Tr) (v : Int) (c : Int) (d : Nat) (e : Int) : Prop where
  dist : ∀ W, Below w.heap.size w W → Calls Try.prog 14 #[.pointer (some ⟨p, 0, none⟩), .int .i64 v] W fun e w' => e = .returned (.tuple #[.int .u32 (d : Nat), .int .i64 c]) ∧ w' = W
  path : ∀ W, Below w.heap.size w W → Calls Try.prog 15 #[.pointer (some ⟨p, 0, none⟩), .int .i64 v] W fun e w' => ∃ a n k, e = .returned (.tuple #[.slice a n k, .int .i64 c]) ∧ Hid (Below W.heap.size W w' ∧ (c ≠ 0 → Value.slice a n k = .slice none 0 0) ∧ (c = 0 → ∃ ms : List EdV, BRow W.heap.size w' (.slice a n k) (ms.map (·.1)) ∧ Wlk gs s ms ∧ ms.length ≤ 1000 ∧ Ends s v ms ∧ costE ms = d))
  last : ∀ W, Below w.heap.size w W → Calls Try.prog 17 #[.pointer (some ⟨p, 0, none⟩), .int .i64 v] W fun r w' => r = .returned (.int .i64 e) ∧ w' = W
  none_ : v ∉ vs → c = 5 ∧ d = 0 ∧ e = 0
  far : v ∈ vs → L14.fnd T v = false → c = 130 ∧ d = 0 ∧ e = 0
  near : v ∈ vs → L14.fnd T v = true → c = 0 ∧ d = L14.cst T v ∧ e = L14.lst T v
  le_ : d ≤ 2139095040
theorem LvK.ask (h : LvK L w p s tc vs gs T N) (hN : N ≤ 200) {v : Int} (ov : okN v) : ∃ c d e, AskK w p s vs gs T v c d e := by
  obtain ⟨mv, me, V, nv, E, ne, O, I, h1, hG, hs, hR, hE, -, -⟩ := h
  have hm : v ∈ vs ↔ V v ≠ none := hG.mem v
  refine ⟨askL V T v, if askL V T v = 0 then L14.cst T v else 0, if askL V T v = 0 then L14.lst T v else 0, fun W hW => vdistT (h1.at_.below hW) ov (hR.le_ v), fun W hW => ?_, fun W hW => vlastT (h1.at_.below hW) ov, fun hv => ?_, fun hv hf => ?_, fun hv hf => ?_, ?_⟩
  · refine (vPathLT (h1.at_.below hW) hG hR hs hN ov).mono ?_
    rintro e w' ⟨a, n, k, rfl, H⟩
    obtain ⟨b1, b2, b3⟩ := unhide H
    refine ⟨a, n, k, rfl, b1, b2, fun hc => ?_⟩
    obtain ⟨l, l1, l2, l3⟩ := b3 hc
    obtain ⟨b, -, hf⟩ := askL_ok hc
    obtain ⟨ms, m1, m2, m3, m4, m5, -⟩ := chain_walk hR hE hf l1
    exact ⟨ms, by rw [m1]; exact l2, m2, by omega, m4, by rw [if_pos hc]; exact m5⟩
  · have e : askL V T v = 5 := by unfold askL; rw [if_pos (Decidable.byContradiction fun z => hv (hm.2 z))]
    rw [e]; exact ⟨rfl, rfl, rfl⟩
  · have e : askL V T v = 130 := by unfold askL; rw [if_neg (hm.1 hv), hf]; rfl
    rw [e]; exact ⟨rfl, rfl, rfl⟩
  · have e : askL V T v = 0 := by unfold askL; rw [if_neg (hm.1 hv), hf]; rfl
    rw [e]; exact ⟨rfl, rfl, rfl⟩
  · by_cases q : askL V T v = 0
    · rw [if_pos q]; exact hR.le_ v
    · rw [if_neg q]; omega
set_option maxHeartbeats 4000000 in
set_option maxRecDepth 100000 in
theorem asksT (h : LvK L w p s tc vs gs T N) (hN : N ≤ 200) (hg : gs.length ≤ 2000) (hr : vs.Pairwise (· < ·)) {vv ev : Value} {rd wr0 v : Int} (hV : NRow w vv vs) (hE : ERow 0 w ev gs) (ov : okN v) :
    Calls Try.prog 26 #[.pointer (some ⟨p, 0, none⟩), .agg #[vv, ev, .int .i64 rd, .int .i64 wr0], .int .i64 s, .int .i64 v] w fun e w' => e = .returned (.bool true) ∧ Hid (Below w.heap.size w w') := by
  have hL := h.lst hN hg hr
  obtain ⟨c, d, e, K⟩ := h.ask hN ov
  have hb := below_new w (oGr vv ev rd wr0)
  have hbx := heap_alloc_new w (oGr vv ev rd wr0)
  have hvl : vs.length ≤ 200 := by obtain ⟨mv, me, V, nv, E, ne, O, I, -, hG, -⟩ := h; have := hG.vl; omega
  have hgk : GOk gs := by obtain ⟨mv, me, V, nv, E, ne, O, I, -, -, -, -, hE', -⟩ := h; exact hE'.ok hg
  obtain ⟨va, vc, rfl, -⟩ := brow_shape hV
  obtain ⟨n, hn⟩ : ∃ n, n = vs.length := ⟨_, rfl⟩
  rw [← hn] at hV hb hbx ⊢
  obtain ⟨gb, hgb⟩ : ∃ gb, gb = w.heap.size := ⟨_, rfl⟩
  obtain ⟨W1, hW1⟩ : ∃ W1, W1 = w.alloc (oGr (.slice va n vc) ev rd wr0) := ⟨_, rfl⟩
  rw [← hW1] at hb hbx
  rw [← hgb] at hbx
  have hgl : gb < W1.heap.size := (Array.getElem?_eq_some_iff.1 hbx).1
  have HX : Hid (∀ W, Below W1.heap.size W1 W → (W.cell? ⟨gb, 0, none⟩ = some (.slice va n vc) ∧ W.cell? ⟨gb, 1, none⟩ = some ev ∧ W.cell? ⟨gb, 2, none⟩ = some (.int .i64 rd) ∧ W.cell? ⟨gb, 3, none⟩ = some (.int .i64 wr0)) ∧ NRow W (.slice va n vc) vs ∧ ERow 0 W ev gs ∧ Below w.heap.size w W) := fun W hW => by
    obtain ⟨c0, c1, c2, c3, -⟩ := cellsGr ((hW.block gb hgl).trans hbx)
    have hB := hb.trans (hW.mono hb.size)
    exact ⟨⟨c0, c1, c2, c3⟩, nrow_below hV hB, rrow_below hE hB, hB⟩
  have CD : Hid (∀ W, Below W1.heap.size W1 W → Calls Try.prog 10 #[.agg #[.slice va n vc, ev, .int .i64 rd, .int .i64 wr0], .int .i64 s] W fun e w' => Hid (RDAns W (refD n (farAt (dsL vs T)) (bitsAt (dsL vs T))) e w')) := fun W hW => by
    rw [hn]
    rw [hn] at HX
    exact distsR (unhide HX W hW).2.1 (unhide HX W hW).2.2.1 hL
  have CP : Hid (∀ W, Below W1.heap.size W1 W → Calls Try.prog 27 #[.agg #[.slice va n vc, ev, .int .i64 rd, .int .i64 wr0], .int .i64 v] W fun e w' => e = .returned (.int .i64 (placeOf vs v)) ∧ Hid (Below W.heap.size W w')) := fun W hW => by
    have := placeR (vv := .slice va n vc) (ev := ev) (rd := rd) (wr := wr0) (x := v) (unhide HX W hW).2.1 hr (by omega)
    exact this.mono fun e w' hh => ⟨hh.1, hh.2⟩
  have C1 := hide (K.dist W1 hb)
  obtain ⟨⟨c0, c1, c2, c3⟩, -⟩ := unhide HX W1 (Below.refl _ _)
  have HW1 := hide hW1
  have HGB := hide hgb
  have HK : Hid (AskK w p s vs gs T v c d e ∧ n = vs.length ∧ n ≤ 200 ∧ vs.Pairwise (· < ·) ∧ GOk gs ∧ Below w.heap.size w W1) := ⟨K, hn, by omega, hr, hgk, hb⟩
  clear h hN hg hr hV hE ov hL K hb hbx hvl hgk hn hgb hW1 hgl
  go_enter Try.func26, Try.ntmps26
  go_upto_region 1 with fail
  rw [show w.alloc (.cells #[.slice va n vc, ev, .int .i64 rd, .int .i64 wr0] 28 (0, 0)) = W1 from (unhide HW1).symm, ← unhide HGB]
  clear HW1 HGB
  go_wp2_with fail
  refine (unhide C1).mono ?_
  rintro r w2 ⟨rfl, hw⟩
  rw [hw]
  clear C1 hw w2
  have C2 := hide ((unhide HK).1.path W1 (unhide HK).2.2.2.2.2)
  go_wp2_with fail
  refine (unhide C2).mono ?_
  rintro r w2 ⟨pa, pn, pc, rfl, H2⟩
  have C3 := hide (unhide CP w2 (unhide H2).1)
  obtain ⟨⟨c0, c1, c2, c3⟩, -⟩ := unhide HX w2 (unhide H2).1
  clear C2
  go_wp2_with fail
  refine (unhide C3).mono ?_
  rintro r w3 ⟨rfl, H3⟩
  have HB3 : Hid (Below W1.heap.size W1 w3 ∧ Below w2.heap.size w2 w3) := ⟨(unhide H2).1.trans ((unhide H3).mono (unhide H2).1.size), unhide H3⟩
  obtain ⟨⟨c0, c1, c2, c3⟩, -⟩ := unhide HX w3 (unhide HB3).1
  clear C3 H3 CP
  by_cases hv : v ∈ vs
  · obtain ⟨i, hi⟩ : ∃ i, i = plc vs v := ⟨_, rfl⟩
    have hat := at_plc (unhide HK).2.2.2.1 hv
    rw [← hi] at hat
    have hp : placeOf vs v = (i : Int) := placeOf_some (unhide HK).2.2.2.1 hat
    rw [hp]
    have z0 : ¬ (i : Int) < 0 := by omega
    have hin : i < n := by rw [(unhide HK).2.1]; exact (List.getElem?_eq_some_iff.1 hat).1
    have z1 : (i : Int) < (n : Int) := by omega
    have z2 : (0 : Int) ≤ (i : Int) := by omega
    have C4 := hide (unhide CD w3 (unhide HB3).1)
    obtain ⟨a1, a2, -⟩ := dsL_at (T := T) hat
    have HI : Hid (i < n ∧ (refD n (farAt (dsL vs T)) (bitsAt (dsL vs T)))[i]? = some (if L14.fnd T v = true then L14.cst T v else 4294967295)) := by
      refine ⟨hin, ?_⟩
      unfold refD
      rw [List.getElem?_map, List.getElem?_range hin]
      show some (if farAt (dsL vs T) i = true then 4294967295 else bitsAt (dsL vs T) i) = _
      rw [a1, a2]
      cases L14.fnd T v <;> rfl
    clear CD hi hat hp a1 a2 hin
    cases hf : L14.fnd T v with
    | false =>
      obtain ⟨rfl, rfl, rfl⟩ := (unhide HK).1.far hv hf
      have hpn : Value.slice pa pn pc = .slice none 0 0 := (unhide H2).2.1 (by decide)
      injection hpn with e1 e2 e3
      subst e1 e2 e3
      rw [hf, if_neg (by decide)] at HI
      clear hv hf H2
      go_wp2_with fail
      refine (unhide C4).mono ?_
      intro r w4 H4
      obtain ⟨gD, nD, rfl, d1, d2, d3⟩ := unhide H4
      obtain rfl : nD = n := by rw [d1]; unfold refD; simp
      have k4 := urow_at d2 (unhide HI).2
      have k4' : w4.cell? ⟨gD, i, none⟩ = some (.int .u32 4294967295) := k4
      have HB4 : Hid (Below W1.heap.size W1 w4) := (unhide HB3).1.trans (d3.mono (unhide HB3).1.size)
      have C5 := hide ((unhide HK).1.last w4 ((unhide HK).2.2.2.2.2.trans ((unhide HB4).mono (unhide HK).2.2.2.2.2.size)))
      clear C4 H4 d1 d2 d3 k4
      go_wp2_with fail
      refine (unhide C5).mono ?_
      rintro r w5 ⟨rfl, hw5⟩
      rw [hw5]
      clear C5 hw5 w5
      go_wp2_with fail
      go_ret
      exact ⟨rfl, (unhide HX w4 (unhide HB4)).2.2.2⟩
    | true =>
      obtain ⟨rfl, hd, -⟩ := (unhide HK).1.near hv hf
      rw [hf, if_pos rfl, ← hd] at HI
      have zb : (((d : Nat) : Int) == 4294967295) = false := by
        have := (unhide HK).1.le_
        simpa using (by omega : ¬ (d : Int) = 4294967295)
      clear hv hf hd
      go_wp2_with fail
      refine (unhide C4).mono ?_
      intro r w4 H4
      obtain ⟨gD, nD, rfl, d1, d2, d3⟩ := unhide H4
      obtain rfl : nD = n := by rw [d1]; unfold refD; simp
      have k4 := urow_at d2 (unhide HI).2
      have HB4 : Hid (Below W1.heap.size W1 w4 ∧ Below w2.heap.size w2 w4) := ⟨(unhide HB3).1.trans (d3.mono (unhide HB3).1.size), (unhide HB3).2.trans (d3.mono (unhide HB3).2.size)⟩
      obtain ⟨⟨c0, c1, c2, c3⟩, hV4, hE4, hB4⟩ := unhide HX w4 (unhide HB4).1
      have C5 : Hid (Calls Try.prog 43 #[.agg #[.slice va nD vc, ev, .int .i64 rd, .int .i64 wr0], .int .i64 s, .int .i64 v, .slice pa pn pc, .int .u32 (d : Nat)] w4 fun e w' => e = .returned (.bool true) ∧ Hid (Below w4.heap.size w4 w')) := by
        obtain ⟨ms, m1, m2, m3, m4, m5⟩ := (unhide H2).2.2 (by trivial)
        exact cheapestR hE4 (unhide HK).2.2.2.2.1 (nrow_below (brow_at0 m1) (unhide HB4).2) m2 (by omega) m4 m5.symm
      clear C4 H4 d1 d2 d3 hV4 hE4 hB4
      go_wp2_with fail
      refine (unhide C5).mono ?_
      rintro r w5 ⟨rfl, H5⟩
      have HE : Hid (Below w.heap.size w w5) := (unhide HX w5 ((unhide HB4).1.trans ((unhide H5).mono (unhide HB4).1.size))).2.2.2
      clear C5 H5
      go_wp2_with fail
      go_ret
      exact ⟨rfl, unhide HE⟩
  · obtain ⟨rfl, rfl, rfl⟩ := (unhide HK).1.none_ hv
    have hpn : Value.slice pa pn pc = .slice none 0 0 := (unhide H2).2.1 (by decide)
    injection hpn with e1 e2 e3
    subst e1 e2 e3
    have hp : placeOf vs v = -1 := by unfold placeOf; rw [if_neg hv]
    rw [hp]
    have HE : Hid (Below w.heap.size w w3) := (unhide HX w3 (unhide HB3).1).2.2.2
    clear hv hp H2 HB3 CD
    go_wp2_with fail
    go_ret
    exact ⟨rfl, unhide HE⟩
end
end

section
open Go.RowKit Go.Maps
abbrev EdgeV := EdV
/-- An edge's four cells, as a value. -/
theorem load34 (w : World) (g : Nat) (a b c d : Value) (h : w.heap[g]? = some (.cells #[a, b, c, d] 42 (0, 0))) : (loadVar 42 ⟨g, 0, none⟩).run Try.prog w = .ok (.agg #[a, b, c, d]) w :=
  run_loadVar_mid (P := Try.prog) w g 0 42 [a, b, c, d] _ (fun j v hj => by
    match j with
    | 0 => simp at hj; subst hj; exact (cell_of_row _ _ 0 _ 42 (0, 0) h).trans rfl
    | 1 => simp at hj; subst hj; exact (cell_of_row _ _ 1 _ 42 (0, 0) h).trans rfl
    | 2 => simp at hj; subst hj; exact (cell_of_row _ _ 2 _ 42 (0, 0) h).trans rfl
    | 3 => simp at hj; subst hj; exact (cell_of_row _ _ 3 _ 42 (0, 0) h).trans rfl
    | j + 4 => simp at hj) Try.underlying42 rfl (by kernel_rfl)
def encG (gs : List EdgeV) : List Value := gs.flatMap fun a => [.int .i64 a.1, .int .i64 a.2.1, .int .i64 a.2.2.1, .int .u32 a.2.2.2]
theorem encG_snoc (gs : List EdgeV) (a : EdgeV) : encG (gs ++ [a]) = encG gs ++ [.int .i64 a.1, .int .i64 a.2.1, .int .i64 a.2.2.1, .int .u32 a.2.2.2] := by simp [encG]
theorem info42 : (Try.prog.info? 42).map (fun i => (i.zero, i.size, i.bytes)) = some (some (.agg #[.int .i64 0, .int .i64 0, .int .i64 0, .int .u32 0]), 4, 32) := by kernel_rfl
/-- A list of records, from B on. -/
abbrev GRow (B : Nat) (w : World) (v : Value) (gs : List EdgeV) : Prop := w.ownsRow B 42 4 v gs.length (encG gs)
theorem grow_kept {B : Nat} {w w' : World} {v : Value} {gs : List EdgeV} (h : GRow B w v gs) (hk : ∀ b, v.ownBlock = some b → w'.heap[b]? = w.heap[b]?) : GRow B w' v gs := by
  refine ⟨h.1, ?_⟩
  rcases h.2 with hn | ⟨g, cap, cur, e, hb, hgg, rest⟩
  · exact .inl hn
  · exact .inr ⟨g, cap, cur, e, hb, (hk g (by rw [e]; rfl)).trans hgg, rest⟩
theorem grow_shape {B : Nat} {w : World} {v : Value} {gs : List EdgeV} (h : GRow B w v gs) : ∃ a n c, v = .slice a n c := by
  rcases h.2 with ⟨e, h0⟩ | ⟨g', cap, cur, e, -⟩
  · exact ⟨_, _, _, e⟩
  · exact ⟨_, _, _, e⟩
/-- A graph of the reference, in a box. -/
def oG (vv ev : Value) (rd wr : Int) : Obj := .cells #[vv, ev, .int .i64 rd, .int .i64 wr] 28 (0, 0)
theorem cellsG {w : World} {b : Nat} {vv ev : Value} {rd wr : Int} (h : w.heap[b]? = some (oG vv ev rd wr)) : w.cell? ⟨b, 0, none⟩ = some vv ∧ w.cell? ⟨b, 1, none⟩ = some ev ∧ w.cell? ⟨b, 2, none⟩ = some (.int .i64 rd) ∧ w.cell? ⟨b, 3, none⟩ = some (.int .i64 wr) ∧ ∀ o, w.frozen? ⟨b, o, none⟩ = false :=
  ⟨(cell_of_row _ _ 0 _ _ (0, 0) h).trans rfl, (cell_of_row _ _ 1 _ _ (0, 0) h).trans rfl, (cell_of_row _ _ 2 _ _ (0, 0) h).trans rfl, (cell_of_row _ _ 3 _ _ (0, 0) h).trans rfl, fun o => frozen_of_row _ _ o _ _ h⟩
theorem grow_below {B : Nat} {w w' : World} {v : Value} {gs : List EdgeV} (h : GRow B w v gs) (hb : Below w.heap.size w w') : GRow B w' v gs := grow_kept h (fun b e => hb.block b (h.lt b e).2)
/-- Where there are records: their cells. -/
theorem grow_at {B : Nat} {w : World} {v : Value} {gs : List EdgeV} (h : GRow B w v gs) (h0 : 0 < gs.length) : ∃ g c, v = .slice (some ⟨g, 0, none⟩) gs.length c ∧ ∀ (i : Nat) (a : EdgeV), gs[i]? = some a → w.cell? ⟨g, i * 4, none⟩ = some (.int .i64 a.1) ∧ w.cell? ⟨g, i * 4 + 1, none⟩ = some (.int .i64 a.2.1) ∧ w.cell? ⟨g, i * 4 + 2, none⟩ = some (.int .i64 a.2.2.1) ∧ w.cell? ⟨g, i * 4 + 3, none⟩ = some (.int .u32 a.2.2.2) := by
  have henc : ∀ (gs : List EdgeV) (i : Nat) (a : EdgeV), gs[i]? = some a → (encG gs)[i * 4]? = some (.int .i64 a.1) ∧ (encG gs)[i * 4 + 1]? = some (.int .i64 a.2.1) ∧ (encG gs)[i * 4 + 2]? = some (.int .i64 a.2.2.1) ∧ (encG gs)[i * 4 + 3]? = some (.int .u32 a.2.2.2) := by
    intro gs
    induction gs with
    | nil => intro i a h; simp at h
    | cons r rs ih =>
      intro i a h
      cases i with
      | zero => simp at h; subst h; simp [encG]
      | succ i =>
        have := ih i a (by simpa using h)
        have e : encG (r :: rs) = .int .i64 r.1 :: .int .i64 r.2.1 :: .int .i64 r.2.2.1 :: .int .u32 r.2.2.2 :: encG rs := by simp [encG]
        rw [e, show (i + 1) * 4 = i * 4 + 1 + 1 + 1 + 1 by omega, show i * 4 + 1 + 1 + 1 + 1 + 1 = (i * 4 + 1) + 1 + 1 + 1 + 1 by omega, show i * 4 + 1 + 1 + 1 + 1 + 2 = (i * 4 + 2) + 1 + 1 + 1 + 1 by omega, show i * 4 + 1 + 1 + 1 + 1 + 3 = (i * 4 + 3) + 1 + 1 + 1 + 1 by omega]
        simpa only [List.getElem?_cons_succ] using this
  rcases h.2 with ⟨-, h1⟩ | ⟨g, cap, cur, rfl, -⟩
  · omega
  · refine ⟨g, cap, rfl, fun i a hi => ?_⟩
    obtain ⟨e1, e2, e3, e4⟩ := henc gs i a hi
    have add : ∀ j, (⟨g, 0, none⟩ : Addr).add j = ⟨g, j, none⟩ := fun j => by unfold Addr.add; split <;> simp_all
    have f1 := h.cells (g := g) rfl _ _ e1
    have f2 := h.cells (g := g) rfl _ _ e2
    have f3 := h.cells (g := g) rfl _ _ e3
    have f4 := h.cells (g := g) rfl _ _ e4
    rw [add] at f1 f2 f3 f4
    exact ⟨f1, f2, f3, f4⟩
/-- The place of the edge e; -1: there is none. -/
def AtIs (es : List EdgeV) (e r : Int) : Prop := (∃ (i : Nat) (a : EdgeV), r = (i : Int) ∧ es[i]? = some a ∧ a.1 = e ∧ ∀ (j : Nat) (b : EdgeV), j < i → es[j]? = some b → b.1 ≠ e) ∨ (r = -1 ∧ ∀ (j : Nat) (b : EdgeV), es[j]? = some b → b.1 ≠ e)
set_option maxHeartbeats 1000000 in
set_option maxRecDepth 100000 in
theorem refAt {w : World} {vv ev : Value} {rd wr : Int} {es : List EdgeV} {B : Nat} (v : Int) (h : GRow B w ev es) (hl : es.length ≤ 1000000) :
    Calls Try.prog 11 #[.agg #[vv, ev, .int .i64 rd, .int .i64 wr], .int .i64 v] w fun e w' => ∃ r, e = .returned (.int .i64 r) ∧ Hid (AtIs es v r ∧ Below w.heap.size w w') := by
  have hb := below_new w (oG vv ev rd wr)
  have h1 := grow_below h hb
  obtain ⟨-, c1, -, -, -⟩ := cellsG (heap_alloc_new w (oG vv ev rd wr))
  have HB := hide hb
  have HC : Hid (∀ i, i < es.length → ∃ g c a, es[i]? = some a ∧ ev = .slice (some ⟨g, 0, none⟩) es.length c ∧ (w.alloc (oG vv ev rd wr)).cell? ⟨g, i * 4, none⟩ = some (.int .i64 a.1)) := fun i hi => by
    obtain ⟨g, c, e, hc⟩ := grow_at h1 (by omega)
    exact ⟨g, c, _, List.getElem?_eq_getElem hi, e, (hc i _ (List.getElem?_eq_getElem hi)).1⟩
  obtain ⟨a, n, c, hvv⟩ := grow_shape h1
  have hn : n = es.length := by
    rcases h1.2 with ⟨e, h0⟩ | ⟨g, cap, cur, e, -⟩
    · rw [hvv] at e; cases e; exact h0.symm
    · rw [hvv] at e; cases e; rfl
  have HL := hide hn
  rw [← hn] at HC hl
  have HLB : Hid (n ≤ 1000000) := hl
  clear h h1 hb hl hn
  subst hvv
  go_enter Try.func11, Try.ntmps11
  go_upto_region 1 with fail
  change Code.wp _ _ _ _ (w.alloc (oG vv (.slice a n c) rd wr))
  generalize w.alloc (oG vv (.slice a n c) rd wr) = wb at *
  generalize hbb : w.heap.size = bb at *
  go_wp2_with fail
  go_loopw [5] (fun s5 wr => ∃ i : Nat, s5 = .int .i64 i ∧ i ≤ n ∧ Hid (∀ (j : Nat) (b : EdgeV), j < i → es[j]? = some b → b.1 ≠ v) ∧ wr = wb) (fun s5 _ => n - (intOf s5).toNat)
  case atStart => exact ⟨0, rfl, by omega, fun j b hj => absurd hj (Nat.not_lt_zero _), rfl⟩
  case round =>
    obtain ⟨i, rfl, hi, hno, rfl⟩ := hrel
    by_cases h : i < n
    · obtain ⟨g, c', x, hx, e, hc⟩ := unhide HC i h
      injection e with e1 e2 e3
      subst e1 e3
      have hz : (i : Int) < (n : Int) := by omega
      obtain ⟨y, hy⟩ : ∃ y, y = x.1 := ⟨_, rfl⟩
      rw [← hy] at hc
      by_cases hxv : y = v
      · have HF : Hid (AtIs es v i) := .inl ⟨i, x, rfl, hx, hy.symm.trans hxv, unhide hno⟩
        clear hx hy
        subst hxv
        go_wp2_with fail
        go_ret
        exact ⟨_, rfl, unhide HF, by first | exact unhide HB | (rw [hbb]; exact unhide HB)⟩
      · have HN : Hid (∀ (j : Nat) (b : EdgeV), j < i + 1 → es[j]? = some b → b.1 ≠ v) := fun j b hj hjb => by
          rcases Nat.lt_or_ge j i with h' | h'
          · exact unhide hno j b h' hjb
          · obtain rfl : j = i := by omega
            rw [hx] at hjb
            cases hjb
            rw [← hy]; exact hxv
        clear hx hy
        go_wp2_with fail
        have hwi : wrap64 ((i : Int) + 1) = ((i + 1 : Nat) : Int) := by have := unhide HLB; unfold wrap64; omega
        (try rw [hwi])
        exact ⟨⟨i + 1, rfl, by omega, HN, by trivial⟩, by simp [intOf]; omega⟩
    · have hz : ¬ (i : Int) < (n : Int) := by omega
      have HF : Hid (AtIs es v (-1)) := .inr ⟨rfl, fun j b hjb => unhide hno j b (by have := (List.getElem?_eq_some_iff.1 hjb).1; have := unhide HL; omega) hjb⟩
      go_wp2_with fail
      go_ret
      exact ⟨_, rfl, unhide HF, by first | exact unhide HB | (rw [hbb]; exact unhide HB)⟩
end

section
open Go.RowKit Go.Maps
theorem loadG (w : World) (g : Nat) (a b c d : Value) (h : w.heap[g]? = some (.cells #[a, b, c, d] 28 (0, 0))) : (loadVar 28 ⟨g, 0, none⟩).run Try.prog w = .ok (.agg #[a, b, c, d]) w :=
  run_loadVar_mid (P := Try.prog) w g 0 28 [a, b, c, d] _ (fun j v hj => by
    match j with
    | 0 => simp at hj; subst hj; exact (cell_of_row _ _ 0 _ 28 (0, 0) h).trans rfl
    | 1 => simp at hj; subst hj; exact (cell_of_row _ _ 1 _ 28 (0, 0) h).trans rfl
    | 2 => simp at hj; subst hj; exact (cell_of_row _ _ 2 _ 28 (0, 0) h).trans rfl
    | 3 => simp at hj; subst hj; exact (cell_of_row _ _ 3 _ 28 (0, 0) h).trans rfl
    | j + 4 => simp at hj) Try.underlying28 rfl (by kernel_rfl)
theorem resG {fn : Func} {p u : Tmp} (h : fn.results = #[.cell p 28, .tmp u]) (tmps : Array Value) (w : World) (g : Nat) (a b c d : Value) (hp : tmps.getD p undef = .pointer (some ⟨g, 0, none⟩)) (hg : w.heap[g]? = some (.cells #[a, b, c, d] 28 (0, 0))) :
    (results fn tmps).run Try.prog w = .ok (.tuple #[.agg #[a, b, c, d], tmps.getD u undef]) w := by
  rw [results_cell_tmp h, hp]
  simp only [asAddr, Sem.run_pure, Result.andThen_ok, loadG w g a b c d hg]
theorem set4G_at {w : World} {g : Nat} {x0 x1 x2 x3 : Value} (h : w.heap[g]? = some (.cells #[x0, x1, x2, x3] 28 (0, 0))) (a b c d : Value) : (set4 w g a b c d).heap[g]? = some (.cells #[a, b, c, d] 28 (0, 0)) := by
  have e0 : (w.setCell ⟨g, 0, none⟩ a).heap[g]? = some (.cells #[a, x1, x2, x3] 28 (0, 0)) := by rw [heap_setCell_same _ _ _ _ _ _ h]; rfl
  have e1 : ((w.setCell ⟨g, 0, none⟩ a).setCell ⟨g, 1, none⟩ b).heap[g]? = some (.cells #[a, b, x2, x3] 28 (0, 0)) := by rw [heap_setCell_same _ _ _ _ _ _ e0]; rfl
  have e2 : (((w.setCell ⟨g, 0, none⟩ a).setCell ⟨g, 1, none⟩ b).setCell ⟨g, 2, none⟩ c).heap[g]? = some (.cells #[a, b, c, x3] 28 (0, 0)) := by rw [heap_setCell_same _ _ _ _ _ _ e1]; rfl
  unfold set4
  rw [heap_setCell_same _ _ _ _ _ _ e2]; rfl
/-- A graph's box and the box of the result. -/
def oZ : Obj := .cells #[.slice none 0 0, .slice none 0 0, .int .i64 0, .int .i64 0] 28 (0, 0)
theorem two_boxes (w : World) (o : Obj) : ((w.alloc o).alloc oZ).heap[w.heap.size]? = some o ∧ ((w.alloc o).alloc oZ).heap[w.heap.size + 1]? = some oZ ∧ Below w.heap.size w ((w.alloc o).alloc oZ) ∧ ((w.alloc o).alloc oZ).heap.size = w.heap.size + 2 := by
  have h1 : (w.alloc o).heap.size = w.heap.size + 1 := by simp
  refine ⟨(heap_alloc_old _ _ (by omega)).trans (heap_alloc_new _ _), ?_, (below_new w o).trans ((below_new _ _).mono (by omega)), by simp⟩
  have := heap_alloc_new (w.alloc o) oZ
  rwa [h1] at this
/-- The block of a list is the former one's or new. -/
def Apt (w : World) (v v' : Value) : Prop := ∀ b, v'.ownBlock = some b → v.ownBlock = some b ∨ w.heap.size ≤ b
theorem Apt.refl (w : World) (v : Value) : Apt w v v := fun _ h => .inl h
theorem Apt.new {w : World} {v v' : Value} {B : Nat} (h : ∀ b, v'.ownBlock = some b → B ≤ b) (hB : w.heap.size ≤ B) : Apt w v v' := fun b hb => .inr (Nat.le_trans hB (h b hb))
/-- What a call of the reference answers: a graph and a code. -/
def AnsG (w : World) (vv0 ev0 : Value) (vs : List Int) (es : List EdgeV) (rd wr code : Int) (e : Ending) (w' : World) : Prop :=
  ∃ vv ev, e = .returned (.tuple #[.agg #[vv, ev, .int .i64 rd, .int .i64 wr], .int .i64 code]) ∧ NRow w' vv vs ∧ GRow 0 w' ev es ∧ Below w.heap.size w w' ∧ Apt w vv0 vv ∧ Apt w ev0 ev
theorem results_cell_cell_tmp {fn : Func} {p q u : Tmp} {ty ty2 : TypeId} (h : fn.results = #[.cell p ty, .cell q ty2, .tmp u]) (tmps : Array Value) (P : Program) (w : World) (x y : Addr) (vx vy : Value) (hp : tmps.getD p undef = .pointer (some x)) (hq : tmps.getD q undef = .pointer (some y)) (hx : (loadVar ty x).run P w = .ok vx w) (hy : (loadVar ty2 y).run P w = .ok vy w) :
    (results fn tmps).run P w = .ok (.tuple #[vx, vy, tmps.getD u undef]) w := by
  have hp' : tmps[p]?.getD undef = .pointer (some x) := by simpa using hp
  have hq' : tmps[q]?.getD undef = .pointer (some y) := by simpa using hq
  simp [results, h, hp', hq', asAddr, hx, hy]
theorem drewAt {w : World} {b : Nat} {o : Obj} (h : w.heap[b]? = some o) : w.drew.heap[b]? = some o := h
/-- A graph's box, the box of the result, and that of a record. -/
theorem three_boxes (w : World) (o : Obj) : (((w.alloc o).alloc oZ).alloc o34).heap[w.heap.size]? = some o ∧ (((w.alloc o).alloc oZ).alloc o34).heap[w.heap.size + 1]? = some oZ ∧ (((w.alloc o).alloc oZ).alloc o34).heap[w.heap.size + 2]? = some o34 ∧ Below w.heap.size w (((w.alloc o).alloc oZ).alloc o34) ∧ (((w.alloc o).alloc oZ).alloc o34).heap.size = w.heap.size + 3 := by
  obtain ⟨h1, h2, h3, h4⟩ := two_boxes w o
  refine ⟨(heap_alloc_old _ _ (by omega)).trans h1, (heap_alloc_old _ _ (by omega)).trans h2, ?_, h3.trans ((below_new _ _).mono (by omega)), by simp⟩
  have := heap_alloc_new ((w.alloc o).alloc oZ) o34
  rwa [h4] at this
/-- What a call of the reference answers: a graph, a record, a code. -/
def AnsGE (w : World) (vv0 ev0 : Value) (vs : List Int) (es : List EdgeV) (rd wr : Int) (x : EdgeV) (code : Int) (e : Ending) (w' : World) : Prop :=
  ∃ vv ev, e = .returned (.tuple #[.agg #[vv, ev, .int .i64 rd, .int .i64 wr], .agg #[.int .i64 x.1, .int .i64 x.2.1, .int .i64 x.2.2.1, .int .u32 x.2.2.2], .int .i64 code]) ∧ NRow w' vv vs ∧ GRow 0 w' ev es ∧ Below w.heap.size w w' ∧ Apt w vv0 vv ∧ Apt w ev0 ev
/-- There is an edge of this number. -/
def HasNo (es : List EdgeV) (e : Int) : Prop := ∃ (i : Nat) (a : EdgeV), es[i]? = some a ∧ a.1 = e
set_option maxHeartbeats 2000000 in
set_option maxRecDepth 100000 in
theorem refDropENo {w : World} {vv ev : Value} {rd wr_0 : Int} {vs : List Int} {es : List EdgeV} (v : Int) (h : NRow w vv vs) (hE : GRow 0 w ev es) (hl : es.length ≤ 1000000) (hno : ¬ HasNo es v) :
    Calls Try.prog 22 #[.agg #[vv, ev, .int .i64 rd, .int .i64 wr_0], .int .i64 v] w fun e w' => Hid (AnsGE w vv ev vs es rd wr_0 (0, 0, 0, 0) 6 e w') := by
  obtain ⟨t1, t2, t3, t4, t5⟩ := three_boxes w (oG vv ev rd wr_0)
  obtain ⟨c0, c1, c2, c3, cf⟩ := cellsG t1
  have HF : Hid (∀ W, Below w.heap.size w W → NRow W vv vs ∧ GRow 0 W ev es) := fun W hW => ⟨nrow_below h hW, grow_below hE hW⟩
  have CH : Hid (Calls Try.prog 11 #[.agg #[vv, ev, .int .i64 rd, .int .i64 wr_0], .int .i64 v] (((w.alloc (oG vv ev rd wr_0)).alloc oZ).alloc o34) fun e w2 => e = .returned (.int .i64 (-1)) ∧ Hid (w2.heap[w.heap.size + 1]? = some oZ ∧ w2.heap[w.heap.size + 2]? = some o34 ∧ w2.heap[w.heap.size]? = some (oG vv ev rd wr_0) ∧ Below w.heap.size w w2)) := by
    refine (refAt v (grow_below hE t4) hl).mono ?_
    rintro e w2 ⟨r, rfl, g⟩
    obtain ⟨g1, g2⟩ := unhide g
    have hr : r = -1 := by
      rcases g1 with ⟨i, a, rfl, k1, k2, -⟩ | ⟨e, -⟩
      · exact absurd ⟨i, a, k1, k2⟩ hno
      · exact e
    subst hr
    have gs := g2.size
    exact ⟨rfl, (g2.block _ (by omega)).trans t2, (g2.block _ (by omega)).trans t3, (g2.block _ (by omega)).trans t1, t4.trans (g2.mono (by omega))⟩
  obtain ⟨va, vc, hvv, -⟩ := brow_shape h
  obtain ⟨vn, hvv'⟩ : ∃ vn, vv = .slice va vn vc := ⟨_, hvv⟩
  obtain ⟨ea, en, ec, hev⟩ := grow_shape hE
  clear t1 t2 t3 t4 t5 h hE hvv hl hno
  subst hvv' hev
  go_enter Try.func22, Try.ntmps22
  go_upto_region 1 with fail
  change Code.wp _ _ _ _ (((w.alloc (oG (.slice va vn vc) (.slice ea en ec) rd wr_0)).alloc oZ).alloc o34)
  generalize ((w.alloc (oG (.slice va vn vc) (.slice ea en ec) rd wr_0)).alloc oZ).alloc o34 = wb at *
  have hne1 : ¬ w.heap.size = w.heap.size + 1 := by omega
  generalize hb2 : w.heap.size + 2 = b2 at *
  generalize hb1 : w.heap.size + 1 = b1 at *
  generalize hbb : w.heap.size = bb at *
  go_wp2_with fail
  refine (unhide CH).mono ?_
  rintro e w2 ⟨rfl, h2⟩
  obtain ⟨k1, k2, k3, k4⟩ := unhide h2
  clear c0 c1 c2 c3 cf CH h2
  obtain ⟨c0, c1, c2, c3, cf⟩ := cellsG k3
  obtain ⟨d0, d1, d2, d3, df⟩ := cellsG (vv := .slice none 0 0) (ev := .slice none 0 0) (rd := 0) (wr := 0) k1
  obtain ⟨x0, x1, x2, x3, xf⟩ := cells34 k2
  have HT1 := hide k1
  have HT2 := hide k2
  have HB := hide k4
  have n1 : ¬ bb = b1 := by omega
  have n2 : ¬ b1 = bb := by omega
  have n3 : ¬ bb = b2 := by omega
  have n4 : ¬ b2 = bb := by omega
  have n5 : ¬ b1 = b2 := by omega
  have n6 : ¬ b2 = b1 := by omega
  clear k1 k2 k3 k4
  go_wp2_with fail
  (try simp only [Exit.inBlock, Exit.then])
  change bodyPost _ _ _ _ _ (set4 (set4 w2 b1 _ _ _ _) b2 _ _ _ _)
  refine bodyPost_ret (results_cell_cell_tmp rfl _ _ _ ⟨b1, 0, none⟩ ⟨b2, 0, none⟩ _ _ rfl rfl (loadG _ _ _ _ _ _ ((set4_other n5 _ _ _ _).trans (set4G_at (unhide HT1) _ _ _ _))) (load34 _ _ _ _ _ _ (set4_at ((set4_other n6 _ _ _ _).trans (unhide HT2)) _ _ _ _))) rfl ?_
  have hB := set4_below (set4_below (unhide HB) (by omega : bb ≤ b1) (.slice va vn vc) (.slice ea en ec) (.int .i64 rd) (.int .i64 wr_0)) (by omega : bb ≤ b2) (.int .i64 0) (.int .i64 0) (.int .i64 0) (.int .u32 0)
  exact ⟨_, _, rfl, (unhide HF _ hB).1, (unhide HF _ hB).2, by first | exact hB | (rw [hbb]; exact hB), Apt.refl _ _, Apt.refl _ _⟩
end

end Go.Proofs.Ytbmcibofecigeaa

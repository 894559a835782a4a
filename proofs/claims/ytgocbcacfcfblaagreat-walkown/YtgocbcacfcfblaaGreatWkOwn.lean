/- Lists beside the graph that are written into and grow; regauged; Tells. -/
import Derived.Test.YtgocbcacfcfblaaGreatWkGame2
import Derived.Test.YtgocbcacfcfblaaGreatTellsW7
namespace Go.Proofs.YtgocbcacfcfblaaGreat

section
open Go.RowKit Go.Maps
theorem run_appS {B : Nat} {w : World} {v : Value} {ks : List Int} (h : BRow B w v ks) (hB : B ≤ w.heap.size) {a2 : Option Addr} {n2 c2 : Nat} {ks2 : List Int} (h2 : SRow w (.slice a2 n2 c2) ks2) (hl : ks.length + ks2.length ≤ 2000000) :
    ∃ a' n' c' w', (∀ ty, (Builtin.append_ #[23, 23] ty #[v, .slice a2 n2 c2]).run Tryz.prog w = .ok (.slice a' n' c') w') ∧ BRow B w' (.slice a' n' c') (ks ++ ks2) ∧ Turned (fun b => v.ownBlock = some b) w w' ∧ ∀ b, (Value.slice a' n' c').ownBlock = some b → v.ownBlock = some b ∨ w.heap.size ≤ b := by
  obtain ⟨a, c, e, hc⟩ := h2
  injection e with e1 e2 e3
  subst e1 e2 e3
  obtain ⟨x1, c1, e1, hlc⟩ := brow_shape h
  cases ks2 with
  | nil =>
    subst e1
    exact ⟨x1, ks.length, c1, w, fun ty => run_append_zero w x1 a2 ks.length c1 c2 hlc ty, by rw [List.append_nil]; exact h, Turned.refl _ _, fun b eb => .inl eb⟩
  | cons k0 ks2 =>
    obtain ⟨g, o, rfl, -⟩ := hc 0 k0 rfl
    obtain ⟨ii, hi1, hz, hs, hb⟩ := info_parts info3
    obtain ⟨v', w', hr, g1, g2, -, g5⟩ := run_append_own_at (P := Tryz.prog) w B 23 0 3 ii _ 1 8 Tryz.underlying23 hi1 hz hs hb rfl (by omega) v ks.length (ks.map (Value.int .i64)) h ⟨g, o, none⟩ (k0 :: ks2).length c2 ((k0 :: ks2).map (Value.int .i64)) (by simp)
      (fun j u hj => by
        rw [List.getElem?_map] at hj
        cases hq : (k0 :: ks2)[j]? with
        | none => rw [hq] at hj; cases hj
        | some q =>
          rw [hq] at hj
          have hu : Value.int .i64 q = u := by simpa using hj
          obtain ⟨g', o', e', hcc⟩ := hc j q hq
          simp only [Option.some.injEq, Addr.mk.injEq] at e'
          obtain ⟨rfl, rfl, -⟩ := e'
          exact (congrArg w.cell? (Addr.add_lit _ _ _)).trans (hcc.trans (congrArg some hu))) (ints_one _) (by unfold maxLen; omega) (by omega) hB
    have e1 : ks.map (Value.int .i64) ++ (k0 :: ks2).map (Value.int .i64) = (ks ++ (k0 :: ks2)).map (Value.int .i64) := by simp
    have e2 : ks.length + (k0 :: ks2).length = (ks ++ (k0 :: ks2)).length := by simp
    rw [e1, e2] at g1
    have g1' : BRow B w' v' (ks ++ (k0 :: ks2)) := g1
    obtain ⟨a', c', e, -⟩ := brow_shape g1'
    subst e
    refine ⟨a', _, c', w', fun ty => hr, g1', ⟨g2.os, g2.tape, g2.output, g2.size, fun k hk hn => g2.block k hk (fun e => hn e.symm)⟩, fun b eb => ?_⟩
    rcases g5 with q | q
    · exact .inl (by rw [← q]; exact eb)
    · rw [q] at eb; injection eb with eb; exact .inr (by omega)
/-- A new empty list. -/
def oN8 : Obj := .cells #[] 3 (0, 0)
theorem brow_new (w : World) : BRow w.heap.size (w.alloc oN8) (.slice (some ⟨w.heap.size, 0, none⟩) 0 0) [] := ⟨rfl, .inr ⟨w.heap.size, 0, #[], rfl, Nat.le_refl _, heap_alloc_new _ _, Nat.le_refl _, by unfold maxLen; omega, rfl, rfl⟩⟩
/-- A copy of a list, in new memory. -/
theorem run_copy8 {w : World} {a2 : Option Addr} {n2 c2 : Nat} {ks2 : List Int} (h2 : SRow w (.slice a2 n2 c2) ks2) (hl : ks2.length ≤ 1000000) :
    ∃ a' n' c' w', (∀ ty, (Builtin.append_ #[23, 23] ty #[.slice (some ⟨w.heap.size, 0, none⟩) 0 0, .slice a2 n2 c2]).run Tryz.prog (w.alloc oN8) = .ok (.slice a' n' c') w') ∧ BRow w.heap.size w' (.slice a' n' c') ks2 ∧ Below w.heap.size w w' := by
  have hb := below_new w oN8
  obtain ⟨a', n', c', w', hr, g1, g2, -⟩ := run_appS (brow_new w) hb.size (h2.below hb) (by simp; omega)
  refine ⟨a', n', c', w', hr, by simpa using g1, hb.trans (g2.below hb.size (fun b e => ?_))⟩
  have := own_eq e; omega
theorem srow_sub {w : World} {a : Option Addr} {n c : Nat} {ks : List Int} (h : SRow w (.slice a n c) ks) (m c' : Nat) (hm : m ≤ n) : SRow w (.slice a m c') (ks.take m) := by
  obtain ⟨a', c2, e, h2⟩ := h
  injection e with e1 e2 e3
  subst e1 e2
  refine ⟨_, c', by rw [List.length_take, Nat.min_eq_left hm], fun j k hj => ?_⟩
  have hj' : ks[j]? = some k := by
    rw [List.getElem?_take] at hj
    split at hj
    · exact hj
    · cases hj
  exact h2 j k hj'

set_option maxHeartbeats 2000000 in
set_option maxRecDepth 100000 in
theorem cutS {w : World} {a : Option Addr} {n c : Nat} {ks : List Int} (h : SRow w (.slice a n c) ks) (hnc : n ≤ c) (h0 : a = none → n = 0 ∧ c = 0) :
    Calls Tryz.prog 9 #[.slice a n c] w fun e w' => ∃ a' n' c', e = .returned (.slice a' n' c') ∧ Hid (BRow w.heap.size w' (.slice a' n' c') (ks.take 60) ∧ Below w.heap.size w w') := by
  have hn : n = ks.length := by obtain ⟨a', c2, e, -⟩ := h; injection e
  by_cases hlt : n < 60
  · have hr := run_copy8 (srow_sub h n c (Nat.le_refl _)) (by rw [List.length_take]; omega)
    rw [show ks.take n = ks.take 60 by rw [List.take_of_length_le (by omega), List.take_of_length_le (by omega)]] at hr
    obtain ⟨a', n', c', w', hr, g1, g2⟩ := hr
    have HR := hide hr
    have HG := hide (And.intro g1 g2)
    have hz1 : (n : Int) < 60 := by omega
    have hz2 : ¬ (60 : Int) < (n : Int) := by omega
    have hz3 : (n : Int) ≤ (c : Int) := by omega
    have hz4 : min (n : Int) 60 = (n : Int) := by omega
    have hz5 : min n 60 = n := by omega
    clear hr g1 g2 h hn hlt hnc
    cases a with
    | none =>
      obtain ⟨rfl, rfl⟩ := h0 rfl
      go_enter Tryz.func9, Tryz.ntmps9
      go_wp2_with (at_builtin; refine Lib.wpList_append_run _ rfl _ _ 23 23 rfl _ _ rfl rfl _ _ (unhide HR _) ?_)
      go_ret
      exact ⟨a', n', c', rfl, HG⟩
    | some x =>
      obtain ⟨b, o, sp⟩ := x
      go_enter Tryz.func9, Tryz.ntmps9
      go_wp2_with (at_builtin; refine Lib.wpList_append_run _ rfl _ _ 23 23 rfl _ _ rfl rfl _ _ (unhide HR _) ?_)
      go_ret
      exact ⟨a', n', c', rfl, HG⟩
  · obtain ⟨a', n', c', w', hr, g1, g2⟩ := run_copy8 (srow_sub h 60 c (by omega)) (by rw [List.length_take]; omega)
    have HR := hide hr
    have HG := hide (And.intro g1 g2)
    have hz1 : ¬ (n : Int) < 60 := by omega
    have hz3 : (60 : Int) ≤ (c : Int) := by omega
    have hz4 : min (n : Int) 60 = 60 := by omega
    have hz5 : min n 60 = 60 := by omega
    have hz6 : 60 ≤ c := by omega
    clear hr g1 g2 h hn hnc
    cases a with
    | none => exact absurd (h0 rfl).1 (by omega)
    | some x =>
      obtain ⟨b, o, sp⟩ := x
      clear hlt
      go_enter Tryz.func9, Tryz.ntmps9
      go_wp2_with (at_builtin; refine Lib.wpList_append_run _ rfl _ _ 23 23 rfl _ _ rfl rfl _ _ (unhide HR _) ?_)
      go_ret
      exact ⟨a', n', c', rfl, HG⟩
end

section
open Go.RowKit Go.Maps
/-- The reference's records against the store's. -/
structure GR8 (ps : List (EdgeV × Bool)) (es : List EdgeV) : Prop where
  len : es.length ≤ 1024
  re : Recs es
  lk : ∀ x ∈ es, Go.Proofs.YtgocbcacfcfblaaGreat.lk ps x.1 = some x
  mem : ∀ e x, Go.Proofs.YtgocbcacfcfblaaGreat.lk ps e = some x → x ∈ es ∧ x.1 = e
theorem GR8.at_none {ps : List (EdgeV × Bool)} {es : List EdgeV} (h : GR8 ps es) {e r : Int} (hk : Go.Proofs.YtgocbcacfcfblaaGreat.lk ps e = none) (ha : AtIs es e r) : r = -1 := by
  rcases ha with ⟨i, y, rfl, h1, h2, -⟩ | ⟨h1, -⟩
  · have := h.lk y (List.mem_of_getElem? h1)
    rw [h2, hk] at this; cases this
  · exact h1
theorem GR8.at_some {ps : List (EdgeV × Bool)} {es : List EdgeV} (h : GR8 ps es) {e r : Int} {x : EdgeV} {j : Nat} (hk : Go.Proofs.YtgocbcacfcfblaaGreat.lk ps e = some x) (hj : es[j]? = some x) (ha : AtIs es e r) : r = (j : Int) := by
  have hx := (h.mem e x hk).2
  rcases ha with ⟨i, y, rfl, h1, h2, -⟩ | ⟨-, h1⟩
  · rw [h.re.idx h1 hj (h2.trans hx.symm)]
  · exact absurd hx (h1 j x hj)
/-- What it answers. -/
def RTAns (from_ : Int) (t : List EdgeV × Option Int) (w : World) (e : Ending) (w' : World) : Prop := ∃ sa sn sc, e = .returned (.tuple #[.slice sa sn sc, .int .i64 (tPlace t), .int .i64 (tCode t)]) ∧ BRow w.heap.size w' (.slice sa sn sc) (if t.2 = none then stopsOf from_ t.1 else []) ∧ Below w.heap.size w w'
/-- Its loop. -/
def RTL (ps : List (EdgeV × Bool)) (wb : World) (from_ : Int) (ks : List Int) (v : Value) (i : Nat) (d : List EdgeV) (W : World) : Prop := Way ps from_ (ks.take i) d ∧ BRow wb.heap.size W v (stopsOf from_ d) ∧ Below wb.heap.size wb W

set_option maxHeartbeats 4000000 in
set_option maxRecDepth 100000 in
theorem refThroughS {w : World} {vv ev : Value} {rd wr0 : Int} {es : List EdgeV} {ps : List (EdgeV × Bool)} (from_ : Int) {kv : Value} {ks : List Int} (h : GRow 0 w ev es) (hG : GR8 ps es) (hr : SRow w kv ks) (hkl : ks.length ≤ 60) :
    Calls Tryz.prog 10 #[.agg #[vv, ev, .int .i64 rd, .int .i64 wr0], .int .i64 from_, kv] w fun e w' => Hid (RTAns from_ (trip ps from_ ks) w e w') := by
  have hb := below_new w (oG vv ev rd wr0)
  have hs0 : (w.alloc (oG vv ev rd wr0)).heap.size = w.heap.size + 1 := by simp
  have HW : Hid (∀ W, Below (w.alloc (oG vv ev rd wr0)).heap.size (w.alloc (oG vv ev rd wr0)) W → (W.cell? ⟨w.heap.size, 0, none⟩ = some vv ∧ W.cell? ⟨w.heap.size, 1, none⟩ = some ev ∧ W.cell? ⟨w.heap.size, 2, none⟩ = some (.int .i64 rd) ∧ W.cell? ⟨w.heap.size, 3, none⟩ = some (.int .i64 wr0)) ∧ GRow 0 W ev es ∧ SRow W kv ks) := fun W hW => by
    obtain ⟨c0, c1, c2, c3, -⟩ := cellsG ((hW.block w.heap.size (by omega)).trans (heap_alloc_new w (oG vv ev rd wr0)))
    exact ⟨⟨c0, c1, c2, c3⟩, grow_below (grow_below h hb) hW, (hr.below hb).below hW⟩
  have HB : Hid (Below w.heap.size w (w.alloc (oG vv ev rd wr0)) ∧ (w.alloc (oG vv ev rd wr0)).heap.size = w.heap.size + 1) := ⟨hb, hs0⟩
  obtain ⟨ka, kc, rfl, -⟩ := hr
  obtain ⟨kn, hkn⟩ : ∃ kn, kn = ks.length := ⟨_, rfl⟩
  have HKN : Hid (kn = ks.length ∧ kn ≤ 60) := ⟨hkn, by omega⟩
  rw [← hkn]
  obtain ⟨ea, en, ec, hev⟩ := grow_shape h
  have HEN : Hid (en = es.length) := by
    rcases h.2 with ⟨e, h0⟩ | ⟨g, cap, cur, e, -⟩
    · rw [hev] at e; cases e; exact h0.symm
    · rw [hev] at e; cases e; rfl
  subst hev
  have HG := hide hG
  have HS0 : Hid (RTL ps (w.alloc (oG vv (.slice ea en ec) rd wr0)) from_ ks (.slice (some ⟨w.heap.size + 1, 0, none⟩) 1 1) 0 [] ((w.alloc (oG vv (.slice ea en ec) rd wr0)).alloc (.cells #[.int .i64 from_] 3))) := by
    refine ⟨rfl, ⟨rfl, .inr ⟨w.heap.size + 1, 1, #[.int .i64 from_], rfl, by omega, ?_, Nat.le_refl _, by unfold maxLen; omega, rfl, rfl⟩⟩, below_new _ _⟩
    rw [← hs0]; exact heap_alloc_new _ _
  have HEND : Hid (∀ (v : Value) (d : List EdgeV) (W : World), RTL ps (w.alloc (oG vv (.slice ea en ec) rd wr0)) from_ ks v kn d W → trip ps from_ ks = (d, none) ∧ BRow w.heap.size W v (stopsOf from_ d) ∧ Below w.heap.size w W) := by
    rintro v d W ⟨h1, h2, h3⟩
    obtain ⟨q1, q2⟩ := unhide HB
    rw [List.take_of_length_le (by have := (unhide HKN).1; omega)] at h1
    exact ⟨h1.all, ⟨h2.1, h2.2.imp id (fun ⟨g, cap, cur, e, hb', r⟩ => ⟨g, cap, cur, e, by omega, r⟩)⟩, q1.trans (h3.mono (by omega))⟩
  have HOUT : Hid (∀ W, Below (w.alloc (oG vv (.slice ea en ec) rd wr0)).heap.size (w.alloc (oG vv (.slice ea en ec) rd wr0)) W → Below w.heap.size w W) := fun W hW => (unhide HB).1.trans (hW.mono (by have := (unhide HB).2; omega))
  clear h hb hkl hG hs0 hkn
  go_enter Tryz.func10, Tryz.ntmps10
  go_upto_region 2 with fail
  change Code.wp _ _ _ _ ((w.alloc (oG vv (.slice ea en ec) rd wr0)).alloc (.cells #[.int .i64 from_] 3))
  obtain ⟨bb, hbb⟩ : ∃ bb, bb = w.heap.size := ⟨_, rfl⟩
  have HBB := hide hbb
  rw [← hbb]
  rw [← hbb] at HW HS0
  clear hbb
  generalize (w.alloc (oG vv (.slice ea en ec) rd wr0)).alloc (.cells #[.int .i64 from_] 3) = w0 at *
  generalize w.alloc (oG vv (.slice ea en ec) rd wr0) = wb at *
  go_wp2_with fail
  go_loopw [9, 10, 11] (fun s9 s10 s11 wr => ∃ (i : Nat) (a : Option Addr) (n c : Nat) (d : List EdgeV), s10 = .int .i64 i ∧ s9 = .slice a n c ∧ i ≤ kn ∧ Hid (RTL ps wb from_ ks (.slice a n c) i d wr)) (fun _ s10 _ _ => kn - (intOf s10).toNat)
  case atStart => exact ⟨0, _, _, _, [], rfl, rfl, Nat.zero_le _, HS0⟩
  case round =>
    obtain ⟨i, a, n, c, d, rfl, rfl, hi, hS⟩ := hrel
    clear HS0
    by_cases hlt : i < kn
    · have hz : (i : Int) < (kn : Int) := by omega
      obtain ⟨s1, s2, s3⟩ := unhide hS
      obtain ⟨⟨c0, c1, c2, c3⟩, hg, hp⟩ := unhide HW wr s3
      obtain ⟨e, he⟩ : ∃ e, ks[i]? = some e := ⟨_, List.getElem?_eq_getElem (by have := unhide HKN; omega)⟩
      obtain ⟨ka', kc', hke, hkc⟩ := hp
      injection hke with hk1 hk2 hk3
      subst hk1
      obtain ⟨kg, ko, rfl, hce⟩ := hkc i e he
      have hdl : d.length = i := by
        have h1 := s1.len
        rw [List.length_take] at h1
        have := unhide HKN
        omega
      have hsd : ks.drop i = e :: ks.drop (i + 1) := by
        obtain ⟨h1, h2⟩ := List.getElem?_eq_some_iff.1 he
        rw [List.drop_eq_getElem_cons h1, h2]
      have htr : trip ps from_ ks = (d ++ (trip ps (endOf from_ d) (e :: ks.drop (i + 1))).1, (trip ps (endOf from_ d) (e :: ks.drop (i + 1))).2) := by
        have h1 := Way.trip (ks.drop i) s1
        rw [List.take_append_drop, hsd] at h1
        exact h1
      have HTR := hide htr
      have hwi : wrap64 ((i : Int) + 1) = ((i + 1 : Nat) : Int) := by have := unhide HKN; unfold wrap64; omega
      have HWI := hide hwi
      have HAT : Hid (∀ W, Below wr.heap.size wr W → Calls Tryz.prog 26 #[.agg #[vv, .slice ea en ec, .int .i64 rd, .int .i64 wr0], .int .i64 e] W fun e' w' => ∃ r, e' = .returned (.int .i64 r) ∧ Hid (AtIs es e r ∧ Below wr.heap.size wr w')) := fun W hW => by
        refine (refAt (vv := vv) (rd := rd) (wr := wr0) e (grow_below hg hW) (by have := (unhide HG).len; omega)).mono ?_
        rintro e' w' ⟨r, rfl, hh⟩
        exact ⟨r, rfl, (unhide hh).1, hW.trans ((unhide hh).2.mono hW.size)⟩
      cases hk : lk ps e with
      | none =>
        have CA : Hid (∀ W, Below wr.heap.size wr W → Calls Tryz.prog 26 #[.agg #[vv, .slice ea en ec, .int .i64 rd, .int .i64 wr0], .int .i64 e] W fun e' w' => e' = .returned (.int .i64 (-1)) ∧ (w'.cell? ⟨bb, 0, none⟩ = some vv ∧ w'.cell? ⟨bb, 1, none⟩ = some (.slice ea en ec) ∧ w'.cell? ⟨bb, 2, none⟩ = some (.int .i64 rd) ∧ w'.cell? ⟨bb, 3, none⟩ = some (.int .i64 wr0) ∧ w'.cell? ⟨kg, ko + i, none⟩ = some (.int .i64 e)) ∧ Hid (Below w.heap.size w w')) := fun W hW => by
          refine (unhide HAT W hW).mono ?_
          rintro e' w' ⟨r, rfl, hh⟩
          obtain ⟨h1, h2⟩ := unhide hh
          obtain rfl := (unhide HG).at_none hk h1
          have h3 : Below wb.heap.size wb w' := s3.trans (h2.mono s3.size)
          obtain ⟨⟨d0, d1, d2, d3⟩, -⟩ := unhide HW w' h3
          exact ⟨rfl, ⟨d0, d1, d2, d3, (cell_of_heap (x := ⟨kg, ko + i, none⟩) (h2.block kg (World.block_lt_of_cell? _ _ hce))).trans hce⟩, unhide HOUT w' h3⟩
        have HRES : Hid (trip ps from_ ks = (d, some 6) ∧ d.length = i) := by
          refine ⟨?_, hdl⟩
          rw [htr, trip, hk]
          simp
        clear hS s1 s2 s3 hg hkc he hdl hsd htr hwi HAT hk hk3
        go_upto_region 5 with fail
        refine wp_region_noPanic ?_
        refine regionL [] (fun y => y.cell? ⟨bb, 0, none⟩ = some vv ∧ y.cell? ⟨bb, 1, none⟩ = some (.slice ea en ec) ∧ y.cell? ⟨bb, 2, none⟩ = some (.int .i64 rd) ∧ y.cell? ⟨bb, 3, none⟩ = some (.int .i64 wr0) ∧ y.cell? ⟨kg, ko + i, none⟩ = some (.int .i64 e)) (by kernel_rfl) ⟨c0, c1, c2, c3, hce⟩ (fun hHeld => ?_)
        refine takeL (i := 0) (v := ?t2v0) (some 20) rfl rfl (by kernel_rfl) (by kernel_rfl) (by kernel_rfl) (by kernel_rfl) (by kernel_rfl) (fun _ _ _ h => h) (Or.inl ⟨by rfl, ?t2h0⟩) (by assumption) ?t2r0
        case t2h0 => (intro y hSu; (try dsimp only at hSu); go_simp; first | done | with_reducible rfl)
        (try simp only [Act.put, List.setIfInBounds_toArray, List.set_cons_zero, List.set_cons_succ])
        refine takeL (i := 1) (v := ?t2v1) (some 21) rfl rfl (by kernel_rfl) (by kernel_rfl) (by kernel_rfl) (by kernel_rfl) (by kernel_rfl) (fun _ _ _ h => h) (Or.inl ⟨by rfl, ?t2h1⟩) (by assumption) ?t2r1
        case t2h1 => (intro y hSu; (try dsimp only at hSu); go_simp; first | done | with_reducible rfl)
        (try simp only [Act.put, List.setIfInBounds_toArray, List.set_cons_zero, List.set_cons_succ])
        refine takeL (i := 2) (v := ?t2v2) (some 22) rfl rfl (by kernel_rfl) (by kernel_rfl) (by kernel_rfl) (by kernel_rfl) (by kernel_rfl) (fun _ _ _ h => h) (Or.inl ⟨by rfl, ?t2h2⟩) (by assumption) ?t2r2
        case t2h2 => (intro y hSu; (try dsimp only at hSu); go_simp; first | done | with_reducible rfl)
        (try simp only [Act.put, List.setIfInBounds_toArray, List.set_cons_zero, List.set_cons_succ])
        refine takeL (i := 3) (v := ?t2v3) (some 23) rfl rfl (by kernel_rfl) (by kernel_rfl) (by kernel_rfl) (by kernel_rfl) (by kernel_rfl) (fun _ _ _ h => h) (Or.inl ⟨by rfl, ?t2h3⟩) (by assumption) ?t2r3
        case t2h3 => (intro y hSu; (try dsimp only at hSu); go_simp; first | done | with_reducible rfl)
        (try simp only [Act.put, List.setIfInBounds_toArray, List.set_cons_zero, List.set_cons_succ])
        refine takeL (i := 4) (v := ?t2v4) (some 24) rfl rfl (by kernel_rfl) (by kernel_rfl) (by kernel_rfl) (by kernel_rfl) (by kernel_rfl) (fun _ _ _ h => h) (Or.inl ⟨by rfl, ?t2h4⟩) (by assumption) ?t2r4
        case t2h4 => (intro y hSu; (try dsimp only at hSu); go_simp; first | done | with_reducible rfl)
        (try simp only [Act.put, List.setIfInBounds_toArray, List.set_cons_zero, List.set_cons_succ])
        refine readyL (i := 5) (by kernel_rfl) rfl (fun K hK => ?_)
        go_simp
        refine (unhide CA _ (by exact (Below.refl _ _).drew)).mono ?_
        rintro e' w4 ⟨rfl, hc4, hw4⟩
        (try dsimp only)
        refine hK.out _ _ (fun _ => hc4) ?_
        clear hK K
        (try simp only [Act.put, List.setIfInBounds_toArray, List.set_cons_zero, List.set_cons_succ])
        have hH4 := hc4
        refine takeL (i := 6) (v := ?t5v6) (some 11) rfl rfl (by kernel_rfl) (by kernel_rfl) (by kernel_rfl) (by kernel_rfl) (by kernel_rfl) (fun _ _ _ h => h) (Or.inl ⟨by rfl, ?t5h6⟩) (by assumption) ?t5r6
        case t5h6 => (intro y hSu; (try dsimp only at hSu); go_simp; first | done | with_reducible rfl)
        (try simp only [Act.put, List.setIfInBounds_toArray, List.set_cons_zero, List.set_cons_succ])
        refine doneL (by kernel_rfl) ?_ _
        refine NoPanic.normal ?_
        go_wp2_with fail
        go_ret3
        obtain ⟨q1, q2⟩ := unhide HRES
        rw [q1]
        exact ⟨none, 0, 0, by simp [tPlace, tCode, q2], ⟨rfl, .inl ⟨rfl, rfl⟩⟩, unhide hw4⟩
      | some x =>
        obtain ⟨hxm, hxe⟩ := (unhide HG).mem e x hk
        obtain ⟨j, hj⟩ := List.mem_iff_getElem?.1 hxm
        have hjl : j < es.length := (List.getElem?_eq_some_iff.1 hj).1
        obtain ⟨eg, ec', heg, -⟩ := grow_at hg (by omega)
        injection heg with heg1 heg2 heg3
        subst heg1
        obtain ⟨on, oc, ho, -⟩ := brow_shape s2
        injection ho with ho1 ho2 ho3
        obtain ⟨og, hog⟩ := brow_some s2 (by rw [stopsOf_len]; omega)
        obtain ⟨at_, hat⟩ : ∃ at_, at_ = endOf from_ d := ⟨_, rfl⟩
        rw [← hat] at htr
        have hn1 : n = i + 1 := by rw [ho2, stopsOf_len, hdl]
        have hin : (i : Int) < (n : Int) := by omega
        have hjz : (j : Int) < (en : Int) := by have := unhide HEN; omega
        have hj0 : ¬ (j : Int) < 0 := by omega
        have HCELL : Hid (∀ W, Below wr.heap.size wr W → (W.cell? ⟨bb, 0, none⟩ = some vv ∧ W.cell? ⟨bb, 1, none⟩ = some (.slice (some ⟨eg, 0, none⟩) en ec) ∧ W.cell? ⟨bb, 2, none⟩ = some (.int .i64 rd) ∧ W.cell? ⟨bb, 3, none⟩ = some (.int .i64 wr0) ∧ W.cell? ⟨kg, ko + i, none⟩ = some (.int .i64 e)) ∧ W.cell? ⟨eg, j * 4 + 1, none⟩ = some (.int .i64 x.2.1) ∧ W.cell? ⟨eg, j * 4 + 2, none⟩ = some (.int .i64 x.2.2.1) ∧ W.cell? ⟨og, i, none⟩ = some (.int .i64 at_) ∧ Below w.heap.size w W ∧ RTL ps wb from_ ks (.slice (some ⟨og, 0, none⟩) n c) i d W) := fun W h2 => by
          have h3 : Below wb.heap.size wb W := s3.trans (h2.mono s3.size)
          obtain ⟨⟨d0, d1, d2, d3⟩, hg3, -⟩ := unhide HW W h3
          obtain ⟨eg2, ec2, he2, hec2⟩ := grow_at hg3 (by omega)
          injection he2 with he21 he22 he23
          injection he21 with he21
          injection he21 with he21
          obtain ⟨-, q2, q3, -⟩ := hec2 j x hj
          rw [← he21] at q2 q3
          have s2' : BRow wb.heap.size W (.slice (some ⟨og, 0, none⟩) n c) (stopsOf from_ d) := by rw [← hog]; exact brow_kept s2 (fun b eb => h2.block b (s2.lt b eb).2)
          refine ⟨⟨d0, d1, d2, d3, (cell_of_heap (x := ⟨kg, ko + i, none⟩) (h2.block kg (World.block_lt_of_cell? _ _ hce))).trans hce⟩, q2, q3, brow_at s2' ?_, unhide HOUT W h3, s1, s2', h3⟩
          rw [hat, ← hdl]; exact stops_end from_ d
        have CA : Hid (∀ W, Below wr.heap.size wr W → Calls Tryz.prog 26 #[.agg #[vv, .slice (some ⟨eg, 0, none⟩) en ec, .int .i64 rd, .int .i64 wr0], .int .i64 e] W fun e' w' => e' = .returned (.int .i64 (j : Int)) ∧ (w'.cell? ⟨bb, 0, none⟩ = some vv ∧ w'.cell? ⟨bb, 1, none⟩ = some (.slice (some ⟨eg, 0, none⟩) en ec) ∧ w'.cell? ⟨bb, 2, none⟩ = some (.int .i64 rd) ∧ w'.cell? ⟨bb, 3, none⟩ = some (.int .i64 wr0) ∧ w'.cell? ⟨kg, ko + i, none⟩ = some (.int .i64 e)) ∧ Hid (Below wr.heap.size wr w')) := fun W hW => by
          refine (unhide HAT W hW).mono ?_
          rintro e' w' ⟨r, rfl, hh⟩
          obtain ⟨h1, h2⟩ := unhide hh
          obtain rfl := (unhide HG).at_some hk hj h1
          exact ⟨rfl, (unhide HCELL w' h2).1, h2⟩
        have HX : Hid (lk ps e = some x ∧ at_ = endOf from_ d ∧ ks[i]? = some e ∧ d.length = i) := ⟨hk, hat, he, hdl⟩
        subst hog
        clear hS s1 s2 s3 hg hkc he hdl hsd htr hwi HAT hk hk3 hxm hxe hj hjl heg2 heg3 ho1 ho2 ho3 hat hn1
        go_upto_region 5 with fail
        refine wp_region_noPanic ?_
        refine regionL [] (fun y => y.cell? ⟨bb, 0, none⟩ = some vv ∧ y.cell? ⟨bb, 1, none⟩ = some (.slice (some ⟨eg, 0, none⟩) en ec) ∧ y.cell? ⟨bb, 2, none⟩ = some (.int .i64 rd) ∧ y.cell? ⟨bb, 3, none⟩ = some (.int .i64 wr0) ∧ y.cell? ⟨kg, ko + i, none⟩ = some (.int .i64 e)) (by kernel_rfl) ⟨c0, c1, c2, c3, hce⟩ (fun hHeld => ?_)
        refine takeL (i := 0) (v := ?t8v0) (some 20) rfl rfl (by kernel_rfl) (by kernel_rfl) (by kernel_rfl) (by kernel_rfl) (by kernel_rfl) (fun _ _ _ h => h) (Or.inl ⟨by rfl, ?t8h0⟩) (by assumption) ?t8r0
        case t8h0 => (intro y hSu; (try dsimp only at hSu); go_simp; first | done | with_reducible rfl)
        (try simp only [Act.put, List.setIfInBounds_toArray, List.set_cons_zero, List.set_cons_succ])
        refine takeL (i := 1) (v := ?t8v1) (some 21) rfl rfl (by kernel_rfl) (by kernel_rfl) (by kernel_rfl) (by kernel_rfl) (by kernel_rfl) (fun _ _ _ h => h) (Or.inl ⟨by rfl, ?t8h1⟩) (by assumption) ?t8r1
        case t8h1 => (intro y hSu; (try dsimp only at hSu); go_simp; first | done | with_reducible rfl)
        (try simp only [Act.put, List.setIfInBounds_toArray, List.set_cons_zero, List.set_cons_succ])
        refine takeL (i := 2) (v := ?t8v2) (some 22) rfl rfl (by kernel_rfl) (by kernel_rfl) (by kernel_rfl) (by kernel_rfl) (by kernel_rfl) (fun _ _ _ h => h) (Or.inl ⟨by rfl, ?t8h2⟩) (by assumption) ?t8r2
        case t8h2 => (intro y hSu; (try dsimp only at hSu); go_simp; first | done | with_reducible rfl)
        (try simp only [Act.put, List.setIfInBounds_toArray, List.set_cons_zero, List.set_cons_succ])
        refine takeL (i := 3) (v := ?t8v3) (some 23) rfl rfl (by kernel_rfl) (by kernel_rfl) (by kernel_rfl) (by kernel_rfl) (by kernel_rfl) (fun _ _ _ h => h) (Or.inl ⟨by rfl, ?t8h3⟩) (by assumption) ?t8r3
        case t8h3 => (intro y hSu; (try dsimp only at hSu); go_simp; first | done | with_reducible rfl)
        (try simp only [Act.put, List.setIfInBounds_toArray, List.set_cons_zero, List.set_cons_succ])
        refine takeL (i := 4) (v := ?t8v4) (some 24) rfl rfl (by kernel_rfl) (by kernel_rfl) (by kernel_rfl) (by kernel_rfl) (by kernel_rfl) (fun _ _ _ h => h) (Or.inl ⟨by rfl, ?t8h4⟩) (by assumption) ?t8r4
        case t8h4 => (intro y hSu; (try dsimp only at hSu); go_simp; first | done | with_reducible rfl)
        (try simp only [Act.put, List.setIfInBounds_toArray, List.set_cons_zero, List.set_cons_succ])
        refine readyL (i := 5) (by kernel_rfl) rfl (fun K hK => ?_)
        go_simp
        refine (unhide CA _ (by exact (Below.refl _ _).drew)).mono ?_
        rintro e' w4 ⟨rfl, hc4, hw4⟩
        (try dsimp only)
        refine hK.out _ _ (fun _ => hc4) ?_
        clear hK K
        (try simp only [Act.put, List.setIfInBounds_toArray, List.set_cons_zero, List.set_cons_succ])
        have hH10 := hc4
        refine takeL (i := 6) (v := ?t11v6) (some 11) rfl rfl (by kernel_rfl) (by kernel_rfl) (by kernel_rfl) (by kernel_rfl) (by kernel_rfl) (fun _ _ _ h => h) (Or.inl ⟨by rfl, ?t11h6⟩) (by assumption) ?t11r6
        case t11h6 => (intro y hSu; (try dsimp only at hSu); go_simp; first | done | with_reducible rfl)
        (try simp only [Act.put, List.setIfInBounds_toArray, List.set_cons_zero, List.set_cons_succ])
        refine doneL (by kernel_rfl) ?_ _
        refine NoPanic.normal ?_
        obtain ⟨⟨d0, d1, d2, d3, -⟩, q2, q3, q4, -⟩ := unhide HCELL w4 (unhide hw4)
        clear CA hHeld c0 c1 c2 c3 hce hc4
        by_cases hu : x.2.1 = at_
        · obtain ⟨-, -, -, -, -, k1, k2, k3⟩ := unhide HCELL (w4.drewN 1) (below_drewN (unhide hw4) 1)
          rw [hu] at q2
          go_upto_region 8 with fail
          go_quiet (fail)
          obtain ⟨⟨f0, f1, f2, f3, -⟩, r2, r3, r4, -, g1, g2, g3⟩ := unhide HCELL (w4.drewN nq) (below_drewN (unhide hw4) nq)
          obtain ⟨a', n', c', w5, hr5, b1, b2, -⟩ := run_app8 x.2.2.1 g2 g3.size (by rw [stopsOf_len]; have := (unhide HX).2.2.2; have := unhide HKN; omega)
          have HR5 := hide hr5
          have HT5 : Hid (RTL ps wb from_ ks (.slice a' n' c') (i + 1) (d ++ [x]) w5) := by
            obtain ⟨x1, x2, x3, x4⟩ := unhide HX
            refine ⟨?_, by rw [stopsOf_snoc]; exact b1, g3.trans (b2.below g3.size (fun b e => (g2.lt b e).1))⟩
            rw [take_succ_of x3]
            exact g1.snoc x1 (hu.trans x2)
          clear hr5 b1 b2 g1 g2 g3 k1 k2 k3 q2 q3 q4 d0 d1 d2 d3 hu r2 r4
          go_wp2_with (at_builtin; refine Lib.wpList_append_run _ rfl _ _ 23 23 rfl _ _ rfl rfl _ _ (unhide HR5 _) ?_)
          (try rw [unhide HWI])
          exact ⟨⟨i + 1, a', n', c', d ++ [x], rfl, rfl, by omega, HT5⟩, by simp [intOf]; omega⟩
        · have hu2 : (x.2.1 == at_) = false := by simp [hu]
          have HRES : Hid (trip ps from_ ks = (d, some 80) ∧ d.length = i) := by
            obtain ⟨x1, x2, x3, x4⟩ := unhide HX
            refine ⟨?_, x4⟩
            rw [unhide HTR, trip, x1]
            simp only
            rw [if_neg (by rw [← x2]; exact hu)]
            simp
          go_upto_region 8 with fail
          go_quiet (fail)
          have HOW := hide (unhide HCELL (w4.drewN nq) (below_drewN (unhide hw4) nq)).2.2.2.2.1
          clear q2 q3 q4 d0 d1 d2 d3 hu
          go_wp2_with fail
          go_ret3
          obtain ⟨z1, z2⟩ := unhide HRES
          rw [z1]
          exact ⟨none, 0, 0, by simp [tPlace, tCode, z2], ⟨rfl, .inl ⟨rfl, rfl⟩⟩, unhide HOW⟩
    · have hz : ¬ (i : Int) < (kn : Int) := by omega
      obtain rfl : i = kn := by omega
      have HF := hide (unhide HEND _ _ _ (unhide hS))
      clear hS
      go_wp2_with fail
      go_ret3
      obtain ⟨q1, q2, q3⟩ := unhide HF
      rw [q1]
      exact ⟨a, n, c, by simp [tPlace, tCode], q2, q3⟩
end

section
open Go.RowKit Go.Maps
/-- Two operations may come up now. -/
theorem readyL2 {P : Program} {ops : Array Oper} {Q : Exit → Act → World → Prop} {md : Region.Mode} {S : World → Prop} {T : List Nat} {i k : Nat} {o o2 : Oper} {fuel : Nat} {listed : Array Bool} {a : Act} {w : World} (hr : Region.ready md ops listed = [i, k]) (ho : ops[i]? = some o) (ho2 : ops[k]? = some o2)
    (h : ∀ K' : Act → World → Prop, Shut (∀ a w, (T.contains i = false → S w) → wpAnyL P md ops Q S T fuel (listed.setIfInBounds i true) a w → K' a w) → if Region.wanted o (yielded ops a.tmps) = true then Oper.wp P o a w K' Q else K' (a.put o.dst undef) w)
    (h2 : ∀ K' : Act → World → Prop, Shut (∀ a w, (T.contains k = false → S w) → wpAnyL P md ops Q S T fuel (listed.setIfInBounds k true) a w → K' a w) → if Region.wanted o2 (yielded ops a.tmps) = true then Oper.wp P o2 a w K' Q else K' (a.put o2.dst undef) w) :
    wpAnyL P md ops Q S T (fuel + 1) listed a w := by
  refine ⟨fun h0 => (by rw [hr] at h0; cases h0), fun j hj => ?_⟩
  rw [hr] at hj
  rcases List.mem_cons.1 hj with e | e
  · subst e
    exact wpOp_step ho (fun K' hK => h K' (fun a w hS hW => hK a w ⟨hS, hW⟩))
  · obtain rfl : j = k := by simpa using e
    exact wpOp_step ho2 (fun K' hK => h2 K' (fun a w hS hW => hK a w ⟨hS, hW⟩))
theorem way_lk8 {ps : List (EdgeV × Bool)} : ∀ {es : List Int} {a e : Int} {d : List EdgeV} {k : Nat}, Way ps a es d → es[k]? = some e → ∃ x, lk ps e = some x
  | [], a, e, d, k, _, hk => by cases hk
  | e' :: es, a, e, d, k, h, hk => by
    obtain ⟨x, d', rfl, h2, h3, h4⟩ := h
    match k, hk with
    | 0, hk => exact ⟨x, by rw [← show e' = e by simpa using hk]; exact h2⟩
    | k + 1, hk => exact way_lk8 h4 (k := k) (by simpa using hk)
/-- Its loop. -/
def RCL (ps : List (EdgeV × Bool)) (wb : World) (from_ : Int) (ks : List Int) (cst : Nat) (i : Nat) (d : List EdgeV) (W : World) : Prop := Way ps from_ (ks.take i) d ∧ cst = costOf d ∧ Below wb.heap.size wb W

set_option maxHeartbeats 4000000 in
set_option maxRecDepth 100000 in
theorem refCostS {w : World} {vv ev : Value} {rd wr0 : Int} {es : List EdgeV} {ps : List (EdgeV × Bool)} (from_ : Int) {kv : Value} {ks : List Int} {dd : List EdgeV} (h : GRow 0 w ev es) (hG : GR8 ps es) (hr : SRow w kv ks) (hkl : ks.length ≤ 60) (hW : Way ps from_ ks dd) (hwt : ∀ x ∈ es, Wt x) :
    Calls Tryz.prog 15 #[.agg #[vv, ev, .int .i64 rd, .int .i64 wr0], kv] w fun e w' => e = .returned (.int .u32 (costOf dd)) ∧ Hid (Below w.heap.size w w') := by
  have hb := below_new w (oG vv ev rd wr0)
  have hs0 : (w.alloc (oG vv ev rd wr0)).heap.size = w.heap.size + 1 := by simp
  have HW : Hid (∀ W, Below (w.alloc (oG vv ev rd wr0)).heap.size (w.alloc (oG vv ev rd wr0)) W → (W.cell? ⟨w.heap.size, 0, none⟩ = some vv ∧ W.cell? ⟨w.heap.size, 1, none⟩ = some ev ∧ W.cell? ⟨w.heap.size, 2, none⟩ = some (.int .i64 rd) ∧ W.cell? ⟨w.heap.size, 3, none⟩ = some (.int .i64 wr0)) ∧ GRow 0 W ev es ∧ SRow W kv ks) := fun W hW => by
    obtain ⟨c0, c1, c2, c3, -⟩ := cellsG ((hW.block w.heap.size (by omega)).trans (heap_alloc_new w (oG vv ev rd wr0)))
    exact ⟨⟨c0, c1, c2, c3⟩, grow_below (grow_below h hb) hW, (hr.below hb).below hW⟩
  obtain ⟨ka, kc, rfl, -⟩ := hr
  obtain ⟨kn, hkn⟩ : ∃ kn, kn = ks.length := ⟨_, rfl⟩
  have HKN : Hid (kn = ks.length ∧ kn ≤ 60) := ⟨hkn, by omega⟩
  rw [← hkn]
  obtain ⟨ea, en, ec, hev⟩ := grow_shape h
  have HEN : Hid (en = es.length) := by
    rcases h.2 with ⟨e, h0⟩ | ⟨g, cap, cur, e, -⟩
    · rw [hev] at e; cases e; exact h0.symm
    · rw [hev] at e; cases e; rfl
  subst hev
  have HG := hide hG
  have HWT := hide hwt
  have HWY := hide hW
  have HOUT : Hid (∀ W, Below (w.alloc (oG vv (.slice ea en ec) rd wr0)).heap.size (w.alloc (oG vv (.slice ea en ec) rd wr0)) W → Below w.heap.size w W) := fun W hW => hb.trans (hW.mono (by omega))
  clear h hb hkl hG hs0 hkn hwt hW
  go_enter Tryz.func15, Tryz.ntmps15
  go_upto_region 1 with fail
  change Code.wp _ _ _ _ (w.alloc (oG vv (.slice ea en ec) rd wr0))
  obtain ⟨bb, hbb⟩ : ∃ bb, bb = w.heap.size := ⟨_, rfl⟩
  have HBB := hide hbb
  rw [← hbb]
  rw [← hbb] at HW
  clear hbb
  generalize w.alloc (oG vv (.slice ea en ec) rd wr0) = wb at *
  go_wp2_with fail
  go_loopw [5, 6, 7] (fun s5 s6 s7 wr => ∃ (i cst : Nat) (d : List EdgeV), s6 = .int .i64 i ∧ s5 = .int .u32 cst ∧ i ≤ kn ∧ Hid (RCL ps wb from_ ks cst i d wr)) (fun _ s6 _ _ => kn - (intOf s6).toNat)
  case atStart => exact ⟨0, 0, [], rfl, rfl, Nat.zero_le _, rfl, rfl, Below.refl _ _⟩
  case round =>
    obtain ⟨i, cst, d, rfl, rfl, hi, hS⟩ := hrel
    by_cases hlt : i < kn
    · have hz : (i : Int) < (kn : Int) := by omega
      obtain ⟨s1, s2, s3⟩ := unhide hS
      obtain ⟨⟨c0, c1, c2, c3⟩, hg, hp⟩ := unhide HW wr s3
      obtain ⟨e, he⟩ : ∃ e, ks[i]? = some e := ⟨_, List.getElem?_eq_getElem (by have := unhide HKN; omega)⟩
      obtain ⟨ka', kc', hke, hkc⟩ := hp
      injection hke with hk1 hk2 hk3
      subst hk1
      obtain ⟨kg, ko, rfl, hce⟩ := hkc i e he
      obtain ⟨x, hk⟩ := way_lk8 (unhide HWY) he
      obtain ⟨hxm, hxe⟩ := (unhide HG).mem e x hk
      obtain ⟨j, hj⟩ := List.mem_iff_getElem?.1 hxm
      have hjl : j < es.length := (List.getElem?_eq_some_iff.1 hj).1
      obtain ⟨eg, ec', heg, -⟩ := grow_at hg (by omega)
      injection heg with heg1 heg2 heg3
      subst heg1
      have hwt := unhide HWT x hxm
      have hx4 : x.2.2.2 = ((x.2.2.2.toNat : Nat) : Int) := by have := hwt.1; omega
      have hwd : Way ps from_ (ks.take (i + 1)) (d ++ [x]) := by
        have h1 := unhide HWY
        rw [← List.take_append_drop (i + 1) ks, take_succ_of he] at h1
        obtain ⟨d1, d2, -, h2, -⟩ := Way.split h1
        obtain ⟨d3, d4, rfl, h3, h4⟩ := Way.split h2
        obtain ⟨y, d5, rfl, h5, h6, h7⟩ := h4
        have h7' : d5 = [] := h7
        subst h7'
        have e3 := h3.all.symm.trans s1.all
        injection e3 with e3
        subst e3
        rw [hk] at h5
        injection h5 with h5
        subst h5
        rw [take_succ_of he]
        exact h2
      have hwi : wrap64 ((i : Int) + 1) = ((i + 1 : Nat) : Int) := by have := unhide HKN; unfold wrap64; omega
      have HWI := hide hwi
      have hjz : (j : Int) < (en : Int) := by have := unhide HEN; omega
      obtain ⟨xe, xu, xv, xb⟩ := x
      simp only at hx4
      have HCELL : Hid (∀ W, Below wr.heap.size wr W → (W.cell? ⟨bb, 0, none⟩ = some vv ∧ W.cell? ⟨bb, 1, none⟩ = some (.slice (some ⟨eg, 0, none⟩) en ec) ∧ W.cell? ⟨bb, 2, none⟩ = some (.int .i64 rd) ∧ W.cell? ⟨bb, 3, none⟩ = some (.int .i64 wr0) ∧ W.cell? ⟨kg, ko + i, none⟩ = some (.int .i64 e) ∧ W.cell? ⟨eg, j * 4, none⟩ = some (.int .i64 xe) ∧ W.cell? ⟨eg, j * 4 + 1, none⟩ = some (.int .i64 xu) ∧ W.cell? ⟨eg, j * 4 + 2, none⟩ = some (.int .i64 xv) ∧ W.cell? ⟨eg, j * 4 + 3, none⟩ = some (.int .u32 xb))) := fun W h2 => by
        have h3 : Below wb.heap.size wb W := s3.trans (h2.mono s3.size)
        obtain ⟨⟨d0, d1, d2, d3⟩, hg3, -⟩ := unhide HW W h3
        obtain ⟨eg2, ec2, he2, hec2⟩ := grow_at hg3 (by omega)
        injection he2 with he21 he22 he23
        injection he21 with he21
        injection he21 with he21
        obtain ⟨q1, q2, q3, q4⟩ := hec2 j _ hj
        rw [← he21] at q1 q2 q3 q4
        exact ⟨d0, d1, d2, d3, (cell_of_heap (x := ⟨kg, ko + i, none⟩) (h2.block kg (World.block_lt_of_cell? _ _ hce))).trans hce, q1, q2, q3, q4⟩
      have CA : Hid (∀ W, Below wr.heap.size wr W → Calls Tryz.prog 26 #[.agg #[vv, .slice (some ⟨eg, 0, none⟩) en ec, .int .i64 rd, .int .i64 wr0], .int .i64 e] W fun e' w' => e' = .returned (.int .i64 (j : Int)) ∧ Hid (Below wr.heap.size wr w' ∧ Below W.heap.size W w')) := fun W hW => by
        refine (refAt (vv := vv) (rd := rd) (wr := wr0) e (grow_below hg hW) (by have := (unhide HG).len; omega)).mono ?_
        rintro e' w' ⟨r, rfl, hh⟩
        obtain ⟨h1, h2⟩ := unhide hh
        obtain rfl := (unhide HG).at_some hk hj h1
        exact ⟨rfl, hW.trans (h2.mono hW.size), h2⟩
      have CS : Hid (∀ W, Calls Tryz.prog 37 #[.int .u32 (cst : Int), .int .u32 xb] W fun e w' => e = .returned (.int .u32 ((costOf (d ++ [(xe, xu, xv, xb)]) : Nat) : Int)) ∧ ∃ nq, w' = W.drewN nq) := fun W => by
        rw [hx4, costOf_snoc, s2]
        simp only
        rw [← hx4]
        have := refFold_step (c := costOf d) xb.toNat (costOf_le d) W
        rw [← hx4] at this
        exact this
      have HWD : Hid (Way ps from_ (ks.take (i + 1)) (d ++ [(xe, xu, xv, xb)]) ∧ Below wb.heap.size wb wr) := ⟨hwd, s3⟩
      have HC0 := hide (unhide HCELL wr (Below.refl _ _))
      clear hS s1 s2 s3 hg hkc he hwi hk hk3 hxm hxe hj hjl heg2 heg3 hwt hwd c0 c1 c2 c3 hce hx4
      go_upto_region 5 with fail
      have hc0 := unhide HC0
      refine wp_region_noPanic ?_
      refine regionL [11] (fun y => y.cell? ⟨bb, 0, none⟩ = some vv ∧ y.cell? ⟨bb, 1, none⟩ = some (.slice (some ⟨eg, 0, none⟩) en ec) ∧ y.cell? ⟨bb, 2, none⟩ = some (.int .i64 rd) ∧ y.cell? ⟨bb, 3, none⟩ = some (.int .i64 wr0) ∧ y.cell? ⟨kg, ko + i, none⟩ = some (.int .i64 e) ∧ y.cell? ⟨eg, j * 4, none⟩ = some (.int .i64 xe) ∧ y.cell? ⟨eg, j * 4 + 1, none⟩ = some (.int .i64 xu) ∧ y.cell? ⟨eg, j * 4 + 2, none⟩ = some (.int .i64 xv) ∧ y.cell? ⟨eg, j * 4 + 3, none⟩ = some (.int .u32 xb)) (by kernel_rfl) hc0 (fun hHeld => ?_)
      refine takeL (i := 0) (v := ?t2v0) (some 14) rfl rfl (by kernel_rfl) (by kernel_rfl) (by kernel_rfl) (by kernel_rfl) (by kernel_rfl) (fun _ _ _ h => h) (Or.inl ⟨by rfl, ?t2h0⟩) (by assumption) ?t2r0
      case t2h0 => (intro y hSu; (try dsimp only at hSu); go_simp; first | done | with_reducible rfl)
      (try simp only [Act.put, List.setIfInBounds_toArray, List.set_cons_zero, List.set_cons_succ])
      refine takeL (i := 1) (v := ?t2v1) (some 15) rfl rfl (by kernel_rfl) (by kernel_rfl) (by kernel_rfl) (by kernel_rfl) (by kernel_rfl) (fun _ _ _ h => h) (Or.inl ⟨by rfl, ?t2h1⟩) (by assumption) ?t2r1
      case t2h1 => (intro y hSu; (try dsimp only at hSu); go_simp; first | done | with_reducible rfl)
      (try simp only [Act.put, List.setIfInBounds_toArray, List.set_cons_zero, List.set_cons_succ])
      refine takeL (i := 2) (v := ?t2v2) (some 16) rfl rfl (by kernel_rfl) (by kernel_rfl) (by kernel_rfl) (by kernel_rfl) (by kernel_rfl) (fun _ _ _ h => h) (Or.inl ⟨by rfl, ?t2h2⟩) (by assumption) ?t2r2
      case t2h2 => (intro y hSu; (try dsimp only at hSu); go_simp; first | done | with_reducible rfl)
      (try simp only [Act.put, List.setIfInBounds_toArray, List.set_cons_zero, List.set_cons_succ])
      refine takeL (i := 3) (v := ?t2v3) (some 17) rfl rfl (by kernel_rfl) (by kernel_rfl) (by kernel_rfl) (by kernel_rfl) (by kernel_rfl) (fun _ _ _ h => h) (Or.inl ⟨by rfl, ?t2h3⟩) (by assumption) ?t2r3
      case t2h3 => (intro y hSu; (try dsimp only at hSu); go_simp; first | done | with_reducible rfl)
      (try simp only [Act.put, List.setIfInBounds_toArray, List.set_cons_zero, List.set_cons_succ])
      refine takeL (i := 4) (v := ?t2v4) (some 18) rfl rfl (by kernel_rfl) (by kernel_rfl) (by kernel_rfl) (by kernel_rfl) (by kernel_rfl) (fun _ _ _ h => h) (Or.inl ⟨by rfl, ?t2h4⟩) (by assumption) ?t2r4
      case t2h4 => (intro y hSu; (try dsimp only at hSu); go_simp; first | done | with_reducible rfl)
      (try simp only [Act.put, List.setIfInBounds_toArray, List.set_cons_zero, List.set_cons_succ])
      refine takeL (i := 5) (v := ?t2v5) (some 19) rfl rfl (by kernel_rfl) (by kernel_rfl) (by kernel_rfl) (by kernel_rfl) (by kernel_rfl) (fun _ _ _ h => h) (Or.inl ⟨by rfl, ?t2h5⟩) (by assumption) ?t2r5
      case t2h5 => (intro y hSu; (try dsimp only at hSu); go_simp; first | done | with_reducible rfl)
      (try simp only [Act.put, List.setIfInBounds_toArray, List.set_cons_zero, List.set_cons_succ])
      refine takeL (i := 6) (v := ?t2v6) (some 20) rfl rfl (by kernel_rfl) (by kernel_rfl) (by kernel_rfl) (by kernel_rfl) (by kernel_rfl) (fun _ _ _ h => h) (Or.inl ⟨by rfl, ?t2h6⟩) (by assumption) ?t2r6
      case t2h6 => (intro y hSu; (try dsimp only at hSu); go_simp; first | done | with_reducible rfl)
      (try simp only [Act.put, List.setIfInBounds_toArray, List.set_cons_zero, List.set_cons_succ])
      refine readyL2 (i := 7) (k := 10) (by kernel_rfl) rfl rfl (fun K hK => ?_) (fun K hK => ?_)
      · go_simp
        refine (unhide CA _ (by exact (Below.refl _ _).drew)).mono ?_
        rintro e' w4 ⟨rfl, hw4⟩
        have hc4 := unhide HCELL w4 (unhide hw4).1
        (try dsimp only)
        refine hK.out _ _ (fun _ => hc4) ?_
        clear hK K
        (try simp only [Act.put, List.setIfInBounds_toArray, List.set_cons_zero, List.set_cons_succ])
        have hH3 := hc4
        refine takeL (i := 8) (v := ?t4v8) (some 22) rfl rfl (by kernel_rfl) (by kernel_rfl) (by kernel_rfl) (by kernel_rfl) (by kernel_rfl) (fun _ _ _ h => h) (Or.inl ⟨by rfl, ?t4h8⟩) (by assumption) ?t4r8
        case t4h8 => (intro y hSu; (try dsimp only at hSu); go_simp; first | done | with_reducible rfl)
        (try simp only [Act.put, List.setIfInBounds_toArray, List.set_cons_zero, List.set_cons_succ])
        refine takeL (i := 9) (v := ?t4v9) (some 23) rfl rfl (by kernel_rfl) (by kernel_rfl) (by kernel_rfl) (by kernel_rfl) (by kernel_rfl) (fun _ _ _ h => h) (Or.inl ⟨by rfl, ?t4h9⟩) (by assumption) ?t4r9
        case t4h9 => (intro y hSu; (try dsimp only at hSu); go_simp; first | done | with_reducible rfl)
        (try simp only [Act.put, List.setIfInBounds_toArray, List.set_cons_zero, List.set_cons_succ])
        refine readyL (i := 10) (by kernel_rfl) rfl (fun K hK => ?_)
        go_simp
        have hc5 := unhide HCELL (w4.alloc o34) ((unhide hw4).1.alloc (by have := (unhide hw4).1.size; omega) _)
        refine hK.out _ _ (fun _ => hc5) ?_
        clear hK K
        (try simp only [Act.put, List.setIfInBounds_toArray, List.set_cons_zero, List.set_cons_succ])
        have hH6 := hc5
        refine readyL (i := 11) (by kernel_rfl) rfl (fun K hK => ?_)
        go_simp
        refine hK.out _ _ (fun h => by cases h) ?_
        clear hK K
        (try simp only [Act.put, List.setIfInBounds_toArray, List.set_cons_zero, List.set_cons_succ])
        refine doneL (by kernel_rfl) ?_ _
        refine NoPanic.normal ?_
        change Exit.then _ _ _ _ (w4.alloc (oE (xe, xu, xv, xb)))
        obtain ⟨-, -, -, x3, -⟩ := box_cells (heap_alloc_new w4 (oE (xe, xu, xv, xb)))
        simp only at x3
        have HB5 : Hid (Below wb.heap.size wb (w4.alloc (oE (xe, xu, xv, xb)))) := ((unhide HWD).2.trans ((unhide hw4).1.mono (unhide HWD).2.size)).alloc (by have := (unhide HWD).2.size; have := (unhide hw4).1.size; omega) _
        generalize w4.alloc (oE (xe, xu, xv, xb)) = w5 at *
        generalize w4.heap.size = bx at *
        clear HCELL CA hc0 hc4 hc5 hHeld HC0
        go_wp2_with fail
        refine (unhide CS _).mono ?_
        rintro e' w6 ⟨rfl, nq, rfl⟩
        clear CS
        go_wp2_with fail
        (try rw [unhide HWI])
        exact ⟨⟨i + 1, _, d ++ [(xe, xu, xv, xb)], rfl, rfl, by omega, (unhide HWD).1, rfl, below_drewN (unhide HB5) nq⟩, by simp [intOf]; omega⟩
      · go_simp
        have hc4 := unhide HCELL (wr.drew.alloc o34) (((Below.refl _ _).drew).alloc (Nat.le_refl _) _)
        refine hK.out _ _ (fun _ => hc4) ?_
        clear hK K
        (try simp only [Act.put, List.setIfInBounds_toArray, List.set_cons_zero, List.set_cons_succ])
        have hH10 := hc4
        refine readyL (i := 7) (by kernel_rfl) rfl (fun K hK => ?_)
        go_simp
        refine (unhide CA _ (by exact ((Below.refl _ _).drew).alloc (Nat.le_refl _) _)).mono ?_
        rintro e' w4 ⟨rfl, hw4⟩
        have hc5 := unhide HCELL w4 (unhide hw4).1
        obtain ⟨g0, g1, g2, g3, gf⟩ := cells34 (w := w4) (g := wr.heap.size) ((unhide hw4).2.block _ (by simp) |>.trans (heap_alloc_new _ _))
        (try dsimp only)
        refine hK.out _ _ (fun _ => hc5) ?_
        clear hK K
        (try simp only [Act.put, List.setIfInBounds_toArray, List.set_cons_zero, List.set_cons_succ])
        have hH12 := hc5
        refine takeL (i := 8) (v := ?t13v8) (some 22) rfl rfl (by kernel_rfl) (by kernel_rfl) (by kernel_rfl) (by kernel_rfl) (by kernel_rfl) (fun _ _ _ h => h) (Or.inl ⟨by rfl, ?t13h8⟩) (by assumption) ?t13r8
        case t13h8 => (intro y hSu; (try dsimp only at hSu); go_simp; first | done | with_reducible rfl)
        (try simp only [Act.put, List.setIfInBounds_toArray, List.set_cons_zero, List.set_cons_succ])
        refine takeL (i := 9) (v := ?t13v9) (some 23) rfl rfl (by kernel_rfl) (by kernel_rfl) (by kernel_rfl) (by kernel_rfl) (by kernel_rfl) (fun _ _ _ h => h) (Or.inl ⟨by rfl, ?t13h9⟩) (by assumption) ?t13r9
        case t13h9 => (intro y hSu; (try dsimp only at hSu); go_simp; first | done | with_reducible rfl)
        (try simp only [Act.put, List.setIfInBounds_toArray, List.set_cons_zero, List.set_cons_succ])
        refine readyL (i := 11) (by kernel_rfl) rfl (fun K hK => ?_)
        go_simp
        refine hK.out _ _ (fun h => by cases h) ?_
        clear hK K
        (try simp only [Act.put, List.setIfInBounds_toArray, List.set_cons_zero, List.set_cons_succ])
        refine doneL (by kernel_rfl) ?_ _
        refine NoPanic.normal ?_
        change Exit.then _ _ _ _ (set4 w4 wr.heap.size (.int .i64 xe) (.int .i64 xu) (.int .i64 xv) (.int .u32 xb))
        have hbx : w4.heap[wr.heap.size]? = some o34 := ((unhide hw4).2.block _ (by simp)).trans (heap_alloc_new _ _)
        obtain ⟨-, -, -, x3, -⟩ := cells34 (set4_at hbx (.int .i64 xe) (.int .i64 xu) (.int .i64 xv) (.int .u32 xb))
        have HB5 : Hid (Below wb.heap.size wb (set4 w4 wr.heap.size (.int .i64 xe) (.int .i64 xu) (.int .i64 xv) (.int .u32 xb))) := (unhide HWD).2.trans ((set4_below (unhide hw4).1 (Nat.le_refl _) _ _ _ _).mono (unhide HWD).2.size)
        clear hbx g0 g1 g2 g3 gf
        generalize set4 w4 wr.heap.size (.int .i64 xe) (.int .i64 xu) (.int .i64 xv) (.int .u32 xb) = w5 at *
        generalize wr.heap.size = bx at *
        clear HCELL CA hc0 hc4 hc5 hHeld HC0
        go_wp2_with fail
        refine (unhide CS _).mono ?_
        rintro e' w6 ⟨rfl, nq, rfl⟩
        clear CS
        go_wp2_with fail
        (try rw [unhide HWI])
        exact ⟨⟨i + 1, _, d ++ [(xe, xu, xv, xb)], rfl, rfl, by omega, (unhide HWD).1, rfl, below_drewN (unhide HB5) nq⟩, by simp [intOf]; omega⟩
    · have hz : ¬ (i : Int) < (kn : Int) := by omega
      obtain rfl : i = kn := by omega
      have HF : Hid (cst = costOf dd ∧ Below w.heap.size w wr) := by
        obtain ⟨s1, s2, s3⟩ := unhide hS
        rw [List.take_of_length_le (by have := (unhide HKN).1; omega)] at s1
        have e3 := s1.all.symm.trans (unhide HWY).all
        injection e3 with e3
        exact ⟨by rw [s2, e3], unhide HOUT wr s3⟩
      clear hS
      go_wp2_with fail
      go_ret
      exact ⟨by rw [(unhide HF).1]; rfl, (unhide HF).2⟩
end

section
open Go.RowKit Go.Maps
theorem plc_at {st : List Int} {v : Int} {i : Nat} (hn : st.Nodup) (h : st[i]? = some v) : plc st v = some i := by
  cases hp : plc st v with
  | none => exact absurd (List.mem_of_getElem? h) (plc_none hp)
  | some p => rw [(List.getElem?_inj (List.getElem?_eq_some_iff.1 (plc_some hp)).1 hn).1 ((plc_some hp).trans h.symm)]
theorem trail_append (a : Int) (d d' : List EdgeV) : trail8 a (d ++ d') = d'.foldl (fun s x => tgo s x.1 x.2.2.1) (trail8 a d) := by simp [trail8]
theorem trail_cut (a : Int) (d : List EdgeV) (i j : Nat) (v : Int) (hij : i < j) (hj : j ≤ d.length) (hnd : ((stopsOf a d).take j).Nodup) (hi : (stopsOf a d)[i]? = some v) (hjv : (stopsOf a d)[j]? = some v) :
    trail8 a (d.take i ++ d.drop j) = trail8 a d ∧ stopsOf a (d.take i ++ d.drop j) = (stopsOf a d).take i ++ (stopsOf a d).drop j := by
  constructor
  · have key : trail8 a (d.take j) = trail8 a (d.take i) := by
      obtain ⟨j', rfl⟩ : ∃ j', j = j' + 1 := ⟨j - 1, by omega⟩
      obtain ⟨x, hx⟩ : ∃ x, d[j']? = some x := ⟨_, List.getElem?_eq_getElem (by omega)⟩
      have hxv : x.2.2.1 = v := by
        have : (stopsOf a d)[j' + 1]? = some x.2.2.1 := by simp [stopsOf, hx]
        rw [hjv] at this; injection this with this; exact this.symm
      have hst : stopsOf a (d.take j') = (stopsOf a d).take (j' + 1) := (stops_take a d j').symm
      have hsi : stopsOf a (d.take i) = (stopsOf a d).take (i + 1) := (stops_take a d i).symm
      have hni : (stopsOf a (d.take i)).Nodup := by
        rw [hsi]
        have e : (stopsOf a d).take (i + 1) = ((stopsOf a d).take (j' + 1)).take (i + 1) := by rw [List.take_take, Nat.min_eq_left (by omega)]
        rw [e]; exact hnd.sublist (List.take_sublist _ _)
      rw [take_succ_of hx, trail_snoc, trail_nodup a (d.take j') (by rw [hst]; exact hnd), trail_nodup a (d.take i) hni]
      unfold tgo
      have hp : plc (stopsOf a (d.take j')) x.2.2.1 = some i := by
        refine plc_at (by rw [hst]; exact hnd) ?_
        rw [hst, List.getElem?_take, if_pos (by omega), hxv]; exact hi
      simp only [hp]
      rw [hst, hsi, List.take_take, Nat.min_eq_left (by omega), ← List.map_take, List.take_take, Nat.min_eq_left (by omega)]
    have e2 : trail8 a d = trail8 a (d.take j ++ d.drop j) := by rw [List.take_append_drop]
    rw [e2, trail_append, trail_append, key]
  · have e1 : (stopsOf a d).drop j = v :: (stopsOf a d).drop (j + 1) := by
      obtain ⟨h1, h2⟩ := List.getElem?_eq_some_iff.1 hjv
      rw [List.drop_eq_getElem_cons h1, h2]
    have e2 : (stopsOf a d).take (i + 1) = (stopsOf a d).take i ++ [v] := take_succ_of hi
    have e3 : stopsOf a (d.take i ++ d.drop j) = stopsOf a (d.take i) ++ (d.drop j).map (fun x => x.2.2.1) := by simp [stopsOf]
    have e4 : (d.drop j).map (fun x => x.2.2.1) = (stopsOf a d).drop (j + 1) := by simp [stopsOf, List.map_drop]
    rw [e3, e4, ← stops_take, e2, e1, List.append_assoc]; rfl
theorem srow_dropC {B : Nat} {w : World} {g n c : Nat} {ks : List Int} (h : BRow B w (.slice (some ⟨g, 0, none⟩) n c) ks) (j c' : Nat) (hj : j ≤ n) (hnc : n ≤ c) : SRow w (.slice (if c = j then some ⟨g, 0, none⟩ else some ⟨g, j, none⟩) (n - j) c') (ks.drop j) := by
  have hn : n = ks.length := by
    obtain ⟨a', c2, e, -⟩ := brow_shape h
    injection e
  by_cases hc : c = j
  · have e1 : ks.drop j = [] := List.drop_of_length_le (by omega)
    have e2 : n - j = 0 := by omega
    rw [e1, e2]; exact ⟨_, c', rfl, fun i k hk => by cases hk⟩
  · rw [if_neg hc]
    subst hn
    refine ⟨_, c', by rw [List.length_drop], fun i k hk => ?_⟩
    rw [List.getElem?_drop] at hk
    exact ⟨g, j, rfl, brow_at h hk⟩
/-- Two lists grow, one behind the other. -/
theorem app2 {B : Nat} {w : World} {v1 v2 : Value} {k1 k2 t1 t2 : List Int} {a1 a2 : Option Addr} {n1 c1 n2 c2 : Nat} (r1 : BRow B w v1 k1) (r2 : BRow B w v2 k2) (hne : ∀ b, v1.ownBlock = some b → v2.ownBlock ≠ some b) (hB : B ≤ w.heap.size)
    (s1 : SRow w (.slice a1 n1 c1) t1) (s2 : SRow w (.slice a2 n2 c2) t2) (hs2 : ∀ b, blkOf (.slice a2 n2 c2) = some b → b < B) (hl1 : k1.length + t1.length ≤ 1000000) (hl2 : k2.length + t2.length ≤ 1000000) :
    ∃ a3 n3 c3 w4 a4 n4 c4 w5, (∀ ty, (Builtin.append_ #[23, 23] ty #[v1, .slice a1 n1 c1]).run Tryz.prog w = .ok (.slice a3 n3 c3) w4) ∧ (∀ ty, (Builtin.append_ #[23, 23] ty #[v2, .slice a2 n2 c2]).run Tryz.prog w4 = .ok (.slice a4 n4 c4) w5) ∧
      BRow B w5 (.slice a3 n3 c3) (k1 ++ t1) ∧ BRow B w5 (.slice a4 n4 c4) (k2 ++ t2) ∧ Below B w w5 := by
  obtain ⟨a3, n3, c3, w4, hr4, g4, u4, m4⟩ := run_appS r1 hB s1 (by omega)
  have r2' : BRow B w4 v2 k2 := brow_kept r2 (fun b e => u4.block b (r2.lt b e).2 (fun e2 => hne b e2 e))
  have hb4 : Below B w w4 := u4.below hB (fun b e => (r1.lt b e).1)
  have s2' : SRow w4 (.slice a2 n2 c2) t2 := s2.turned u4 (fun b e hlt e2 => by have := (r1.lt b e2).1; have := hs2 b e; omega)
  obtain ⟨a5, n5, c5, w5, hr5, g5, u5, m5⟩ := run_appS r2' (Nat.le_trans hB hb4.size) s2' (by omega)
  refine ⟨a3, n3, c3, w4, a5, n5, c5, w5, hr4, hr5, brow_kept g4 (fun b e => u5.block b (g4.lt b e).2 (fun e2 => ?_)), g5, hb4.trans (u5.below (Nat.le_trans hB hb4.size) (fun b e => (r2'.lt b e).1))⟩
  rcases m4 b e with q | q
  · exact hne b q e2
  · have := (r2.lt b e2).2; omega
/-- What it answers. -/
def RSAns (a : Int) (d : List EdgeV) (w : World) (e : Ending) (w' : World) : Prop := ∃ sa sn sc, e = .returned (.slice sa sn sc) ∧ BRow w.heap.size w' (.slice sa sn sc) (trail8 a d).2 ∧ Below w.heap.size w w'

set_option maxHeartbeats 4000000 in
set_option maxRecDepth 100000 in
theorem refSimpleS (a : Int) (N : Nat) : ∀ (d : List EdgeV), d.length < N → d.length ≤ 60 → ∀ (w : World) (vsv esv : Value), NRow w vsv (stopsOf a d) → NRow w esv (d.map (·.1)) →
    Calls Tryz.prog 17 #[vsv, esv] w fun e w' => Hid (RSAns a d w e w') := by
  induction N with
  | zero => intro d hd; omega
  | succ N ih =>
  intro d hd hd60 w vsv esv hvs hes
  obtain ⟨va, vc, hve, hvc⟩ := brow_shape hvs
  obtain ⟨vg, hva⟩ := brow_some (a := va) (n := (stopsOf a d).length) (c := vc) (by rw [← hve]; exact hvs) (by rw [stopsOf_len]; omega)
  subst hva
  obtain ⟨ea, ec, hee, hec⟩ := brow_shape hes
  obtain ⟨vn, hvn⟩ : ∃ vn, vn = (stopsOf a d).length := ⟨_, rfl⟩
  obtain ⟨en, hen⟩ : ∃ en, en = (d.map (·.1)).length := ⟨_, rfl⟩
  rw [← hvn] at hve hvc
  rw [← hen] at hee hec
  subst hve hee
  have HN : Hid (vn = d.length + 1 ∧ en = d.length ∧ d.length < N + 1 ∧ d.length ≤ 60 ∧ vn ≤ vc ∧ en ≤ ec) := ⟨by rw [hvn, stopsOf_len], by rw [hen, List.length_map], hd, hd60, hvc, hec⟩
  have HV := hide hvs
  have HE := hide hes
  have HIH := hide ih
  clear ih hd hd60 hvs hes hvn hen hvc hec
  go_enter Tryz.func17, Tryz.ntmps17
  go_wp2_with fail
  go_loopw [5, 6, 7, 8] (fun s5 s6 s7 s8 wr => ∃ j : Nat, s5 = .int .i64 j ∧ j ≤ vn ∧ Hid (Below w.heap.size w wr ∧ ((stopsOf a d).take j).Nodup)) (fun s5 _ _ _ _ => vn - (intOf s5).toNat)
  case atStart => exact ⟨0, rfl, Nat.zero_le _, Below.refl _ _, by simp⟩
  case round =>
    obtain ⟨j, rfl, hj, hS⟩ := hrel
    by_cases hlt : j < vn
    · have hz : (j : Int) < (vn : Int) := by omega
      obtain ⟨v, hv⟩ : ∃ v, (stopsOf a d)[j]? = some v := ⟨_, List.getElem?_eq_getElem (by rw [stopsOf_len]; have := unhide HN; omega)⟩
      have HVJ := hide hv
      have HND : Hid (((stopsOf a d).take j).Nodup) := (unhide hS).2
      have hwj : wrap64 ((j : Int) + 1) = ((j + 1 : Nat) : Int) := by have := unhide HN; unfold wrap64; omega
      have HWJ := hide hwj
      clear hv hwj
      go_wp2_with fail
      go_loopw [6] (fun s6 wr => ∃ i : Nat, s6 = .int .i64 i ∧ i ≤ j ∧ Hid (Below w.heap.size w wr ∧ ∀ p u, p < i → (stopsOf a d)[p]? = some u → u ≠ v)) (fun s6 _ => j - (intOf s6).toNat)
      case atStart => exact ⟨0, rfl, Nat.zero_le _, (unhide hS).1, fun p u hp => absurd hp (Nat.not_lt_zero _)⟩
      case round =>
        obtain ⟨i, rfl, hi, hT⟩ := hrel
        clear hS
        by_cases hil : i < j
        · have hz2 : (i : Int) < (j : Int) := by omega
          have hz3 : (i : Int) < (vn : Int) := by omega
          obtain ⟨u, hu⟩ : ∃ u, (stopsOf a d)[i]? = some u := ⟨_, List.getElem?_eq_getElem (by rw [stopsOf_len]; have := unhide HN; omega)⟩
          have hrv := nrow_below (unhide HV) (unhide hT).1
          have hcu : wr.cell? ⟨vg, i, none⟩ = some (.int .i64 u) := brow_at hrv hu
          have hcv : wr.cell? ⟨vg, j, none⟩ = some (.int .i64 v) := brow_at hrv (unhide HVJ)
          have HU := hide hu
          clear hrv
          by_cases huv : u = v
          · subst huv
            clear hu
            go_upto_region 7 with fail
            go_quiet (fail)
            have hB := below_drewN (unhide hT).1 nq
            have HB := hide hB
            clear hT hcu hcv
            generalize wr.drewN nq = w1 at *
            obtain ⟨eg, rfl⟩ : ∃ eg, ea = some ⟨eg, 0, none⟩ := brow_some (unhide HE) (by rw [List.length_map]; have := unhide HN; omega)
            have hrv := nrow_below (unhide HV) hB
            have hre := nrow_below (unhide HE) hB
            have hq1 : i ≤ vn := by omega
            have hq2 : i ≤ en := by have := unhide HN; omega
            obtain ⟨x1, y1, z1, w2, hr2, g2, b2⟩ := run_copy8 (w := w1) (srow_sub (brow_srow hrv) i vc hq1) (by rw [List.length_take, stopsOf_len]; have := unhide HN; omega)
            obtain ⟨x2, y2, z2, w3, hr3, g3, b3⟩ := run_copy8 (w := w2) (srow_sub (brow_srow (nrow_below hre b2)) i ec hq2) (by rw [List.length_take, List.length_map]; have := unhide HN; omega)
            have hd3 : Below w3.heap.size w3 w3.drew := (Below.refl _ _).drew
            have r1 : BRow w1.heap.size w3.drew (.slice x1 y1 z1) ((stopsOf a d).take i) := brow_kept g2 (fun b e => b3.block b (g2.lt b e).2)
            have r2 : BRow w1.heap.size w3.drew (.slice x2 y2 z2) ((d.map (·.1)).take i) := brow_kept (B := w1.heap.size) (w := w3) ⟨g3.1, g3.2.imp id (fun ⟨g, cap, cur, e, hb', r⟩ => ⟨g, cap, cur, e, Nat.le_trans b2.size hb', r⟩)⟩ (fun _ _ => rfl)
            have b13 : Below w1.heap.size w1 w3.drew := (b2.trans (b3.mono b2.size)).drew
            have hne : ∀ b, (Value.slice x1 y1 z1).ownBlock = some b → (Value.slice x2 y2 z2).ownBlock ≠ some b := fun b e1 e2 => by
              have := (g2.lt b e1).2; have := (g3.lt b e2).1; omega
            have hvl := (hrv.lt vg rfl).2
            have hel := (hre.lt eg rfl).2
            have s1 := srow_dropC (nrow_below hrv b13) j (vc - j) (by omega) (by have := unhide HN; omega)
            have s2 := srow_dropC (nrow_below hre b13) j (ec - j) (by have := unhide HN; omega) (by have := unhide HN; omega)
            have hk2 : ∀ b, blkOf (.slice (if ec = j then some ⟨eg, 0, none⟩ else some ⟨eg, j, none⟩) (en - j) (ec - j)) = some b → b < w1.heap.size := fun b e => by
              have e' : eg = b := by
                by_cases hc : ec = j
                · rw [if_pos hc] at e; injection e
                · rw [if_neg hc] at e; injection e
              omega
            have hlv : ((stopsOf a d).take i).length + ((stopsOf a d).drop j).length ≤ 1000000 := by rw [List.length_take, List.length_drop, stopsOf_len]; have := unhide HN; omega
            have hle : ((d.map (·.1)).take i).length + ((d.map (·.1)).drop j).length ≤ 1000000 := by rw [List.length_take, List.length_drop, List.length_map]; have := unhide HN; omega
            obtain ⟨p3, p3n, p3c, wA, p4, p4n, p4c, wA2, hA1, hA2, fA1, fA2, fA3⟩ := app2 r1 r2 hne b13.size s1 s2 hk2 hlv hle
            obtain ⟨tc1, tc2⟩ := trail_cut a d i j u hil (by have := unhide HN; omega) (unhide HND) (unhide HU) (unhide HVJ)
            have HCI : Hid (∀ W v1 v2, NRow W v1 ((stopsOf a d).take i ++ (stopsOf a d).drop j) → NRow W v2 ((d.map (·.1)).take i ++ (d.map (·.1)).drop j) → Below w.heap.size w W → Calls Tryz.prog 17 #[v1, v2] W fun e w' => ∃ sa sn sc, e = .returned (.slice sa sn sc) ∧ Hid (BRow w.heap.size w' (.slice sa sn sc) (trail8 a d).2 ∧ Below w.heap.size w w')) := fun W v1 v2 h1 h2 h3 => by
              refine (unhide HIH (d.take i ++ d.drop j) (by rw [List.length_append, List.length_take, List.length_drop]; have := unhide HN; omega) (by rw [List.length_append, List.length_take, List.length_drop]; have := unhide HN; omega) W v1 v2 (by rw [tc2]; exact h1) (by rw [List.map_append, List.map_take, List.map_drop]; exact h2)).mono ?_
              rintro e w' hh
              obtain ⟨sa, sn, sc, rfl, g1, g2⟩ := unhide hh
              rw [tc1] at g1
              exact ⟨sa, sn, sc, rfl, ⟨g1.1, g1.2.imp id (fun ⟨g, cap, cur, e, hb', r⟩ => ⟨g, cap, cur, e, Nat.le_trans h3.size hb', r⟩)⟩, h3.trans (g2.mono h3.size)⟩
            have hBW : Below w.heap.size w w3.drew := hB.trans (b13.mono hB.size)
            have CIA := hide (unhide HCI wA2 _ _ (brow_at0 fA1) (brow_at0 fA2) (hBW.trans (fA3.mono (Nat.le_trans hB.size (Nat.le_refl _)))))
            have HR2 := hide hr2
            have HR3 := hide hr3
            have hz5 : (i : Int) ≤ (vc : Int) := by have := unhide HN; omega
            have hz6 : (i : Int) ≤ (ec : Int) := by have := unhide HN; omega
            have hz7 : (j : Int) ≤ (vn : Int) := by omega
            have hz8 : (j : Int) ≤ (en : Int) := by have := unhide HN; omega
            have HAB := hide (And.intro hA1 hA2)
            clear hr2 hr3 g2 g3 b2 b3 hd3 r1 r2 b13 hne hvl hel s1 s2 hk2 hlv hle fA1 fA2 fA3 tc1 tc2 HCI hBW hrv hre hB HB HIH HND HU HVJ hA1 hA2 hq1 hq2
            go_upto_region 8 with fail
            go_upto_region 9 with (at_builtin; refine Lib.wpList_append_run _ rfl _ _ 23 23 rfl _ _ rfl rfl _ _ (unhide HR2 _) ?_)
            go_upto_region 10 with (at_builtin; refine Lib.wpList_append_run _ rfl _ _ 23 23 rfl _ _ rfl rfl _ _ (unhide HR3 _) ?_)
            clear HR2 HR3 hz5 hz6
            obtain ⟨hA1, hA2⟩ := unhide HAB
            clear HAB
            refine wp_region_noPanic ?_
            refine regionL [] (fun y => True) (by kernel_rfl) trivial (fun hHeld => ?_)
            refine takeL (i := 0) (v := ?t2v0) (some 39) rfl rfl (by kernel_rfl) (by kernel_rfl) (by kernel_rfl) (by kernel_rfl) (by kernel_rfl) (fun _ _ _ h => h) (Or.inl ⟨by rfl, ?t2h0⟩) (by assumption) ?t2r0
            case t2h0 => (intro y hSu; (try dsimp only at hSu); go_simp; first | done | with_reducible rfl)
            (try simp only [Act.put, List.setIfInBounds_toArray, List.set_cons_zero, List.set_cons_succ])
            refine takeL (i := 1) (v := ?t2v1) (some 40) rfl rfl (by kernel_rfl) (by kernel_rfl) (by kernel_rfl) (by kernel_rfl) (by kernel_rfl) (fun _ _ _ h => h) (Or.inl ⟨by rfl, ?t2h1⟩) (by assumption) ?t2r1
            case t2h1 => (intro y hSu; (try dsimp only at hSu); go_simp; first | done | with_reducible rfl)
            (try simp only [Act.put, List.setIfInBounds_toArray, List.set_cons_zero, List.set_cons_succ])
            refine takeL (i := 2) (v := ?t2v2) (some 41) rfl rfl (by kernel_rfl) (by kernel_rfl) (by kernel_rfl) (by kernel_rfl) (by kernel_rfl) (fun _ _ _ h => h) (Or.inl ⟨by rfl, ?t2h2⟩) (by assumption) ?t2r2
            case t2h2 => (intro y hSu; (try dsimp only at hSu); go_simp; first | done | with_reducible rfl)
            (try simp only [Act.put, List.setIfInBounds_toArray, List.set_cons_zero, List.set_cons_succ])
            refine takeL (i := 3) (v := ?t2v3) (some 42) rfl rfl (by kernel_rfl) (by kernel_rfl) (by kernel_rfl) (by kernel_rfl) (by kernel_rfl) (fun _ _ _ h => h) (Or.inl ⟨by rfl, ?t2h3⟩) (by assumption) ?t2r3
            case t2h3 => (intro y hSu; (try dsimp only at hSu); go_simp; first | done | with_reducible rfl)
            (try simp only [Act.put, List.setIfInBounds_toArray, List.set_cons_zero, List.set_cons_succ])
            refine takeL (i := 5) (v := ?t2v5) (some 44) rfl rfl (by kernel_rfl) (by kernel_rfl) (by kernel_rfl) (by kernel_rfl) (by kernel_rfl) (fun _ _ _ h => h) (Or.inl ⟨by rfl, ?t2h5⟩) (by assumption) ?t2r5
            case t2h5 => (intro y hSu; (try dsimp only at hSu); go_simp; first | done | with_reducible rfl)
            (try simp only [Act.put, List.setIfInBounds_toArray, List.set_cons_zero, List.set_cons_succ])
            refine takeL (i := 6) (v := ?t2v6) (some 45) rfl rfl (by kernel_rfl) (by kernel_rfl) (by kernel_rfl) (by kernel_rfl) (by kernel_rfl) (fun _ _ _ h => h) (Or.inl ⟨by rfl, ?t2h6⟩) (by assumption) ?t2r6
            case t2h6 => (intro y hSu; (try dsimp only at hSu); go_simp; first | done | with_reducible rfl)
            (try simp only [Act.put, List.setIfInBounds_toArray, List.set_cons_zero, List.set_cons_succ])
            refine takeL (i := 7) (v := ?t2v7) (some 46) rfl rfl (by kernel_rfl) (by kernel_rfl) (by kernel_rfl) (by kernel_rfl) (by kernel_rfl) (fun _ _ _ h => h) (Or.inl ⟨by rfl, ?t2h7⟩) (by assumption) ?t2r7
            case t2h7 => (intro y hSu; (try dsimp only at hSu); go_simp; first | done | with_reducible rfl)
            (try simp only [Act.put, List.setIfInBounds_toArray, List.set_cons_zero, List.set_cons_succ])
            refine takeL (i := 8) (v := ?t2v8) (some 47) rfl rfl (by kernel_rfl) (by kernel_rfl) (by kernel_rfl) (by kernel_rfl) (by kernel_rfl) (fun _ _ _ h => h) (Or.inl ⟨by rfl, ?t2h8⟩) (by assumption) ?t2r8
            case t2h8 => (intro y hSu; (try dsimp only at hSu); go_simp; first | done | with_reducible rfl)
            (try simp only [Act.put, List.setIfInBounds_toArray, List.set_cons_zero, List.set_cons_succ])
            refine readyL (i := 4) (by kernel_rfl) rfl (fun K hK => ?_)
            refine step_append_run rfl (.tmp 39) (.tmp 42) 23 rfl _ _ (by simp [Act.eval]) (by simp [Act.eval]) _ _ (hA1 _) ?_
            refine hK.out _ _ (fun _ => trivial) ?_
            clear hK K
            simp only [Act.put, List.setIfInBounds_toArray]
            refine readyL (i := 9) (by kernel_rfl) rfl (fun K hK => ?_)
            refine step_append_run rfl (.tmp 44) (.tmp 47) 23 rfl _ _ (by simp [Act.eval]) (by simp [Act.eval]) _ _ (hA2 _) ?_
            refine hK.out _ _ (fun _ => trivial) ?_
            clear hK K
            simp only [Act.put]
            refine readyL (i := 10) (by kernel_rfl) rfl (fun K hK => ?_)
            go_simp
            refine (unhide CIA).mono ?_
            rintro e w9 ⟨sa, sn, sc, rfl, hF⟩
            (try dsimp only)
            refine hK.out _ _ (fun _ => trivial) ?_
            clear hK K
            (try simp only [Act.put, List.setIfInBounds_toArray, List.set_cons_zero, List.set_cons_succ])
            have hH4 := trivial
            refine takeL (i := 11) (v := ?t5v11) (some 4) rfl rfl (by kernel_rfl) (by kernel_rfl) (by kernel_rfl) (by kernel_rfl) (by kernel_rfl) (fun _ _ _ h => h) (Or.inl ⟨by rfl, ?t5h11⟩) (by assumption) ?t5r11
            case t5h11 => (intro y hSu; (try dsimp only at hSu); go_simp; first | done | with_reducible rfl)
            (try simp only [Act.put, List.setIfInBounds_toArray, List.set_cons_zero, List.set_cons_succ])
            refine doneL (by kernel_rfl) ?_ _
            refine NoPanic.normal ?_
            go_wp2_with fail
            all_goals
              go_ret
              exact ⟨sa, sn, sc, rfl, (unhide hF).1, (unhide hF).2⟩
          · have huv2 : (u == v) = false := by simp [huv]
            have hwi : wrap64 ((i : Int) + 1) = ((i + 1 : Nat) : Int) := by have := unhide HN; unfold wrap64; omega
            have HWI := hide hwi
            have HT2 : Hid (∀ p u', p < i + 1 → (stopsOf a d)[p]? = some u' → u' ≠ v) := fun p u' hp hq => by
              rcases Nat.lt_or_ge p i with q | q
              · exact (unhide hT).2 p u' q hq
              · obtain rfl : p = i := by omega
                rw [unhide HU] at hq
                injection hq with hq
                rw [← hq]; exact huv
            clear hu hwi
            go_upto_region 7 with fail
            go_quiet (fail)
            have HB := hide (below_drewN (unhide hT).1 nq)
            clear hT hcu hcv huv
            go_wp2_with fail
            (try rw [unhide HWI])
            exact ⟨⟨i + 1, rfl, by omega, unhide HB, unhide HT2⟩, by simp [intOf]; omega⟩
        · have hz2 : ¬ (i : Int) < (j : Int) := by omega
          obtain rfl : i = j := by omega
          have HS2 : Hid (Below w.heap.size w wr ∧ ((stopsOf a d).take (i + 1)).Nodup) := by
            refine ⟨(unhide hT).1, ?_⟩
            rw [take_succ_of (unhide HVJ), List.nodup_append]
            refine ⟨unhide HND, by simp, fun x hx y hy => ?_⟩
            rw [List.mem_singleton.1 hy]
            obtain ⟨p, hp⟩ := List.mem_iff_getElem?.1 hx
            have hpl := (List.getElem?_eq_some_iff.1 hp).1
            rw [List.length_take] at hpl
            rw [List.getElem?_take, if_pos (by omega)] at hp
            exact (unhide hT).2 p x (by omega) hp
          clear hT
          go_wp2_with fail
          (try rw [unhide HWJ])
          exact ⟨⟨i + 1, rfl, by omega, HS2⟩, by simp [intOf]; omega⟩
    · have hz : ¬ (j : Int) < (vn : Int) := by omega
      obtain ⟨hB, hnd⟩ := unhide hS
      rw [List.take_of_length_le (by rw [stopsOf_len]; have := unhide HN; omega)] at hnd
      obtain ⟨a', n', c', w2, hr, g1, g2⟩ := run_copy8 (w := wr) (brow_srow (nrow_below (unhide HE) hB)) (by rw [List.length_map]; have := unhide HN; omega)
      have HR := hide hr
      have HF : Hid (BRow w.heap.size w2 (.slice a' n' c') (trail8 a d).2 ∧ Below w.heap.size w w2) := by
        rw [trail_nodup a d hnd]
        exact ⟨⟨g1.1, g1.2.imp id (fun ⟨g, cap, cur, e, hb', r⟩ => ⟨g, cap, cur, e, Nat.le_trans hB.size hb', r⟩)⟩, hB.trans (g2.mono hB.size)⟩
      clear hS hB hnd hr g1 g2
      go_wp2_with (at_builtin; refine Lib.wpList_append_run _ rfl _ _ 23 23 rfl _ _ rfl rfl _ _ (unhide HR _) ?_)
      go_ret
      exact ⟨a', n', c', rfl, (unhide HF).1, (unhide HF).2⟩
end

section
open Go.RowKit Go.Maps
/-- The store s and the graph behind n calls, lists beside them, and boxes that stay. -/
def KB [Inhabited EntI] (kb : List (Nat × Obj)) (w : World) (s : Nat) (ps : List (EdgeV × Bool)) (vv ev : Value) (rd wr : Int) (n : Nat) (vs : List Int) (es : List EdgeV) (rows : List (Value × List Int)) (W : World) : Prop :=
  ∃ X g, Game n X g vv ev vs es W ∧ X.s = s ∧ (∀ b, X.L b ≠ none → w.heap.size ≤ b) ∧ Below w.heap.size w W ∧ g.ps = ps ∧ g.rd = rd ∧ g.wr = wr ∧ (∀ p ∈ kb, W.heap[p.1]? = some p.2 ∧ X.L p.1 = none) ∧ ∀ r ∈ rows, NRow W r.1 r.2 ∧ ∀ b, r.1.ownBlock = some b → X.L b = none
section
variable [Inhabited EntI] {kb : List (Nat × Obj)} {w W W' : World} {s n : Nat} {ps : List (EdgeV × Bool)} {vv ev : Value} {rd wr : Int} {vs : List Int} {es : List EdgeV} {rows : List (Value × List Int)}

theorem KB.below (h : KB kb w s ps vv ev rd wr n vs es rows W) (hb : Below W.heap.size W W') : KB kb w s ps vv ev rd wr n vs es rows W' := by
  obtain ⟨X, g, h1, h2, h3, h4, h5, h6, h7, hk, h8⟩ := h
  exact ⟨X, g, h1.below hb, h2, h3, h4.trans (hb.mono h4.size), h5, h6, h7, fun p hp => ⟨(hb.block _ (heap_lt (hk p hp).1)).trans (hk p hp).1, (hk p hp).2⟩, fun r hr => ⟨nrow_below (h8 r hr).1 hb, (h8 r hr).2⟩⟩
theorem KB.more (h : KB kb w s ps vv ev rd wr n vs es rows W) {v : Value} {ks : List Int} (hb : Below W.heap.size W W') (hr : BRow W.heap.size W' v ks) : KB kb w s ps vv ev rd wr n vs es ((v, ks) :: rows) W' := by
  obtain ⟨X, g, h1, h2, h3, h4, h5, h6, h7, hk, h8⟩ := h
  refine ⟨X, g, h1.below hb, h2, h3, h4.trans (hb.mono h4.size), h5, h6, h7, fun p hp => ⟨(hb.block _ (heap_lt (hk p hp).1)).trans (hk p hp).1, (hk p hp).2⟩, fun r hr' => ?_⟩
  rcases List.mem_cons.1 hr' with e | e
  · subst e; exact ⟨brow_at0 hr, fun b hb' => h1.st.mem.new (hr.lt b hb').1⟩
  · exact ⟨nrow_below (h8 r e).1 hb, (h8 r e).2⟩
theorem KB.less (h : KB kb w s ps vv ev rd wr n vs es rows W) {rows' : List (Value × List Int)} (hs : ∀ r ∈ rows', r ∈ rows) : KB kb w s ps vv ev rd wr n vs es rows' W := by
  obtain ⟨X, g, h1, h2, h3, h4, h5, h6, h7, hk, h8⟩ := h
  exact ⟨X, g, h1, h2, h3, h4, h5, h6, h7, hk, fun r hr => h8 r (hs r hr)⟩
theorem KB.row (h : KB kb w s ps vv ev rd wr n vs es rows W) {v : Value} {ks : List Int} (hr : (v, ks) ∈ rows) : NRow W v ks := by
  obtain ⟨X, g, h1, h2, h3, h4, h5, h6, h7, hk, h8⟩ := h
  exact (h8 _ hr).1
theorem KB.out (h : KB kb w s ps vv ev rd wr n vs es rows W) : Below w.heap.size w W := by
  obtain ⟨X, g, h1, h2, h3, h4, -⟩ := h
  exact h4
theorem KB.graph (h : KB kb w s ps vv ev rd wr n vs es rows W) : GRow 0 W ev es ∧ es.length ≤ 1024 ∧ Recs es ∧ (∀ x ∈ es, lk ps x.1 = some x) ∧ NRow W vv vs ∧ (∀ (i : Nat) (x : EdgeV), ps[i]? = some (x, true) → x ∈ es ∧ Wt x) := by
  obtain ⟨X, g, h1, h2, h3, h4, h5, h6, h7, hk, h8⟩ := h
  refine ⟨h1.erow, h1.elen, h1.rel.re, fun x hx => by rw [← h5]; exact h1.rel.lk hx, h1.vrow, fun i x hx => ?_⟩
  have h9 : X.ps[i]? = some (x, true) := by rw [h1.sh.ps, h5]; exact hx
  rw [← h5] at hx
  exact ⟨(h1.rel.mem x).2 ⟨i, hx⟩, h1.wt i x h9⟩
theorem kbFollow (h : KB kb w s ps vv ev rd wr n vs es rows W) (from_ : Int) {v : Value} {ks : List Int} (hv : SRow W v ks) (hvb : Part8 rows v) (hl : ks.length ≤ 60) (hn : n + 61 ≤ 1000) :
    Calls Tryz.prog 12 #[.iface 24 (.pointer (some ⟨s, 0, none⟩)), .int .i64 from_, v] W fun e w' => e = .returned (fAns from_ (trip ps from_ ks)) ∧ Hid (KB kb w s ps vv ev (rd + (tReads (trip ps from_ ks) : Int)) wr (n + 61) vs es rows w') := by
  obtain ⟨X, g, h1, rfl, h3, h4, h5, h6, h7, hk, h8⟩ := h
  have hps : X.ps = ps := h1.sh.ps.trans h5
  have hb0 := h1.bnd.rd0
  have hb1 := h1.bnd.rd1
  have hf := h1.few
  have := followS (X := X) from_ h1.st hv (by omega) (by rw [h1.sh.rd]; exact hb0) (by rw [h1.sh.rd]; omega) h1.wt (fun b hb => by
    obtain ⟨r, hr, e⟩ := hvb b hb
    exact ⟨((h8 r hr).1.lt b e).2, (h8 r hr).2 b e⟩)
  rw [hps] at this
  refine this.mono ?_
  rintro e w' ⟨rfl, hh⟩
  have hR := unhide hh
  have hrl := tReads_le ps ks from_
  refine ⟨rfl, _, _, (h1.read hR (by omega)).up8 (by omega) hn, rfl, h3, h4.trans (hR.2.2.1.below h4.size (fun b hb => h3 b hb)), h5, ?_, h7, fun p hp => ⟨(hR.2.2.old (heap_lt (hk p hp).1) (hk p hp).2).1.trans (hk p hp).1, (hk p hp).2⟩, fun r hr => ⟨nrow_kept (h8 r hr).1 (fun b e => (hR.2.2.old ((h8 r hr).1.lt b e).2 ((h8 r hr).2 b e)).1), (h8 r hr).2⟩⟩
  show g.rd + _ = rd + _
  rw [h6]
theorem kbThrough (h : KB kb w s ps vv ev rd wr n vs es rows W) (from_ : Int) {v : Value} {ks : List Int} (hv : SRow W v ks) (hvb : Part8 rows v) (hl : ks.length ≤ 60) (hn : n + 61 ≤ 1000) :
    Calls Tryz.prog 13 #[.iface 24 (.pointer (some ⟨s, 0, none⟩)), .int .i64 from_, v] W fun e w' => ∃ sa sn sc, e = .returned (.tuple #[.slice sa sn sc, .int .i64 (tPlace (trip ps from_ ks)), .int .i64 (tCode (trip ps from_ ks))]) ∧ Hid (KB kb w s ps vv ev (rd + (tReads (trip ps from_ ks) : Int)) wr (n + 61) vs es ((.slice sa sn sc, if (trip ps from_ ks).2 = none then stopsOf from_ (trip ps from_ ks).1 else []) :: rows) w' ∧ BRow W.heap.size w' (.slice sa sn sc) (if (trip ps from_ ks).2 = none then stopsOf from_ (trip ps from_ ks).1 else [])) := by
  obtain ⟨X, g, h1, rfl, h3, h4, h5, h6, h7, hk, h8⟩ := h
  have hps : X.ps = ps := h1.sh.ps.trans h5
  have hb0 := h1.bnd.rd0
  have hb1 := h1.bnd.rd1
  have hf := h1.few
  have := throughS (X := X) from_ h1.st hv (by omega) (by rw [h1.sh.rd]; exact hb0) (by rw [h1.sh.rd]; omega) h1.wt (fun b hb => by
    obtain ⟨r, hr, e⟩ := hvb b hb
    exact ⟨((h8 r hr).1.lt b e).2, (h8 r hr).2 b e⟩)
  rw [hps] at this
  refine this.mono ?_
  rintro e w' hh
  obtain ⟨sa, sn, sc, rfl, hR, hB⟩ := unhide hh
  have hrl := tReads_le ps ks from_
  refine ⟨sa, sn, sc, rfl, ⟨_, _, (h1.read hR (by omega)).up8 (by omega) hn, rfl, h3, h4.trans (hR.2.2.1.below h4.size (fun b hb => h3 b hb)), h5, ?_, h7, fun p hp => ⟨(hR.2.2.old (heap_lt (hk p hp).1) (hk p hp).2).1.trans (hk p hp).1, (hk p hp).2⟩, fun r hr => ?_⟩, hB⟩
  · show g.rd + _ = rd + _
    rw [h6]
  · rcases List.mem_cons.1 hr with e | e
    · subst e; exact ⟨brow_at0 hB, fun b hb' => h1.st.mem.new (hB.lt b hb').1⟩
    · exact ⟨nrow_kept (h8 r e).1 (fun b e' => (hR.2.2.old ((h8 r e).1.lt b e').2 ((h8 r e).2 b e')).1), (h8 r e).2⟩
theorem kbSimple (h : KB kb w s ps vv ev rd wr n vs es rows W) (from_ : Int) (hf0 : okN from_) {v : Value} {ks : List Int} (hv : SRow W v ks) (hvb : Part8 rows v) (hl : ks.length ≤ 60) (hn : n + 61 ≤ 1000) :
    Calls Tryz.prog 14 #[.iface 24 (.pointer (some ⟨s, 0, none⟩)), .int .i64 from_, v] W fun e w' => ∃ sa sn sc, e = .returned (.tuple #[.slice sa sn sc, .int .i64 (tPlace (trip ps from_ ks)), .int .i64 (tCode (trip ps from_ ks))]) ∧ Hid (KB kb w s ps vv ev (rd + (tReads (trip ps from_ ks) : Int)) wr (n + 61) vs es ((.slice sa sn sc, if (trip ps from_ ks).2 = none then (trail8 from_ (trip ps from_ ks).1).2 else []) :: rows) w' ∧ BRow W.heap.size w' (.slice sa sn sc) (if (trip ps from_ ks).2 = none then (trail8 from_ (trip ps from_ ks).1).2 else [])) := by
  obtain ⟨X, g, h1, rfl, h3, h4, h5, h6, h7, hk, h8⟩ := h
  have hps : X.ps = ps := h1.sh.ps.trans h5
  have hb0 := h1.bnd.rd0
  have hb1 := h1.bnd.rd1
  have hf := h1.few
  have := simpleS (X := X) from_ hf0 h1.st hv (by omega) (by rw [h1.sh.rd]; exact hb0) (by rw [h1.sh.rd]; omega) (fun b hb => by
    obtain ⟨r, hr, e⟩ := hvb b hb
    exact ⟨((h8 r hr).1.lt b e).2, (h8 r hr).2 b e⟩)
  rw [hps] at this
  refine this.mono ?_
  rintro e w' hh
  obtain ⟨sa, sn, sc, rfl, hR, hB⟩ := unhide hh
  have hrl := tReads_le ps ks from_
  refine ⟨sa, sn, sc, rfl, ⟨_, _, (h1.read hR (by omega)).up8 (by omega) hn, rfl, h3, h4.trans (hR.2.2.1.below h4.size (fun b hb => h3 b hb)), h5, ?_, h7, fun p hp => ⟨(hR.2.2.old (heap_lt (hk p hp).1) (hk p hp).2).1.trans (hk p hp).1, (hk p hp).2⟩, fun r hr => ?_⟩, hB⟩
  · show g.rd + _ = rd + _
    rw [h6]
  · rcases List.mem_cons.1 hr with e | e
    · subst e; exact ⟨brow_at0 hB, fun b hb' => h1.st.mem.new (hB.lt b hb').1⟩
    · exact ⟨nrow_kept (h8 r e).1 (fun b e' => (hR.2.2.old ((h8 r e).1.lt b e').2 ((h8 r e).2 b e')).1), (h8 r e).2⟩
theorem kbReads (h : KB kb w s ps vv ev rd wr n vs es rows W) : Calls Tryz.prog 11 #[.pointer (some ⟨s, 0, none⟩)] W fun e w' => e = .returned (.int .i64 rd) ∧ w' = W := by
  obtain ⟨X, g, h1, rfl, h3, h4, h5, h6, h7, hk, h8⟩ := h
  rw [← h6, ← h1.sh.rd]
  exact readsS h1.st
theorem KB.named (h : KB kb w s ps vv ev rd wr n vs es rows W) : Named8 ps := by
  obtain ⟨X, g, h1, h2, h3, h4, h5, h6, h7, hk, h8⟩ := h
  intro i x hx
  exact (h1.st.edge i x (by rw [h1.sh.ps, h5]; exact hx)).1
theorem KB.same (h : KB kb w s ps vv ev rd wr n vs es rows W) {v1 v2 : Value} {a b : List Int} (h1 : (v1, a) ∈ rows) (h2 : (v2, b) ∈ rows) (hl : a.length ≤ 1000000) :
    Calls Tryz.prog 16 #[v1, v2] W fun e w' => e = .returned (.bool (decide (a = b))) ∧ Hid (KB kb w s ps vv ev rd wr n vs es rows w') := by
  refine (refSame (h.row h1) (h.row h2) hl).mono ?_
  rintro e w' ⟨rfl, hh⟩
  exact ⟨rfl, h.below ((unhide hh).below _)⟩
theorem kb_of_kw (h : KW w s ps vv ev rd wr n vs es rows W) (o : Obj) : KB [(W.heap.size, o)] w s ps vv ev rd wr n vs es rows (W.alloc o) := by
  obtain ⟨X, g, h1, h2, h3, h4, h5, h6, h7, h8⟩ := h
  have hb := below_new W o
  refine ⟨X, g, h1.below hb, h2, h3, h4.trans (hb.mono h4.size), h5, h6, h7, fun p hp => ?_, fun r hr => ⟨nrow_below (h8 r hr).1 hb, (h8 r hr).2⟩⟩
  rw [List.mem_singleton.1 hp]
  exact ⟨heap_alloc_new _ _, h1.st.mem.new (Nat.le_refl _)⟩
theorem KB.box (h : KB kb w s ps vv ev rd wr n vs es rows W) {b : Nat} {o : Obj} (hb : (b, o) ∈ kb) : W.heap[b]? = some o := by
  obtain ⟨X, g, h1, h2, h3, h4, h5, h6, h7, hk, h8⟩ := h
  exact (hk _ hb).1
theorem KB.gr8 (h : KB kb w s ps vv ev rd wr n vs es rows W) : GR8 ps es := by
  obtain ⟨-, g2, g3, g4, -, g6⟩ := h.graph
  refine ⟨g2, g3, g4, fun e x hk => ?_⟩
  obtain ⟨i, rfl, hi⟩ := lk_some hk
  exact ⟨(g6 i x hi).1, h.named i x hi⟩
end
end

section
open Go.RowKit Go.Maps
theorem results_cell8 {fn : Func} {p : Tmp} {ty : TypeId} (h : fn.results = #[.cell p ty]) (tmps : Array Value) {P : Program} (w : World) (x : Addr) (vx : Value) (hp : tmps.getD p undef = .pointer (some x)) (hx : (loadVar ty x).run P w = .ok vx w) :
    (results fn tmps).run P w = .ok vx w := by
  have hp' : tmps[p]?.getD undef = .pointer (some x) := by simpa using hp
  simp [results, h, hp', asAddr, hx]
/-- A list whose block is nobody else's. -/
def Fr8 (kb : List (Nat × Obj)) (w : World) (vv ev : Value) (rest : List (Value × List Int)) (v : Value) : Prop := ∀ g, v.ownBlock = some g → w.heap.size ≤ g ∧ vv.ownBlock ≠ some g ∧ ev.ownBlock ≠ some g ∧ (∀ p ∈ kb, p.1 ≠ g) ∧ ∀ r ∈ rest, r.1.ownBlock ≠ some g
theorem Fr8.less {kb : List (Nat × Obj)} {w : World} {vv ev : Value} {rows rest : List (Value × List Int)} {v : Value} (h : Fr8 kb w vv ev rows v) (hs : ∀ r ∈ rest, r ∈ rows) : Fr8 kb w vv ev rest v := fun g hg => by
  obtain ⟨h1, h2, h3, h4, h5⟩ := h g hg
  exact ⟨h1, h2, h3, h4, fun r hr => h5 r (hs r hr)⟩
theorem Fr8.other {kb : List (Nat × Obj)} {w : World} {vv ev : Value} {v2 v1' : Value} {k1 k2 : List Int} (h2 : Fr8 kb w vv ev [] v2) (h1 : Fr8 kb w vv ev [(v2, k2)] v1') : Fr8 kb w vv ev [(v1', k1)] v2 := fun g hg => by
  obtain ⟨q1, q2, q3, q4, -⟩ := h2 g hg
  refine ⟨q1, q2, q3, q4, fun r hr e => ?_⟩
  rw [List.mem_singleton.1 hr] at e
  exact (h1 g e).2.2.2.2 (v2, k2) (by simp) hg
theorem brow_set {B : Nat} {W : World} {g n c k : Nat} {ks : List Int} (h : BRow B W (.slice (some ⟨g, 0, none⟩) n c) ks) (x : Int) (_ : k < n) : (∀ o, W.frozen? ⟨g, o, none⟩ = false) ∧ BRow B (W.setCell ⟨g, k, none⟩ (.int .i64 x)) (.slice (some ⟨g, 0, none⟩) n c) (ks.set k x) := by
  rcases h.2 with ⟨e, -⟩ | ⟨g', cap, cur, e, hb, hgg, hc, hm, hs, ht⟩
  · cases e
  · obtain rfl : g = g' := by injection e with e1; injection e1 with e1; injection e1
    refine ⟨fun o => frozen_of_row W _ o _ _ hgg, by simp, .inr ⟨g, cap, _, ?_, hb, heap_setCell_same W g k cur 3 _ hgg, ?_, hm, by simpa using hs, ?_⟩⟩
    · rw [List.length_set]; exact e
    · rw [List.length_set]; exact hc
    · rw [List.length_set, Array.toList_setIfInBounds, List.take_set, ht, List.map_set]
section
variable [Inhabited EntI] {kb : List (Nat × Obj)} {w W W' : World} {s n : Nat} {ps : List (EdgeV × Bool)} {vv ev : Value} {rd wr : Int} {vs : List Int} {es : List EdgeV} {rows rest : List (Value × List Int)}

theorem KB.fresh (h : KB kb w s ps vv ev rd wr n vs es rows W) {g : Nat} (hg : W.heap.size ≤ g) : w.heap.size ≤ g ∧ vv.ownBlock ≠ some g ∧ ev.ownBlock ≠ some g ∧ (∀ p ∈ kb, p.1 ≠ g) ∧ ∀ r ∈ rows, r.1.ownBlock ≠ some g := by
  obtain ⟨X, gg, h1, h2, h3, h4, h5, h6, h7, hk, h8⟩ := h
  refine ⟨Nat.le_trans h4.size hg, fun e => ?_, fun e => ?_, fun p hp e => ?_, fun r hr e => ?_⟩
  · have := (h1.vrow.lt g e).2; omega
  · have := (h1.erow.lt g e).2; omega
  · have := heap_lt (hk p hp).1; omega
  · have := ((h8 r hr).1.lt g e).2; omega
theorem KB.newRow (h : KB kb w s ps vv ev rd wr n vs es rows W) {v : Value} {ks : List Int} (hr : BRow W.heap.size W' v ks) : Fr8 kb w vv ev rows v := fun g hg => h.fresh (hr.lt g hg).1
theorem Game.turn {n : Nat} {X : Sto} {g : Gr} (h : Game n X g vv ev vs es W) {v : Value} (h1 : ∀ b, v.ownBlock = some b → X.L b = none ∧ vv.ownBlock ≠ some b ∧ ev.ownBlock ≠ some b) (ht : Turned (fun b => v.ownBlock = some b) W W') : Game n X g vv ev vs es W' := by
  refine ⟨h.st.kept (fun b hb => ht.block b (h.st.mem.lt b hb) (fun e => hb (h1 b e).1)) ht.size, h.sh, h.rel, h.bnd, h.few, nrow_kept h.vrow (fun b e => ht.block b (h.vrow.lt b e).2 (fun e2 => (h1 b e2).2.1 e)), grow_kept h.erow (fun b e => ht.block b (h.erow.lt b e).2 (fun e2 => (h1 b e2).2.2 e)), h.vfr, h.efr⟩
/-- A list is turned into another one, by a call that leaves all else. -/
theorem KB.put {v v' : Value} {ks ks' : List Int} (h : KB kb w s ps vv ev rd wr n vs es ((v, ks) :: rest) W) (hf : Fr8 kb w vv ev rest v) (ht : Turned (fun b => v.ownBlock = some b) W W') (hr : NRow W' v' ks') (hn : ∀ b, v'.ownBlock = some b → v.ownBlock = some b ∨ W.heap.size ≤ b) :
    KB kb w s ps vv ev rd wr n vs es ((v', ks') :: rest) W' ∧ Fr8 kb w vv ev rest v' := by
  have hfr := fun g => (h.less (rows' := rest) (fun r hr => by simp [hr])).fresh (g := g)
  obtain ⟨X, gg, h1, h2, h3, h4, h5, h6, h7, hk, h8⟩ := h
  have hv := h8 (v, ks) (by simp)
  refine ⟨⟨X, gg, h1.turn (fun b e => ⟨hv.2 b e, (hf b e).2.1, (hf b e).2.2.1⟩) ht, h2, h3, h4.trans (ht.below h4.size (fun b e => (hf b e).1)), h5, h6, h7, fun p hp => ⟨(ht.block _ (heap_lt (hk p hp).1) (fun e => (hf _ e).2.2.2.1 p hp rfl)).trans (hk p hp).1, (hk p hp).2⟩, fun r hr' => ?_⟩, fun g hg => ?_⟩
  · rcases List.mem_cons.1 hr' with e | e
    · subst e
      refine ⟨hr, fun b eb => ?_⟩
      rcases hn b eb with q | q
      · exact hv.2 b q
      · exact h1.st.mem.new q
    · have hq := h8 r (List.mem_cons_of_mem _ e)
      exact ⟨nrow_kept hq.1 (fun b eb => ht.block b (hq.1.lt b eb).2 (fun e2 => (hf b e2).2.2.2.2 r e eb)), hq.2⟩
  · rcases hn g hg with q | q
    · exact hf g q
    · exact hfr g q
theorem KB.write {g m c k : Nat} {ks : List Int} (x : Int) (h : KB kb w s ps vv ev rd wr n vs es ((.slice (some ⟨g, 0, none⟩) m c, ks) :: rest) W) (hf : Fr8 kb w vv ev rest (.slice (some ⟨g, 0, none⟩) m c)) (hk : k < m) :
    (∃ y, W.cell? ⟨g, k, none⟩ = some (.int .i64 y)) ∧ (∀ o, W.frozen? ⟨g, o, none⟩ = false) ∧ KB kb w s ps vv ev rd wr n vs es ((.slice (some ⟨g, 0, none⟩) m c, ks.set k x) :: rest) (W.setCell ⟨g, k, none⟩ (.int .i64 x)) := by
  have hr := h.row (v := .slice (some ⟨g, 0, none⟩) m c) (ks := ks) (by simp)
  obtain ⟨b1, b2⟩ := brow_set hr x hk
  obtain ⟨a', c', e', -⟩ := brow_shape hr
  injection e' with e1 e2 e3
  exact ⟨⟨_, brow_at hr (List.getElem?_eq_getElem (by omega))⟩, b1, (h.put hf (turned_setCell W ⟨g, k, none⟩ (.int .i64 x) rfl) b2 (fun b e => .inl e)).1⟩
theorem KB.app {v : Value} {ks : List Int} (x : Int) (h : KB kb w s ps vv ev rd wr n vs es ((v, ks) :: rest) W) (hf : Fr8 kb w vv ev rest v) (hl : ks.length ≤ 2000000) :
    ∃ a' n' c' w', (∀ ty, (Builtin.append_ #[23, 23] ty #[v, .slice (some ⟨W.heap.size, 0, none⟩) 1 1]).run Tryz.prog (W.alloc (.cells #[.int .i64 x] 3)) = .ok (.slice a' n' c') w') ∧ n' = ks.length + 1 ∧ KB kb w s ps vv ev rd wr n vs es ((.slice a' n' c', ks ++ [x]) :: rest) w' ∧ Fr8 kb w vv ev rest (.slice a' n' c') := by
  obtain ⟨a', n', c', w', hr, g1, g2, g3⟩ := run_app8 x (h.row (v := v) (ks := ks) (by simp)) (Nat.zero_le _) hl
  obtain ⟨q1, q2⟩ := h.put hf g2 g1 g3
  obtain ⟨a2, c2, e', -⟩ := brow_shape g1
  injection e' with e1 e2 e3
  exact ⟨a', n', c', w', hr, by rw [e2]; simp, q1, q2⟩
/-- Two lists side by side. -/
structure O2 (kb : List (Nat × Obj)) (w : World) (s : Nat) (ps : List (EdgeV × Bool)) (vv ev : Value) (rd wr : Int) (n : Nat) (vs : List Int) (es : List EdgeV) (v1 : Value) (k1 : List Int) (v2 : Value) (k2 : List Int) (W : World) : Prop where
  on : KB kb w s ps vv ev rd wr n vs es [(v1, k1), (v2, k2)] W
  f1 : Fr8 kb w vv ev [(v2, k2)] v1
  f2 : Fr8 kb w vv ev [(v1, k1)] v2
theorem O2.swap {v1 v2 : Value} {k1 k2 : List Int} (h : O2 kb w s ps vv ev rd wr n vs es v1 k1 v2 k2 W) : O2 kb w s ps vv ev rd wr n vs es v2 k2 v1 k1 W :=
  ⟨h.on.less (fun r hr => by simp at hr ⊢; exact hr.symm), h.f2, h.f1⟩
theorem O2.write {v2 : Value} {k1 k2 : List Int} {g m c k : Nat} (x : Int) (h : O2 kb w s ps vv ev rd wr n vs es (.slice (some ⟨g, 0, none⟩) m c) k1 v2 k2 W) (hk : k < m) :
    (∃ y, W.cell? ⟨g, k, none⟩ = some (.int .i64 y)) ∧ (∀ o, W.frozen? ⟨g, o, none⟩ = false) ∧ O2 kb w s ps vv ev rd wr n vs es (.slice (some ⟨g, 0, none⟩) m c) (k1.set k x) v2 k2 (W.setCell ⟨g, k, none⟩ (.int .i64 x)) := by
  obtain ⟨b1, b2, b3⟩ := h.on.write x h.f1 hk
  exact ⟨b1, b2, b3, h.f1, fun g hg => by
    obtain ⟨q1, q2, q3, q4, q5⟩ := h.f2 g hg
    exact ⟨q1, q2, q3, q4, fun r hr => by rw [List.mem_singleton.1 hr]; exact q5 (.slice (some ⟨_, 0, none⟩) m c, k1) (by simp)⟩⟩
theorem O2.app {v1 v2 : Value} {k1 k2 : List Int} (x : Int) (h : O2 kb w s ps vv ev rd wr n vs es v1 k1 v2 k2 W) (hl : k1.length ≤ 2000000) :
    ∃ a' n' c' w', (∀ ty, (Builtin.append_ #[23, 23] ty #[v1, .slice (some ⟨W.heap.size, 0, none⟩) 1 1]).run Tryz.prog (W.alloc (.cells #[.int .i64 x] 3)) = .ok (.slice a' n' c') w') ∧ n' = k1.length + 1 ∧ O2 kb w s ps vv ev rd wr n vs es (.slice a' n' c') (k1 ++ [x]) v2 k2 w' := by
  obtain ⟨a', n', c', w', hr, e, q1, q2⟩ := h.on.app x h.f1 hl
  exact ⟨a', n', c', w', hr, e, q1, q2, (h.f2.less (fun r hr => by cases hr)).other (k1 := k1 ++ [x]) q2⟩
theorem kbTells (h : KB kb w s ps vv ev rd wr n vs es rows W) : Calls Tryz.prog 20 #[.pointer (some ⟨s, 0, none⟩), .agg #[vv, ev, .int .i64 rd, .int .i64 wr]] W fun e w' => e = .returned (.bool true) ∧ Hid (Below W.heap.size W w' ∧ Below w.heap.size w w') := by
  obtain ⟨X, g, h1, rfl, h3, h4, h5, rfl, rfl, hk, h8⟩ := h
  refine (tellsS h1).mono ?_
  rintro e w' ⟨rfl, hh⟩
  exact ⟨rfl, unhide hh, h4.trans ((unhide hh).mono h4.size)⟩
end

set_option maxHeartbeats 1000000 in
set_option maxRecDepth 100000 in
theorem regaugedS (a1 a2 : Option Addr) (m1 q1 m2 q2 : Nat) (rd wr r : Int) (w : World) : Calls Tryz.prog 21 #[.agg #[.slice a1 m1 q1, .slice a2 m2 q2, .int .i64 rd, .int .i64 wr], .int .i64 r] w fun e w' => e = .returned (.agg #[.slice a1 m1 q1, .slice a2 m2 q2, .int .i64 r, .int .i64 wr]) ∧ Hid (Below w.heap.size w w') := by
  go_enter Tryz.func21, Tryz.ntmps21
  go_wp2_with fail
  change bodyPost _ _ _ _ _ ((w.alloc (oG (.slice a1 m1 q1) (.slice a2 m2 q2) r wr)).alloc (oG (.slice a1 m1 q1) (.slice a2 m2 q2) r wr))
  have hb : Below w.heap.size w ((w.alloc (oG (.slice a1 m1 q1) (.slice a2 m2 q2) r wr)).alloc (oG (.slice a1 m1 q1) (.slice a2 m2 q2) r wr)) := (below_new w _).trans ((below_new _ _).mono (by simp))
  have hg : ((w.alloc (oG (.slice a1 m1 q1) (.slice a2 m2 q2) r wr)).alloc (oG (.slice a1 m1 q1) (.slice a2 m2 q2) r wr)).heap[w.heap.size + 1]? = some (oG (.slice a1 m1 q1) (.slice a2 m2 q2) r wr) := by
    have := heap_alloc_new (w.alloc (oG (.slice a1 m1 q1) (.slice a2 m2 q2) r wr)) (oG (.slice a1 m1 q1) (.slice a2 m2 q2) r wr)
    rwa [show (w.alloc (oG (.slice a1 m1 q1) (.slice a2 m2 q2) r wr)).heap.size = w.heap.size + 1 by simp] at this
  refine bodyPost_ret (results_cell8 rfl _ _ ⟨w.heap.size + 1, 0, none⟩ _ rfl (loadG _ _ _ _ _ _ hg)) rfl ?_
  exact ⟨rfl, hb⟩
end

end Go.Proofs.YtgocbcacfcfblaaGreat

/- WalkJoins, walked. -/
import Derived.Test.YtgocbcacfcfblaaGreatWkGame
namespace Go.Proofs.YtgocbcacfcfblaaGreat
open Go.RowKit Go.Maps

/-- The store alone, beside lists. -/
def KD [Inhabited EntI] (w : World) (s : Nat) (ps : List (EdgeV × Bool)) (rows : List (Value × List Int)) (W : World) : Prop :=
  ∃ X, StAt W X ∧ X.s = s ∧ X.ps = ps ∧ (0 ≤ X.rd ∧ X.rd ≤ 1000) ∧ (∀ (i : Nat) (x : EdgeV), X.ps[i]? = some (x, true) → Wt x) ∧ (∀ b, X.L b ≠ none → w.heap.size ≤ b) ∧ Below w.heap.size w W ∧ ∀ r ∈ rows, NRow W r.1 r.2 ∧ ∀ b, r.1.ownBlock = some b → X.L b = none
/-- One edge less. -/
def Less8 (ps ps' : List (EdgeV × Bool)) (e : Int) : Prop := lk ps' e = none ∧ ∀ e', e' ≠ e → lk ps' e' = lk ps e'
theorem less_set {ps : List (EdgeV × Bool)} (i : Nat) (z : EdgeV) : Less8 ps (ps.set i (z, false)) ((i : Int) + 1) := by
  constructor
  · cases h : lk (ps.set i (z, false)) ((i : Int) + 1) with
    | none => rfl
    | some x =>
      obtain ⟨j, hj, hx⟩ := lk_some h
      obtain rfl : j = i := by omega
      rw [List.getElem?_set] at hx
      simp only [if_true] at hx
      split at hx <;> cases hx
  · intro e' he
    cases h : lk ps e' with
    | none =>
      cases h2 : lk (ps.set i (z, false)) e' with
      | none => rfl
      | some x =>
        obtain ⟨j, rfl, hx⟩ := lk_some h2
        have hne : i ≠ j := fun e => he (by omega)
        rw [List.getElem?_set_ne hne] at hx
        rw [lk_yes hx] at h; cases h
    | some x =>
      obtain ⟨j, rfl, hx⟩ := lk_some h
      have hne : i ≠ j := fun e => he (by omega)
      exact lk_yes (by rw [List.getElem?_set_ne hne]; exact hx)
theorem trip_less {ps ps' : List (EdgeV × Bool)} {e0 : Int} (h : Less8 ps ps' e0) : ∀ {es : List Int} {a : Int} {d : List EdgeV} {m : Nat}, Way ps a es d → es[m]? = some e0 → (trip ps' a es).2 = some 6 ∧ (trip ps' a es).1.length ≤ m
  | [], a, d, m, _, hm => by cases hm
  | e :: es, a, d, m, hw, hm => by
    obtain ⟨x, d', rfl, h2, h3, h4⟩ := hw
    rw [trip]
    by_cases he : e = e0
    · rw [he, h.1]; exact ⟨rfl, Nat.zero_le _⟩
    · rw [h.2 e he, h2]
      simp only
      rw [if_pos h3]
      match m, hm with
      | 0, hm => exact absurd (by simpa using hm) he
      | m + 1, hm =>
        obtain ⟨q1, q2⟩ := trip_less h h4 (m := m) (by simpa using hm)
        exact ⟨q1, by simpa using q2⟩
section
variable [Inhabited EntI] {w W W' : World} {s n : Nat} {ps : List (EdgeV × Bool)} {vv ev : Value} {rd wr : Int} {vs : List Int} {es : List EdgeV} {rows : List (Value × List Int)}

theorem kwDrop (h : KW w s ps vv ev rd wr n vs es rows W) {e : Int} {x : EdgeV} (hk : lk ps e = some x) :
    Calls Tryz.prog 19 #[.pointer (some ⟨s, 0, none⟩), .int .i64 e] W fun r w' => r = .returned (.tuple #[.agg #[.int .i64 x.1, .int .i64 x.2.1, .int .i64 x.2.2.1, .int .u32 x.2.2.2], .int .i64 0]) ∧ Hid (∃ ps', Less8 ps ps' e ∧ KD w s ps' rows w') := by
  obtain ⟨X, g, h1, rfl, h3, h4, h5, h6, h7, h8⟩ := h
  have hps : X.ps = ps := h1.sh.ps.trans h5
  obtain ⟨i, rfl, hi⟩ := lk_some hk
  have hw := h1.wrs
  refine (dropES i h1.st (by rw [hps]; exact hi) (by have := h1.nb; have := h1.sh.n; omega) (by rw [h1.sh.wr]; omega) (by rw [h1.sh.wr]; omega)).mono ?_
  rintro e w' ⟨rfl, hh⟩
  obtain ⟨X', hS, r1, r2, r3, r4, r5, r6⟩ := unhide hh
  obtain ⟨t1, t2, t3⟩ := hS
  have hb0 := h1.bnd.rd0
  have hb1 := h1.bnd.rd1
  have hf := h1.few
  refine ⟨rfl, _, less_set i _, X', t1, t2, by rw [r1, hps], ⟨by rw [r4, h1.sh.rd]; exact hb0, by rw [r4, h1.sh.rd]; omega⟩, fun j y hy => ?_, fun b hb => (t3.2 b hb).elim (h3 b) (fun e => Nat.le_trans h4.size e), h4.trans (t3.1.below h4.size (fun b hb => h3 b hb)), fun r hr => ?_⟩
  · rw [r1] at hy
    by_cases hj : i = j
    · subst hj
      rw [List.getElem?_set] at hy
      simp only [if_true] at hy
      split at hy <;> cases hy
    · rw [List.getElem?_set_ne hj] at hy
      exact h1.wt j y hy
  · have k := (h8 r hr)
    refine ⟨nrow_kept k.1 (fun b e => (t3.old (k.1.lt b e).2 (k.2 b e)).1), fun b e => (t3.old (k.1.lt b e).2 (k.2 b e)).2⟩
theorem kdFollow (h : KD w s ps rows W) (from_ : Int) {v : Value} {ks : List Int} (hv : SRow W v ks) (hvb : Part8 rows v) (hl : ks.length ≤ 60) :
    Calls Tryz.prog 12 #[.iface 24 (.pointer (some ⟨s, 0, none⟩)), .int .i64 from_, v] W fun e w' => e = .returned (fAns from_ (trip ps from_ ks)) ∧ Hid (Below w.heap.size w w') := by
  obtain ⟨X, h1, rfl, rfl, h4, h5, h6, h7, h8⟩ := h
  refine (followS (X := X) from_ h1 hv (by omega) h4.1 (by omega) h5 (fun b hb => ?_)).mono ?_
  · obtain ⟨r, hr, e⟩ := hvb b hb
    exact ⟨((h8 r hr).1.lt b e).2, (h8 r hr).2 b e⟩
  · rintro e w' ⟨rfl, hh⟩
    exact ⟨rfl, h7.trans ((unhide hh).2.2.1.below h7.size (fun b hb => h6 b hb))⟩
end
theorem srow_take {w : World} {g o c : Nat} {ks : List Int} (h : SRow w (.slice (some ⟨g, o, none⟩) ks.length c) ks) (n c' : Nat) (hn : n ≤ ks.length) : SRow w (.slice (some ⟨g, o, none⟩) n c') (ks.take n) := by
  obtain ⟨a, c2, e, h2⟩ := h
  injection e with e1 e2 e3
  subst e1
  refine ⟨_, c', by rw [List.length_take, Nat.min_eq_left hn], fun j k hj => ?_⟩
  have hj' : ks[j]? = some k := by
    rw [List.getElem?_take] at hj
    split at hj
    · exact hj
    · cases hj
  exact h2 j k hj'
theorem srow_drop {w : World} {g o c : Nat} {ks : List Int} (h : SRow w (.slice (some ⟨g, o, none⟩) ks.length c) ks) (n c' : Nat) : SRow w (.slice (some ⟨g, o + n, none⟩) (ks.length - n) c') (ks.drop n) := by
  obtain ⟨a, c2, e, h2⟩ := h
  injection e with e1 e2 e3
  subst e1
  refine ⟨_, c', by rw [List.length_drop], fun j k hj => ?_⟩
  rw [List.getElem?_drop] at hj
  obtain ⟨g', o', e, hc⟩ := h2 (n + j) k hj
  injection e with e
  injection e with e1 e2
  subst e1 e2
  exact ⟨g, o + n, rfl, by rw [Nat.add_assoc]; exact hc⟩
theorem part_of {rows : List (Value × List Int)} {g n c : Nat} {ks : List Int} (h : (Value.slice (some ⟨g, 0, none⟩) n c, ks) ∈ rows) (o n' c' : Nat) : Part8 rows (.slice (some ⟨g, o, none⟩) n' c') := fun b hb => by
  have e : g = b := by injection hb
  exact ⟨_, h, by rw [← e]; rfl⟩
theorem fAns_ok (a : Int) (d : List EdgeV) : fAns a (d, none) = .tuple #[.int .i64 (endOf a d), .int .u32 (costOf d), .int .i64 0, .int .i64 0] := if_pos rfl
theorem stops_at (a : Int) (d1 d2 : List EdgeV) (m : Nat) (h : d1.length = m) : (stopsOf a (d1 ++ d2))[m]? = some (endOf a d1) := by
  subst h
  induction d1 generalizing a with
  | nil => rfl
  | cons x d1 ih =>
    have := ih x.2.2.1
    simpa [stopsOf, endOf] using this
theorem way_lk {ps : List (EdgeV × Bool)} : ∀ {es : List Int} {a e : Int} {d : List EdgeV} {k : Nat}, Way ps a es d → es[k]? = some e → ∃ x, lk ps e = some x
  | [], a, e, d, k, _, hk => by cases hk
  | e' :: es, a, e, d, k, h, hk => by
    obtain ⟨x, d', rfl, h2, h3, h4⟩ := h
    match k, hk with
    | 0, hk => exact ⟨x, by rw [← show e' = e by simpa using hk]; exact h2⟩
    | k + 1, hk => exact way_lk h4 (k := k) (by simpa using hk)
theorem srow_nil (w : World) (a : Option Addr) (c : Nat) : SRow w (.slice a 0 c) [] := ⟨a, c, rfl, fun j k hj => by cases hj⟩

set_option maxHeartbeats 8000000 in
set_option maxRecDepth 100000 in
theorem joins_any [Inhabited EntI] (a : Option Addr) (len cap : Nat) (o : Nat → OpV) (st : Int × Int) (pv : Value) (pks : List Int) (w : World) (h : IsOps w a len o) (hp : SRow w pv pks) :
    Calls Tryz.prog 5 #[.slice a len cap, .agg #[.int .i64 st.1, .int .i64 st.2], pv] w fun e w' => e = .returned (.bool true) ∧ Below w.heap.size w w' := by
  obtain ⟨from_, ct⟩ := st
  simp only
  have CB : Hid (∀ W, Below w.heap.size w W → Calls Tryz.prog 7 #[.slice a len cap] W fun e w' => Hid (BAns W e w')) := fun W hW => builtS a len cap o W (by
    rcases h with e | ⟨b, off, e, h0, hc⟩
    · exact .inl e
    · refine .inr ⟨b, off, e, h0, fun i hi => ⟨?_, (hc i hi).2⟩⟩
      exact opAt_below (hc i hi).1 hW)
  have CW : Hid (∀ W, Calls Tryz.prog 8 #[] W fun e w' => e = .returned (.bool true) ∧ Below W.heap.size W w') := fun W => awake8S W
  have HP := hide hp
  obtain ⟨pa, pc, hpv, -⟩ := hp
  clear h
  have hb0 := below_new w (.cells #[.int .i64 from_, .int .i64 ct] 47)
  have y0 : (w.alloc (.cells #[.int .i64 from_, .int .i64 ct] 47)).cell? ⟨w.heap.size, 0, none⟩ = some (.int .i64 from_) := (cell_of_row _ _ 0 _ _ (0, 0) (heap_alloc_new w (.cells #[.int .i64 from_, .int .i64 ct] 47))).trans rfl
  have y1 : (w.alloc (.cells #[.int .i64 from_, .int .i64 ct] 47)).cell? ⟨w.heap.size, 1, none⟩ = some (.int .i64 ct) := (cell_of_row _ _ 1 _ _ (0, 0) (heap_alloc_new w (.cells #[.int .i64 from_, .int .i64 ct] 47))).trans rfl
  have HB0 := hide hb0
  clear hb0
  subst hpv
  generalize pks.length = pl at *
  go_enter Tryz.func5, Tryz.ntmps5
  go_upto_region 1 with fail
  change Code.wp _ _ _ _ (w.alloc (.cells #[.int .i64 from_, .int .i64 ct] 47))
  generalize w.alloc (.cells #[.int .i64 from_, .int .i64 ct] 47) = w0 at *
  go_quiet (fail)
  clear y0 y1
  go_wp2_with fail
  refine (unhide CB _ (by exact below_drewN (unhide HB0) _)).mono ?_
  rintro e w1 hh
  obtain ⟨s, a1, m1, q1, a2, m2, q2, rd, wr0, rfl, n, X, g, vs, es, hn, hG, hs, hL, hB, hrd, hwr⟩ := unhide hh
  have hKW := kw_built hG hn hs hrd hwr (below_drewN (unhide HB0) nq) hL hB
  have HKW := hide (hKW.below (below_new w1 (oG (.slice a1 m1 q1) (.slice a2 m2 q2) rd wr0)))
  generalize g.ps = ps at *
  have HG : Hid (∀ V, Below (w1.alloc (oG (.slice a1 m1 q1) (.slice a2 m2 q2) rd wr0)).heap.size (w1.alloc (oG (.slice a1 m1 q1) (.slice a2 m2 q2) rd wr0)) V → (V.cell? ⟨w1.heap.size, 0, none⟩ = some (.slice a1 m1 q1) ∧ V.cell? ⟨w1.heap.size, 1, none⟩ = some (.slice a2 m2 q2) ∧ V.cell? ⟨w1.heap.size, 2, none⟩ = some (.int .i64 rd) ∧ V.cell? ⟨w1.heap.size, 3, none⟩ = some (.int .i64 wr0))) := fun V hV => by
    have hg : V.heap[w1.heap.size]? = some (oG (.slice a1 m1 q1) (.slice a2 m2 q2) rd wr0) := (hV.block _ (by simp)).trans (heap_alloc_new _ _)
    obtain ⟨c0, c1, c2, c3, -⟩ := cellsG hg
    exact ⟨c0, c1, c2, c3⟩
  clear hh hG hs hL hB hrd hwr CB hn hKW HB0
  go_upto_region 3 with fail
  change Code.wp _ _ _ _ (w1.alloc (oG (.slice a1 m1 q1) (.slice a2 m2 q2) rd wr0))
  generalize w1.alloc (oG (.slice a1 m1 q1) (.slice a2 m2 q2) rd wr0) = w2 at *
  generalize w1.heap.size = b1 at *
  go_wp2_with fail
  refine (unhide CW _).mono ?_
  rintro e w3 ⟨rfl, hb3⟩
  obtain ⟨c0, c1, c2, c3⟩ := unhide HG w3 hb3
  have CV := hide (kwWander ((unhide HKW).below hb3) from_ (unhide HP))
  clear CW HG hb3 HKW HP
  go_wp2_with fail
  refine (unhide CV).mono ?_
  rintro e w4 ⟨ea, en, ec, rfl, h4⟩
  obtain ⟨l, d, hW, hl, hen, hK4⟩ := unhide h4
  clear CV c0 c1 c2 c3 h4
  have hrow := hK4.row (v := .slice ea en ec) (ks := l) (by simp)
  obtain ⟨m, hmz, hm⟩ := pick8 ct (en + 1) (by omega) (by omega)
  have hu : IntKind.u64.wrap ((en : Int) + 1) = (en : Int) + 1 := by
    unfold IntKind.wrap; simp [IntKind.signed, IntKind.bits]; omega
  have hwn : wrap64 ((en : Int) + 1) = (en : Int) + 1 := by unfold wrap64; omega
  have hwn2 : IntKind.i64.wrap ((en : Int) + 1) = (en : Int) + 1 := by rw [IntKind.wrap_i64]; omega
  have hmz2 : wrap64 ((IntKind.u64.wrap ct).tmod ((en : Int) + 1)) = (m : Int) := by rw [← hmz]; norm_cast
  have hz0 : ¬ (en : Int) + 1 = 0 := by omega
  have HW := hide hW
  have HK4 := hide hK4
  have HL : Hid (l.length ≤ 60 ∧ en = l.length) := ⟨hl, hen⟩
  have HM : Hid (m ≤ en ∧ en ≤ ec) := by
    refine ⟨by omega, ?_⟩
    obtain ⟨a', c', e, hle⟩ := brow_shape hrow
    injection e with e1 e2 e3
    omega
  clear hW hK4 hl hen hmz hm
  rcases nrow_shape hrow with ⟨e1, e2⟩ | ⟨g, c, e1⟩
  · injection e1 with e1 e2 e3
    subst e1 e2 e3
    obtain rfl : m = 0 := by have := unhide HM; omega
    obtain rfl : l = [] := List.length_eq_zero_iff.1 (unhide HL).2.symm
    have hT : ∀ a, trip ps a [] = ([], none) := fun a => rfl
    have hE : ∀ a, endOf a [] = a := fun a => rfl
    have C1 := kwFollow (unhide HK4) from_ (v := .slice none 0 0) (ks := []) (srow_nil _ _ _) (fun b hb => by cases hb) (Nat.zero_le _) (by omega)
    rw [hT, fAns_ok, hE] at C1
    have HC1 := hide C1
    clear C1 HK4 hrow
    go_upto_region 7 with fail
    clear hu hwn hwn2 hmz2 hz0
    go_wp2_with fail
    refine (unhide HC1).mono ?_
    rintro e w5 ⟨rfl, h5⟩
    clear HC1
    have C2 := kwFollow (unhide h5) from_ (v := .slice none 0 0) (ks := []) (srow_nil _ _ _) (fun b hb => by cases hb) (Nat.zero_le _) (by omega)
    rw [hT, fAns_ok, hE] at C2
    have HC2 := hide C2
    clear C2 h5
    go_wp2_with fail
    refine (unhide HC2).mono ?_
    rintro e w6 ⟨rfl, h6⟩
    clear HC2
    have C3 := kwFollow (unhide h6) from_ (v := .slice none 0 0) (ks := []) (srow_nil _ _ _) (fun b hb => by cases hb) (Nat.zero_le _) (by omega)
    rw [hT, fAns_ok, hE] at C3
    have HC3 := hide C3
    clear C3 h6
    go_wp2_with fail
    refine (unhide HC3).mono ?_
    rintro e w7 ⟨rfl, h7⟩
    clear HC3
    have C4 := kwThrough (unhide h7) from_ (v := .slice none 0 0) (ks := []) (srow_nil _ _ _) (fun b hb => by cases hb) (Nat.zero_le _) (by omega)
    have HC4 := hide C4
    clear C4 h7
    go_wp2_with fail
    refine (unhide HC4).mono ?_
    rintro e w8 ⟨sa, sn, sc, rfl, h8⟩
    clear HC4
    obtain ⟨h8, hb8⟩ := unhide h8
    have hb8' : BRow w7.heap.size w8 (.slice sa sn sc) [from_] := hb8
    obtain ⟨a8, c8, e8, -⟩ := brow_shape hb8'
    injection e8 with e81 e82 e83
    obtain ⟨sg, rfl⟩ := brow_some hb8' (by simp)
    have hmidc : w8.cell? ⟨sg, 0, none⟩ = some (.int .i64 from_) := brow_at hb8' rfl
    subst e82
    have HB := hide h8.out
    clear h8 hb8 hb8' e81 e83
    go_wp2_with fail
    go_ret
    exact ⟨rfl, unhide HB⟩
  · injection e1 with e1 e2 e3
    subst e1
    clear hrow e2 e3
    go_upto_region 7 with fail
    rw [hmz2]
    clear hu hwn hwn2 hmz2 hz0
    have hmn : (m : Int) ≤ (en : Int) := by have := unhide HM; omega
    have hmc : (m : Int) ≤ (ec : Int) := by have := unhide HM; omega
    have hr4 := (unhide HK4).row (v := .slice (some ⟨g, 0, none⟩) en ec) (ks := l) (by simp)
    have hs4 := brow_srow hr4
    have hpt : Part8 [(.slice (some ⟨g, 0, none⟩) en ec, l)] (.slice (some ⟨g, 0, none⟩) m ec) := part_of (n := en) (c := ec) (ks := l) (by simp) 0 m ec
    have C1 := hide (kwFollow (unhide HK4) from_ (v := .slice (some ⟨g, 0, none⟩) m ec) (srow_take (by rw [← (unhide HL).2]; exact hs4) m ec (by have := unhide HM; have := unhide HL; omega)) hpt (by rw [List.length_take]; have := unhide HL; omega) (by omega))
    clear hr4 hs4 hpt
    go_wp2_with fail
    refine (unhide C1).mono ?_
    rintro e w5 ⟨he, h5⟩
    obtain ⟨d1, d2, hd, hd1, hd2⟩ := Way.split (es := l.take m) (es2 := l.drop m) (by rw [List.take_append_drop]; exact unhide HW)
    have t1 := hd1.all
    have t2 := hd2.all
    have HD : Hid (d = d1 ++ d2 ∧ d1.length = m) := ⟨hd, by rw [hd1.len, List.length_take]; have := unhide HL; have := unhide HM; omega⟩
    rw [t1] at he h5
    rw [fAns_ok] at he
    subst he
    obtain ⟨mid, hmid⟩ : ∃ mid, mid = endOf from_ d1 := ⟨_, rfl⟩
    have HMID := hide hmid
    rw [← hmid]
    rw [← hmid] at t2
    have HT2 := hide t2
    clear C1 hd hd1 hd2 t1 t2 hmid HK4
    go_upto_region 8 with fail
    have hr5 := brow_srow ((unhide h5).row (v := .slice (some ⟨g, 0, none⟩) en ec) (ks := l) (by simp))
    obtain ⟨z1, z2⟩ := unhide HL
    obtain ⟨z3, z4⟩ := unhide HM
    have HCa : Hid (ec = m → Calls Tryz.prog 12 #[.iface 24 (.pointer (some ⟨s, 0, none⟩)), .int .i64 mid, .slice (some ⟨g, 0, none⟩) (en - m) 0] w5 fun e w' => e = .returned (.tuple #[.int .i64 (endOf mid d2), .int .u32 (costOf d2), .int .i64 0, .int .i64 0]) ∧ Hid (∃ rd', KW w s ps (.slice a1 m1 q1) (.slice a2 m2 q2) rd' wr0 (120 + 61 + 61) vs es [(.slice (some ⟨g, 0, none⟩) en ec, l)] w')) := fun hc => by
      have e1 : l.drop m = [] := List.drop_of_length_le (by omega)
      have e2 : en - m = 0 := by omega
      have C2 := kwFollow (unhide h5) mid (v := .slice (some ⟨g, 0, none⟩) (en - m) 0) (ks := l.drop m) (by rw [e1, e2]; exact srow_nil _ _ _) (part_of (n := en) (c := ec) (ks := l) (by simp) 0 _ _) (by rw [e1]; exact Nat.zero_le _) (by omega)
      rw [unhide HT2, fAns_ok] at C2
      refine C2.mono ?_
      rintro e w' ⟨rfl, hh⟩
      exact ⟨rfl, _, unhide hh⟩
    have HCb : Hid (¬ ec = m → Calls Tryz.prog 12 #[.iface 24 (.pointer (some ⟨s, 0, none⟩)), .int .i64 mid, .slice (some ⟨g, m, none⟩) (en - m) (ec - m)] w5 fun e w' => e = .returned (.tuple #[.int .i64 (endOf mid d2), .int .u32 (costOf d2), .int .i64 0, .int .i64 0]) ∧ Hid (∃ rd', KW w s ps (.slice a1 m1 q1) (.slice a2 m2 q2) rd' wr0 (120 + 61 + 61) vs es [(.slice (some ⟨g, 0, none⟩) en ec, l)] w')) := fun hc => by
      have h6 := srow_drop (by rw [← z2]; exact hr5) m (ec - m)
      rw [← z2, Nat.zero_add] at h6
      have C2 := kwFollow (unhide h5) mid (v := .slice (some ⟨g, m, none⟩) (en - m) (ec - m)) (ks := l.drop m) h6 (part_of (n := en) (c := ec) (ks := l) (by simp) m _ _) (by rw [List.length_drop]; omega) (by omega)
      rw [unhide HT2, fAns_ok] at C2
      refine C2.mono ?_
      rintro e w' ⟨rfl, hh⟩
      exact ⟨rfl, _, unhide hh⟩
    clear h5 hr5 z1 z2 z3 z4
    go_cut [18, 19, 20, 21] from 73 to 84 (fun s18 s19 s20 s21 W => s18 = .int .i64 (endOf mid d2) ∧ s21 = .int .i64 0 ∧ Hid (∃ rd', KW w s ps (.slice a1 m1 q1) (.slice a2 m2 q2) rd' wr0 (120 + 61 + 61) vs es [(.slice (some ⟨g, 0, none⟩) en ec, l)] W))
    case first =>
      by_cases hec : ec = m
      · have C2 := hide (unhide HCa hec)
        clear HCa HCb
        subst hec
        go_wp2_with fail
        refine (unhide C2).mono ?_
        rintro e w6 ⟨rfl, h6⟩
        clear C2
        go_wp2_with fail
        go_meet
        case rel => exact ⟨rfl, rfl, h6⟩
      · have C2 := hide (unhide HCb hec)
        clear HCa HCb
        go_wp2_with fail
        refine (unhide C2).mono ?_
        rintro e w6 ⟨rfl, h6⟩
        clear C2
        go_wp2_with fail
        go_meet
        case rel => exact ⟨rfl, rfl, h6⟩
    case rest =>
      obtain ⟨rfl, rfl, h6⟩ := hcut
      clear HCa HCb
      obtain ⟨rd1, h6⟩ := unhide h6
      have hr6 := h6.row (v := .slice (some ⟨g, 0, none⟩) en ec) (ks := l) (by simp)
      have C3 := kwFollow h6 from_ (brow_srow hr6) (part_row hr6 (by simp)) (by have := unhide HL; omega) (by omega)
      have t3 : trip ps from_ l = (d, none) := (unhide HW).all
      rw [t3, fAns_ok] at C3
      have hfin : endOf from_ d = endOf mid d2 := by rw [(unhide HD).1, endOf_append, unhide HMID]
      rw [hfin] at C3
      have HFIN := hide hfin
      generalize endOf mid d2 = fin at *
      have HC3 := hide C3
      have HT3 := hide t3
      clear C3 hr6 h6 t3 hfin HT2 hmc
      go_wp2_with fail
      refine (unhide HC3).mono ?_
      rintro e w7 ⟨rfl, h7⟩
      clear HC3
      have hr7 := (unhide h7).row (v := .slice (some ⟨g, 0, none⟩) en ec) (ks := l) (by simp)
      have C4 := kwThrough (unhide h7) from_ (brow_srow hr7) (part_row hr7 (by simp)) (by have := unhide HL; omega) (by omega)
      rw [unhide HT3] at C4
      rw [show tPlace (d, none) = 0 from if_pos rfl, show tCode (d, none) = 0 from rfl] at C4
      rw [show (if (d, (none : Option Int)).2 = none then stopsOf from_ (d, (none : Option Int)).1 else []) = stopsOf from_ d from if_pos rfl] at C4
      have HC4 := hide C4
      clear C4 hr7 h7
      go_wp2_with fail
      refine (unhide HC4).mono ?_
      rintro e w8 ⟨sa, sn, sc, rfl, h8⟩
      clear HC4
      obtain ⟨h8, hb8⟩ := unhide h8
      obtain ⟨a8, c8, e8, -⟩ := brow_shape hb8
      injection e8 with e81 e82 e83
      have hsn : sn = en + 1 := by rw [e82, stopsOf_len, (unhide HW).len, (unhide HL).2]
      obtain ⟨sg, rfl⟩ := brow_some hb8 (by rw [stopsOf_len]; omega)
      have hmidc : w8.cell? ⟨sg, m, none⟩ = some (.int .i64 mid) := by
        refine brow_at hb8 ?_
        obtain ⟨z1, z2⟩ := unhide HD
        rw [unhide HMID, z1]
        exact stops_at from_ d1 d2 m z2
      subst hsn
      have hms : (m : Int) < (en : Int) + 1 := by omega
      have hwn3 : wrap64 ((en : Int) + 1) = (en : Int) + 1 := by have := unhide HL; unfold wrap64; omega
      have H8 := hide h8
      clear h8 hb8 e81 e82 e83
      by_cases h0 : en = 0
      · have HB := hide (unhide H8).out
        obtain rfl : fin = from_ := by
          have h1 : d = [] := List.length_eq_zero_iff.1 (by rw [(unhide HW).len, ← (unhide HL).2]; exact h0)
          rw [← unhide HFIN, h1]; rfl
        subst h0
        obtain rfl : m = 0 := by have := unhide HM; omega
        clear H8 hmn HFIN HMID HD HT3 HW HL HM
        go_wp2_with fail
        go_ret
        exact ⟨rfl, unhide HB⟩
      · obtain ⟨kk, hkk⟩ : ∃ kk, kk = m % en := ⟨_, rfl⟩
        have hk0 : kk < en := by rw [hkk]; exact Nat.mod_lt _ (by omega)
        have hk1 : (m : Int).tmod (en : Int) = (kk : Int) := by rw [Int.tmod_eq_emod_of_nonneg (by omega), hkk]; norm_cast
        have hk2 : wrap64 (kk : Int) = (kk : Int) := by have := unhide HL; unfold wrap64; omega
        have hk4 : (kk : Int) < (en : Int) := by omega
        have hz1 : ((en : Int) == 0) = false := by simp; omega
        have hz2 : ¬ (en : Int) = 0 := by omega
        obtain ⟨e0, he0⟩ : ∃ e0, l[kk]? = some e0 := ⟨_, List.getElem?_eq_getElem (by have := unhide HL; omega)⟩
        obtain ⟨x, hx⟩ := way_lk (unhide HW) he0
        have hce : w8.cell? ⟨g, kk, none⟩ = some (.int .i64 e0) := brow_at ((unhide H8).row (v := .slice (some ⟨g, 0, none⟩) en ec) (ks := l) (by simp)) he0
        have C5 := hide (kwDrop (unhide H8) hx)
        have HE0 := hide he0
        clear he0 hx H8 hkk hk0 h0
        go_wp2_with fail
        refine (unhide C5).mono ?_
        rintro e w9 ⟨rfl, h9⟩
        clear C5 hce hmidc
        obtain ⟨ps', hle, h9⟩ := unhide h9
        have hr9 : NRow w9 (.slice (some ⟨g, 0, none⟩) en ec) l := by
          obtain ⟨X9, -, -, -, -, -, -, -, h8⟩ := h9
          exact (h8 (.slice (some ⟨g, 0, none⟩) en ec, l) (by simp)).1
        have C6 := kdFollow h9 from_ (brow_srow hr9) (part_row hr9 (by simp)) (by have := unhide HL; omega)
        obtain ⟨t1, t2⟩ := trip_less hle (unhide HW) (unhide HE0)
        rw [show fAns from_ (trip ps' from_ l) = .tuple #[.int .i64 0, .int .u32 0, .int .i64 (trip ps' from_ l).1.length, .int .i64 6] by
          unfold fAns; rw [if_neg (by rw [t1]; simp)]; unfold tCode; rw [t1]; rfl] at C6
        generalize (trip ps' from_ l).1.length = pl6 at *
        have hp6 : (pl6 : Int) ≤ (kk : Int) := by omega
        have HC6 := hide C6
        clear C6 hr9 h9 hle t1 t2
        go_wp2_with fail
        refine (unhide HC6).mono ?_
        rintro e w10 ⟨rfl, h10⟩
        clear HC6
        go_wp2_with fail
        go_ret
        exact ⟨rfl, unhide h10⟩
end Go.Proofs.YtgocbcacfcfblaaGreat

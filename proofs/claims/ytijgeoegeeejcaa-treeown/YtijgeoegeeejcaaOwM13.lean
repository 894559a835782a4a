/- TreeOwn's memory: copies with one more behind them, overwritten; answered lists, overwritten and grown. -/
import Derived.Test.YtijgeoegeeejcaaRG13
import Derived.Test.YtijgeoegeeejcaaAwake13
import Derived.Test.YtijgeoegeeejcaaRW13
import Derived.Laws.StructEq
namespace Go.Proofs.Ytijgeoegeeejcaa

section
open Go.RowKit Go.Maps
section
variable {ys : List Int} {es : List EdV} {s : Int}
theorem fc_twice1 (h : ¬ ys.Nodup) : faultC ys es s = 2 := by
  unfold faultC; rw [decide_eq_false h]; rfl
theorem fc_twice2 (h : ¬ (es.map (·.1)).Nodup) : faultC ys es s = 2 := by
  unfold faultC; rw [decide_eq_false h, Bool.not_false, Bool.or_true]; rfl
theorem fc_low (h1 : ys.Nodup) (h2 : (es.map (·.1)).Nodup) (h3 : es.any lowB = true) : faultC ys es s = 1 := by
  unfold faultC; rw [decide_eq_true h1, decide_eq_true h2, h3]; rfl
theorem fc_away (h1 : ys.Nodup) (h2 : (es.map (·.1)).Nodup) (h3 : es.any lowB = false) (h4 : s ∉ ys ∨ es.any (awayB ys) = true) : faultC ys es s = 5 := by
  unfold faultC; rw [decide_eq_true h1, decide_eq_true h2, h3]
  have : (!decide (s ∈ ys) || es.any (awayB ys)) = true := by
    rcases h4 with q | q
    · rw [decide_eq_false q]; rfl
    · rw [q, Bool.or_true]
  rw [this]; rfl
theorem fc_bad (h1 : ys.Nodup) (h2 : (es.map (·.1)).Nodup) (h3 : es.any lowB = false) (h4 : s ∈ ys) (h5 : es.any (awayB ys) = false) (h6 : es.any badB = true) : faultC ys es s = 7 := by
  unfold faultC; rw [decide_eq_true h1, decide_eq_true h2, h3, decide_eq_true h4, h5, h6]; rfl
theorem fc_none (h1 : ys.Nodup) (h2 : (es.map (·.1)).Nodup) (h3 : es.any lowB = false) (h4 : s ∈ ys) (h5 : es.any (awayB ys) = false) (h6 : es.any badB = false) : faultC ys es s = 0 := by
  unfold faultC; rw [decide_eq_true h1, decide_eq_true h2, h3, decide_eq_true h4, h5, h6]; rfl
theorem low_first {ns : List Int} (hp : ns.Perm (es.map (·.1))) (hs : ns.Pairwise (· ≤ ·)) : (es.any lowB = true ↔ ∃ x, ns[0]? = some x ∧ x < 1) := by
  rw [List.any_eq_true]
  constructor
  · rintro ⟨x, hx, h⟩
    unfold lowB at h
    have hlt := of_decide_eq_true h
    have hm : x.1 ∈ ns := hp.mem_iff.2 (List.mem_map.2 ⟨x, hx, rfl⟩)
    cases ns with
    | nil => cases hm
    | cons y ns =>
      refine ⟨y, rfl, ?_⟩
      rcases List.mem_cons.1 hm with q | q
      · omega
      · have := (List.pairwise_cons.1 hs).1 _ q; omega
  · rintro ⟨y, hy, h⟩
    have hm := hp.mem_iff.1 (List.mem_of_getElem? hy)
    obtain ⟨x, hx, rfl⟩ := List.mem_map.1 hm
    exact ⟨x, hx, by unfold lowB; exact decide_eq_true h⟩
theorem twice_at {l : List Int} {i k : Nat} {x : Int} (h1 : l[i]? = some x) (h2 : l[k]? = some x) (hk : k < i) : ¬ l.Nodup := fun hh => by
  rw [List.Nodup, List.pairwise_iff_getElem] at hh
  have := hh k i (List.getElem?_eq_some_iff.1 h2).1 (List.getElem?_eq_some_iff.1 h1).1 hk
  rw [(List.getElem?_eq_some_iff.1 h1).2, (List.getElem?_eq_some_iff.1 h2).2] at this
  exact this rfl
theorem nodup_adj {l : List Int} (h : ∀ j : Nat, 1 ≤ j → j < l.length → l[j]? ≠ l[j - 1]?) (hs : l.Pairwise (· ≤ ·)) : l.Nodup := (strict_of h hs).imp (fun {a b} hh => by omega)
theorem any_take {p : EdV → Bool} {i : Nat} {x : EdV} (h : (es.take i).any p = false) (hx : es[i]? = some x) (hp : p x = false) : (es.take (i + 1)).any p = false := by
  rw [List.take_add_one, hx, List.any_append, h]; simp [hp]
end
def ErrAns (w : World) (ks : List Int) (es : List EdV) (s : Int) (e : Ending) (w' : World) : Prop := ∃ ys, ys.Perm ks ∧ ys.Pairwise (· ≤ ·) ∧ e = .returned (.int .i64 (faultC ys es s)) ∧ Below w.heap.size w w'
set_option maxHeartbeats 16000000 in
set_option maxRecDepth 100000 in
theorem errorR {w : World} {v v2 : Value} {ks : List Int} {es : List EdV} {s : Int} (h : NRow w v ks) (h2 : ERow 0 w v2 es) (hl : ks.length ≤ 1000) (hl2 : es.length ≤ 1000) :
    Calls Try.prog 11 #[v, v2, .int .i64 s] w fun e w' => Hid (ErrAns w ks es s e w') := by
  have CS := hide (sortedS h (by omega))
  obtain ⟨x1, c1, e1, -⟩ := brow_shape h
  obtain ⟨x2, c2, e2⟩ := rrow_shape h2
  obtain ⟨n1, hn1⟩ : ∃ n1, n1 = ks.length := ⟨_, rfl⟩
  obtain ⟨n2, hn2⟩ : ∃ n2, n2 = es.length := ⟨_, rfl⟩
  rw [← hn1] at e1
  rw [← hn2] at e2
  subst e1 e2
  have HN : Hid (n2 = es.length ∧ n2 ≤ 1000 ∧ ks.length ≤ 1000) := ⟨hn2, by omega, hl⟩
  have HA : Hid (∀ W, Below w.heap.size w W → ERow 0 W (.slice x2 n2 c2) es) := fun W hW => rrow_below h2 hW
  clear h h2 hl hl2 hn1 hn2
  go_enter Try.func11, Try.ntmps11
  go_wp2_with fail
  refine (unhide CS).mono ?_
  intro e w1 hh
  obtain ⟨a, n, c, ys, rfl, hpv, hs, hr, hb⟩ := unhide hh
  obtain ⟨rr, hrr⟩ : ∃ rr, rr = faultC ys es s := ⟨_, rfl⟩
  have HY : Hid (ys.Perm ks ∧ ys.Pairwise (· ≤ ·) ∧ NRow w1 (.slice a n c) ys ∧ Below w.heap.size w w1 ∧ n = ys.length ∧ n ≤ 1000 ∧ rr = faultC ys es s) := by
    have hn : n = ys.length := by
      obtain ⟨_, _, e, -⟩ := brow_shape hr
      injection e
    exact ⟨hpv, hs, brow_at0 hr, hb, hn, by rw [hn, hpv.length_eq]; exact (unhide HN).2.2, hrr⟩
  have HF : Hid (∀ w', Below w.heap.size w w' → ErrAns w ks es s (.returned (.int .i64 rr)) w') := fun w' h => ⟨ys, hpv, hs, by rw [hrr], h⟩
  clear CS hh hpv hs hr hb hrr
  go_wp2_with fail
  go_loopw [9, 8] (fun s9 s8 wr => ∃ (i : Nat) (y : Option Addr) (yn yc : Nat), s9 = .int .i64 i ∧ s8 = .slice y yn yc ∧ Hid (i ≤ n2 ∧ BRow w1.heap.size wr (.slice y yn yc) ((es.take i).map (·.1)) ∧ Below w1.heap.size w1 wr)) (fun s9 _ _ => n2 - (intOf s9).toNat)
  case atStart => exact ⟨0, none, 0, 0, rfl, rfl, Nat.zero_le _, ⟨rfl, .inl ⟨rfl, rfl⟩⟩, Below.refl _ _⟩
  case round =>
    obtain ⟨i, y, yn, yc, rfl, rfl, HI⟩ := hrel
    obtain ⟨i1, i2, i3⟩ := unhide HI
    obtain ⟨l1, l2, l3⟩ := unhide HN
    have hB1 := (unhide HY).2.2.2.1
    have hBw : Below w.heap.size w wr := hB1.trans (i3.mono hB1.size)
    by_cases hlt : i < n2
    · obtain ⟨x, hx⟩ : ∃ x, es[i]? = some x := ⟨_, List.getElem?_eq_getElem (by omega)⟩
      have hrow := unhide HA wr hBw
      obtain ⟨g, rfl⟩ := rrow_some hrow (by omega)
      obtain ⟨d0, -, -, -⟩ := erow_at hrow hx
      obtain ⟨a', n', c', w', r, g1, g2, -⟩ := run_app8 x.1 i2 i3.size (by rw [List.length_map, List.length_take]; omega)
      have HR := hide r
      obtain ⟨j, hj⟩ : ∃ j, j = i + 1 := ⟨_, rfl⟩
      have zw : Hid (wrap64 ((i : Int) + 1) = (j : Int)) := by show wrap64 ((i : Int) + 1) = (j : Int); unfold wrap64; omega
      have HJ : Hid (j = i + 1 ∧ n2 - j < n2 - i ∧ j ≤ n2 ∧ BRow w1.heap.size w' (.slice a' n' c') ((es.take j).map (·.1)) ∧ Below w1.heap.size w1 w') := ⟨hj, by omega, by omega, by rw [hj, List.take_add_one, hx, List.map_append]; exact g1, i3.trans (g2.below i3.size (fun b e => (i2.lt b e).1))⟩
      have z1 : (i : Int) < (n2 : Int) := by omega
      clear HI i1 i2 i3 l1 l2 l3 hB1 hBw hlt hx hrow r g1 g2 hj
      go_wp2_with (at_builtin; refine Lib.wpList_append_run _ rfl _ _ 22 22 rfl _ _ rfl rfl _ _ (unhide HR _) ?_)
      (try rw [unhide zw])
      exact ⟨⟨j, a', n', c', by first | rfl | (rw [(unhide HJ).1]; rfl), rfl, (unhide HJ).2.2.1, (unhide HJ).2.2.2⟩, by have := unhide HJ; simp [intOf]; omega⟩
    · have z1 : ¬ (i : Int) < (n2 : Int) := by omega
      rw [List.take_of_length_le (by omega)] at i2
      have CS := hide (sortedS (brow_at0 i2) (by rw [List.length_map]; omega))
      have HB := hide (And.intro i3 hBw)
      clear HI i1 i2 i3 l1 l2 l3 hB1 hBw hlt
      go_wp2_with fail
      refine (unhide CS).mono ?_
      intro e w3 hh
      obtain ⟨na, nn, nc, ns, rfl, hpn, hsn, hrn, hbn⟩ := unhide hh
      have HS : Hid (ns.Perm (es.map (·.1)) ∧ ns.Pairwise (· ≤ ·) ∧ NRow w3 (.slice na nn nc) ns ∧ NRow w3 (.slice a n c) ys ∧ Below w.heap.size w w3 ∧ nn = ns.length ∧ nn ≤ 1000) := by
        have hn : nn = ns.length := by
          obtain ⟨_, _, e, -⟩ := brow_shape hrn
          injection e
        have hw := (unhide HB).2
        refine ⟨hpn, hsn, brow_at0 hrn, nrow_below (nrow_below (unhide HY).2.2.1 (unhide HB).1) hbn, hw.trans (hbn.mono hw.size), hn, ?_⟩
        rw [hn, hpn.length_eq, List.length_map]; have := unhide HN; omega
      clear CS hh hpn hsn hrn hbn HB z1
      go_wp2_with fail
      go_loopw [10] (fun s10 wr => ∃ (i q : Nat), s10 = .int .i64 i ∧ wr = w3.drewN q ∧ Hid (1 ≤ i ∧ (i ≤ n ∨ i = 1) ∧ ∀ j : Nat, 1 ≤ j → j < i → ys[j]? ≠ ys[j - 1]?)) (fun s10 _ => (n + 1 - (intOf s10).toNat))
      case atStart => exact ⟨1, 0, rfl, rfl, Nat.le_refl _, .inr rfl, fun j h1 h2 => by omega⟩
      case round =>
        obtain ⟨i, q, rfl, rfl, HI⟩ := hrel
        obtain ⟨i1, i2, i3⟩ := unhide HI
        obtain ⟨y1, y2, y3, y4, y5, y6, y7⟩ := unhide HY
        obtain ⟨s1, s2, s3, s4, s5, s6, s7⟩ := unhide HS
        by_cases hlt : i < n
        · obtain ⟨x, hx⟩ : ∃ x, ys[i]? = some x := ⟨_, List.getElem?_eq_getElem (by omega)⟩
          obtain ⟨y, hy⟩ : ∃ y, ys[i - 1]? = some y := ⟨_, List.getElem?_eq_getElem (by omega)⟩
          obtain ⟨g, rfl⟩ := brow_some s4 (by omega)
          have d1 : w3.cell? ⟨g, i, none⟩ = some (.int .i64 x) := brow_at s4 hx
          obtain ⟨k, hk⟩ : ∃ k, k = i - 1 := ⟨_, rfl⟩
          rw [← hk] at hy
          have d2 : w3.cell? ⟨g, k, none⟩ = some (.int .i64 y) := brow_at s4 hy
          have z1 : (i : Int) < (n : Int) := by omega
          have z2 : IntKind.i64.wrap ((i : Int) - 1) = (k : Int) := by rw [IntKind.wrap_i64]; omega
          have z3 : (k : Int) < (n : Int) := by clear z2; omega
          by_cases hxy : x = y
          · subst hxy
            have HE : Hid (rr = 2 ∧ Below w.heap.size w w3) := ⟨by rw [y7]; exact fc_twice1 (twice_at hx hy (by clear z2; omega)), s5⟩
            clear HI i1 i2 i3 y1 y2 y3 y4 y5 y6 y7 s1 s2 s3 s4 s5 s6 s7 hlt hx hy hk
            go_wp2_with fail
            go_quiet (fail)
            go_wp2_with fail
            go_ret
            have := unhide HF _ (below_drewN (unhide HE).2 (q + nq))
            rw [(unhide HE).1] at this
            first | exact this | (rw [World.drewN_drewN]; exact this)
          · have z4 : (x == y) = false := by simpa using hxy
            obtain ⟨j, hj⟩ : ∃ j, j = i + 1 := ⟨_, rfl⟩
            have zw : Hid (wrap64 ((i : Int) + 1) = (j : Int)) := by show wrap64 ((i : Int) + 1) = (j : Int); unfold wrap64; clear z2; omega
            have HJ : Hid (j = i + 1 ∧ n + 1 - j < n + 1 - i) := ⟨hj, by clear z2; omega⟩
            have HJ2 : Hid (1 ≤ j ∧ (j ≤ n ∨ j = 1) ∧ ∀ m : Nat, 1 ≤ m → m < j → ys[m]? ≠ ys[m - 1]?) := by
              clear z2
              refine ⟨by omega, .inl (by omega), fun m h1 h2 => ?_⟩
              rcases Nat.lt_or_ge m i with q | q
              · exact i3 m h1 q
              · obtain rfl : m = i := by omega
                rw [← hk, hx, hy]; exact fun e => hxy (Option.some.inj e)
            clear HI i1 i2 i3 y1 y2 y3 y4 y5 y6 y7 s1 s2 s3 s4 s5 s6 s7 hlt hx hy hk hj hxy
            go_wp2_with fail
            go_quiet (fail)
            go_wp2_with fail
            (try rw [unhide zw])
            exact ⟨⟨j, _, by first | rfl | (rw [(unhide HJ).1]; rfl), (by first | rfl | exact World.drewN_drewN _ _ _), HJ2⟩, by have := unhide HJ; simp [intOf]; omega⟩
        · have z1 : ¬ (i : Int) < (n : Int) := by omega
          have HD1 := hide (nodup_adj (fun j h1 h2 => i3 j h1 (by omega)) y2)
          clear HI i1 i2 i3 y1 y2 y3 y4 y5 y6 y7 s1 s2 s3 s4 s5 s6 s7 hlt
          go_wp2_with fail
          clear z1
          go_loopw [11] (fun s11 wr => ∃ (i q : Nat), s11 = .int .i64 i ∧ wr = w3.drewN q ∧ Hid (1 ≤ i ∧ (i ≤ nn ∨ i = 1) ∧ ∀ j : Nat, 1 ≤ j → j < i → ns[j]? ≠ ns[j - 1]?)) (fun s11 _ => (nn + 1 - (intOf s11).toNat))
          case atStart => exact ⟨1, q, rfl, rfl, Nat.le_refl _, .inr rfl, fun j h1 h2 => by omega⟩
          case round =>
            clear q
            obtain ⟨i, q, rfl, rfl, HI⟩ := hrel
            obtain ⟨i1, i2, i3⟩ := unhide HI
            obtain ⟨y1, y2, y3, y4, y5, y6, y7⟩ := unhide HY
            obtain ⟨s1, s2, s3, s4, s5, s6, s7⟩ := unhide HS
            by_cases hlt : i < nn
            · obtain ⟨x, hx⟩ : ∃ x, ns[i]? = some x := ⟨_, List.getElem?_eq_getElem (by omega)⟩
              obtain ⟨y, hy⟩ : ∃ y, ns[i - 1]? = some y := ⟨_, List.getElem?_eq_getElem (by omega)⟩
              obtain ⟨g, rfl⟩ := brow_some s3 (by omega)
              have d1 : w3.cell? ⟨g, i, none⟩ = some (.int .i64 x) := brow_at s3 hx
              obtain ⟨k, hk⟩ : ∃ k, k = i - 1 := ⟨_, rfl⟩
              rw [← hk] at hy
              have d2 : w3.cell? ⟨g, k, none⟩ = some (.int .i64 y) := brow_at s3 hy
              have z1 : (i : Int) < (nn : Int) := by omega
              have z2 : IntKind.i64.wrap ((i : Int) - 1) = (k : Int) := by rw [IntKind.wrap_i64]; omega
              have z3 : (k : Int) < (nn : Int) := by clear z2; omega
              by_cases hxy : x = y
              · subst hxy
                have HE : Hid (rr = 2 ∧ Below w.heap.size w w3) := ⟨by
                  rw [y7]
                  exact fc_twice2 (fun hh => twice_at hx hy (by clear z2; omega) (s1.nodup_iff.2 hh)), s5⟩
                clear HI i1 i2 i3 y1 y2 y3 y4 y5 y6 y7 s1 s2 s3 s4 s5 s6 s7 hlt hx hy hk
                go_wp2_with fail
                go_quiet (fail)
                go_wp2_with fail
                go_ret
                have := unhide HF _ (below_drewN (unhide HE).2 (q + nq))
                rw [(unhide HE).1] at this
                first | exact this | (rw [World.drewN_drewN]; exact this)
              · have z4 : (x == y) = false := by simpa using hxy
                obtain ⟨j, hj⟩ : ∃ j, j = i + 1 := ⟨_, rfl⟩
                have zw : Hid (wrap64 ((i : Int) + 1) = (j : Int)) := by show wrap64 ((i : Int) + 1) = (j : Int); unfold wrap64; clear z2; omega
                have HJ : Hid (j = i + 1 ∧ nn + 1 - j < nn + 1 - i) := ⟨hj, by clear z2; omega⟩
                have HJ2 : Hid (1 ≤ j ∧ (j ≤ nn ∨ j = 1) ∧ ∀ m : Nat, 1 ≤ m → m < j → ns[m]? ≠ ns[m - 1]?) := by
                  clear z2
                  refine ⟨by omega, .inl (by omega), fun m h1 h2 => ?_⟩
                  rcases Nat.lt_or_ge m i with q | q
                  · exact i3 m h1 q
                  · obtain rfl : m = i := by omega
                    rw [← hk, hx, hy]; exact fun e => hxy (Option.some.inj e)
                clear HI i1 i2 i3 y1 y2 y3 y4 y5 y6 y7 s1 s2 s3 s4 s5 s6 s7 hlt hx hy hk hj hxy
                go_wp2_with fail
                go_quiet (fail)
                go_wp2_with fail
                (try rw [unhide zw])
                exact ⟨⟨j, _, by first | rfl | (rw [(unhide HJ).1]; rfl), (by first | rfl | exact World.drewN_drewN _ _ _), HJ2⟩, by have := unhide HJ; simp [intOf]; omega⟩
            · have z1 : ¬ (i : Int) < (nn : Int) := by omega
              have hD2 : (es.map (·.1)).Nodup := s1.nodup_iff.1 (nodup_adj (fun j h1 h2 => i3 j h1 (by omega)) s2)
              have HD2 := hide hD2
              by_cases hn0 : nn = 0
              · subst hn0
                have HLO : Hid (es.any lowB = false) := by
                  show es.any lowB = false
                  cases hq : es.any lowB with
                  | false => rfl
                  | true =>
                    obtain ⟨x, hx, -⟩ := (low_first s1 s2).1 hq
                    have := (List.getElem?_eq_some_iff.1 hx).1
                    omega
                obtain ⟨wE, hwE⟩ : ∃ wE, wE = w3.drewN q := ⟨_, rfl⟩
                have HSE : Hid (NRow wE (.slice a n c) ys ∧ Below w.heap.size w wE) := ⟨by rw [hwE]; exact nrow_kept s4 (fun _ _ => rfl), by rw [hwE]; exact below_drewN s5 q⟩
                rw [← hwE]
                clear HI i1 i2 i3 y1 y2 y3 y4 y5 y6 y7 s1 s2 s3 s4 s5 s6 s7 hlt hD2 hwE
                have hb5 := below_new wE (oGr (.slice a n c) (.slice none 0 0) 0 0)
                have hbx5 := heap_alloc_new wE (oGr (.slice a n c) (.slice none 0 0) 0 0)
                obtain ⟨W5, hW5⟩ : ∃ W5, W5 = wE.alloc (oGr (.slice a n c) (.slice none 0 0) 0 0) := ⟨_, rfl⟩
                obtain ⟨gg, hgg⟩ : ∃ gg, gg = wE.heap.size := ⟨_, rfl⟩
                rw [← hW5] at hb5 hbx5
                rw [← hgg] at hbx5
                have hgl : gg < W5.heap.size := (Array.getElem?_eq_some_iff.1 hbx5).1
                have HX5 : Hid (∀ W, Below W5.heap.size W5 W → (W.cell? ⟨gg, 0, none⟩ = some (.slice a n c) ∧ W.cell? ⟨gg, 1, none⟩ = some (.slice none 0 0) ∧ W.cell? ⟨gg, 2, none⟩ = some (.int .i64 0) ∧ W.cell? ⟨gg, 3, none⟩ = some (.int .i64 0)) ∧ ERow 0 W (.slice x2 n2 c2) es ∧ NRow W (.slice a n c) ys ∧ Below w.heap.size w W) := fun W hW => by
                  obtain ⟨s4, hq⟩ := unhide HSE
                  obtain ⟨c0, c1, c2', c3, -⟩ := cellsGr ((hW.block gg hgl).trans hbx5)
                  have hB : Below w.heap.size w W := (hq.trans (hb5.mono hq.size)).trans (hW.mono (hq.trans (hb5.mono hq.size)).size)
                  exact ⟨⟨c0, c1, c2', c3⟩, unhide HA W hB, nrow_below (nrow_below s4 hb5) hW, hB⟩
                have CP : Hid (∀ W, Below W5.heap.size W5 W → ∀ x, Calls Try.prog 29 #[.agg #[.slice a n c, .slice none 0 0, .int .i64 0, .int .i64 0], .int .i64 x] W fun e w' => e = .returned (.int .i64 (placeOf ys x)) ∧ Below W.heap.size W w') := fun W hW x => placeR (unhide HX5 W hW).2.2.1 (strict_of_nodup (unhide HY).2.1 (unhide HD1)) (by have := (unhide HY).2.2.2.2.1; have := (unhide HY).2.2.2.2.2.1; omega)
                have HPO : Hid (∀ x, x ∈ ys → ∃ k : Nat, placeOf ys x = (k : Int)) := fun x hx => ⟨_, placeOf_some (strict_of_nodup (unhide HY).2.1 (unhide HD1)) (at_plc (strict_of_nodup (unhide HY).2.1 (unhide HD1)) hx)⟩
                have HRR : Hid (rr = faultC ys es s) := (unhide HY).2.2.2.2.2.2
                have HW5 := hide hW5
                have HGG := hide hgg
                clear hb5 hbx5 hW5 hgg hgl
                go_upto_region 21 with fail
                rw [show wE.alloc (Obj.cells #[Value.slice a n c, Value.slice none 0 0, Value.int IntKind.i64 0, Value.int IntKind.i64 0] 34) = W5 from (unhide HW5).symm]
                rw [show wE.heap.size = gg from (unhide HGG).symm]
                clear HW5 HGG
                go_wp2_with fail
                go_loopw [13] (fun s13 wr => ∃ (i : Nat), s13 = .int .i64 i ∧ Hid (i ≤ n2 ∧ (es.take i).any (awayB ys) = false ∧ Below W5.heap.size W5 wr)) (fun s13 _ => n2 - (intOf s13).toNat)
                case atStart => exact ⟨0, rfl, Nat.zero_le _, rfl, Below.refl _ _⟩
                case round =>
                  obtain ⟨i, rfl, HI⟩ := hrel
                  obtain ⟨i1, i2, i3⟩ := unhide HI
                  obtain ⟨l1, l2, l3⟩ := unhide HN
                  by_cases hlt : i < n2
                  · obtain ⟨x, hx⟩ : ∃ x, es[i]? = some x := ⟨_, List.getElem?_eq_getElem (by omega)⟩
                    have hrow := (unhide HX5 wr i3).2.1
                    obtain ⟨ge, rfl⟩ := rrow_some hrow (by omega)
                    have HC : Hid (∀ W, Below wr.heap.size wr W → ((W.cell? ⟨gg, 0, none⟩ = some (.slice a n c) ∧ W.cell? ⟨gg, 1, none⟩ = some (.slice none 0 0) ∧ W.cell? ⟨gg, 2, none⟩ = some (.int .i64 0) ∧ W.cell? ⟨gg, 3, none⟩ = some (.int .i64 0)) ∧ W.cell? ⟨ge, i * 4 + 1, none⟩ = some (.int .i64 x.2.1) ∧ W.cell? ⟨ge, i * 4 + 2, none⟩ = some (.int .i64 x.2.2.1)) ∧ Below W5.heap.size W5 W) := fun W hW => by
                      have h3 := i3.trans (hW.mono i3.size)
                      obtain ⟨cc, hE, -, -⟩ := unhide HX5 W h3
                      obtain ⟨-, e1, e2, -⟩ := erow_at hE hx
                      exact ⟨⟨cc, e1, e2⟩, h3⟩
                    obtain ⟨⟨⟨c0, c1', c2', c3⟩, d1, d2⟩, -⟩ := unhide HC wr (Below.refl _ _)
                    obtain ⟨j, hj⟩ : ∃ j, j = i + 1 := ⟨_, rfl⟩
                    have zw : Hid (wrap64 ((i : Int) + 1) = (j : Int)) := by show wrap64 ((i : Int) + 1) = (j : Int); unfold wrap64; omega
                    have HJ : Hid (j = i + 1 ∧ n2 - j < n2 - i ∧ j ≤ n2) := ⟨hj, by omega, by omega⟩
                    have HI2 : Hid ((es.take i).any (awayB ys) = false ∧ es[i]? = some x) := ⟨i2, hx⟩
                    have z1 : (i : Int) < (n2 : Int) := by omega
                    by_cases hU : x.2.1 ∈ ys
                    · obtain ⟨kU, hkU⟩ := unhide HPO x.2.1 hU
                      have CU := hide (fun W (hW : Below W5.heap.size W5 W) => unhide CP W hW x.2.1)
                      rw [hkU] at CU
                      have zU : ¬ (kU : Int) < 0 := by omega
                      by_cases hVy : x.2.2.1 ∈ ys
                      · obtain ⟨kV, hkV⟩ := unhide HPO x.2.2.1 hVy
                        have CV := hide (fun W (hW : Below W5.heap.size W5 W) => unhide CP W hW x.2.2.1)
                        rw [hkV] at CV
                        have zV : ¬ (kV : Int) < 0 := by omega
                        have HJ2 : Hid ((es.take j).any (awayB ys) = false) := by
                          show (es.take j).any (awayB ys) = false
                          rw [(unhide HJ).1]
                          exact any_take (unhide HI2).1 (unhide HI2).2 (by unfold awayB; rw [decide_eq_true hU, decide_eq_true hVy]; rfl)
                        clear HI i1 i2 i3 l1 l2 l3 hlt hx hrow hj hkU hkV hU hVy HI2
                        go_upto_region 24 with fail
                        refine wp_region_noPanic ?_
                        refine regionL [] (fun y => (y.cell? ⟨gg, 0, none⟩ = some (.slice a n c) ∧ y.cell? ⟨gg, 1, none⟩ = some (.slice none 0 0) ∧ y.cell? ⟨gg, 2, none⟩ = some (.int .i64 0) ∧ y.cell? ⟨gg, 3, none⟩ = some (.int .i64 0)) ∧ y.cell? ⟨ge, i * 4 + 1, none⟩ = some (.int .i64 x.2.1) ∧ y.cell? ⟨ge, i * 4 + 2, none⟩ = some (.int .i64 x.2.2.1)) (by kernel_rfl) ⟨⟨c0, c1', c2', c3⟩, d1, d2⟩ (fun hHeld => ?_)
                        refine takeL (i := 0) (v := ?t2v0) (some 84) rfl rfl (by kernel_rfl) (by kernel_rfl) (by kernel_rfl) (by kernel_rfl) (by kernel_rfl) (fun _ _ _ h => h) (Or.inl ⟨by rfl, ?t2h0⟩) (by assumption) ?t2r0
                        case t2h0 => (intro y hSu; (try dsimp only at hSu); go_simp; first | done | with_reducible rfl)
                        (try simp only [Act.put, List.setIfInBounds_toArray, List.set_cons_zero, List.set_cons_succ])
                        refine takeL (i := 1) (v := ?t2v1) (some 85) rfl rfl (by kernel_rfl) (by kernel_rfl) (by kernel_rfl) (by kernel_rfl) (by kernel_rfl) (fun _ _ _ h => h) (Or.inl ⟨by rfl, ?t2h1⟩) (by assumption) ?t2r1
                        case t2h1 => (intro y hSu; (try dsimp only at hSu); go_simp; first | done | with_reducible rfl)
                        (try simp only [Act.put, List.setIfInBounds_toArray, List.set_cons_zero, List.set_cons_succ])
                        refine takeL (i := 2) (v := ?t2v2) (some 86) rfl rfl (by kernel_rfl) (by kernel_rfl) (by kernel_rfl) (by kernel_rfl) (by kernel_rfl) (fun _ _ _ h => h) (Or.inl ⟨by rfl, ?t2h2⟩) (by assumption) ?t2r2
                        case t2h2 => (intro y hSu; (try dsimp only at hSu); go_simp; first | done | with_reducible rfl)
                        (try simp only [Act.put, List.setIfInBounds_toArray, List.set_cons_zero, List.set_cons_succ])
                        refine takeL (i := 3) (v := ?t2v3) (some 87) rfl rfl (by kernel_rfl) (by kernel_rfl) (by kernel_rfl) (by kernel_rfl) (by kernel_rfl) (fun _ _ _ h => h) (Or.inl ⟨by rfl, ?t2h3⟩) (by assumption) ?t2r3
                        case t2h3 => (intro y hSu; (try dsimp only at hSu); go_simp; first | done | with_reducible rfl)
                        (try simp only [Act.put, List.setIfInBounds_toArray, List.set_cons_zero, List.set_cons_succ])
                        refine takeL (i := 4) (v := ?t2v4) (some 88) rfl rfl (by kernel_rfl) (by kernel_rfl) (by kernel_rfl) (by kernel_rfl) (by kernel_rfl) (fun _ _ _ h => h) (Or.inl ⟨by rfl, ?t2h4⟩) (by assumption) ?t2r4
                        case t2h4 => (intro y hSu; (try dsimp only at hSu); go_simp; first | done | with_reducible rfl)
                        (try simp only [Act.put, List.setIfInBounds_toArray, List.set_cons_zero, List.set_cons_succ])
                        refine takeL (i := 5) (v := ?t2v5) (some 89) rfl rfl (by kernel_rfl) (by kernel_rfl) (by kernel_rfl) (by kernel_rfl) (by kernel_rfl) (fun _ _ _ h => h) (Or.inl ⟨by rfl, ?t2h5⟩) (by assumption) ?t2r5
                        case t2h5 => (intro y hSu; (try dsimp only at hSu); go_simp; first | done | with_reducible rfl)
                        (try simp only [Act.put, List.setIfInBounds_toArray, List.set_cons_zero, List.set_cons_succ])
                        refine readyL (i := 6) (by kernel_rfl) rfl (fun K hK => ?_)
                        go_simp
                        refine (unhide CU _ (unhide HC _ (below_drewN (Below.refl _ _) 1)).2).mono ?_
                        rintro r w6 ⟨rfl, hb6⟩
                        have HB6 : Hid (Below wr.heap.size wr w6) := (below_drewN (Below.refl wr.heap.size wr) 1).trans (hb6.mono (below_drewN (Below.refl wr.heap.size wr) 1).size)
                        clear CU hb6
                        have HO6 := hide (unhide HC w6 (unhide HB6))
                        (try dsimp only)
                        refine hK.out _ _ (fun _ => (unhide HO6).1) ?_
                        clear hK K
                        (try simp only [Act.put, List.setIfInBounds_toArray, List.set_cons_zero, List.set_cons_succ])
                        have hH4 := (unhide HO6).1
                        refine takeL (i := 7) (v := ?t5v7) (some 91) rfl rfl (by kernel_rfl) (by kernel_rfl) (by kernel_rfl) (by kernel_rfl) (by kernel_rfl) (fun _ _ _ h => h) (Or.inl ⟨by rfl, ?t5h7⟩) (by assumption) ?t5r7
                        case t5h7 => (intro y hSu; (try dsimp only at hSu); go_simp; first | done | with_reducible rfl)
                        (try simp only [Act.put, List.setIfInBounds_toArray, List.set_cons_zero, List.set_cons_succ])
                        refine takeL (i := 8) (v := ?t5v8) (some 92) rfl rfl (by kernel_rfl) (by kernel_rfl) (by kernel_rfl) (by kernel_rfl) (by kernel_rfl) (fun _ _ _ h => h) (Or.inl ⟨by rfl, ?t5h8⟩) (by assumption) ?t5r8
                        case t5h8 => (intro y hSu; (try dsimp only at hSu); go_simp; first | done | with_reducible rfl)
                        (try simp only [Act.put, List.setIfInBounds_toArray, List.set_cons_zero, List.set_cons_succ])
                        refine takeL (i := 9) (v := ?t5v9) (some 93) rfl rfl (by kernel_rfl) (by kernel_rfl) (by kernel_rfl) (by kernel_rfl) (by kernel_rfl) (fun _ _ _ h => h) (Or.inl ⟨by rfl, ?t5h9⟩) (by assumption) ?t5r9
                        case t5h9 => (intro y hSu; (try dsimp only at hSu); go_simp; first | done | with_reducible rfl)
                        (try simp only [Act.put, List.setIfInBounds_toArray, List.set_cons_zero, List.set_cons_succ])
                        refine takeL (i := 10) (v := ?t5v10) (some 94) rfl rfl (by kernel_rfl) (by kernel_rfl) (by kernel_rfl) (by kernel_rfl) (by kernel_rfl) (fun _ _ _ h => h) (Or.inl ⟨by rfl, ?t5h10⟩) (by assumption) ?t5r10
                        case t5h10 => (intro y hSu; (try dsimp only at hSu); go_simp; first | done | with_reducible rfl)
                        (try simp only [Act.put, List.setIfInBounds_toArray, List.set_cons_zero, List.set_cons_succ])
                        refine takeL (i := 11) (v := ?t5v11) (some 95) rfl rfl (by kernel_rfl) (by kernel_rfl) (by kernel_rfl) (by kernel_rfl) (by kernel_rfl) (fun _ _ _ h => h) (Or.inl ⟨by rfl, ?t5h11⟩) (by assumption) ?t5r11
                        case t5h11 => (intro y hSu; (try dsimp only at hSu); go_simp; first | done | with_reducible rfl)
                        (try simp only [Act.put, List.setIfInBounds_toArray, List.set_cons_zero, List.set_cons_succ])
                        refine takeL (i := 12) (v := ?t5v12) (some 96) rfl rfl (by kernel_rfl) (by kernel_rfl) (by kernel_rfl) (by kernel_rfl) (by kernel_rfl) (fun _ _ _ h => h) (Or.inl ⟨by rfl, ?t5h12⟩) (by assumption) ?t5r12
                        case t5h12 => (intro y hSu; (try dsimp only at hSu); go_simp; first | done | with_reducible rfl)
                        (try simp only [Act.put, List.setIfInBounds_toArray, List.set_cons_zero, List.set_cons_succ])
                        refine takeL (i := 13) (v := ?t5v13) (some 97) rfl rfl (by kernel_rfl) (by kernel_rfl) (by kernel_rfl) (by kernel_rfl) (by kernel_rfl) (fun _ _ _ h => h) (Or.inl ⟨by rfl, ?t5h13⟩) (by assumption) ?t5r13
                        case t5h13 => (intro y hSu; (try dsimp only at hSu); go_simp; first | done | with_reducible rfl)
                        (try simp only [Act.put, List.setIfInBounds_toArray, List.set_cons_zero, List.set_cons_succ])
                        refine takeL (i := 14) (v := ?t5v14) (some 98) rfl rfl (by kernel_rfl) (by kernel_rfl) (by kernel_rfl) (by kernel_rfl) (by kernel_rfl) (fun _ _ _ h => h) (Or.inl ⟨by rfl, ?t5h14⟩) (by assumption) ?t5r14
                        case t5h14 => (intro y hSu; (try dsimp only at hSu); go_simp; first | done | with_reducible rfl)
                        (try simp only [Act.put, List.setIfInBounds_toArray, List.set_cons_zero, List.set_cons_succ])
                        refine readyL (i := 15) (by kernel_rfl) rfl (fun K hK => ?_)
                        go_simp
                        refine (unhide CV w6 (unhide HO6).2).mono ?_
                        rintro r w7 ⟨rfl, hb7⟩
                        have HB7 : Hid (Below wr.heap.size wr w7) := (unhide HB6).trans (hb7.mono (unhide HB6).size)
                        clear CV hb7
                        have HO7 := hide (unhide HC w7 (unhide HB7))
                        (try dsimp only)
                        refine hK.out _ _ (fun _ => (unhide HO7).1) ?_
                        clear hK K
                        (try simp only [Act.put, List.setIfInBounds_toArray, List.set_cons_zero, List.set_cons_succ])
                        have hH7 := (unhide HO7).1
                        refine takeL (i := 16) (v := ?t8v16) (some 100) rfl rfl (by kernel_rfl) (by kernel_rfl) (by kernel_rfl) (by kernel_rfl) (by kernel_rfl) (fun _ _ _ h => h) (Or.inl ⟨by rfl, ?t8h16⟩) (by assumption) ?t8r16
                        case t8h16 => (intro y hSu; (try dsimp only at hSu); go_simp; first | done | with_reducible rfl)
                        (try simp only [Act.put, List.setIfInBounds_toArray, List.set_cons_zero, List.set_cons_succ])
                        refine takeL (i := 17) (v := ?t8v17) (some 101) rfl rfl (by kernel_rfl) (by kernel_rfl) (by kernel_rfl) (by kernel_rfl) (by kernel_rfl) (fun _ _ _ h => h) (Or.inl ⟨by rfl, ?t8h17⟩) (by assumption) ?t8r17
                        case t8h17 => (intro y hSu; (try dsimp only at hSu); go_simp; first | done | with_reducible rfl)
                        (try simp only [Act.put, List.setIfInBounds_toArray, List.set_cons_zero, List.set_cons_succ])
                        refine doneL (by kernel_rfl) ?_ _
                        refine NoPanic.normal ?_
                        have HF7 := hide (unhide HO7).2
                        clear hHeld c0 c1' c2' c3 d1 d2 HO6 HO7 HC HB6 HB7
                        go_wp2_with fail
                        (try rw [unhide zw])
                        exact ⟨⟨j, by first | rfl | (rw [(unhide HJ).1]; rfl), (unhide HJ).2.2, unhide HJ2, unhide HF7⟩, by have := unhide HJ; simp [intOf]; omega⟩
                      · have CV := hide (fun W (hW : Below W5.heap.size W5 W) => unhide CP W hW x.2.2.1)
                        rw [show placeOf ys x.2.2.1 = -1 from if_neg hVy] at CV
                        have HE : Hid (rr = 5) := by
                          show rr = 5
                          rw [unhide HRR]
                          exact fc_away (unhide HD1) (unhide HD2) (unhide HLO) (.inr (List.any_eq_true.2 ⟨x, List.mem_of_getElem? (unhide HI2).2, by unfold awayB; rw [decide_eq_false hVy, Bool.not_false, Bool.or_true]⟩))
                        clear HI i1 i2 i3 l1 l2 l3 hlt hx hrow hj hkU hU hVy HI2
                        go_upto_region 24 with fail
                        refine wp_region_noPanic ?_
                        refine regionL [] (fun y => (y.cell? ⟨gg, 0, none⟩ = some (.slice a n c) ∧ y.cell? ⟨gg, 1, none⟩ = some (.slice none 0 0) ∧ y.cell? ⟨gg, 2, none⟩ = some (.int .i64 0) ∧ y.cell? ⟨gg, 3, none⟩ = some (.int .i64 0)) ∧ y.cell? ⟨ge, i * 4 + 1, none⟩ = some (.int .i64 x.2.1) ∧ y.cell? ⟨ge, i * 4 + 2, none⟩ = some (.int .i64 x.2.2.1)) (by kernel_rfl) ⟨⟨c0, c1', c2', c3⟩, d1, d2⟩ (fun hHeld => ?_)
                        refine takeL (i := 0) (v := ?t11v0) (some 84) rfl rfl (by kernel_rfl) (by kernel_rfl) (by kernel_rfl) (by kernel_rfl) (by kernel_rfl) (fun _ _ _ h => h) (Or.inl ⟨by rfl, ?t11h0⟩) (by assumption) ?t11r0
                        case t11h0 => (intro y hSu; (try dsimp only at hSu); go_simp; first | done | with_reducible rfl)
                        (try simp only [Act.put, List.setIfInBounds_toArray, List.set_cons_zero, List.set_cons_succ])
                        refine takeL (i := 1) (v := ?t11v1) (some 85) rfl rfl (by kernel_rfl) (by kernel_rfl) (by kernel_rfl) (by kernel_rfl) (by kernel_rfl) (fun _ _ _ h => h) (Or.inl ⟨by rfl, ?t11h1⟩) (by assumption) ?t11r1
                        case t11h1 => (intro y hSu; (try dsimp only at hSu); go_simp; first | done | with_reducible rfl)
                        (try simp only [Act.put, List.setIfInBounds_toArray, List.set_cons_zero, List.set_cons_succ])
                        refine takeL (i := 2) (v := ?t11v2) (some 86) rfl rfl (by kernel_rfl) (by kernel_rfl) (by kernel_rfl) (by kernel_rfl) (by kernel_rfl) (fun _ _ _ h => h) (Or.inl ⟨by rfl, ?t11h2⟩) (by assumption) ?t11r2
                        case t11h2 => (intro y hSu; (try dsimp only at hSu); go_simp; first | done | with_reducible rfl)
                        (try simp only [Act.put, List.setIfInBounds_toArray, List.set_cons_zero, List.set_cons_succ])
                        refine takeL (i := 3) (v := ?t11v3) (some 87) rfl rfl (by kernel_rfl) (by kernel_rfl) (by kernel_rfl) (by kernel_rfl) (by kernel_rfl) (fun _ _ _ h => h) (Or.inl ⟨by rfl, ?t11h3⟩) (by assumption) ?t11r3
                        case t11h3 => (intro y hSu; (try dsimp only at hSu); go_simp; first | done | with_reducible rfl)
                        (try simp only [Act.put, List.setIfInBounds_toArray, List.set_cons_zero, List.set_cons_succ])
                        refine takeL (i := 4) (v := ?t11v4) (some 88) rfl rfl (by kernel_rfl) (by kernel_rfl) (by kernel_rfl) (by kernel_rfl) (by kernel_rfl) (fun _ _ _ h => h) (Or.inl ⟨by rfl, ?t11h4⟩) (by assumption) ?t11r4
                        case t11h4 => (intro y hSu; (try dsimp only at hSu); go_simp; first | done | with_reducible rfl)
                        (try simp only [Act.put, List.setIfInBounds_toArray, List.set_cons_zero, List.set_cons_succ])
                        refine takeL (i := 5) (v := ?t11v5) (some 89) rfl rfl (by kernel_rfl) (by kernel_rfl) (by kernel_rfl) (by kernel_rfl) (by kernel_rfl) (fun _ _ _ h => h) (Or.inl ⟨by rfl, ?t11h5⟩) (by assumption) ?t11r5
                        case t11h5 => (intro y hSu; (try dsimp only at hSu); go_simp; first | done | with_reducible rfl)
                        (try simp only [Act.put, List.setIfInBounds_toArray, List.set_cons_zero, List.set_cons_succ])
                        refine readyL (i := 6) (by kernel_rfl) rfl (fun K hK => ?_)
                        go_simp
                        refine (unhide CU _ (unhide HC _ (below_drewN (Below.refl _ _) 1)).2).mono ?_
                        rintro r w6 ⟨rfl, hb6⟩
                        have HB6 : Hid (Below wr.heap.size wr w6) := (below_drewN (Below.refl wr.heap.size wr) 1).trans (hb6.mono (below_drewN (Below.refl wr.heap.size wr) 1).size)
                        clear CU hb6
                        have HO6 := hide (unhide HC w6 (unhide HB6))
                        (try dsimp only)
                        refine hK.out _ _ (fun _ => (unhide HO6).1) ?_
                        clear hK K
                        (try simp only [Act.put, List.setIfInBounds_toArray, List.set_cons_zero, List.set_cons_succ])
                        have hH13 := (unhide HO6).1
                        refine takeL (i := 7) (v := ?t14v7) (some 91) rfl rfl (by kernel_rfl) (by kernel_rfl) (by kernel_rfl) (by kernel_rfl) (by kernel_rfl) (fun _ _ _ h => h) (Or.inl ⟨by rfl, ?t14h7⟩) (by assumption) ?t14r7
                        case t14h7 => (intro y hSu; (try dsimp only at hSu); go_simp; first | done | with_reducible rfl)
                        (try simp only [Act.put, List.setIfInBounds_toArray, List.set_cons_zero, List.set_cons_succ])
                        refine takeL (i := 8) (v := ?t14v8) (some 92) rfl rfl (by kernel_rfl) (by kernel_rfl) (by kernel_rfl) (by kernel_rfl) (by kernel_rfl) (fun _ _ _ h => h) (Or.inl ⟨by rfl, ?t14h8⟩) (by assumption) ?t14r8
                        case t14h8 => (intro y hSu; (try dsimp only at hSu); go_simp; first | done | with_reducible rfl)
                        (try simp only [Act.put, List.setIfInBounds_toArray, List.set_cons_zero, List.set_cons_succ])
                        refine takeL (i := 9) (v := ?t14v9) (some 93) rfl rfl (by kernel_rfl) (by kernel_rfl) (by kernel_rfl) (by kernel_rfl) (by kernel_rfl) (fun _ _ _ h => h) (Or.inl ⟨by rfl, ?t14h9⟩) (by assumption) ?t14r9
                        case t14h9 => (intro y hSu; (try dsimp only at hSu); go_simp; first | done | with_reducible rfl)
                        (try simp only [Act.put, List.setIfInBounds_toArray, List.set_cons_zero, List.set_cons_succ])
                        refine takeL (i := 10) (v := ?t14v10) (some 94) rfl rfl (by kernel_rfl) (by kernel_rfl) (by kernel_rfl) (by kernel_rfl) (by kernel_rfl) (fun _ _ _ h => h) (Or.inl ⟨by rfl, ?t14h10⟩) (by assumption) ?t14r10
                        case t14h10 => (intro y hSu; (try dsimp only at hSu); go_simp; first | done | with_reducible rfl)
                        (try simp only [Act.put, List.setIfInBounds_toArray, List.set_cons_zero, List.set_cons_succ])
                        refine takeL (i := 11) (v := ?t14v11) (some 95) rfl rfl (by kernel_rfl) (by kernel_rfl) (by kernel_rfl) (by kernel_rfl) (by kernel_rfl) (fun _ _ _ h => h) (Or.inl ⟨by rfl, ?t14h11⟩) (by assumption) ?t14r11
                        case t14h11 => (intro y hSu; (try dsimp only at hSu); go_simp; first | done | with_reducible rfl)
                        (try simp only [Act.put, List.setIfInBounds_toArray, List.set_cons_zero, List.set_cons_succ])
                        refine takeL (i := 12) (v := ?t14v12) (some 96) rfl rfl (by kernel_rfl) (by kernel_rfl) (by kernel_rfl) (by kernel_rfl) (by kernel_rfl) (fun _ _ _ h => h) (Or.inl ⟨by rfl, ?t14h12⟩) (by assumption) ?t14r12
                        case t14h12 => (intro y hSu; (try dsimp only at hSu); go_simp; first | done | with_reducible rfl)
                        (try simp only [Act.put, List.setIfInBounds_toArray, List.set_cons_zero, List.set_cons_succ])
                        refine takeL (i := 13) (v := ?t14v13) (some 97) rfl rfl (by kernel_rfl) (by kernel_rfl) (by kernel_rfl) (by kernel_rfl) (by kernel_rfl) (fun _ _ _ h => h) (Or.inl ⟨by rfl, ?t14h13⟩) (by assumption) ?t14r13
                        case t14h13 => (intro y hSu; (try dsimp only at hSu); go_simp; first | done | with_reducible rfl)
                        (try simp only [Act.put, List.setIfInBounds_toArray, List.set_cons_zero, List.set_cons_succ])
                        refine takeL (i := 14) (v := ?t14v14) (some 98) rfl rfl (by kernel_rfl) (by kernel_rfl) (by kernel_rfl) (by kernel_rfl) (by kernel_rfl) (fun _ _ _ h => h) (Or.inl ⟨by rfl, ?t14h14⟩) (by assumption) ?t14r14
                        case t14h14 => (intro y hSu; (try dsimp only at hSu); go_simp; first | done | with_reducible rfl)
                        (try simp only [Act.put, List.setIfInBounds_toArray, List.set_cons_zero, List.set_cons_succ])
                        refine readyL (i := 15) (by kernel_rfl) rfl (fun K hK => ?_)
                        go_simp
                        refine (unhide CV w6 (unhide HO6).2).mono ?_
                        rintro r w7 ⟨rfl, hb7⟩
                        have HB7 : Hid (Below wr.heap.size wr w7) := (unhide HB6).trans (hb7.mono (unhide HB6).size)
                        clear CV hb7
                        have HO7 := hide (unhide HC w7 (unhide HB7))
                        (try dsimp only)
                        refine hK.out _ _ (fun _ => (unhide HO7).1) ?_
                        clear hK K
                        (try simp only [Act.put, List.setIfInBounds_toArray, List.set_cons_zero, List.set_cons_succ])
                        have hH16 := (unhide HO7).1
                        refine takeL (i := 16) (v := ?t17v16) (some 100) rfl rfl (by kernel_rfl) (by kernel_rfl) (by kernel_rfl) (by kernel_rfl) (by kernel_rfl) (fun _ _ _ h => h) (Or.inl ⟨by rfl, ?t17h16⟩) (by assumption) ?t17r16
                        case t17h16 => (intro y hSu; (try dsimp only at hSu); go_simp; first | done | with_reducible rfl)
                        (try simp only [Act.put, List.setIfInBounds_toArray, List.set_cons_zero, List.set_cons_succ])
                        refine takeL (i := 17) (v := ?t17v17) (some 101) rfl rfl (by kernel_rfl) (by kernel_rfl) (by kernel_rfl) (by kernel_rfl) (by kernel_rfl) (fun _ _ _ h => h) (Or.inl ⟨by rfl, ?t17h17⟩) (by assumption) ?t17r17
                        case t17h17 => (intro y hSu; (try dsimp only at hSu); go_simp; first | done | with_reducible rfl)
                        (try simp only [Act.put, List.setIfInBounds_toArray, List.set_cons_zero, List.set_cons_succ])
                        refine doneL (by kernel_rfl) ?_ _
                        refine NoPanic.normal ?_
                        have HF7 := hide (unhide HF w7 (unhide HX5 w7 (unhide HO7).2).2.2.2)
                        rw [unhide HE] at HF7
                        clear hHeld c0 c1' c2' c3 d1 d2 HO6 HO7 HC HB6 HB7
                        go_wp2_with fail
                        go_ret
                        exact HF7
                    · have CU := hide (fun W (hW : Below W5.heap.size W5 W) => unhide CP W hW x.2.1)
                      rw [show placeOf ys x.2.1 = -1 from if_neg hU] at CU
                      have HE : Hid (rr = 5) := by
                        show rr = 5
                        rw [unhide HRR]
                        exact fc_away (unhide HD1) (unhide HD2) (unhide HLO) (.inr (List.any_eq_true.2 ⟨x, List.mem_of_getElem? (unhide HI2).2, by unfold awayB; rw [decide_eq_false hU]; rfl⟩))
                      clear HI i1 i2 i3 l1 l2 l3 hlt hx hrow hj hU HI2
                      go_upto_region 24 with fail
                      refine wp_region_noPanic ?_
                      refine regionL [] (fun y => (y.cell? ⟨gg, 0, none⟩ = some (.slice a n c) ∧ y.cell? ⟨gg, 1, none⟩ = some (.slice none 0 0) ∧ y.cell? ⟨gg, 2, none⟩ = some (.int .i64 0) ∧ y.cell? ⟨gg, 3, none⟩ = some (.int .i64 0)) ∧ y.cell? ⟨ge, i * 4 + 1, none⟩ = some (.int .i64 x.2.1) ∧ y.cell? ⟨ge, i * 4 + 2, none⟩ = some (.int .i64 x.2.2.1)) (by kernel_rfl) ⟨⟨c0, c1', c2', c3⟩, d1, d2⟩ (fun hHeld => ?_)
                      refine takeL (i := 0) (v := ?t20v0) (some 84) rfl rfl (by kernel_rfl) (by kernel_rfl) (by kernel_rfl) (by kernel_rfl) (by kernel_rfl) (fun _ _ _ h => h) (Or.inl ⟨by rfl, ?t20h0⟩) (by assumption) ?t20r0
                      case t20h0 => (intro y hSu; (try dsimp only at hSu); go_simp; first | done | with_reducible rfl)
                      (try simp only [Act.put, List.setIfInBounds_toArray, List.set_cons_zero, List.set_cons_succ])
                      refine takeL (i := 1) (v := ?t20v1) (some 85) rfl rfl (by kernel_rfl) (by kernel_rfl) (by kernel_rfl) (by kernel_rfl) (by kernel_rfl) (fun _ _ _ h => h) (Or.inl ⟨by rfl, ?t20h1⟩) (by assumption) ?t20r1
                      case t20h1 => (intro y hSu; (try dsimp only at hSu); go_simp; first | done | with_reducible rfl)
                      (try simp only [Act.put, List.setIfInBounds_toArray, List.set_cons_zero, List.set_cons_succ])
                      refine takeL (i := 2) (v := ?t20v2) (some 86) rfl rfl (by kernel_rfl) (by kernel_rfl) (by kernel_rfl) (by kernel_rfl) (by kernel_rfl) (fun _ _ _ h => h) (Or.inl ⟨by rfl, ?t20h2⟩) (by assumption) ?t20r2
                      case t20h2 => (intro y hSu; (try dsimp only at hSu); go_simp; first | done | with_reducible rfl)
                      (try simp only [Act.put, List.setIfInBounds_toArray, List.set_cons_zero, List.set_cons_succ])
                      refine takeL (i := 3) (v := ?t20v3) (some 87) rfl rfl (by kernel_rfl) (by kernel_rfl) (by kernel_rfl) (by kernel_rfl) (by kernel_rfl) (fun _ _ _ h => h) (Or.inl ⟨by rfl, ?t20h3⟩) (by assumption) ?t20r3
                      case t20h3 => (intro y hSu; (try dsimp only at hSu); go_simp; first | done | with_reducible rfl)
                      (try simp only [Act.put, List.setIfInBounds_toArray, List.set_cons_zero, List.set_cons_succ])
                      refine takeL (i := 4) (v := ?t20v4) (some 88) rfl rfl (by kernel_rfl) (by kernel_rfl) (by kernel_rfl) (by kernel_rfl) (by kernel_rfl) (fun _ _ _ h => h) (Or.inl ⟨by rfl, ?t20h4⟩) (by assumption) ?t20r4
                      case t20h4 => (intro y hSu; (try dsimp only at hSu); go_simp; first | done | with_reducible rfl)
                      (try simp only [Act.put, List.setIfInBounds_toArray, List.set_cons_zero, List.set_cons_succ])
                      refine takeL (i := 5) (v := ?t20v5) (some 89) rfl rfl (by kernel_rfl) (by kernel_rfl) (by kernel_rfl) (by kernel_rfl) (by kernel_rfl) (fun _ _ _ h => h) (Or.inl ⟨by rfl, ?t20h5⟩) (by assumption) ?t20r5
                      case t20h5 => (intro y hSu; (try dsimp only at hSu); go_simp; first | done | with_reducible rfl)
                      (try simp only [Act.put, List.setIfInBounds_toArray, List.set_cons_zero, List.set_cons_succ])
                      refine readyL (i := 6) (by kernel_rfl) rfl (fun K hK => ?_)
                      go_simp
                      refine (unhide CU _ (unhide HC _ (below_drewN (Below.refl _ _) 1)).2).mono ?_
                      rintro r w6 ⟨rfl, hb6⟩
                      have HB6 : Hid (Below wr.heap.size wr w6) := (below_drewN (Below.refl wr.heap.size wr) 1).trans (hb6.mono (below_drewN (Below.refl wr.heap.size wr) 1).size)
                      clear CU hb6
                      have HO6 := hide (unhide HC w6 (unhide HB6))
                      (try dsimp only)
                      refine hK.out _ _ (fun _ => (unhide HO6).1) ?_
                      clear hK K
                      (try simp only [Act.put, List.setIfInBounds_toArray, List.set_cons_zero, List.set_cons_succ])
                      have hH22 := (unhide HO6).1
                      refine takeL (i := 7) (v := ?t23v7) (some 91) rfl rfl (by kernel_rfl) (by kernel_rfl) (by kernel_rfl) (by kernel_rfl) (by kernel_rfl) (fun _ _ _ h => h) (Or.inl ⟨by rfl, ?t23h7⟩) (by assumption) ?t23r7
                      case t23h7 => (intro y hSu; (try dsimp only at hSu); go_simp; first | done | with_reducible rfl)
                      (try simp only [Act.put, List.setIfInBounds_toArray, List.set_cons_zero, List.set_cons_succ])
                      refine takeL (i := 8) (v := ?t23v8) (some 92) rfl rfl (by kernel_rfl) (by kernel_rfl) (by kernel_rfl) (by kernel_rfl) (by kernel_rfl) (fun _ _ _ h => h) (Or.inl ⟨by rfl, ?t23h8⟩) (by assumption) ?t23r8
                      case t23h8 => (intro y hSu; (try dsimp only at hSu); go_simp; first | done | with_reducible rfl)
                      (try simp only [Act.put, List.setIfInBounds_toArray, List.set_cons_zero, List.set_cons_succ])
                      refine takeL (i := 9) (v := undef) (some 93) rfl rfl (by kernel_rfl) (by kernel_rfl) (by kernel_rfl) (by kernel_rfl) (by kernel_rfl) (fun _ _ _ h => h) (Or.inr ⟨by rfl, rfl⟩) (by assumption) ?t24r9
                      (try simp only [Act.put, List.setIfInBounds_toArray, List.set_cons_zero, List.set_cons_succ])
                      refine takeL (i := 10) (v := undef) (some 94) rfl rfl (by kernel_rfl) (by kernel_rfl) (by kernel_rfl) (by kernel_rfl) (by kernel_rfl) (fun _ _ _ h => h) (Or.inr ⟨by rfl, rfl⟩) (by assumption) ?t24r10
                      (try simp only [Act.put, List.setIfInBounds_toArray, List.set_cons_zero, List.set_cons_succ])
                      refine takeL (i := 11) (v := undef) (some 95) rfl rfl (by kernel_rfl) (by kernel_rfl) (by kernel_rfl) (by kernel_rfl) (by kernel_rfl) (fun _ _ _ h => h) (Or.inr ⟨by rfl, rfl⟩) (by assumption) ?t24r11
                      (try simp only [Act.put, List.setIfInBounds_toArray, List.set_cons_zero, List.set_cons_succ])
                      refine takeL (i := 12) (v := undef) (some 96) rfl rfl (by kernel_rfl) (by kernel_rfl) (by kernel_rfl) (by kernel_rfl) (by kernel_rfl) (fun _ _ _ h => h) (Or.inr ⟨by rfl, rfl⟩) (by assumption) ?t24r12
                      (try simp only [Act.put, List.setIfInBounds_toArray, List.set_cons_zero, List.set_cons_succ])
                      refine takeL (i := 13) (v := undef) (some 97) rfl rfl (by kernel_rfl) (by kernel_rfl) (by kernel_rfl) (by kernel_rfl) (by kernel_rfl) (fun _ _ _ h => h) (Or.inr ⟨by rfl, rfl⟩) (by assumption) ?t24r13
                      (try simp only [Act.put, List.setIfInBounds_toArray, List.set_cons_zero, List.set_cons_succ])
                      refine takeL (i := 14) (v := undef) (some 98) rfl rfl (by kernel_rfl) (by kernel_rfl) (by kernel_rfl) (by kernel_rfl) (by kernel_rfl) (fun _ _ _ h => h) (Or.inr ⟨by rfl, rfl⟩) (by assumption) ?t24r14
                      (try simp only [Act.put, List.setIfInBounds_toArray, List.set_cons_zero, List.set_cons_succ])
                      refine takeL (i := 15) (v := undef) (some 99) rfl rfl (by kernel_rfl) (by kernel_rfl) (by kernel_rfl) (by kernel_rfl) (by kernel_rfl) (fun _ _ _ h => h) (Or.inr ⟨by rfl, rfl⟩) (by assumption) ?t24r15
                      (try simp only [Act.put, List.setIfInBounds_toArray, List.set_cons_zero, List.set_cons_succ])
                      refine takeL (i := 16) (v := undef) (some 100) rfl rfl (by kernel_rfl) (by kernel_rfl) (by kernel_rfl) (by kernel_rfl) (by kernel_rfl) (fun _ _ _ h => h) (Or.inr ⟨by rfl, rfl⟩) (by assumption) ?t24r16
                      (try simp only [Act.put, List.setIfInBounds_toArray, List.set_cons_zero, List.set_cons_succ])
                      refine takeL (i := 17) (v := ?t25v17) (some 101) rfl rfl (by kernel_rfl) (by kernel_rfl) (by kernel_rfl) (by kernel_rfl) (by kernel_rfl) (fun _ _ _ h => h) (Or.inl ⟨by rfl, ?t25h17⟩) (by assumption) ?t25r17
                      case t25h17 => (intro y hSu; (try dsimp only at hSu); go_simp; first | done | with_reducible rfl)
                      (try simp only [Act.put, List.setIfInBounds_toArray, List.set_cons_zero, List.set_cons_succ])
                      refine doneL (by kernel_rfl) ?_ _
                      refine NoPanic.normal ?_
                      have HF6 := hide (unhide HF w6 (unhide HX5 w6 (unhide HO6).2).2.2.2)
                      rw [unhide HE] at HF6
                      clear hHeld c0 c1' c2' c3 d1 d2 HO6 HC HB6
                      go_wp2_with fail
                      go_ret
                      exact HF6
                  · have z1 : ¬ (i : Int) < (n2 : Int) := by omega
                    rw [List.take_of_length_le (by omega)] at i2
                    have HAW : Hid (es.any (awayB ys) = false ∧ Below W5.heap.size W5 wr) := ⟨i2, i3⟩
                    obtain ⟨⟨c0, c1', c2', c3⟩, -⟩ := unhide HX5 wr i3
                    by_cases hsy : s ∈ ys
                    · obtain ⟨kS, hkS⟩ := unhide HPO s hsy
                      have CU := hide (unhide CP wr i3 s)
                      rw [hkS] at CU
                      have zS : ¬ (kS : Int) < 0 := by omega
                      have HSY := hide hsy
                      clear HI i1 i2 i3 l1 l2 l3 hlt hkS hsy
                      go_wp2_with fail
                      refine (unhide CU).mono ?_
                      rintro r w6 ⟨rfl, hb6⟩
                      have HB6 : Hid (Below W5.heap.size W5 w6) := (unhide HAW).2.trans (hb6.mono (unhide HAW).2.size)
                      clear CU hb6 c0 c1' c2' c3 z1
                      go_wp2_with fail
                      clear zS
                      go_loopw [14] (fun s14 wr => ∃ (i : Nat), s14 = .int .i64 i ∧ wr = w6 ∧ Hid (i ≤ n2 ∧ (es.take i).any badB = false)) (fun s14 _ => n2 - (intOf s14).toNat)
                      case atStart => exact ⟨0, rfl, rfl, Nat.zero_le _, rfl⟩
                      case round =>
                        obtain ⟨i, rfl, rfl, HI⟩ := hrel
                        obtain ⟨i1, i2⟩ := unhide HI
                        obtain ⟨l1, l2, l3⟩ := unhide HN
                        by_cases hlt : i < n2
                        · obtain ⟨x, hx⟩ : ∃ x, es[i]? = some x := ⟨_, List.getElem?_eq_getElem (by omega)⟩
                          have hrow := (unhide HX5 _ (unhide HB6)).2.1
                          obtain ⟨ge, rfl⟩ := rrow_some hrow (by omega)
                          obtain ⟨-, -, -, d3⟩ := erow_at hrow hx
                          have CA := hide (admitR x.2.2.2)
                          obtain ⟨j, hj⟩ : ∃ j, j = i + 1 := ⟨_, rfl⟩
                          have zw : Hid (wrap64 ((i : Int) + 1) = (j : Int)) := by show wrap64 ((i : Int) + 1) = (j : Int); unfold wrap64; omega
                          have HJ : Hid (j = i + 1 ∧ n2 - j < n2 - i ∧ j ≤ n2) := ⟨hj, by omega, by omega⟩
                          have HI2 : Hid ((es.take i).any badB = false ∧ es[i]? = some x) := ⟨i2, hx⟩
                          have z1 : (i : Int) < (n2 : Int) := by omega
                          generalize (kept x.2.2.2).getD 0 = kb at CA
                          cases hbd : badB x with
                          | true =>
                            have e7 : (kept x.2.2.2).isNone = true := hbd
                            rw [e7, if_pos rfl] at CA
                            have HE : Hid (rr = 7) := by
                              show rr = 7
                              rw [unhide HRR]
                              exact fc_bad (unhide HD1) (unhide HD2) (unhide HLO) (unhide HSY) (unhide HAW).1 (List.any_eq_true.2 ⟨x, List.mem_of_getElem? hx, hbd⟩)
                            have HF6 := hide (unhide HF _ (unhide HX5 _ (unhide HB6)).2.2.2)
                            rw [unhide HE] at HF6
                            clear HI i1 i2 l1 l2 l3 hlt hx hrow hj hbd e7 HI2
                            go_wp2_with fail
                            refine (unhide CA _).mono ?_
                            rintro r w7 ⟨rfl, hw7⟩
                            rw [hw7]
                            clear CA hw7 w7 d3
                            go_wp2_with fail
                            go_ret
                            exact HF6
                          | false =>
                            have e7 : (kept x.2.2.2).isNone = false := hbd
                            rw [e7, if_neg (by decide)] at CA
                            have HJ2 : Hid ((es.take j).any badB = false) := by
                              show (es.take j).any badB = false
                              rw [(unhide HJ).1]
                              exact any_take (unhide HI2).1 (unhide HI2).2 hbd
                            clear HI i1 i2 l1 l2 l3 hlt hx hrow hj hbd e7 HI2
                            go_wp2_with fail
                            refine (unhide CA _).mono ?_
                            rintro r w7 ⟨rfl, hw7⟩
                            rw [hw7]
                            clear CA hw7 w7 d3
                            go_wp2_with fail
                            (try rw [unhide zw])
                            exact ⟨⟨j, by first | rfl | (rw [(unhide HJ).1]; rfl), trivial, (unhide HJ).2.2, unhide HJ2⟩, by have := unhide HJ; simp [intOf]; omega⟩
                        · have z1 : ¬ (i : Int) < (n2 : Int) := by omega
                          rw [List.take_of_length_le (by omega)] at i2
                          have HE : Hid (rr = 0) := by
                            show rr = 0
                            rw [unhide HRR]
                            exact fc_none (unhide HD1) (unhide HD2) (unhide HLO) (unhide HSY) (unhide HAW).1 i2
                          have HF6 := hide (unhide HF _ (unhide HX5 _ (unhide HB6)).2.2.2)
                          rw [unhide HE] at HF6
                          clear HI i1 i2 l1 l2 l3 hlt
                          go_wp2_with fail
                          go_ret
                          exact HF6
                    · have CU := hide (unhide CP wr i3 s)
                      rw [show placeOf ys s = -1 from if_neg hsy] at CU
                      have HE : Hid (rr = 5) := by
                        show rr = 5
                        rw [unhide HRR]
                        exact fc_away (unhide HD1) (unhide HD2) (unhide HLO) (.inl hsy)
                      clear HI i1 i2 i3 l1 l2 l3 hlt hsy
                      go_wp2_with fail
                      refine (unhide CU).mono ?_
                      rintro r w6 ⟨rfl, hb6⟩
                      have HF6 := hide (unhide HF w6 (unhide HX5 w6 ((unhide HAW).2.trans (hb6.mono (unhide HAW).2.size))).2.2.2)
                      rw [unhide HE] at HF6
                      clear CU hb6 c0 c1' c2' c3 z1
                      go_wp2_with fail
                      go_ret
                      exact HF6
              · obtain ⟨x0, hx0⟩ : ∃ x, ns[0]? = some x := ⟨_, List.getElem?_eq_getElem (by omega)⟩
                obtain ⟨g0, rfl⟩ := brow_some s3 (by omega)
                have d0 : w3.cell? ⟨g0, 0, none⟩ = some (.int .i64 x0) := brow_at s3 hx0
                have z2 : (0 : Int) < (nn : Int) := by omega
                by_cases hlow : x0 < 1
                · have HE : Hid (rr = 1 ∧ Below w.heap.size w w3) := ⟨by rw [y7]; exact fc_low (unhide HD1) hD2 ((low_first s1 s2).2 ⟨x0, hx0, hlow⟩), s5⟩
                  clear HI i1 i2 i3 y1 y2 y3 y4 y5 y6 y7 s1 s2 s3 s4 s5 s6 s7 hlt hD2 hx0 hn0
                  go_wp2_with fail
                  go_ret
                  have := unhide HF _ (below_drewN (unhide HE).2 q)
                  rw [(unhide HE).1] at this
                  exact this
                · have HLO : Hid (es.any lowB = false) := by
                    show es.any lowB = false
                    cases hq : es.any lowB with
                    | false => rfl
                    | true =>
                      obtain ⟨x, hx, h1⟩ := (low_first s1 s2).1 hq
                      rw [hx0] at hx
                      have := Option.some.inj hx
                      omega
                  obtain ⟨wE, hwE⟩ : ∃ wE, wE = w3.drewN q := ⟨_, rfl⟩
                  have HSE : Hid (NRow wE (.slice a n c) ys ∧ Below w.heap.size w wE) := ⟨by rw [hwE]; exact nrow_kept s4 (fun _ _ => rfl), by rw [hwE]; exact below_drewN s5 q⟩
                  rw [← hwE]
                  replace d0 : wE.cell? ⟨g0, 0, none⟩ = some (.int .i64 x0) := by rw [hwE]; exact d0
                  clear HI i1 i2 i3 y1 y2 y3 y4 y5 y6 y7 s1 s2 s3 s4 s5 s6 s7 hlt hD2 hx0 hn0 hwE
                  have hb5 := below_new wE (oGr (.slice a n c) (.slice none 0 0) 0 0)
                  have hbx5 := heap_alloc_new wE (oGr (.slice a n c) (.slice none 0 0) 0 0)
                  obtain ⟨W5, hW5⟩ : ∃ W5, W5 = wE.alloc (oGr (.slice a n c) (.slice none 0 0) 0 0) := ⟨_, rfl⟩
                  obtain ⟨gg, hgg⟩ : ∃ gg, gg = wE.heap.size := ⟨_, rfl⟩
                  rw [← hW5] at hb5 hbx5
                  rw [← hgg] at hbx5
                  have hgl : gg < W5.heap.size := (Array.getElem?_eq_some_iff.1 hbx5).1
                  have HX5 : Hid (∀ W, Below W5.heap.size W5 W → (W.cell? ⟨gg, 0, none⟩ = some (.slice a n c) ∧ W.cell? ⟨gg, 1, none⟩ = some (.slice none 0 0) ∧ W.cell? ⟨gg, 2, none⟩ = some (.int .i64 0) ∧ W.cell? ⟨gg, 3, none⟩ = some (.int .i64 0)) ∧ ERow 0 W (.slice x2 n2 c2) es ∧ NRow W (.slice a n c) ys ∧ Below w.heap.size w W) := fun W hW => by
                    obtain ⟨s4, hq⟩ := unhide HSE
                    obtain ⟨c0, c1, c2', c3, -⟩ := cellsGr ((hW.block gg hgl).trans hbx5)
                    have hB : Below w.heap.size w W := (hq.trans (hb5.mono hq.size)).trans (hW.mono (hq.trans (hb5.mono hq.size)).size)
                    exact ⟨⟨c0, c1, c2', c3⟩, unhide HA W hB, nrow_below (nrow_below s4 hb5) hW, hB⟩
                  have CP : Hid (∀ W, Below W5.heap.size W5 W → ∀ x, Calls Try.prog 29 #[.agg #[.slice a n c, .slice none 0 0, .int .i64 0, .int .i64 0], .int .i64 x] W fun e w' => e = .returned (.int .i64 (placeOf ys x)) ∧ Below W.heap.size W w') := fun W hW x => placeR (unhide HX5 W hW).2.2.1 (strict_of_nodup (unhide HY).2.1 (unhide HD1)) (by have := (unhide HY).2.2.2.2.1; have := (unhide HY).2.2.2.2.2.1; omega)
                  have HPO : Hid (∀ x, x ∈ ys → ∃ k : Nat, placeOf ys x = (k : Int)) := fun x hx => ⟨_, placeOf_some (strict_of_nodup (unhide HY).2.1 (unhide HD1)) (at_plc (strict_of_nodup (unhide HY).2.1 (unhide HD1)) hx)⟩
                  have HRR : Hid (rr = faultC ys es s) := (unhide HY).2.2.2.2.2.2
                  have HW5 := hide hW5
                  have HGG := hide hgg
                  clear hb5 hbx5 hW5 hgg hgl
                  go_upto_region 21 with fail
                  rw [show wE.alloc (Obj.cells #[Value.slice a n c, Value.slice none 0 0, Value.int IntKind.i64 0, Value.int IntKind.i64 0] 34) = W5 from (unhide HW5).symm]
                  rw [show wE.heap.size = gg from (unhide HGG).symm]
                  clear HW5 HGG
                  go_wp2_with fail
                  go_loopw [13] (fun s13 wr => ∃ (i : Nat), s13 = .int .i64 i ∧ Hid (i ≤ n2 ∧ (es.take i).any (awayB ys) = false ∧ Below W5.heap.size W5 wr)) (fun s13 _ => n2 - (intOf s13).toNat)
                  case atStart => exact ⟨0, rfl, Nat.zero_le _, rfl, Below.refl _ _⟩
                  case round =>
                    obtain ⟨i, rfl, HI⟩ := hrel
                    obtain ⟨i1, i2, i3⟩ := unhide HI
                    obtain ⟨l1, l2, l3⟩ := unhide HN
                    by_cases hlt : i < n2
                    · obtain ⟨x, hx⟩ : ∃ x, es[i]? = some x := ⟨_, List.getElem?_eq_getElem (by omega)⟩
                      have hrow := (unhide HX5 wr i3).2.1
                      obtain ⟨ge, rfl⟩ := rrow_some hrow (by omega)
                      have HC : Hid (∀ W, Below wr.heap.size wr W → ((W.cell? ⟨gg, 0, none⟩ = some (.slice a n c) ∧ W.cell? ⟨gg, 1, none⟩ = some (.slice none 0 0) ∧ W.cell? ⟨gg, 2, none⟩ = some (.int .i64 0) ∧ W.cell? ⟨gg, 3, none⟩ = some (.int .i64 0)) ∧ W.cell? ⟨ge, i * 4 + 1, none⟩ = some (.int .i64 x.2.1) ∧ W.cell? ⟨ge, i * 4 + 2, none⟩ = some (.int .i64 x.2.2.1)) ∧ Below W5.heap.size W5 W) := fun W hW => by
                        have h3 := i3.trans (hW.mono i3.size)
                        obtain ⟨cc, hE, -, -⟩ := unhide HX5 W h3
                        obtain ⟨-, e1, e2, -⟩ := erow_at hE hx
                        exact ⟨⟨cc, e1, e2⟩, h3⟩
                      obtain ⟨⟨⟨c0, c1', c2', c3⟩, d1, d2⟩, -⟩ := unhide HC wr (Below.refl _ _)
                      obtain ⟨j, hj⟩ : ∃ j, j = i + 1 := ⟨_, rfl⟩
                      have zw : Hid (wrap64 ((i : Int) + 1) = (j : Int)) := by show wrap64 ((i : Int) + 1) = (j : Int); unfold wrap64; omega
                      have HJ : Hid (j = i + 1 ∧ n2 - j < n2 - i ∧ j ≤ n2) := ⟨hj, by omega, by omega⟩
                      have HI2 : Hid ((es.take i).any (awayB ys) = false ∧ es[i]? = some x) := ⟨i2, hx⟩
                      have z1 : (i : Int) < (n2 : Int) := by omega
                      by_cases hU : x.2.1 ∈ ys
                      · obtain ⟨kU, hkU⟩ := unhide HPO x.2.1 hU
                        have CU := hide (fun W (hW : Below W5.heap.size W5 W) => unhide CP W hW x.2.1)
                        rw [hkU] at CU
                        have zU : ¬ (kU : Int) < 0 := by omega
                        by_cases hVy : x.2.2.1 ∈ ys
                        · obtain ⟨kV, hkV⟩ := unhide HPO x.2.2.1 hVy
                          have CV := hide (fun W (hW : Below W5.heap.size W5 W) => unhide CP W hW x.2.2.1)
                          rw [hkV] at CV
                          have zV : ¬ (kV : Int) < 0 := by omega
                          have HJ2 : Hid ((es.take j).any (awayB ys) = false) := by
                            show (es.take j).any (awayB ys) = false
                            rw [(unhide HJ).1]
                            exact any_take (unhide HI2).1 (unhide HI2).2 (by unfold awayB; rw [decide_eq_true hU, decide_eq_true hVy]; rfl)
                          clear HI i1 i2 i3 l1 l2 l3 hlt hx hrow hj hkU hkV hU hVy HI2
                          go_upto_region 24 with fail
                          refine wp_region_noPanic ?_
                          refine regionL [] (fun y => (y.cell? ⟨gg, 0, none⟩ = some (.slice a n c) ∧ y.cell? ⟨gg, 1, none⟩ = some (.slice none 0 0) ∧ y.cell? ⟨gg, 2, none⟩ = some (.int .i64 0) ∧ y.cell? ⟨gg, 3, none⟩ = some (.int .i64 0)) ∧ y.cell? ⟨ge, i * 4 + 1, none⟩ = some (.int .i64 x.2.1) ∧ y.cell? ⟨ge, i * 4 + 2, none⟩ = some (.int .i64 x.2.2.1)) (by kernel_rfl) ⟨⟨c0, c1', c2', c3⟩, d1, d2⟩ (fun hHeld => ?_)
                          refine takeL (i := 0) (v := ?t28v0) (some 84) rfl rfl (by kernel_rfl) (by kernel_rfl) (by kernel_rfl) (by kernel_rfl) (by kernel_rfl) (fun _ _ _ h => h) (Or.inl ⟨by rfl, ?t28h0⟩) (by assumption) ?t28r0
                          case t28h0 => (intro y hSu; (try dsimp only at hSu); go_simp; first | done | with_reducible rfl)
                          (try simp only [Act.put, List.setIfInBounds_toArray, List.set_cons_zero, List.set_cons_succ])
                          refine takeL (i := 1) (v := ?t28v1) (some 85) rfl rfl (by kernel_rfl) (by kernel_rfl) (by kernel_rfl) (by kernel_rfl) (by kernel_rfl) (fun _ _ _ h => h) (Or.inl ⟨by rfl, ?t28h1⟩) (by assumption) ?t28r1
                          case t28h1 => (intro y hSu; (try dsimp only at hSu); go_simp; first | done | with_reducible rfl)
                          (try simp only [Act.put, List.setIfInBounds_toArray, List.set_cons_zero, List.set_cons_succ])
                          refine takeL (i := 2) (v := ?t28v2) (some 86) rfl rfl (by kernel_rfl) (by kernel_rfl) (by kernel_rfl) (by kernel_rfl) (by kernel_rfl) (fun _ _ _ h => h) (Or.inl ⟨by rfl, ?t28h2⟩) (by assumption) ?t28r2
                          case t28h2 => (intro y hSu; (try dsimp only at hSu); go_simp; first | done | with_reducible rfl)
                          (try simp only [Act.put, List.setIfInBounds_toArray, List.set_cons_zero, List.set_cons_succ])
                          refine takeL (i := 3) (v := ?t28v3) (some 87) rfl rfl (by kernel_rfl) (by kernel_rfl) (by kernel_rfl) (by kernel_rfl) (by kernel_rfl) (fun _ _ _ h => h) (Or.inl ⟨by rfl, ?t28h3⟩) (by assumption) ?t28r3
                          case t28h3 => (intro y hSu; (try dsimp only at hSu); go_simp; first | done | with_reducible rfl)
                          (try simp only [Act.put, List.setIfInBounds_toArray, List.set_cons_zero, List.set_cons_succ])
                          refine takeL (i := 4) (v := ?t28v4) (some 88) rfl rfl (by kernel_rfl) (by kernel_rfl) (by kernel_rfl) (by kernel_rfl) (by kernel_rfl) (fun _ _ _ h => h) (Or.inl ⟨by rfl, ?t28h4⟩) (by assumption) ?t28r4
                          case t28h4 => (intro y hSu; (try dsimp only at hSu); go_simp; first | done | with_reducible rfl)
                          (try simp only [Act.put, List.setIfInBounds_toArray, List.set_cons_zero, List.set_cons_succ])
                          refine takeL (i := 5) (v := ?t28v5) (some 89) rfl rfl (by kernel_rfl) (by kernel_rfl) (by kernel_rfl) (by kernel_rfl) (by kernel_rfl) (fun _ _ _ h => h) (Or.inl ⟨by rfl, ?t28h5⟩) (by assumption) ?t28r5
                          case t28h5 => (intro y hSu; (try dsimp only at hSu); go_simp; first | done | with_reducible rfl)
                          (try simp only [Act.put, List.setIfInBounds_toArray, List.set_cons_zero, List.set_cons_succ])
                          refine readyL (i := 6) (by kernel_rfl) rfl (fun K hK => ?_)
                          go_simp
                          refine (unhide CU _ (unhide HC _ (below_drewN (Below.refl _ _) 1)).2).mono ?_
                          rintro r w6 ⟨rfl, hb6⟩
                          have HB6 : Hid (Below wr.heap.size wr w6) := (below_drewN (Below.refl wr.heap.size wr) 1).trans (hb6.mono (below_drewN (Below.refl wr.heap.size wr) 1).size)
                          clear CU hb6
                          have HO6 := hide (unhide HC w6 (unhide HB6))
                          (try dsimp only)
                          refine hK.out _ _ (fun _ => (unhide HO6).1) ?_
                          clear hK K
                          (try simp only [Act.put, List.setIfInBounds_toArray, List.set_cons_zero, List.set_cons_succ])
                          have hH30 := (unhide HO6).1
                          refine takeL (i := 7) (v := ?t31v7) (some 91) rfl rfl (by kernel_rfl) (by kernel_rfl) (by kernel_rfl) (by kernel_rfl) (by kernel_rfl) (fun _ _ _ h => h) (Or.inl ⟨by rfl, ?t31h7⟩) (by assumption) ?t31r7
                          case t31h7 => (intro y hSu; (try dsimp only at hSu); go_simp; first | done | with_reducible rfl)
                          (try simp only [Act.put, List.setIfInBounds_toArray, List.set_cons_zero, List.set_cons_succ])
                          refine takeL (i := 8) (v := ?t31v8) (some 92) rfl rfl (by kernel_rfl) (by kernel_rfl) (by kernel_rfl) (by kernel_rfl) (by kernel_rfl) (fun _ _ _ h => h) (Or.inl ⟨by rfl, ?t31h8⟩) (by assumption) ?t31r8
                          case t31h8 => (intro y hSu; (try dsimp only at hSu); go_simp; first | done | with_reducible rfl)
                          (try simp only [Act.put, List.setIfInBounds_toArray, List.set_cons_zero, List.set_cons_succ])
                          refine takeL (i := 9) (v := ?t31v9) (some 93) rfl rfl (by kernel_rfl) (by kernel_rfl) (by kernel_rfl) (by kernel_rfl) (by kernel_rfl) (fun _ _ _ h => h) (Or.inl ⟨by rfl, ?t31h9⟩) (by assumption) ?t31r9
                          case t31h9 => (intro y hSu; (try dsimp only at hSu); go_simp; first | done | with_reducible rfl)
                          (try simp only [Act.put, List.setIfInBounds_toArray, List.set_cons_zero, List.set_cons_succ])
                          refine takeL (i := 10) (v := ?t31v10) (some 94) rfl rfl (by kernel_rfl) (by kernel_rfl) (by kernel_rfl) (by kernel_rfl) (by kernel_rfl) (fun _ _ _ h => h) (Or.inl ⟨by rfl, ?t31h10⟩) (by assumption) ?t31r10
                          case t31h10 => (intro y hSu; (try dsimp only at hSu); go_simp; first | done | with_reducible rfl)
                          (try simp only [Act.put, List.setIfInBounds_toArray, List.set_cons_zero, List.set_cons_succ])
                          refine takeL (i := 11) (v := ?t31v11) (some 95) rfl rfl (by kernel_rfl) (by kernel_rfl) (by kernel_rfl) (by kernel_rfl) (by kernel_rfl) (fun _ _ _ h => h) (Or.inl ⟨by rfl, ?t31h11⟩) (by assumption) ?t31r11
                          case t31h11 => (intro y hSu; (try dsimp only at hSu); go_simp; first | done | with_reducible rfl)
                          (try simp only [Act.put, List.setIfInBounds_toArray, List.set_cons_zero, List.set_cons_succ])
                          refine takeL (i := 12) (v := ?t31v12) (some 96) rfl rfl (by kernel_rfl) (by kernel_rfl) (by kernel_rfl) (by kernel_rfl) (by kernel_rfl) (fun _ _ _ h => h) (Or.inl ⟨by rfl, ?t31h12⟩) (by assumption) ?t31r12
                          case t31h12 => (intro y hSu; (try dsimp only at hSu); go_simp; first | done | with_reducible rfl)
                          (try simp only [Act.put, List.setIfInBounds_toArray, List.set_cons_zero, List.set_cons_succ])
                          refine takeL (i := 13) (v := ?t31v13) (some 97) rfl rfl (by kernel_rfl) (by kernel_rfl) (by kernel_rfl) (by kernel_rfl) (by kernel_rfl) (fun _ _ _ h => h) (Or.inl ⟨by rfl, ?t31h13⟩) (by assumption) ?t31r13
                          case t31h13 => (intro y hSu; (try dsimp only at hSu); go_simp; first | done | with_reducible rfl)
                          (try simp only [Act.put, List.setIfInBounds_toArray, List.set_cons_zero, List.set_cons_succ])
                          refine takeL (i := 14) (v := ?t31v14) (some 98) rfl rfl (by kernel_rfl) (by kernel_rfl) (by kernel_rfl) (by kernel_rfl) (by kernel_rfl) (fun _ _ _ h => h) (Or.inl ⟨by rfl, ?t31h14⟩) (by assumption) ?t31r14
                          case t31h14 => (intro y hSu; (try dsimp only at hSu); go_simp; first | done | with_reducible rfl)
                          (try simp only [Act.put, List.setIfInBounds_toArray, List.set_cons_zero, List.set_cons_succ])
                          refine readyL (i := 15) (by kernel_rfl) rfl (fun K hK => ?_)
                          go_simp
                          refine (unhide CV w6 (unhide HO6).2).mono ?_
                          rintro r w7 ⟨rfl, hb7⟩
                          have HB7 : Hid (Below wr.heap.size wr w7) := (unhide HB6).trans (hb7.mono (unhide HB6).size)
                          clear CV hb7
                          have HO7 := hide (unhide HC w7 (unhide HB7))
                          (try dsimp only)
                          refine hK.out _ _ (fun _ => (unhide HO7).1) ?_
                          clear hK K
                          (try simp only [Act.put, List.setIfInBounds_toArray, List.set_cons_zero, List.set_cons_succ])
                          have hH33 := (unhide HO7).1
                          refine takeL (i := 16) (v := ?t34v16) (some 100) rfl rfl (by kernel_rfl) (by kernel_rfl) (by kernel_rfl) (by kernel_rfl) (by kernel_rfl) (fun _ _ _ h => h) (Or.inl ⟨by rfl, ?t34h16⟩) (by assumption) ?t34r16
                          case t34h16 => (intro y hSu; (try dsimp only at hSu); go_simp; first | done | with_reducible rfl)
                          (try simp only [Act.put, List.setIfInBounds_toArray, List.set_cons_zero, List.set_cons_succ])
                          refine takeL (i := 17) (v := ?t34v17) (some 101) rfl rfl (by kernel_rfl) (by kernel_rfl) (by kernel_rfl) (by kernel_rfl) (by kernel_rfl) (fun _ _ _ h => h) (Or.inl ⟨by rfl, ?t34h17⟩) (by assumption) ?t34r17
                          case t34h17 => (intro y hSu; (try dsimp only at hSu); go_simp; first | done | with_reducible rfl)
                          (try simp only [Act.put, List.setIfInBounds_toArray, List.set_cons_zero, List.set_cons_succ])
                          refine doneL (by kernel_rfl) ?_ _
                          refine NoPanic.normal ?_
                          have HF7 := hide (unhide HO7).2
                          clear hHeld c0 c1' c2' c3 d1 d2 HO6 HO7 HC HB6 HB7
                          go_wp2_with fail
                          (try rw [unhide zw])
                          exact ⟨⟨j, by first | rfl | (rw [(unhide HJ).1]; rfl), (unhide HJ).2.2, unhide HJ2, unhide HF7⟩, by have := unhide HJ; simp [intOf]; omega⟩
                        · have CV := hide (fun W (hW : Below W5.heap.size W5 W) => unhide CP W hW x.2.2.1)
                          rw [show placeOf ys x.2.2.1 = -1 from if_neg hVy] at CV
                          have HE : Hid (rr = 5) := by
                            show rr = 5
                            rw [unhide HRR]
                            exact fc_away (unhide HD1) (unhide HD2) (unhide HLO) (.inr (List.any_eq_true.2 ⟨x, List.mem_of_getElem? (unhide HI2).2, by unfold awayB; rw [decide_eq_false hVy, Bool.not_false, Bool.or_true]⟩))
                          clear HI i1 i2 i3 l1 l2 l3 hlt hx hrow hj hkU hU hVy HI2
                          go_upto_region 24 with fail
                          refine wp_region_noPanic ?_
                          refine regionL [] (fun y => (y.cell? ⟨gg, 0, none⟩ = some (.slice a n c) ∧ y.cell? ⟨gg, 1, none⟩ = some (.slice none 0 0) ∧ y.cell? ⟨gg, 2, none⟩ = some (.int .i64 0) ∧ y.cell? ⟨gg, 3, none⟩ = some (.int .i64 0)) ∧ y.cell? ⟨ge, i * 4 + 1, none⟩ = some (.int .i64 x.2.1) ∧ y.cell? ⟨ge, i * 4 + 2, none⟩ = some (.int .i64 x.2.2.1)) (by kernel_rfl) ⟨⟨c0, c1', c2', c3⟩, d1, d2⟩ (fun hHeld => ?_)
                          refine takeL (i := 0) (v := ?t37v0) (some 84) rfl rfl (by kernel_rfl) (by kernel_rfl) (by kernel_rfl) (by kernel_rfl) (by kernel_rfl) (fun _ _ _ h => h) (Or.inl ⟨by rfl, ?t37h0⟩) (by assumption) ?t37r0
                          case t37h0 => (intro y hSu; (try dsimp only at hSu); go_simp; first | done | with_reducible rfl)
                          (try simp only [Act.put, List.setIfInBounds_toArray, List.set_cons_zero, List.set_cons_succ])
                          refine takeL (i := 1) (v := ?t37v1) (some 85) rfl rfl (by kernel_rfl) (by kernel_rfl) (by kernel_rfl) (by kernel_rfl) (by kernel_rfl) (fun _ _ _ h => h) (Or.inl ⟨by rfl, ?t37h1⟩) (by assumption) ?t37r1
                          case t37h1 => (intro y hSu; (try dsimp only at hSu); go_simp; first | done | with_reducible rfl)
                          (try simp only [Act.put, List.setIfInBounds_toArray, List.set_cons_zero, List.set_cons_succ])
                          refine takeL (i := 2) (v := ?t37v2) (some 86) rfl rfl (by kernel_rfl) (by kernel_rfl) (by kernel_rfl) (by kernel_rfl) (by kernel_rfl) (fun _ _ _ h => h) (Or.inl ⟨by rfl, ?t37h2⟩) (by assumption) ?t37r2
                          case t37h2 => (intro y hSu; (try dsimp only at hSu); go_simp; first | done | with_reducible rfl)
                          (try simp only [Act.put, List.setIfInBounds_toArray, List.set_cons_zero, List.set_cons_succ])
                          refine takeL (i := 3) (v := ?t37v3) (some 87) rfl rfl (by kernel_rfl) (by kernel_rfl) (by kernel_rfl) (by kernel_rfl) (by kernel_rfl) (fun _ _ _ h => h) (Or.inl ⟨by rfl, ?t37h3⟩) (by assumption) ?t37r3
                          case t37h3 => (intro y hSu; (try dsimp only at hSu); go_simp; first | done | with_reducible rfl)
                          (try simp only [Act.put, List.setIfInBounds_toArray, List.set_cons_zero, List.set_cons_succ])
                          refine takeL (i := 4) (v := ?t37v4) (some 88) rfl rfl (by kernel_rfl) (by kernel_rfl) (by kernel_rfl) (by kernel_rfl) (by kernel_rfl) (fun _ _ _ h => h) (Or.inl ⟨by rfl, ?t37h4⟩) (by assumption) ?t37r4
                          case t37h4 => (intro y hSu; (try dsimp only at hSu); go_simp; first | done | with_reducible rfl)
                          (try simp only [Act.put, List.setIfInBounds_toArray, List.set_cons_zero, List.set_cons_succ])
                          refine takeL (i := 5) (v := ?t37v5) (some 89) rfl rfl (by kernel_rfl) (by kernel_rfl) (by kernel_rfl) (by kernel_rfl) (by kernel_rfl) (fun _ _ _ h => h) (Or.inl ⟨by rfl, ?t37h5⟩) (by assumption) ?t37r5
                          case t37h5 => (intro y hSu; (try dsimp only at hSu); go_simp; first | done | with_reducible rfl)
                          (try simp only [Act.put, List.setIfInBounds_toArray, List.set_cons_zero, List.set_cons_succ])
                          refine readyL (i := 6) (by kernel_rfl) rfl (fun K hK => ?_)
                          go_simp
                          refine (unhide CU _ (unhide HC _ (below_drewN (Below.refl _ _) 1)).2).mono ?_
                          rintro r w6 ⟨rfl, hb6⟩
                          have HB6 : Hid (Below wr.heap.size wr w6) := (below_drewN (Below.refl wr.heap.size wr) 1).trans (hb6.mono (below_drewN (Below.refl wr.heap.size wr) 1).size)
                          clear CU hb6
                          have HO6 := hide (unhide HC w6 (unhide HB6))
                          (try dsimp only)
                          refine hK.out _ _ (fun _ => (unhide HO6).1) ?_
                          clear hK K
                          (try simp only [Act.put, List.setIfInBounds_toArray, List.set_cons_zero, List.set_cons_succ])
                          have hH39 := (unhide HO6).1
                          refine takeL (i := 7) (v := ?t40v7) (some 91) rfl rfl (by kernel_rfl) (by kernel_rfl) (by kernel_rfl) (by kernel_rfl) (by kernel_rfl) (fun _ _ _ h => h) (Or.inl ⟨by rfl, ?t40h7⟩) (by assumption) ?t40r7
                          case t40h7 => (intro y hSu; (try dsimp only at hSu); go_simp; first | done | with_reducible rfl)
                          (try simp only [Act.put, List.setIfInBounds_toArray, List.set_cons_zero, List.set_cons_succ])
                          refine takeL (i := 8) (v := ?t40v8) (some 92) rfl rfl (by kernel_rfl) (by kernel_rfl) (by kernel_rfl) (by kernel_rfl) (by kernel_rfl) (fun _ _ _ h => h) (Or.inl ⟨by rfl, ?t40h8⟩) (by assumption) ?t40r8
                          case t40h8 => (intro y hSu; (try dsimp only at hSu); go_simp; first | done | with_reducible rfl)
                          (try simp only [Act.put, List.setIfInBounds_toArray, List.set_cons_zero, List.set_cons_succ])
                          refine takeL (i := 9) (v := ?t40v9) (some 93) rfl rfl (by kernel_rfl) (by kernel_rfl) (by kernel_rfl) (by kernel_rfl) (by kernel_rfl) (fun _ _ _ h => h) (Or.inl ⟨by rfl, ?t40h9⟩) (by assumption) ?t40r9
                          case t40h9 => (intro y hSu; (try dsimp only at hSu); go_simp; first | done | with_reducible rfl)
                          (try simp only [Act.put, List.setIfInBounds_toArray, List.set_cons_zero, List.set_cons_succ])
                          refine takeL (i := 10) (v := ?t40v10) (some 94) rfl rfl (by kernel_rfl) (by kernel_rfl) (by kernel_rfl) (by kernel_rfl) (by kernel_rfl) (fun _ _ _ h => h) (Or.inl ⟨by rfl, ?t40h10⟩) (by assumption) ?t40r10
                          case t40h10 => (intro y hSu; (try dsimp only at hSu); go_simp; first | done | with_reducible rfl)
                          (try simp only [Act.put, List.setIfInBounds_toArray, List.set_cons_zero, List.set_cons_succ])
                          refine takeL (i := 11) (v := ?t40v11) (some 95) rfl rfl (by kernel_rfl) (by kernel_rfl) (by kernel_rfl) (by kernel_rfl) (by kernel_rfl) (fun _ _ _ h => h) (Or.inl ⟨by rfl, ?t40h11⟩) (by assumption) ?t40r11
                          case t40h11 => (intro y hSu; (try dsimp only at hSu); go_simp; first | done | with_reducible rfl)
                          (try simp only [Act.put, List.setIfInBounds_toArray, List.set_cons_zero, List.set_cons_succ])
                          refine takeL (i := 12) (v := ?t40v12) (some 96) rfl rfl (by kernel_rfl) (by kernel_rfl) (by kernel_rfl) (by kernel_rfl) (by kernel_rfl) (fun _ _ _ h => h) (Or.inl ⟨by rfl, ?t40h12⟩) (by assumption) ?t40r12
                          case t40h12 => (intro y hSu; (try dsimp only at hSu); go_simp; first | done | with_reducible rfl)
                          (try simp only [Act.put, List.setIfInBounds_toArray, List.set_cons_zero, List.set_cons_succ])
                          refine takeL (i := 13) (v := ?t40v13) (some 97) rfl rfl (by kernel_rfl) (by kernel_rfl) (by kernel_rfl) (by kernel_rfl) (by kernel_rfl) (fun _ _ _ h => h) (Or.inl ⟨by rfl, ?t40h13⟩) (by assumption) ?t40r13
                          case t40h13 => (intro y hSu; (try dsimp only at hSu); go_simp; first | done | with_reducible rfl)
                          (try simp only [Act.put, List.setIfInBounds_toArray, List.set_cons_zero, List.set_cons_succ])
                          refine takeL (i := 14) (v := ?t40v14) (some 98) rfl rfl (by kernel_rfl) (by kernel_rfl) (by kernel_rfl) (by kernel_rfl) (by kernel_rfl) (fun _ _ _ h => h) (Or.inl ⟨by rfl, ?t40h14⟩) (by assumption) ?t40r14
                          case t40h14 => (intro y hSu; (try dsimp only at hSu); go_simp; first | done | with_reducible rfl)
                          (try simp only [Act.put, List.setIfInBounds_toArray, List.set_cons_zero, List.set_cons_succ])
                          refine readyL (i := 15) (by kernel_rfl) rfl (fun K hK => ?_)
                          go_simp
                          refine (unhide CV w6 (unhide HO6).2).mono ?_
                          rintro r w7 ⟨rfl, hb7⟩
                          have HB7 : Hid (Below wr.heap.size wr w7) := (unhide HB6).trans (hb7.mono (unhide HB6).size)
                          clear CV hb7
                          have HO7 := hide (unhide HC w7 (unhide HB7))
                          (try dsimp only)
                          refine hK.out _ _ (fun _ => (unhide HO7).1) ?_
                          clear hK K
                          (try simp only [Act.put, List.setIfInBounds_toArray, List.set_cons_zero, List.set_cons_succ])
                          have hH42 := (unhide HO7).1
                          refine takeL (i := 16) (v := ?t43v16) (some 100) rfl rfl (by kernel_rfl) (by kernel_rfl) (by kernel_rfl) (by kernel_rfl) (by kernel_rfl) (fun _ _ _ h => h) (Or.inl ⟨by rfl, ?t43h16⟩) (by assumption) ?t43r16
                          case t43h16 => (intro y hSu; (try dsimp only at hSu); go_simp; first | done | with_reducible rfl)
                          (try simp only [Act.put, List.setIfInBounds_toArray, List.set_cons_zero, List.set_cons_succ])
                          refine takeL (i := 17) (v := ?t43v17) (some 101) rfl rfl (by kernel_rfl) (by kernel_rfl) (by kernel_rfl) (by kernel_rfl) (by kernel_rfl) (fun _ _ _ h => h) (Or.inl ⟨by rfl, ?t43h17⟩) (by assumption) ?t43r17
                          case t43h17 => (intro y hSu; (try dsimp only at hSu); go_simp; first | done | with_reducible rfl)
                          (try simp only [Act.put, List.setIfInBounds_toArray, List.set_cons_zero, List.set_cons_succ])
                          refine doneL (by kernel_rfl) ?_ _
                          refine NoPanic.normal ?_
                          have HF7 := hide (unhide HF w7 (unhide HX5 w7 (unhide HO7).2).2.2.2)
                          rw [unhide HE] at HF7
                          clear hHeld c0 c1' c2' c3 d1 d2 HO6 HO7 HC HB6 HB7
                          go_wp2_with fail
                          go_ret
                          exact HF7
                      · have CU := hide (fun W (hW : Below W5.heap.size W5 W) => unhide CP W hW x.2.1)
                        rw [show placeOf ys x.2.1 = -1 from if_neg hU] at CU
                        have HE : Hid (rr = 5) := by
                          show rr = 5
                          rw [unhide HRR]
                          exact fc_away (unhide HD1) (unhide HD2) (unhide HLO) (.inr (List.any_eq_true.2 ⟨x, List.mem_of_getElem? (unhide HI2).2, by unfold awayB; rw [decide_eq_false hU]; rfl⟩))
                        clear HI i1 i2 i3 l1 l2 l3 hlt hx hrow hj hU HI2
                        go_upto_region 24 with fail
                        refine wp_region_noPanic ?_
                        refine regionL [] (fun y => (y.cell? ⟨gg, 0, none⟩ = some (.slice a n c) ∧ y.cell? ⟨gg, 1, none⟩ = some (.slice none 0 0) ∧ y.cell? ⟨gg, 2, none⟩ = some (.int .i64 0) ∧ y.cell? ⟨gg, 3, none⟩ = some (.int .i64 0)) ∧ y.cell? ⟨ge, i * 4 + 1, none⟩ = some (.int .i64 x.2.1) ∧ y.cell? ⟨ge, i * 4 + 2, none⟩ = some (.int .i64 x.2.2.1)) (by kernel_rfl) ⟨⟨c0, c1', c2', c3⟩, d1, d2⟩ (fun hHeld => ?_)
                        refine takeL (i := 0) (v := ?t46v0) (some 84) rfl rfl (by kernel_rfl) (by kernel_rfl) (by kernel_rfl) (by kernel_rfl) (by kernel_rfl) (fun _ _ _ h => h) (Or.inl ⟨by rfl, ?t46h0⟩) (by assumption) ?t46r0
                        case t46h0 => (intro y hSu; (try dsimp only at hSu); go_simp; first | done | with_reducible rfl)
                        (try simp only [Act.put, List.setIfInBounds_toArray, List.set_cons_zero, List.set_cons_succ])
                        refine takeL (i := 1) (v := ?t46v1) (some 85) rfl rfl (by kernel_rfl) (by kernel_rfl) (by kernel_rfl) (by kernel_rfl) (by kernel_rfl) (fun _ _ _ h => h) (Or.inl ⟨by rfl, ?t46h1⟩) (by assumption) ?t46r1
                        case t46h1 => (intro y hSu; (try dsimp only at hSu); go_simp; first | done | with_reducible rfl)
                        (try simp only [Act.put, List.setIfInBounds_toArray, List.set_cons_zero, List.set_cons_succ])
                        refine takeL (i := 2) (v := ?t46v2) (some 86) rfl rfl (by kernel_rfl) (by kernel_rfl) (by kernel_rfl) (by kernel_rfl) (by kernel_rfl) (fun _ _ _ h => h) (Or.inl ⟨by rfl, ?t46h2⟩) (by assumption) ?t46r2
                        case t46h2 => (intro y hSu; (try dsimp only at hSu); go_simp; first | done | with_reducible rfl)
                        (try simp only [Act.put, List.setIfInBounds_toArray, List.set_cons_zero, List.set_cons_succ])
                        refine takeL (i := 3) (v := ?t46v3) (some 87) rfl rfl (by kernel_rfl) (by kernel_rfl) (by kernel_rfl) (by kernel_rfl) (by kernel_rfl) (fun _ _ _ h => h) (Or.inl ⟨by rfl, ?t46h3⟩) (by assumption) ?t46r3
                        case t46h3 => (intro y hSu; (try dsimp only at hSu); go_simp; first | done | with_reducible rfl)
                        (try simp only [Act.put, List.setIfInBounds_toArray, List.set_cons_zero, List.set_cons_succ])
                        refine takeL (i := 4) (v := ?t46v4) (some 88) rfl rfl (by kernel_rfl) (by kernel_rfl) (by kernel_rfl) (by kernel_rfl) (by kernel_rfl) (fun _ _ _ h => h) (Or.inl ⟨by rfl, ?t46h4⟩) (by assumption) ?t46r4
                        case t46h4 => (intro y hSu; (try dsimp only at hSu); go_simp; first | done | with_reducible rfl)
                        (try simp only [Act.put, List.setIfInBounds_toArray, List.set_cons_zero, List.set_cons_succ])
                        refine takeL (i := 5) (v := ?t46v5) (some 89) rfl rfl (by kernel_rfl) (by kernel_rfl) (by kernel_rfl) (by kernel_rfl) (by kernel_rfl) (fun _ _ _ h => h) (Or.inl ⟨by rfl, ?t46h5⟩) (by assumption) ?t46r5
                        case t46h5 => (intro y hSu; (try dsimp only at hSu); go_simp; first | done | with_reducible rfl)
                        (try simp only [Act.put, List.setIfInBounds_toArray, List.set_cons_zero, List.set_cons_succ])
                        refine readyL (i := 6) (by kernel_rfl) rfl (fun K hK => ?_)
                        go_simp
                        refine (unhide CU _ (unhide HC _ (below_drewN (Below.refl _ _) 1)).2).mono ?_
                        rintro r w6 ⟨rfl, hb6⟩
                        have HB6 : Hid (Below wr.heap.size wr w6) := (below_drewN (Below.refl wr.heap.size wr) 1).trans (hb6.mono (below_drewN (Below.refl wr.heap.size wr) 1).size)
                        clear CU hb6
                        have HO6 := hide (unhide HC w6 (unhide HB6))
                        (try dsimp only)
                        refine hK.out _ _ (fun _ => (unhide HO6).1) ?_
                        clear hK K
                        (try simp only [Act.put, List.setIfInBounds_toArray, List.set_cons_zero, List.set_cons_succ])
                        have hH48 := (unhide HO6).1
                        refine takeL (i := 7) (v := ?t49v7) (some 91) rfl rfl (by kernel_rfl) (by kernel_rfl) (by kernel_rfl) (by kernel_rfl) (by kernel_rfl) (fun _ _ _ h => h) (Or.inl ⟨by rfl, ?t49h7⟩) (by assumption) ?t49r7
                        case t49h7 => (intro y hSu; (try dsimp only at hSu); go_simp; first | done | with_reducible rfl)
                        (try simp only [Act.put, List.setIfInBounds_toArray, List.set_cons_zero, List.set_cons_succ])
                        refine takeL (i := 8) (v := ?t49v8) (some 92) rfl rfl (by kernel_rfl) (by kernel_rfl) (by kernel_rfl) (by kernel_rfl) (by kernel_rfl) (fun _ _ _ h => h) (Or.inl ⟨by rfl, ?t49h8⟩) (by assumption) ?t49r8
                        case t49h8 => (intro y hSu; (try dsimp only at hSu); go_simp; first | done | with_reducible rfl)
                        (try simp only [Act.put, List.setIfInBounds_toArray, List.set_cons_zero, List.set_cons_succ])
                        refine takeL (i := 9) (v := undef) (some 93) rfl rfl (by kernel_rfl) (by kernel_rfl) (by kernel_rfl) (by kernel_rfl) (by kernel_rfl) (fun _ _ _ h => h) (Or.inr ⟨by rfl, rfl⟩) (by assumption) ?t50r9
                        (try simp only [Act.put, List.setIfInBounds_toArray, List.set_cons_zero, List.set_cons_succ])
                        refine takeL (i := 10) (v := undef) (some 94) rfl rfl (by kernel_rfl) (by kernel_rfl) (by kernel_rfl) (by kernel_rfl) (by kernel_rfl) (fun _ _ _ h => h) (Or.inr ⟨by rfl, rfl⟩) (by assumption) ?t50r10
                        (try simp only [Act.put, List.setIfInBounds_toArray, List.set_cons_zero, List.set_cons_succ])
                        refine takeL (i := 11) (v := undef) (some 95) rfl rfl (by kernel_rfl) (by kernel_rfl) (by kernel_rfl) (by kernel_rfl) (by kernel_rfl) (fun _ _ _ h => h) (Or.inr ⟨by rfl, rfl⟩) (by assumption) ?t50r11
                        (try simp only [Act.put, List.setIfInBounds_toArray, List.set_cons_zero, List.set_cons_succ])
                        refine takeL (i := 12) (v := undef) (some 96) rfl rfl (by kernel_rfl) (by kernel_rfl) (by kernel_rfl) (by kernel_rfl) (by kernel_rfl) (fun _ _ _ h => h) (Or.inr ⟨by rfl, rfl⟩) (by assumption) ?t50r12
                        (try simp only [Act.put, List.setIfInBounds_toArray, List.set_cons_zero, List.set_cons_succ])
                        refine takeL (i := 13) (v := undef) (some 97) rfl rfl (by kernel_rfl) (by kernel_rfl) (by kernel_rfl) (by kernel_rfl) (by kernel_rfl) (fun _ _ _ h => h) (Or.inr ⟨by rfl, rfl⟩) (by assumption) ?t50r13
                        (try simp only [Act.put, List.setIfInBounds_toArray, List.set_cons_zero, List.set_cons_succ])
                        refine takeL (i := 14) (v := undef) (some 98) rfl rfl (by kernel_rfl) (by kernel_rfl) (by kernel_rfl) (by kernel_rfl) (by kernel_rfl) (fun _ _ _ h => h) (Or.inr ⟨by rfl, rfl⟩) (by assumption) ?t50r14
                        (try simp only [Act.put, List.setIfInBounds_toArray, List.set_cons_zero, List.set_cons_succ])
                        refine takeL (i := 15) (v := undef) (some 99) rfl rfl (by kernel_rfl) (by kernel_rfl) (by kernel_rfl) (by kernel_rfl) (by kernel_rfl) (fun _ _ _ h => h) (Or.inr ⟨by rfl, rfl⟩) (by assumption) ?t50r15
                        (try simp only [Act.put, List.setIfInBounds_toArray, List.set_cons_zero, List.set_cons_succ])
                        refine takeL (i := 16) (v := undef) (some 100) rfl rfl (by kernel_rfl) (by kernel_rfl) (by kernel_rfl) (by kernel_rfl) (by kernel_rfl) (fun _ _ _ h => h) (Or.inr ⟨by rfl, rfl⟩) (by assumption) ?t50r16
                        (try simp only [Act.put, List.setIfInBounds_toArray, List.set_cons_zero, List.set_cons_succ])
                        refine takeL (i := 17) (v := ?t51v17) (some 101) rfl rfl (by kernel_rfl) (by kernel_rfl) (by kernel_rfl) (by kernel_rfl) (by kernel_rfl) (fun _ _ _ h => h) (Or.inl ⟨by rfl, ?t51h17⟩) (by assumption) ?t51r17
                        case t51h17 => (intro y hSu; (try dsimp only at hSu); go_simp; first | done | with_reducible rfl)
                        (try simp only [Act.put, List.setIfInBounds_toArray, List.set_cons_zero, List.set_cons_succ])
                        refine doneL (by kernel_rfl) ?_ _
                        refine NoPanic.normal ?_
                        have HF6 := hide (unhide HF w6 (unhide HX5 w6 (unhide HO6).2).2.2.2)
                        rw [unhide HE] at HF6
                        clear hHeld c0 c1' c2' c3 d1 d2 HO6 HC HB6
                        go_wp2_with fail
                        go_ret
                        exact HF6
                    · have z1 : ¬ (i : Int) < (n2 : Int) := by omega
                      rw [List.take_of_length_le (by omega)] at i2
                      have HAW : Hid (es.any (awayB ys) = false ∧ Below W5.heap.size W5 wr) := ⟨i2, i3⟩
                      obtain ⟨⟨c0, c1', c2', c3⟩, -⟩ := unhide HX5 wr i3
                      by_cases hsy : s ∈ ys
                      · obtain ⟨kS, hkS⟩ := unhide HPO s hsy
                        have CU := hide (unhide CP wr i3 s)
                        rw [hkS] at CU
                        have zS : ¬ (kS : Int) < 0 := by omega
                        have HSY := hide hsy
                        clear HI i1 i2 i3 l1 l2 l3 hlt hkS hsy
                        go_wp2_with fail
                        refine (unhide CU).mono ?_
                        rintro r w6 ⟨rfl, hb6⟩
                        have HB6 : Hid (Below W5.heap.size W5 w6) := (unhide HAW).2.trans (hb6.mono (unhide HAW).2.size)
                        clear CU hb6 c0 c1' c2' c3 z1
                        go_wp2_with fail
                        clear zS
                        go_loopw [14] (fun s14 wr => ∃ (i : Nat), s14 = .int .i64 i ∧ wr = w6 ∧ Hid (i ≤ n2 ∧ (es.take i).any badB = false)) (fun s14 _ => n2 - (intOf s14).toNat)
                        case atStart => exact ⟨0, rfl, rfl, Nat.zero_le _, rfl⟩
                        case round =>
                          obtain ⟨i, rfl, rfl, HI⟩ := hrel
                          obtain ⟨i1, i2⟩ := unhide HI
                          obtain ⟨l1, l2, l3⟩ := unhide HN
                          by_cases hlt : i < n2
                          · obtain ⟨x, hx⟩ : ∃ x, es[i]? = some x := ⟨_, List.getElem?_eq_getElem (by omega)⟩
                            have hrow := (unhide HX5 _ (unhide HB6)).2.1
                            obtain ⟨ge, rfl⟩ := rrow_some hrow (by omega)
                            obtain ⟨-, -, -, d3⟩ := erow_at hrow hx
                            have CA := hide (admitR x.2.2.2)
                            obtain ⟨j, hj⟩ : ∃ j, j = i + 1 := ⟨_, rfl⟩
                            have zw : Hid (wrap64 ((i : Int) + 1) = (j : Int)) := by show wrap64 ((i : Int) + 1) = (j : Int); unfold wrap64; omega
                            have HJ : Hid (j = i + 1 ∧ n2 - j < n2 - i ∧ j ≤ n2) := ⟨hj, by omega, by omega⟩
                            have HI2 : Hid ((es.take i).any badB = false ∧ es[i]? = some x) := ⟨i2, hx⟩
                            have z1 : (i : Int) < (n2 : Int) := by omega
                            generalize (kept x.2.2.2).getD 0 = kb at CA
                            cases hbd : badB x with
                            | true =>
                              have e7 : (kept x.2.2.2).isNone = true := hbd
                              rw [e7, if_pos rfl] at CA
                              have HE : Hid (rr = 7) := by
                                show rr = 7
                                rw [unhide HRR]
                                exact fc_bad (unhide HD1) (unhide HD2) (unhide HLO) (unhide HSY) (unhide HAW).1 (List.any_eq_true.2 ⟨x, List.mem_of_getElem? hx, hbd⟩)
                              have HF6 := hide (unhide HF _ (unhide HX5 _ (unhide HB6)).2.2.2)
                              rw [unhide HE] at HF6
                              clear HI i1 i2 l1 l2 l3 hlt hx hrow hj hbd e7 HI2
                              go_wp2_with fail
                              refine (unhide CA _).mono ?_
                              rintro r w7 ⟨rfl, hw7⟩
                              rw [hw7]
                              clear CA hw7 w7 d3
                              go_wp2_with fail
                              go_ret
                              exact HF6
                            | false =>
                              have e7 : (kept x.2.2.2).isNone = false := hbd
                              rw [e7, if_neg (by decide)] at CA
                              have HJ2 : Hid ((es.take j).any badB = false) := by
                                show (es.take j).any badB = false
                                rw [(unhide HJ).1]
                                exact any_take (unhide HI2).1 (unhide HI2).2 hbd
                              clear HI i1 i2 l1 l2 l3 hlt hx hrow hj hbd e7 HI2
                              go_wp2_with fail
                              refine (unhide CA _).mono ?_
                              rintro r w7 ⟨rfl, hw7⟩
                              rw [hw7]
                              clear CA hw7 w7 d3
                              go_wp2_with fail
                              (try rw [unhide zw])
                              exact ⟨⟨j, by first | rfl | (rw [(unhide HJ).1]; rfl), trivial, (unhide HJ).2.2, unhide HJ2⟩, by have := unhide HJ; simp [intOf]; omega⟩
                          · have z1 : ¬ (i : Int) < (n2 : Int) := by omega
                            rw [List.take_of_length_le (by omega)] at i2
                            have HE : Hid (rr = 0) := by
                              show rr = 0
                              rw [unhide HRR]
                              exact fc_none (unhide HD1) (unhide HD2) (unhide HLO) (unhide HSY) (unhide HAW).1 i2
                            have HF6 := hide (unhide HF _ (unhide HX5 _ (unhide HB6)).2.2.2)
                            rw [unhide HE] at HF6
                            clear HI i1 i2 l1 l2 l3 hlt
                            go_wp2_with fail
                            go_ret
                            exact HF6
                      · have CU := hide (unhide CP wr i3 s)
                        rw [show placeOf ys s = -1 from if_neg hsy] at CU
                        have HE : Hid (rr = 5) := by
                          show rr = 5
                          rw [unhide HRR]
                          exact fc_away (unhide HD1) (unhide HD2) (unhide HLO) (.inl hsy)
                        clear HI i1 i2 i3 l1 l2 l3 hlt hsy
                        go_wp2_with fail
                        refine (unhide CU).mono ?_
                        rintro r w6 ⟨rfl, hb6⟩
                        have HF6 := hide (unhide HF w6 (unhide HX5 w6 ((unhide HAW).2.trans (hb6.mono (unhide HAW).2.size))).2.2.2)
                        rw [unhide HE] at HF6
                        clear CU hb6 c0 c1' c2' c3 z1
                        go_wp2_with fail
                        go_ret
                        exact HF6
end

section
open Go.RowKit Go.Maps
theorem eds_pos {w : World} {a : Option Addr} {len cap : Nat} {o : Nat → EdV} (h : IsEdsC w a len cap o) (m : Nat) (hm : m ≤ len) : ∀ x ∈ (List.range m).map o, 0 ≤ x.2.2.2 := fun x hx => by
  obtain ⟨i, hi, rfl⟩ := List.mem_map.1 hx
  have hi := List.mem_range.1 hi
  rcases h.1 with q | ⟨b, off, -, -, hc⟩
  · omega
  · have := (hc i (by omega)).2
    have e0 : IntKind.u32.min = 0 := by decide
    simp [Lit.wf] at this
    omega
set_option maxHeartbeats 8000000 in
set_option maxRecDepth 100000 in
theorem builds_any [Inhabited EntF] {w : World} {a0 a1 : Option Addr} {len0 cap0 len1 cap1 : Nat} {z : Nat → Int} {o : Nat → EdV} (s : Int) (h0 : IsIntsC w a0 len0 cap0 z) (h1 : IsEdsC w a1 len1 cap1 o) (hb0 : len0 < 1000000000000000000) (hb1 : len1 < 1000000000000000000) :
    Calls Try.prog 3 #[.slice a0 len0 cap0, .slice a1 len1 cap1, .int .i64 s] w fun e w' => e = .returned (.bool true) ∧ Below w.heap.size w w' := by
  have CA := hide (awakeS w)
  have CC : Hid (∀ W, Below w.heap.size w W → Calls Try.prog 9 #[.slice a0 len0 cap0, .slice a1 len1 cap1] W fun e w' => Hid (∃ v1 v2, e = .returned (.tuple #[v1, v2]) ∧ CutAns W ((List.range (min len0 40)).map z) ((List.range (min len1 160)).map o) v1 v2 w')) := fun W hW => cutS ⟨isInts_below h0.1 hW, h0.2⟩ (isEds_below h1 hW) hb0 hb1
  have hk1 : ((List.range (min len0 40)).map z).length ≤ 1000 := by simp; omega
  have hk2 : ((List.range (min len1 160)).map o).length ≤ 1000 := by simp; omega
  have hk3 := eds_pos h1 (min len1 160) (Nat.min_le_left _ _)
  generalize (List.range (min len0 40)).map z = ks at *
  generalize (List.range (min len1 160)).map o = es at *
  have HK : Hid (ks.length ≤ 1000 ∧ es.length ≤ 1000 ∧ ∀ x ∈ es, 0 ≤ x.2.2.2) := ⟨hk1, hk2, hk3⟩
  clear h0 h1 hb0 hb1 hk1 hk2 hk3
  go_enter Try.func3, Try.ntmps3
  go_wp2_with fail
  refine (unhide CA).mono ?_
  rintro e w1 ⟨rfl, hb1⟩
  have CC2 := hide (unhide CC w1 (unhide hb1))
  clear CA CC
  go_wp2_with fail
  refine (unhide CC2).mono ?_
  intro e w2 H2
  obtain ⟨v1, v2, rfl, c1, c2, c3, -⟩ := unhide H2
  obtain ⟨x1, r1, rfl, -⟩ := brow_shape c2
  obtain ⟨x2, r2, rfl⟩ := rrow_shape c3
  have C3 := hide (buildS (s := s) (brow_at0 c2) (rrow_low c3 (Nat.zero_le _)) (unhide HK).1 (unhide HK).2.1)
  have hB2 : Below w.heap.size w w2 := (unhide hb1).trans (c1.mono (unhide hb1).size)
  obtain ⟨n1, hn1⟩ : ∃ n1, n1 = ks.length := ⟨_, rfl⟩
  obtain ⟨n2, hn2⟩ : ∃ n2, n2 = es.length := ⟨_, rfl⟩
  rw [← hn1, ← hn2] at C3
  rw [← hn2] at c3
  rw [← hn1] at c2
  have HE : Hid (∀ W, Below w2.heap.size w2 W → ERow 0 W (.slice x2 n2 r2) es ∧ NRow W (.slice x1 n1 r1) ks ∧ Below w.heap.size w W) := fun W hW => ⟨rrow_below (rrow_low c3 (Nat.zero_le _)) hW, nrow_below (brow_at0 c2) hW, hB2.trans (hW.mono hB2.size)⟩
  rw [← hn1, ← hn2]
  clear CC2 H2 c1 c2 c3 hB2 hb1 hn1 hn2
  go_wp2_with fail
  refine (unhide C3).mono ?_
  rintro e w3 ⟨po, er, rfl, H3⟩
  obtain ⟨ys, q1, q2, q3, q4, q5⟩ := unhide H3
  have C4 := hide (errorR (s := s) (unhide HE w3 q3).2.1 (unhide HE w3 q3).1 (unhide HK).1 (unhide HK).2.1)
  have HY : Hid (ys.Perm ks ∧ ys.Pairwise (· ≤ ·) ∧ Below w2.heap.size w2 w3 ∧ er = faultC ys es s) := ⟨q1, q2, q3, q4⟩
  clear C3 H3 q1 q2 q3 q4
  go_wp2_with fail
  refine (unhide C4).mono ?_
  intro e w4 H4
  obtain ⟨rfl, HB4⟩ : e = .returned (.int .i64 er) ∧ Hid (Below w3.heap.size w3 w4) := by
    obtain ⟨ys', p1, p2, p3, p4⟩ := unhide H4
    obtain ⟨y1, y2, y3, y4⟩ := unhide HY
    have hys : ys' = ys := srt_eq (p1.trans y1.symm) p2 y2
    rw [hys] at p3
    exact ⟨by rw [p3, y4], p4⟩
  clear C4 H4
  rcases q5 with ⟨z0, rfl⟩ | ⟨rfl, p, ds, fs, rfl, hT⟩
  · have z1 : (er != 0) = true := by simpa using z0
    have HF : Hid (Below w.heap.size w w4) := (unhide HE w4 ((unhide HY).2.2.1.trans ((unhide HB4).mono (unhide HY).2.2.1.size))).2.2
    clear HY HB4 HE HK z0
    go_wp2_with fail
    go_ret
    exact ⟨rfl, unhide HF⟩
  · have hB4 : Below w2.heap.size w2 w4 := (unhide HY).2.2.1.trans ((unhide HB4).mono (unhide HY).2.2.1.size)
    have HT := hide (hT.below (unhide HB4))
    have C5 := hide (graphR (unhide HE w4 hB4).2.1 (unhide HE w4 hB4).1 (unhide HK).1 (unhide HK).2.1 (unhide HK).2.2)
    have HF : Hid (Below w.heap.size w w4) := (unhide HE w4 hB4).2.2
    clear hT HB4 HE hB4
    go_wp2_with fail
    refine (unhide C5).mono ?_
    intro e w5 H5
    obtain ⟨a, n, c, ea, en, ec, V, rfl, g1, g2, g3, g4, g5⟩ := unhide H5
    have hV : V = ys := srt_eq (g1.trans (unhide HY).1.symm) g2 (unhide HY).2.1
    subst hV
    have C6 := hide (rightR (rd := 0) (wr0 := 0) ((unhide HT).below g5) g3 g4 (unhide HK).2.1)
    have HF5 : Hid (Below w.heap.size w w5) := (unhide HF).trans (g5.mono (unhide HF).size)
    clear C5 H5 g1 g2 g3 g4 g5 HT HF HY HK
    go_wp2_with fail
    refine (unhide C6).mono ?_
    rintro e w6 ⟨rfl, hb6⟩
    have HF6 : Hid (Below w.heap.size w w6) := (unhide HF5).trans ((unhide hb6).mono (unhide HF5).size)
    clear C6 hb6 HF5
    go_wp2_with fail
    go_ret
    exact ⟨rfl, unhide HF6⟩
end

section
open Go.RowKit Go.Maps
theorem eqEd (x : EdV) (w : World) : (Op.equalIn 10000 42 (.agg #[.int .i64 x.1, .int .i64 x.2.1, .int .i64 x.2.2.1, .int .u32 x.2.2.2]) (.agg #[.int .i64 x.1, .int .i64 x.2.1, .int .i64 x.2.2.1, .int .u32 x.2.2.2])).run Try.prog w = .ok true w := by
  have hS : Try.prog.underlying 42 = some (.struct (Try.prog.fieldsOf 42)) := by kernel_rfl
  have hp : Try.prog.stoodInHeld 42 = false := by kernel_rfl
  rw [show (10000 : Nat) = 9999 + 1 from rfl, run_equalIn_agg w 9999 42 _ _ hS hp]
  simp only [Program.fieldsOf, Try.underlying42]
  go_simp
set_option maxHeartbeats 2000000 in
set_option maxRecDepth 100000 in
theorem sameEdR {w : World} {v1 v2 : Value} {es : List EdV} (h1 : ERow 0 w v1 es) (h2 : ERow 0 w v2 es) (hl : es.length ≤ 1000) :
    Calls Try.prog 20 #[v1, v2] w fun e w' => e = .returned (.bool true) ∧ ∃ q, w' = w.drewN q := by
  obtain ⟨x1, c1, rfl⟩ := rrow_shape h1
  obtain ⟨x2, c2, rfl⟩ := rrow_shape h2
  obtain ⟨n, hn⟩ : ∃ n, n = es.length := ⟨_, rfl⟩
  rw [← hn] at h1 h2 ⊢
  have HN : Hid (n = es.length ∧ n ≤ 1000) := ⟨hn, by omega⟩
  have HC := hide (And.intro h1 h2)
  clear h1 h2 hl hn
  go_enter Try.func20, Try.ntmps20
  go_wp2_with fail
  go_loopw [13] (fun s13 wr => ∃ i q : Nat, s13 = .int .i64 i ∧ wr = w.drewN q ∧ i ≤ n) (fun s13 _ => n - (intOf s13).toNat)
  case atStart => exact ⟨0, 0, rfl, rfl, Nat.zero_le _⟩
  case round =>
    obtain ⟨i, q, rfl, rfl, hi⟩ := hrel
    obtain ⟨l1, l2⟩ := unhide HN
    by_cases hlt : i < n
    · obtain ⟨x, hx⟩ : ∃ x, es[i]? = some x := ⟨_, List.getElem?_eq_getElem (by omega)⟩
      obtain ⟨r1, r2⟩ := unhide HC
      obtain ⟨g1, rfl⟩ := rrow_some r1 (by omega)
      obtain ⟨g2, rfl⟩ := rrow_some r2 (by omega)
      obtain ⟨hc0, hc1, hc2, hc3⟩ := erow_at r1 hx
      obtain ⟨hd0, hd1, hd2, hd3⟩ := erow_at r2 hx
      have hq := eqEd x
      have z1 : (i : Int) < (n : Int) := by omega
      obtain ⟨j, hj⟩ : ∃ j, j = i + 1 := ⟨_, rfl⟩
      have zw : Hid (wrap64 ((i : Int) + 1) = (j : Int)) := by show wrap64 ((i : Int) + 1) = (j : Int); unfold wrap64; omega
      have HJ : Hid (j = i + 1 ∧ n - j < n - i ∧ j ≤ n) := ⟨hj, by omega, by omega⟩
      clear l1 l2 hlt hx r1 r2 hi hj
      go_upto_region 6 with fail
      refine wp_region_noPanic ?_
      refine regionL [] (fun y => (y.cell? ⟨g1, i * 4, none⟩ = some (.int .i64 x.1) ∧ y.cell? ⟨g1, i * 4 + 1, none⟩ = some (.int .i64 x.2.1) ∧ y.cell? ⟨g1, i * 4 + 2, none⟩ = some (.int .i64 x.2.2.1) ∧ y.cell? ⟨g1, i * 4 + 3, none⟩ = some (.int .u32 x.2.2.2)) ∧ y.cell? ⟨g2, i * 4, none⟩ = some (.int .i64 x.1) ∧ y.cell? ⟨g2, i * 4 + 1, none⟩ = some (.int .i64 x.2.1) ∧ y.cell? ⟨g2, i * 4 + 2, none⟩ = some (.int .i64 x.2.2.1) ∧ y.cell? ⟨g2, i * 4 + 3, none⟩ = some (.int .u32 x.2.2.2)) (by kernel_rfl) ⟨⟨hc0, hc1, hc2, hc3⟩, hd0, hd1, hd2, hd3⟩ (fun hHeld => ?_)
      refine takeL (i := 0) (v := ?t2v0) (some 16) rfl rfl (by kernel_rfl) (by kernel_rfl) (by kernel_rfl) (by kernel_rfl) (by kernel_rfl) (fun _ _ _ h => h) (Or.inl ⟨by rfl, ?t2h0⟩) (by assumption) ?t2r0
      case t2h0 => (intro y hSu; (try dsimp only at hSu); go_simp; first | done | with_reducible rfl)
      (try simp only [Act.put, List.setIfInBounds_toArray, List.set_cons_zero, List.set_cons_succ])
      refine takeL (i := 1) (v := ?t2v1) (some 17) rfl rfl (by kernel_rfl) (by kernel_rfl) (by kernel_rfl) (by kernel_rfl) (by kernel_rfl) (fun _ _ _ h => h) (Or.inl ⟨by rfl, ?t2h1⟩) (by assumption) ?t2r1
      case t2h1 => (intro y hSu; (try dsimp only at hSu); go_simp; first | done | with_reducible rfl)
      (try simp only [Act.put, List.setIfInBounds_toArray, List.set_cons_zero, List.set_cons_succ])
      refine takeL (i := 2) (v := ?t2v2) (some 18) rfl rfl (by kernel_rfl) (by kernel_rfl) (by kernel_rfl) (by kernel_rfl) (by kernel_rfl) (fun _ _ _ h => h) (Or.inl ⟨by rfl, ?t2h2⟩) (by assumption) ?t2r2
      case t2h2 => (intro y hSu; (try dsimp only at hSu); go_simp; first | done | with_reducible rfl)
      (try simp only [Act.put, List.setIfInBounds_toArray, List.set_cons_zero, List.set_cons_succ])
      refine takeL (i := 3) (v := ?t2v3) (some 19) rfl rfl (by kernel_rfl) (by kernel_rfl) (by kernel_rfl) (by kernel_rfl) (by kernel_rfl) (fun _ _ _ h => h) (Or.inl ⟨by rfl, ?t2h3⟩) (by assumption) ?t2r3
      case t2h3 => (intro y hSu; (try dsimp only at hSu); go_simp; first | done | with_reducible rfl)
      (try simp only [Act.put, List.setIfInBounds_toArray, List.set_cons_zero, List.set_cons_succ])
      refine takeL (i := 4) (v := ?t2v4) (some 20) rfl rfl (by kernel_rfl) (by kernel_rfl) (by kernel_rfl) (by kernel_rfl) (by kernel_rfl) (fun _ _ _ h => h) (Or.inl ⟨by rfl, ?t2h4⟩) (by assumption) ?t2r4
      case t2h4 => (intro y hSu; (try dsimp only at hSu); go_simp; first | done | with_reducible rfl)
      (try simp only [Act.put, List.setIfInBounds_toArray, List.set_cons_zero, List.set_cons_succ])
      refine takeL (i := 5) (v := ?t2v5) (some 21) rfl rfl (by kernel_rfl) (by kernel_rfl) (by kernel_rfl) (by kernel_rfl) (by kernel_rfl) (fun _ _ _ h => h) (Or.inl ⟨by rfl, ?t2h5⟩) (by assumption) ?t2r5
      case t2h5 => (intro y hSu; (try dsimp only at hSu); go_simp; first | done | with_reducible rfl)
      (try simp only [Act.put, List.setIfInBounds_toArray, List.set_cons_zero, List.set_cons_succ])
      refine takeL (i := 6) (v := ?t2v6) (some 22) rfl rfl (by kernel_rfl) (by kernel_rfl) (by kernel_rfl) (by kernel_rfl) (by kernel_rfl) (fun _ _ _ h => h) (Or.inl ⟨by rfl, ?t2h6⟩) (by assumption) ?t2r6
      case t2h6 => (intro y hSu; (try dsimp only at hSu); go_simp; first | done | with_reducible rfl)
      (try simp only [Act.put, List.setIfInBounds_toArray, List.set_cons_zero, List.set_cons_succ])
      refine takeL (i := 7) (v := ?t2v7) (some 23) rfl rfl (by kernel_rfl) (by kernel_rfl) (by kernel_rfl) (by kernel_rfl) (by kernel_rfl) (fun _ _ _ h => h) (Or.inl ⟨by rfl, ?t2h7⟩) (by assumption) ?t2r7
      case t2h7 => (intro y hSu; (try dsimp only at hSu); go_simp; first | done | with_reducible rfl)
      (try simp only [Act.put, List.setIfInBounds_toArray, List.set_cons_zero, List.set_cons_succ])
      refine takeL (i := 8) (v := ?t2v8) (some 24) rfl rfl (by kernel_rfl) (by kernel_rfl) (by kernel_rfl) (by kernel_rfl) (by kernel_rfl) (fun _ _ _ h => h) (Or.inl ⟨by rfl, ?t2h8⟩) (by assumption) ?t2r8
      case t2h8 => (intro y hSu; (try dsimp only at hSu); go_simp; first | done | with_reducible rfl)
      (try simp only [Act.put, List.setIfInBounds_toArray, List.set_cons_zero, List.set_cons_succ])
      refine doneL (by kernel_rfl) ?_ _
      refine NoPanic.normal ?_
      clear hc0 hc1 hc2 hc3 hd0 hd1 hd2 hd3 hHeld hq
      go_wp2_with fail
      (try rw [unhide zw])
      exact ⟨⟨j, q + 1, by first | rfl | (rw [(unhide HJ).1]; rfl), rfl, (unhide HJ).2.2⟩, by have := unhide HJ; simp [intOf]; omega⟩
    · have z1 : ¬ (i : Int) < (n : Int) := by omega
      clear l1 l2 hlt hi
      go_wp2_with fail
      go_ret
      exact ⟨rfl, q, rfl⟩
/-- Numbers of a row, appended to another. -/
theorem run_appNN {B : Nat} {w : World} {v : Value} {ks ls : List Int} {a : Option Addr} {m c : Nat} (h : BRow B w v ks) (hB : B ≤ w.heap.size) (hs : NRow w (.slice a m c) ls) (hl : ks.length + ls.length ≤ 1000000) :
    ∃ a' n' c' w', (∀ ty, (Builtin.append_ #[22, 22] ty #[v, .slice a m c]).run Try.prog w = .ok (.slice a' n' c') w') ∧ BRow B w' (.slice a' n' c') (ks ++ ls) ∧ Turned (fun b => v.ownBlock = some b) w w' ∧ ∀ b, (Value.slice a' n' c').ownBlock = some b → v.ownBlock = some b ∨ w.heap.size ≤ b := by
  have hm : m = ls.length := by
    obtain ⟨_, _, e, -⟩ := brow_shape hs
    injection e
  have he : (List.range m).map (fun j => ls.getD j 0) = ls := by
    apply List.ext_getElem
    · simp [hm]
    · intro i h1 h2
      simp [List.getD_eq_getElem?_getD, h2]
  have hi : IsInts w a m (fun j => ls.getD j 0) := by
    rcases Nat.eq_zero_or_pos m with q | q
    · exact .inl q
    · obtain ⟨g, rfl⟩ := brow_some hs (by omega)
      refine .inr ⟨g, 0, rfl, q, fun i hi => ?_⟩
      rw [Nat.zero_add]
      refine brow_at hs ?_
      show ls[i]? = some (ls.getD i 0)
      rw [List.getD_eq_getElem?_getD, List.getElem?_eq_getElem (by omega)]; rfl
  have hn : a = none → c = 0 ∧ m = 0 := fun e => by
    subst e
    rcases hs.2 with ⟨e, h0⟩ | ⟨g', cap, cur, e, -⟩
    · injection e with _ e2 e3
      exact ⟨e3, e2⟩
    · injection e with e1; cases e1
  have := run_appC (len := m) (m := m) (c := c) h hB hi hn (Nat.le_refl _) (by omega)
  rwa [he] at this
theorem run_appEE {B : Nat} {w : World} {v : Value} {l ls : List EdV} {a : Option Addr} {m c : Nat} (h : ERow B w v l) (hB : B ≤ w.heap.size) (hs : ERow 0 w (.slice a m c) ls) (hl : l.length + ls.length ≤ 1000000) :
    ∃ a' n' c' w', (∀ ty, (Builtin.append_ #[23, 23] ty #[v, .slice a m c]).run Try.prog w = .ok (.slice a' n' c') w') ∧ ERow B w' (.slice a' n' c') (l ++ ls) ∧ Turned (fun b => v.ownBlock = some b) w w' ∧ ∀ b, (Value.slice a' n' c').ownBlock = some b → v.ownBlock = some b ∨ w.heap.size ≤ b := by
  have hm := rrow_len hs
  rcases hs.2 with ⟨e, h0⟩ | ⟨g', cap, cur, e, -⟩
  · injection e with e1 e2 e3
    subst e1 e2 e3
    obtain rfl : ls = [] := List.length_eq_zero_iff.1 h0
    obtain ⟨x, cc, rfl⟩ := rrow_shape h
    exact ⟨x, _, cc, w, fun ty => run_append_nilE w x _ cc (rrow_cap h) ty, by simpa using h, Turned.refl _ _, fun b e => .inl e⟩
  · injection e with e1 e2 e3
    subst e1 e3
    have := run_appR (ts := 23) (ad := ⟨g', 0, none⟩) (c := c) (ys := ls) kitE Try.underlying23 infoED rfl (by omega) h hB (fun j u hj => hs.cells (g := g') rfl j u hj) hl
    rwa [← hm] at this
def FullRuns (w : World) (s1 s2 : Value) (a1 : Option Addr) (m1 c1 : Nat) (wA : World) (a2 : Option Addr) (m2 c2 : Nat) (wB : World) (a3 : Option Addr) (m3 c3 : Nat) (wC : World) (a4 : Option Addr) (m4 c4 : Nat) (wD : World) : Prop :=
  (∀ ty, (Builtin.append_ #[22, 22] ty #[.slice (some ⟨w.heap.size, 0, none⟩) 0 0, s1]).run Try.prog (w.alloc (.cells #[] 3)) = .ok (.slice a1 m1 c1) wA) ∧
  (∀ ty, (Builtin.append_ #[22, 22] ty #[.slice a1 m1 c1, .slice (some ⟨wA.heap.size, 0, none⟩) 1 1]).run Try.prog (wA.alloc (.cells #[.int .i64 777] 3)) = .ok (.slice a2 m2 c2) wB) ∧
  (∀ ty, (Builtin.append_ #[23, 23] ty #[.slice (some ⟨wB.heap.size, 0, none⟩) 0 0, s2]).run Try.prog (wB.alloc (.cells #[] 42)) = .ok (.slice a3 m3 c3) wC) ∧
  (∀ ty, (Builtin.append_ #[23, 23] ty #[.slice a3 m3 c3, .slice (some ⟨wC.heap.size, 0, none⟩) 1 1]).run Try.prog (wC.alloc (.cells #[.int .i64 778, .int .i64 0, .int .i64 0, .int .u32 0] 42)) = .ok (.slice a4 m4 c4) wD)
def FullAt (w : World) (fv fe : Value) (ks : List Int) (es : List EdV) (W : World) : Prop := Below w.heap.size w W ∧ BRow w.heap.size W fv (ks ++ [777]) ∧ ERow w.heap.size W fe (es ++ [(778, 0, 0, 0)]) ∧ ∀ b, fv.ownBlock = some b → fe.ownBlock ≠ some b
theorem full_mem {w : World} {x1 x2 : Option Addr} {n1 r1 n2 r2 : Nat} {ks : List Int} {es : List EdV} (hv : NRow w (.slice x1 n1 r1) ks) (he : ERow 0 w (.slice x2 n2 r2) es) (h1 : ks.length ≤ 1000) (h2 : es.length ≤ 1000) :
    ∃ a1 m1 c1 wA a2 m2 c2 wB a3 m3 c3 wC a4 m4 c4 wD, FullRuns w (.slice x1 n1 r1) (.slice x2 n2 r2) a1 m1 c1 wA a2 m2 c2 wB a3 m3 c3 wC a4 m4 c4 wD ∧ FullAt w (.slice a2 m2 c2) (.slice a4 m4 c4) ks es wD := by
  have b0 := below_new w (.cells #[] 3)
  have k0 := row_new w #[] [] rfl (by decide)
  obtain ⟨a1, m1, c1, wA, rA, gA, tA, -⟩ := run_appNN k0 b0.size (nrow_below hv b0) (by simp; omega)
  have bA : Below w.heap.size w wA := b0.trans (tA.below b0.size (fun b e => (k0.lt b e).1))
  rw [List.nil_append] at gA
  obtain ⟨a2, m2, c2, wB, rB, gB, tB, -⟩ := run_app8 777 gA bA.size (by omega)
  have bB : Below w.heap.size w wB := bA.trans (tB.below bA.size (fun b e => (gA.lt b e).1))
  have b3 := below_new wB (.cells #[] 42)
  have k3 := erow_new wB #[] [] rfl (by decide)
  have bB3 : Below w.heap.size w (wB.alloc (.cells #[] 42)) := bB.trans (b3.mono bB.size)
  obtain ⟨a3, m3, c3, wC, rC, gC, tC, -⟩ := run_appEE k3 b3.size (rrow_below he bB3) (by simp; omega)
  rw [List.nil_append] at gC
  have bC : Below wB.heap.size wB wC := b3.trans (tC.below b3.size (fun b e => (k3.lt b e).1))
  obtain ⟨a4, m4, c4, wD, rD, gD, tD, -⟩ := run_app1 (ts := 23) kitE Try.underlying23 infoED rfl (by omega) (778, 0, 0, 0) (cs := #[.int .i64 778, .int .i64 0, .int .i64 0, .int .u32 0]) rfl gC bC.size (by omega)
  have bD : Below wB.heap.size wB wD := bC.trans (tD.below bC.size (fun b e => (gC.lt b e).1))
  refine ⟨a1, m1, c1, wA, a2, m2, c2, wB, a3, m3, c3, wC, a4, m4, c4, wD, ⟨rA, rB, rC, rD⟩, bB.trans (bD.mono bB.size), brow_kept gB (fun b e => bD.block b (gB.lt b e).2), rrow_low gD bB.size, fun b e e2 => ?_⟩
  have := (gB.lt b e).2
  have := (gD.lt b e2).1
  omega
/-- Both lists while they are overwritten. -/
structure OwF (w6 : World) (gV nV cV gE nE cE : Nat) (W : World) : Prop where
  rv : ∃ ls, BRow 0 W (.slice (some ⟨gV, 0, none⟩) nV cV) ls
  re : ∃ l, ERow 0 W (.slice (some ⟨gE, 0, none⟩) nE cE) l
  tu : Turned (fun b => b = gV ∨ b = gE) w6 W
  ne : gV ≠ gE
def set4e (w : World) (g i : Nat) (a b c d : Value) : World := (((w.setCell ⟨g, i * 4, none⟩ a).setCell ⟨g, i * 4 + 1, none⟩ b).setCell ⟨g, i * 4 + 2, none⟩ c).setCell ⟨g, i * 4 + 3, none⟩ d
section
variable {w6 W : World} {gV nV cV gE nE cE i : Nat}
theorem OwF.atV (h : OwF w6 gV nV cV gE nE cE W) (hi : i < nV) : (∃ x, W.cell? ⟨gV, i, none⟩ = some (.int .i64 x)) ∧ (∀ o, W.frozen? ⟨gV, o, none⟩ = false) ∧ OwF w6 gV nV cV gE nE cE (W.setCell ⟨gV, i, none⟩ (.int .i64 (-1))) := by
  obtain ⟨ls, hr⟩ := h.rv
  obtain ⟨l, hl⟩ := h.re
  have hn : nV = ls.length := by
    obtain ⟨_, _, e, -⟩ := brow_shape hr
    injection e
  obtain ⟨f1, f2⟩ := brow_set hr (-1) hi
  obtain ⟨x, hx⟩ : ∃ x, ls[i]? = some x := ⟨_, List.getElem?_eq_getElem (by omega)⟩
  exact ⟨⟨x, brow_at hr hx⟩, f1, ⟨_, f2⟩, ⟨l, rrow_kept hl (fun b e => heap_setCell_other _ _ _ _ (show b ≠ gV from fun z => by have e2 : gE = b := Option.some.inj e; exact h.ne (z.symm.trans e2.symm)))⟩, h.tu.trans (turned_setCell _ _ _ (.inl rfl)), h.ne⟩
theorem erow_set4 {B : Nat} {w : World} {g n c i : Nat} {l : List EdV} (h : ERow B w (.slice (some ⟨g, 0, none⟩) n c) l) {x : EdV} (hi : l[i]? = some x) (a b d : Int) (u : Int) : ERow B (set4e w g i (.int .i64 a) (.int .i64 b) (.int .i64 d) (.int .u32 u)) (.slice (some ⟨g, 0, none⟩) n c) (l.set i (a, b, d, u)) := by
  have hl := (List.getElem?_eq_some_iff.1 hi).1
  have h0 := rrow_set kitE h hi (x' := (a, x.2.1, x.2.2.1, x.2.2.2)) (j := 0) (by omega) (u := .int .i64 a) rfl
  have e0 : (l.set i (a, x.2.1, x.2.2.1, x.2.2.2))[i]? = some (a, x.2.1, x.2.2.1, x.2.2.2) := List.getElem?_set_self hl
  have h1 := rrow_set kitE h0 e0 (x' := (a, b, x.2.2.1, x.2.2.2)) (j := 1) (by omega) (u := .int .i64 b) rfl
  rw [List.set_set] at h1
  have e1 : (l.set i (a, b, x.2.2.1, x.2.2.2))[i]? = some (a, b, x.2.2.1, x.2.2.2) := List.getElem?_set_self hl
  have h2 := rrow_set kitE h1 e1 (x' := (a, b, d, x.2.2.2)) (j := 2) (by omega) (u := .int .i64 d) rfl
  rw [List.set_set] at h2
  have e2 : (l.set i (a, b, d, x.2.2.2))[i]? = some (a, b, d, x.2.2.2) := List.getElem?_set_self hl
  have h3 := rrow_set kitE h2 e2 (x' := (a, b, d, u)) (j := 3) (by omega) (u := .int .u32 u) rfl
  rw [List.set_set] at h3
  exact h3
theorem drow_set4 {B : Nat} {w : World} {g n c i : Nat} {l : List DiV} (h : DRow B w (.slice (some ⟨g, 0, none⟩) n c) l) {x : DiV} (hi : l[i]? = some x) (a : Int) (b : Bool) (d : Nat) (u : Int) : DRow B (set4e w g i (.int .i64 a) (.bool b) (.int .u32 (d : Nat)) (.int .i64 u)) (.slice (some ⟨g, 0, none⟩) n c) (l.set i (a, b, d, u)) := by
  have hl := (List.getElem?_eq_some_iff.1 hi).1
  have h0 := rrow_set kitD h hi (x' := (a, x.2.1, x.2.2.1, x.2.2.2)) (j := 0) (by omega) (u := .int .i64 a) rfl
  have e0 : (l.set i (a, x.2.1, x.2.2.1, x.2.2.2))[i]? = some (a, x.2.1, x.2.2.1, x.2.2.2) := List.getElem?_set_self hl
  have h1 := rrow_set kitD h0 e0 (x' := (a, b, x.2.2.1, x.2.2.2)) (j := 1) (by omega) (u := .bool b) rfl
  rw [List.set_set] at h1
  have e1 : (l.set i (a, b, x.2.2.1, x.2.2.2))[i]? = some (a, b, x.2.2.1, x.2.2.2) := List.getElem?_set_self hl
  have h2 := rrow_set kitD h1 e1 (x' := (a, b, d, x.2.2.2)) (j := 2) (by omega) (u := .int .u32 (d : Nat)) rfl
  rw [List.set_set] at h2
  have e2 : (l.set i (a, b, d, x.2.2.2))[i]? = some (a, b, d, x.2.2.2) := List.getElem?_set_self hl
  have h3 := rrow_set kitD h2 e2 (x' := (a, b, d, u)) (j := 3) (by omega) (u := .int .i64 u) rfl
  rw [List.set_set] at h3
  exact h3
theorem set4e_turned (w : World) (g i : Nat) (a b c d : Value) : Turned (fun k => k = g) w (set4e w g i a b c d) := (((turned_setCell (S := fun k => k = g) w ⟨g, i * 4, none⟩ a rfl).trans (turned_setCell (S := fun k => k = g) _ ⟨g, i * 4 + 1, none⟩ b rfl)).trans (turned_setCell (S := fun k => k = g) _ ⟨g, i * 4 + 2, none⟩ c rfl)).trans (turned_setCell (S := fun k => k = g) _ ⟨g, i * 4 + 3, none⟩ d rfl)
theorem OwF.atE (h : OwF w6 gV nV cV gE nE cE W) (hi : i < nE) : (∃ x : EdV, W.cell? ⟨gE, i * 4, none⟩ = some (.int .i64 x.1) ∧ W.cell? ⟨gE, i * 4 + 1, none⟩ = some (.int .i64 x.2.1) ∧ W.cell? ⟨gE, i * 4 + 2, none⟩ = some (.int .i64 x.2.2.1) ∧ W.cell? ⟨gE, i * 4 + 3, none⟩ = some (.int .u32 x.2.2.2)) ∧ (∀ o, W.frozen? ⟨gE, o, none⟩ = false) ∧ OwF w6 gV nV cV gE nE cE (set4e W gE i (.int .i64 (-1)) (.int .i64 0) (.int .i64 0) (.int .u32 0)) := by
  obtain ⟨ls, hr⟩ := h.rv
  obtain ⟨l, hl⟩ := h.re
  have hn := rrow_len hl
  obtain ⟨x, hx⟩ : ∃ x, l[i]? = some x := ⟨_, List.getElem?_eq_getElem (by omega)⟩
  have ht := set4e_turned W gE i (.int .i64 (-1)) (.int .i64 0) (.int .i64 0) (.int .u32 0)
  exact ⟨⟨x, erow_at hl hx⟩, rrow_frozen hl (by omega), ⟨ls, brow_kept hr (fun b e => ht.block b (hr.lt b e).2 (fun z => by have e2 : gV = b := Option.some.inj e; exact h.ne (e2.trans z)))⟩, ⟨_, erow_set4 hl hx (-1) 0 0 0⟩, h.tu.trans (ht.mono (fun k _ e => .inr e)), h.ne⟩
end
theorem TreeAt.turned {B : Nat} {W W' : World} {p : Nat} {s : Int} {ys : List Int} {es : List EdV} {ds : List DiV} {fs : List Int} {S : Nat → Prop} (h : TreeAt B W p s ys es ds fs) (ht : Turned S W W') (hS : ∀ b, S b → b < B) : TreeAt B W' p s ys es ds fs := by
  obtain ⟨dv, fv, h1⟩ := h.tr
  exact ⟨⟨dv, fv, h1.kept (fun b e => ht.block b (h1.lt e).2 (fun z => by have := hS b z; have := (h1.lt e).1; omega))⟩, h.dj, h.gk, h.good⟩
/-- Three answered lists side by side. -/
structure P3 (w0 : World) (lv rv dv : Value) (L R : List Int) (D : List DiV) (W : World) : Prop where
  bl : Below w0.heap.size w0 W
  l : BRow w0.heap.size W lv L
  r : BRow w0.heap.size W rv R
  d : DRow w0.heap.size W dv D
  lr : ∀ b, lv.ownBlock = some b → rv.ownBlock ≠ some b
  ld : ∀ b, lv.ownBlock = some b → dv.ownBlock ≠ some b
  rd : ∀ b, rv.ownBlock = some b → dv.ownBlock ≠ some b
section
variable {w0 W : World} {lv rv dv : Value} {L R : List Int} {D : List DiV} {g n c i : Nat}
theorem P3.setL (h : P3 w0 (.slice (some ⟨g, 0, none⟩) n c) rv dv L R D W) (hi : i < n) (x : Int) : (∃ y, W.cell? ⟨g, i, none⟩ = some (.int .i64 y)) ∧ (∀ o, W.frozen? ⟨g, o, none⟩ = false) ∧ P3 w0 (.slice (some ⟨g, 0, none⟩) n c) rv dv (L.set i x) R D (W.setCell ⟨g, i, none⟩ (.int .i64 x)) := by
  have hn : n = L.length := by
    obtain ⟨_, _, e, -⟩ := brow_shape h.l
    injection e
  obtain ⟨f1, f2⟩ := brow_set h.l x hi
  obtain ⟨y, hy⟩ : ∃ y, L[i]? = some y := ⟨_, List.getElem?_eq_getElem (by omega)⟩
  exact ⟨⟨y, brow_at h.l hy⟩, f1, below_set h.bl (h.l.lt g rfl).1, f2, brow_kept h.r (fun b e => heap_setCell_other _ _ _ _ (show b ≠ g from fun z => h.lr g rfl (by rw [← z]; exact e))), rrow_kept h.d (fun b e => heap_setCell_other _ _ _ _ (show b ≠ g from fun z => h.ld g rfl (by rw [← z]; exact e))), h.lr, h.ld, h.rd⟩
theorem P3.setR (h : P3 w0 lv (.slice (some ⟨g, 0, none⟩) n c) dv L R D W) (hi : i < n) (x : Int) : (∃ y, W.cell? ⟨g, i, none⟩ = some (.int .i64 y)) ∧ (∀ o, W.frozen? ⟨g, o, none⟩ = false) ∧ P3 w0 lv (.slice (some ⟨g, 0, none⟩) n c) dv L (R.set i x) D (W.setCell ⟨g, i, none⟩ (.int .i64 x)) := by
  have hn : n = R.length := by
    obtain ⟨_, _, e, -⟩ := brow_shape h.r
    injection e
  obtain ⟨f1, f2⟩ := brow_set h.r x hi
  obtain ⟨y, hy⟩ : ∃ y, R[i]? = some y := ⟨_, List.getElem?_eq_getElem (by omega)⟩
  exact ⟨⟨y, brow_at h.r hy⟩, f1, below_set h.bl (h.r.lt g rfl).1, brow_kept h.l (fun b e => heap_setCell_other _ _ _ _ (show b ≠ g from fun z => h.lr b e (by rw [z]; rfl))), f2, rrow_kept h.d (fun b e => heap_setCell_other _ _ _ _ (show b ≠ g from fun z => h.rd g rfl (by rw [← z]; exact e))), h.lr, h.ld, h.rd⟩
theorem P3.setD (h : P3 w0 lv rv (.slice (some ⟨g, 0, none⟩) n c) L R D W) (hi : i < n) : (∃ x : DiV, W.cell? ⟨g, i * 4, none⟩ = some (.int .i64 x.1) ∧ W.cell? ⟨g, i * 4 + 1, none⟩ = some (.bool x.2.1) ∧ W.cell? ⟨g, i * 4 + 2, none⟩ = some (.int .u32 (x.2.2.1 : Nat)) ∧ W.cell? ⟨g, i * 4 + 3, none⟩ = some (.int .i64 x.2.2.2)) ∧ (∀ o, W.frozen? ⟨g, o, none⟩ = false) ∧ P3 w0 lv rv (.slice (some ⟨g, 0, none⟩) n c) L R (D.set i (-4, false, 0, 0)) (set4e W g i (.int .i64 (-4)) (.bool false) (.int .u32 0) (.int .i64 0)) := by
  have hn := rrow_len h.d
  obtain ⟨y, hy⟩ : ∃ y, D[i]? = some y := ⟨_, List.getElem?_eq_getElem (by omega)⟩
  have ht := set4e_turned W g i (.int .i64 (-4)) (.bool false) (.int .u32 0) (.int .i64 0)
  exact ⟨⟨y, drow_at h.d hy⟩, rrow_frozen h.d (by omega), h.bl.trans (ht.below h.bl.size (fun b e => by rw [e]; exact (h.d.lt g rfl).1)), brow_kept h.l (fun b e => ht.block b (h.l.lt b e).2 (fun z => h.ld b e (by rw [z]; rfl))), brow_kept h.r (fun b e => ht.block b (h.r.lt b e).2 (fun z => h.rd b e (by rw [z]; rfl))), drow_set4 h.d hy (-4) false 0 0, h.lr, h.ld, h.rd⟩
/-- One more behind each. -/
theorem P3.push (h : P3 w0 lv rv dv L R D W) (h1 : L.length ≤ 2000) (h2 : R.length ≤ 2000) (h3 : D.length ≤ 2000) :
    ∃ a1 m1 c1 wA a2 m2 c2 wB a3 m3 c3 wC,
      (∀ ty, (Builtin.append_ #[22, 22] ty #[lv, .slice (some ⟨W.heap.size, 0, none⟩) 1 1]).run Try.prog (W.alloc (.cells #[.int .i64 5] 3)) = .ok (.slice a1 m1 c1) wA) ∧
      (∀ ty, (Builtin.append_ #[22, 22] ty #[rv, .slice (some ⟨wA.heap.size, 0, none⟩) 1 1]).run Try.prog (wA.alloc (.cells #[.int .i64 6] 3)) = .ok (.slice a2 m2 c2) wB) ∧
      (∀ ty, (Builtin.append_ #[45, 45] ty #[dv, .slice (some ⟨wB.heap.size, 0, none⟩) 1 1]).run Try.prog (wB.alloc (.cells #[.int .i64 7, .bool false, .int .u32 0, .int .i64 0] 48)) = .ok (.slice a3 m3 c3) wC) ∧
      P3 w0 (.slice a1 m1 c1) (.slice a2 m2 c2) (.slice a3 m3 c3) (L ++ [5]) (R ++ [6]) (D ++ [(7, false, 0, 0)]) wC := by
  have hs := h.bl.size
  obtain ⟨a1, m1, c1, wA, rA, gA, tA, oA⟩ := run_app8 5 h.l hs (by omega)
  have rA' : BRow w0.heap.size wA rv R := brow_kept h.r (fun b e => tA.block b (h.r.lt b e).2 (fun z => h.lr b z e))
  have dA' : DRow w0.heap.size wA dv D := rrow_kept h.d (fun b e => tA.block b (h.d.lt b e).2 (fun z => h.ld b z e))
  have sA := tA.size
  obtain ⟨a2, m2, c2, wB, rB, gB, tB, oB⟩ := run_app8 6 rA' (by omega) (by omega)
  have lAR : ∀ b, (Value.slice a1 m1 c1).ownBlock = some b → rv.ownBlock ≠ some b := fun b e e2 => by
    rcases oA b e with q | q
    · exact h.lr b q e2
    · have := (h.r.lt b e2).2; omega
  have lAD : ∀ b, (Value.slice a1 m1 c1).ownBlock = some b → dv.ownBlock ≠ some b := fun b e e2 => by
    rcases oA b e with q | q
    · exact h.ld b q e2
    · have := (h.d.lt b e2).2; omega
  have gA' : BRow w0.heap.size wB (.slice a1 m1 c1) (L ++ [5]) := brow_kept gA (fun b e => tB.block b (gA.lt b e).2 (fun z => lAR b e z))
  have dB' : DRow w0.heap.size wB dv D := rrow_kept dA' (fun b e => tB.block b (dA'.lt b e).2 (fun z => h.rd b z e))
  have sB := tB.size
  obtain ⟨a3, m3, c3, wC, rC, gC, tC, oC⟩ := run_app1 (ts := 45) kitD Try.underlying45 infoD rfl (by omega) (7, false, 0, 0) (cs := #[.int .i64 7, .bool false, .int .u32 0, .int .i64 0]) rfl dB' (by omega) (by omega)
  have lB : ∀ b, (Value.slice a1 m1 c1).ownBlock = some b → (Value.slice a2 m2 c2).ownBlock ≠ some b := fun b e e2 => by
    rcases oB b e2 with q | q
    · exact lAR b e q
    · have := (gA.lt b e).2; omega
  have rBD : ∀ b, (Value.slice a2 m2 c2).ownBlock = some b → dv.ownBlock ≠ some b := fun b e e2 => by
    rcases oB b e with q | q
    · exact h.rd b q e2
    · have := (dA'.lt b e2).2; omega
  have bA : Below w0.heap.size w0 wA := h.bl.trans (tA.below hs (fun b e => (h.l.lt b e).1))
  have bB : Below w0.heap.size w0 wB := bA.trans (tB.below bA.size (fun b e => (h.r.lt b e).1))
  have bC : Below w0.heap.size w0 wC := bB.trans (tC.below bB.size (fun b e => (h.d.lt b e).1))
  refine ⟨a1, m1, c1, wA, a2, m2, c2, wB, a3, m3, c3, wC, rA, rB, rC, bC, brow_kept gA' (fun b e => tC.block b (gA'.lt b e).2 (fun z => lAD b e z)), brow_kept gB (fun b e => tC.block b (gB.lt b e).2 (fun z => rBD b e z)), gC, lB, fun b e e2 => ?_, fun b e e2 => ?_⟩
  · rcases oC b e2 with q | q
    · exact lAD b e q
    · have := (gA'.lt b e).2; omega
  · rcases oC b e2 with q | q
    · exact rBD b e q
    · have := (gB.lt b e).2; omega
end
end

end Go.Proofs.Ytijgeoegeeejcaa

/- The reference's Place. -/
import Derived.Test.YtbmcibofecigeaaPath13
namespace Go.Proofs.Ytbmcibofecigeaa

section
open Go.RowKit Go.Maps
theorem take_snoc {l : List Int} {k : Nat} {x : Int} (h : l[k]? = some x) : l.take (k + 1) = l.take k ++ [x] := by
  rw [List.take_add_one, h]; rfl
theorem idx_some {l : List Int} {x : Int} (h : x ∈ l) : l[l.idxOf x]? = some x := by
  have hl := List.idxOf_lt_length_of_mem h
  rw [List.getElem?_eq_getElem hl, List.getElem_idxOf hl]
/-- A list with a hole at k. -/
def holed (ys : List Int) (k : Nat) (c : Int) : List Int := ys.take k ++ c :: ys.drop k
theorem holed_len {ys : List Int} {k : Nat} {c : Int} (hk : k ≤ ys.length) : (holed ys k c).length = ys.length + 1 := by
  simp [holed]; omega
theorem holed_at {ys : List Int} {k j : Nat} {c : Int} (hj : j < k) (hk : k ≤ ys.length) : (holed ys k c)[j]? = ys[j]? := by
  unfold holed
  rw [List.getElem?_append_left (by simp; omega), List.getElem?_take, if_pos hj]
theorem holed_hole {ys : List Int} {k : Nat} {c : Int} (hk : k ≤ ys.length) : (holed ys k c)[k]? = some c := by
  unfold holed
  rw [List.getElem?_append_right (by rw [List.length_take]; omega), List.length_take, Nat.min_eq_left hk, Nat.sub_self]; rfl
theorem holed_set {ys : List Int} {k : Nat} {c x : Int} (hk : k ≤ ys.length) : (holed ys k c).set k x = holed ys k x := by
  unfold holed
  rw [List.set_append, List.length_take, Nat.min_eq_left hk, if_neg (by omega), Nat.sub_self]; rfl
theorem holed_back {ys : List Int} {k : Nat} {c y : Int} (hy : ys[k]? = some y) : (holed ys (k + 1) c).set (k + 1) y = holed ys k y := by
  have hl := (List.getElem?_eq_some_iff.1 hy).1
  rw [holed_set (by omega)]
  unfold holed
  rw [take_snoc hy, List.append_assoc, List.singleton_append, List.drop_eq_getElem_cons hl]
  rw [(List.getElem?_eq_some_iff.1 hy).2]
theorem holed_perm (ys : List Int) (k : Nat) (x : Int) : (holed ys k x).Perm (ys ++ [x]) := by
  unfold holed
  refine List.perm_middle.trans ?_
  rw [List.take_append_drop]
  exact (List.perm_append_singleton x ys).symm
theorem holed_sorted {ys : List Int} {k : Nat} {x : Int} (hs : ys.Pairwise (· ≤ ·)) (h1 : ∀ y ∈ ys.take k, y ≤ x) (h2 : ∀ y ∈ ys.drop k, x ≤ y) : (holed ys k x).Pairwise (· ≤ ·) := by
  unfold holed
  have hp := List.pairwise_append.1 (by rw [List.take_append_drop]; exact hs : (ys.take k ++ ys.drop k).Pairwise (· ≤ ·))
  refine List.pairwise_append.2 ⟨hp.1, List.pairwise_cons.2 ⟨h2, hp.2.1⟩, fun a ha b hb => ?_⟩
  rcases List.mem_cons.1 hb with e | e
  · rw [e]; exact h1 a ha
  · exact hp.2.2 a ha b e
theorem take_le {ys : List Int} {k : Nat} {x y : Int} (hs : ys.Pairwise (· ≤ ·)) (hy : ys[k]? = some y) (hx : y ≤ x) : ∀ z ∈ ys.take (k + 1), z ≤ x := fun z hz => by
  rw [take_snoc hy] at hz
  rcases List.mem_append.1 hz with q | q
  · have hp := List.pairwise_append.1 (by rw [List.take_append_drop]; exact hs : (ys.take k ++ ys.drop k).Pairwise (· ≤ ·))
    have hl := (List.getElem?_eq_some_iff.1 hy).1
    have hin : y ∈ ys.drop k := by
      rw [List.drop_eq_getElem_cons hl, (List.getElem?_eq_some_iff.1 hy).2]; exact List.mem_cons_self
    have := hp.2.2 z q y hin
    omega
  · rw [List.mem_singleton.1 q]; exact hx
def SrtAns (w : World) (ks : List Int) (e : Ending) (w' : World) : Prop := ∃ a n c ys, e = .returned (.slice a n c) ∧ ys.Perm ks ∧ ys.Pairwise (· ≤ ·) ∧ BRow w.heap.size w' (.slice a n c) ys ∧ Below w.heap.size w w'
set_option maxHeartbeats 4000000 in
set_option maxRecDepth 100000 in
theorem sortedS {w : World} {v : Value} {ks : List Int} (h : NRow w v ks) (hl : ks.length ≤ 100000) :
    Calls Try.prog 36 #[v] w fun e w' => Hid (SrtAns w ks e w') := by
  obtain ⟨x1, c1, e1, -⟩ := brow_shape h
  obtain ⟨n1, hn1⟩ : ∃ n1, n1 = ks.length := ⟨_, rfl⟩
  rw [← hn1] at e1
  have HN : Hid (n1 = ks.length ∧ n1 ≤ 100000) := ⟨hn1, by omega⟩
  have HC := hide h
  clear h hl hn1
  subst e1
  go_enter Try.func36, Try.ntmps36
  go_upto_region 3 with fail
  go_loopw [4, 3, 5] (fun s4 s3 s5 wr => ∃ (i : Nat) (a : Option Addr) (n c : Nat), s4 = .int .i64 (i : Nat) ∧ s3 = .slice a n c ∧ i ≤ n1 ∧ Hid (∃ ys, ys.Perm (ks.take i) ∧ ys.Pairwise (· ≤ ·) ∧ n = i ∧ BRow w.heap.size wr (.slice a n c) ys ∧ Below w.heap.size w wr)) (fun s4 _ _ _ => n1 - (intOf s4).toNat)
  case atStart => exact ⟨0, none, 0, 0, rfl, rfl, Nat.zero_le _, [], by simp, List.Pairwise.nil, rfl, ⟨rfl, .inl ⟨rfl, rfl⟩⟩, Below.refl _ _⟩
  case round =>
    obtain ⟨i, a, n, c, rfl, rfl, hi, hS⟩ := hrel
    obtain ⟨ys, hp, hs, hn, hr, hB⟩ := unhide hS
    obtain ⟨l1, l2⟩ := unhide HN
    by_cases hlt : i < n1
    · obtain ⟨x, hx⟩ : ∃ x, ks[i]? = some x := ⟨_, List.getElem?_eq_getElem (by omega)⟩
      obtain ⟨g1, hg1⟩ := brow_some (unhide HC) (by omega)
      subst hg1
      have hyl : ys.length = i := by rw [hp.length_eq, List.length_take]; omega
      have HX : Hid (∀ W, Below w.heap.size w W → W.cell? ⟨g1, i, none⟩ = some (.int .i64 x)) := fun W hW => brow_at (nrow_below (unhide HC) hW) hx
      have k1 := unhide HX wr hB
      obtain ⟨a', n', c', w5, r5, g5, t5, -⟩ := run_app8 x hr hB.size (by omega)
      have hB5 : Below w.heap.size w w5 := hB.trans (t5.below hB.size (fun b e => (hr.lt b e).1))
      have HR5 := hide r5
      obtain ⟨b', cc, eb, -⟩ := brow_shape g5
      have en' : n' = (ys ++ [x]).length := by injection eb
      obtain ⟨gy, hgy⟩ := brow_some g5 (by simp)
      subst hgy
      have HY : Hid (ys.Perm (ks.take i) ∧ ys.Pairwise (· ≤ ·) ∧ ys.length = i ∧ n' = i + 1 ∧ ks[i]? = some x) := ⟨hp, hs, hyl, by rw [en']; simp [hyl], hx⟩
      have HL : Hid (∃ d, BRow w.heap.size w5 (.slice (some ⟨gy, 0, none⟩) n' c') (holed ys n d) ∧ (∀ y ∈ ys.drop n, x < y) ∧ Below w.heap.size w w5) := ⟨x, by
        have e : holed ys n x = ys ++ [x] := by unfold holed; rw [List.take_of_length_le (by omega), List.drop_of_length_le (by omega)]
        rw [e]; exact g5, fun y hy => (by rw [List.drop_of_length_le (by omega)] at hy; cases hy), hB5⟩
      have z1 : (i : Int) < (n1 : Int) := by omega
      have HNI : Hid (n = i) := hn
      clear hp hs hn hr hB hx hyl g5 t5 hB5 r5 eb en' hS l1 l2 hi hlt
      go_upto_region 7 with (at_builtin; refine Lib.wpList_append_run _ rfl _ _ 25 25 rfl _ _ rfl rfl _ _ (unhide HR5 _) ?_)
      clear k1 HR5 cc b'
      go_loopw [5] (fun s5 W => ∃ k : Nat, s5 = .int .i64 (k : Nat) ∧ k ≤ n ∧ Hid (∃ d, BRow w.heap.size W (.slice (some ⟨gy, 0, none⟩) n' c') (holed ys k d) ∧ (∀ y ∈ ys.drop k, x < y) ∧ Below w.heap.size w W)) (fun s5 _ => (intOf s5).toNat)
      case atStart => exact ⟨n, rfl, Nat.le_refl _, HL⟩
      case round =>
        obtain ⟨k, rfl, hk, hS⟩ := hrel
        clear HL
        obtain ⟨d, hr, hgt, hB⟩ := unhide hS
        obtain ⟨hp, hs, hyl, en', hx⟩ := unhide HY
        have hni := unhide HNI
        have k1 := unhide HX wr hB
        have HEND : Hid ((∀ y ∈ ys.take k, y ≤ x) → ∀ q, (∀ o, (wr.drewN q).frozen? ⟨gy, o, none⟩ = false) ∧ (wr.drewN q).cell? ⟨gy, k, none⟩ = some (.int .i64 d) ∧ (wr.drewN q).cell? ⟨g1, i, none⟩ = some (.int .i64 x) ∧ ∃ zs, zs.Perm (ks.take (i + 1)) ∧ zs.Pairwise (· ≤ ·) ∧ n' = i + 1 ∧ BRow w.heap.size ((wr.drewN q).setCell ⟨gy, k, none⟩ (.int .i64 x)) (.slice (some ⟨gy, 0, none⟩) n' c') zs ∧ Below w.heap.size w ((wr.drewN q).setCell ⟨gy, k, none⟩ (.int .i64 x))) := fun hle q => by
          have bq : Below w.heap.size w (wr.drewN q) := hB.trans ⟨rfl, rfl, rfl, Nat.le_refl _, fun _ _ => rfl⟩
          have rq : BRow w.heap.size (wr.drewN q) (.slice (some ⟨gy, 0, none⟩) n' c') (holed ys k d) := brow_kept hr (fun _ _ => rfl)
          obtain ⟨f, r⟩ := brow_set rq x (k := k) (by omega)
          rw [holed_set (by omega)] at r
          have ht : Turned (fun b => b = gy) (wr.drewN q) ((wr.drewN q).setCell ⟨gy, k, none⟩ (.int .i64 x)) := setCells_turned (S := fun b => b = gy) gy rfl [.int .i64 x] k (wr.drewN q)
          refine ⟨f, brow_at rq (holed_hole (by omega)), unhide HX _ bq, holed ys k x, ?_, holed_sorted hs hle (fun y hy => by have := hgt y hy; omega), en', r, bq.trans (ht.below bq.size (fun b e => by rw [e]; exact (rq.lt gy rfl).1))⟩
          rw [take_snoc hx]
          exact (holed_perm ys k x).trans (hp.append_right [x])
        rcases k with _ | k0
        · obtain ⟨i1, hi1⟩ : ∃ i1, i1 = i + 1 := ⟨_, rfl⟩
          have HE := hide (unhide HEND (fun y hy => by simp at hy))
          rw [← hi1] at HE
          have zw : Hid (wrap64 ((i : Int) + 1) = (i1 : Int)) := by have := unhide HN; show wrap64 ((i : Int) + 1) = (i1 : Int); unfold wrap64; omega
          have HJ : Hid (i1 ≤ n1 ∧ n1 - i1 < n1 - i) := by have := unhide HN; have := (List.getElem?_eq_some_iff.1 hx).1; exact ⟨by omega, by omega⟩
          have HI1 := hide hi1
          have z2 : (0 : Int) < (n' : Int) := by omega
          clear hr hgt hB hp hs hyl en' hx hni HEND hi1 hk hS
          rw [show ((0 : Nat) : Int) = 0 from rfl]
          go_wp2_with fail
          go_quiet (fail)
          obtain ⟨fz, k2, k3, -⟩ := unhide HE nq
          have HE2 := hide (unhide HE nq).2.2.2
          clear HE k1
          generalize wr.drewN nq = w6 at *
          go_wp2_with fail
          (try rw [unhide zw])
          exact ⟨⟨i1, _, _, _, by first | rfl | (rw [unhide HI1]; rfl), rfl, (unhide HJ).1, HE2⟩, by have := (unhide HJ).2; simp [intOf]; omega⟩
        · obtain ⟨y, hy⟩ : ∃ y, ys[k0]? = some y := ⟨_, List.getElem?_eq_getElem (by omega)⟩
          have k2 := brow_at hr ((holed_at (c := d) (Nat.lt_succ_self k0) (by omega)).trans hy)
          have z2 : (0 : Int) < ((k0 + 1 : Nat) : Int) := by omega
          have z3 : decide ((0 : Int) < ((k0 + 1 : Nat) : Int)) = true := by rw [decide_eq_true_eq]; omega
          have z4 : (k0 : Int) < (n' : Int) := by omega
          have z5 : IntKind.i64.wrap (((k0 + 1 : Nat) : Int) - 1) = (k0 : Int) := by have := unhide HN; have := (List.getElem?_eq_some_iff.1 hx).1; rw [IntKind.wrap_i64]; omega
          have z6 : Hid (wrap64 (((k0 + 1 : Nat) : Int) - 1) = (k0 : Int)) := by have := unhide HN; have := (List.getElem?_eq_some_iff.1 hx).1; show wrap64 (((k0 + 1 : Nat) : Int) - 1) = (k0 : Int); unfold wrap64; omega
          have z7 : ((k0 + 1 : Nat) : Int) < (n' : Int) := by omega
          obtain ⟨kk, hkk⟩ : ∃ kk, kk = k0 + 1 := ⟨_, rfl⟩
          rw [← hkk] at z2 z3 z5 z6 z7 HEND ⊢
          have z8 : 0 < kk := by omega
          have z9 : decide (0 < kk) = true := by simp; omega
          have z1' : (i : Int) < (n1 : Int) := by have := unhide HN; have := (List.getElem?_eq_some_iff.1 hx).1; omega
          have HKK := hide hkk
          by_cases hxy : x < y
          · have z10 : decide (x < y) = true := by simpa using hxy
            have HD : Hid (∀ q, (∀ o, (wr.drewN q).frozen? ⟨gy, o, none⟩ = false) ∧ (wr.drewN q).cell? ⟨gy, kk, none⟩ = some (.int .i64 d) ∧ (wr.drewN q).cell? ⟨gy, k0, none⟩ = some (.int .i64 y) ∧ ∃ d, BRow w.heap.size ((wr.drewN q).setCell ⟨gy, kk, none⟩ (.int .i64 y)) (.slice (some ⟨gy, 0, none⟩) n' c') (holed ys k0 d) ∧ (∀ y ∈ ys.drop k0, x < y) ∧ Below w.heap.size w ((wr.drewN q).setCell ⟨gy, kk, none⟩ (.int .i64 y))) := fun q => by
              have bq : Below w.heap.size w (wr.drewN q) := hB.trans ⟨rfl, rfl, rfl, Nat.le_refl _, fun _ _ => rfl⟩
              have rq : BRow w.heap.size (wr.drewN q) (.slice (some ⟨gy, 0, none⟩) n' c') (holed ys (k0 + 1) d) := brow_kept hr (fun _ _ => rfl)
              obtain ⟨f, r⟩ := brow_set rq y (k := k0 + 1) (by omega)
              rw [holed_back hy] at r
              have ht : Turned (fun b => b = gy) (wr.drewN q) ((wr.drewN q).setCell ⟨gy, k0 + 1, none⟩ (.int .i64 y)) := setCells_turned (S := fun b => b = gy) gy rfl [.int .i64 y] (k0 + 1) (wr.drewN q)
              refine ⟨f, by rw [hkk]; exact brow_at rq (holed_hole (by omega)), brow_at rq ((holed_at (c := d) (Nat.lt_succ_self k0) (by omega)).trans hy), y, by rw [hkk]; exact r, fun z hz => ?_, by rw [hkk]; exact bq.trans (ht.below bq.size (fun b e => by rw [e]; exact (rq.lt gy rfl).1))⟩
              rw [List.drop_eq_getElem_cons (List.getElem?_eq_some_iff.1 hy).1, (List.getElem?_eq_some_iff.1 hy).2] at hz
              rcases List.mem_cons.1 hz with e | e
              · rw [e]; exact hxy
              · exact hgt z e
            have HM : Hid (k0 ≤ n ∧ k0 < kk) := ⟨by omega, by omega⟩
            clear hr hgt hB hp hs hyl en' hx hni HEND hk hS hy hkk
            go_wp2_with fail
            go_quiet (fail)
            obtain ⟨fz, k3, k4, -⟩ := unhide HD nq
            have HD2 := hide (unhide HD nq).2.2.2
            clear HD k1 k2
            generalize wr.drewN nq = w6 at *
            go_wp2_with fail
            (try rw [unhide z6])
            exact ⟨⟨k0, rfl, (unhide HM).1, HD2⟩, by have := (unhide HM).2; simp [intOf]; omega⟩
          · have z10 : decide (x < y) = false := by simpa using hxy
            obtain ⟨i1, hi1⟩ : ∃ i1, i1 = i + 1 := ⟨_, rfl⟩
            have HE := hide (unhide HEND (by rw [hkk]; exact take_le hs hy (by omega)))
            rw [← hi1] at HE
            have zw : Hid (wrap64 ((i : Int) + 1) = (i1 : Int)) := by have := unhide HN; show wrap64 ((i : Int) + 1) = (i1 : Int); unfold wrap64; omega
            have HJ : Hid (i1 ≤ n1 ∧ n1 - i1 < n1 - i) := by have := unhide HN; have := (List.getElem?_eq_some_iff.1 hx).1; exact ⟨by omega, by omega⟩
            have HI1 := hide hi1
            clear hr hgt hB hp hs hyl en' hx hni HEND hi1 hk hS hy hkk
            go_wp2_with fail
            go_quiet (fail)
            obtain ⟨fz, k3, k4, -⟩ := unhide HE nq
            have HE2 := hide (unhide HE nq).2.2.2
            clear HE k1 k2
            generalize wr.drewN nq = w6 at *
            go_wp2_with fail
            (try rw [unhide zw])
            exact ⟨⟨i1, _, _, _, by first | rfl | (rw [unhide HI1]; rfl), rfl, (unhide HJ).1, HE2⟩, by have := (unhide HJ).2; simp [intOf]; omega⟩
    · have z1 : ¬ (i : Int) < (n1 : Int) := by omega
      have HE : Hid (ys.Perm ks ∧ ys.Pairwise (· ≤ ·) ∧ BRow w.heap.size wr (.slice a n c) ys ∧ Below w.heap.size w wr) := ⟨by rw [List.take_of_length_le (by omega)] at hp; exact hp, hs, hr, hB⟩
      clear hp hs hn hr hB hS l1 l2 hi hlt
      go_wp2_with fail
      go_ret
      exact ⟨a, n, c, ys, rfl, unhide HE⟩
end

section
open Go.RowKit Go.Maps
/-- A graph of the reference, in a box. -/
def oGr (vv ev : Value) (rd wr : Int) : Obj := .cells #[vv, ev, .int .i64 rd, .int .i64 wr] 28 (0, 0)
theorem cellsGr {w : World} {b : Nat} {vv ev : Value} {rd wr : Int} (h : w.heap[b]? = some (oGr vv ev rd wr)) : w.cell? ⟨b, 0, none⟩ = some vv ∧ w.cell? ⟨b, 1, none⟩ = some ev ∧ w.cell? ⟨b, 2, none⟩ = some (.int .i64 rd) ∧ w.cell? ⟨b, 3, none⟩ = some (.int .i64 wr) ∧ ∀ o, w.frozen? ⟨b, o, none⟩ = false :=
  ⟨(cell_of_row _ _ 0 _ _ (0, 0) h).trans rfl, (cell_of_row _ _ 1 _ _ (0, 0) h).trans rfl, (cell_of_row _ _ 2 _ _ (0, 0) h).trans rfl, (cell_of_row _ _ 3 _ _ (0, 0) h).trans rfl, fun o => frozen_of_row _ _ o _ _ h⟩
/-- The place of a number among these, or -1. -/
def placeOf (V : List Int) (x : Int) : Int := if x ∈ V then (V.idxOf x : Nat) else -1
theorem placeOf_some {V : List Int} {x : Int} {k : Nat} (hs : V.Pairwise (· < ·)) (h : V[k]? = some x) : placeOf V x = (k : Int) := by
  unfold placeOf
  rw [if_pos (List.mem_of_getElem? h)]
  have : V.idxOf x = k := by
    obtain ⟨l1, e1⟩ := List.getElem?_eq_some_iff.1 h
    obtain ⟨l2, e2⟩ := List.getElem?_eq_some_iff.1 (idx_some (List.mem_of_getElem? h))
    have hne := List.pairwise_iff_getElem.1 hs
    rcases Nat.lt_trichotomy (V.idxOf x) k with q | q | q
    · have := hne _ k l2 l1 q; rw [e1, e2] at this; simp at this
    · exact q
    · have := hne k _ l1 l2 q; rw [e1, e2] at this; simp at this
  rw [this]
/-- What the search has left. -/
def Lft (V : List Int) (x : Int) (lo hi : Nat) : Prop := lo ≤ hi ∧ hi ≤ V.length ∧ (∀ (j : Nat) (y : Int), j < lo → V[j]? = some y → y < x) ∧ ∀ (j : Nat) (y : Int), hi ≤ j → V[j]? = some y → x ≤ y
theorem lft_lo {V : List Int} {x : Int} {lo hi m : Nat} {y : Int} (hs : V.Pairwise (· < ·)) (h : Lft V x lo hi) (hy : V[m]? = some y) (hm : m < hi) (hl : y < x) : Lft V x (m + 1) hi := by
  refine ⟨by omega, h.2.1, fun j z hj hz => ?_, h.2.2.2⟩
  by_cases e : j = m
  · subst e; rw [hy] at hz; injection hz with hz; omega
  · obtain ⟨l1, e1⟩ := List.getElem?_eq_some_iff.1 hy
    obtain ⟨l2, e2⟩ := List.getElem?_eq_some_iff.1 hz
    have := List.pairwise_iff_getElem.1 hs j m l2 l1 (by omega)
    rw [e1, e2] at this; omega
theorem lft_hi {V : List Int} {x : Int} {lo hi m : Nat} {y : Int} (hs : V.Pairwise (· < ·)) (h : Lft V x lo hi) (hy : V[m]? = some y) (hm : lo ≤ m) (hl : ¬ y < x) : Lft V x lo m := by
  have h0 := (List.getElem?_eq_some_iff.1 hy).1
  refine ⟨hm, by omega, h.2.2.1, fun j z hj hz => ?_⟩
  by_cases e : j = m
  · subst e; rw [hy] at hz; injection hz with hz; omega
  · obtain ⟨l1, e1⟩ := List.getElem?_eq_some_iff.1 hy
    obtain ⟨l2, e2⟩ := List.getElem?_eq_some_iff.1 hz
    have := List.pairwise_iff_getElem.1 hs m j l1 l2 (by omega)
    rw [e1, e2] at this; omega
theorem lft_none {V : List Int} {x : Int} {k : Nat} (h : Lft V x k k) (hk : V[k]? ≠ some x) (hs : V.Pairwise (· < ·)) : placeOf V x = -1 := by
  unfold placeOf
  rw [if_neg]
  intro hx
  obtain ⟨j, hj⟩ := List.mem_iff_getElem?.1 hx
  rcases Nat.lt_trichotomy j k with q | q | q
  · have := h.2.2.1 j x q hj; omega
  · subst q; exact hk hj
  · obtain ⟨l2, e2⟩ := List.getElem?_eq_some_iff.1 hj
    obtain ⟨y, hy⟩ : ∃ y, V[k]? = some y := ⟨_, List.getElem?_eq_getElem (by omega)⟩
    have h3 := h.2.2.2 k y (Nat.le_refl _) hy
    obtain ⟨l1, e1⟩ := List.getElem?_eq_some_iff.1 hy
    have := List.pairwise_iff_getElem.1 hs k j l1 l2 q
    rw [e1, e2] at this; omega
theorem mid_wrap {lo hi : Nat} (h : lo + hi ≤ 1000000) : wrap64 ((lo : Int) + (hi : Int)) = (lo : Int) + (hi : Int) ∧ wrap64 (((lo : Int) + (hi : Int)).tdiv 2) = (((lo + hi) / 2 : Nat) : Int) := by
  constructor
  · unfold wrap64; omega
  · rw [Int.tdiv_eq_ediv_of_nonneg (by omega)]; unfold wrap64; omega
set_option maxHeartbeats 4000000 in
set_option maxRecDepth 100000 in
theorem placeR {w : World} {vv ev : Value} {rd wr x : Int} {V : List Int} (h : NRow w vv V) (hs : V.Pairwise (· < ·)) (hl : V.length ≤ 100000) :
    Calls Try.prog 27 #[.agg #[vv, ev, .int .i64 rd, .int .i64 wr], .int .i64 x] w fun e w' => e = .returned (.int .i64 (placeOf V x)) ∧ Below w.heap.size w w' := by
  have hb := below_new w (oGr vv ev rd wr)
  have h1 := nrow_below h hb
  obtain ⟨c0, -, -, -, -⟩ := cellsGr (heap_alloc_new w (oGr vv ev rd wr))
  have HB := hide hb
  obtain ⟨a, c, hvv, -⟩ := brow_shape h1
  obtain ⟨n, hn⟩ : ∃ n, n = V.length := ⟨_, rfl⟩
  rw [← hn] at hvv
  have HC := hide h1
  have HN : Hid (n = V.length ∧ n ≤ 100000 ∧ V.Pairwise (· < ·)) := ⟨hn, by omega, hs⟩
  generalize hrr : placeOf V x = rr
  have HRR := hide hrr
  clear h h1 hb hl hn hs hrr
  subst hvv
  go_enter Try.func27, Try.ntmps27
  go_upto_region 1 with fail
  change Code.wp _ _ _ _ (w.alloc (oGr (.slice a n c) ev rd wr))
  generalize w.alloc (oGr (.slice a n c) ev rd wr) = wb at *
  generalize hbb : w.heap.size = bb at *
  go_quiet (fail)
  have HBB := hide hbb
  have HB2 : Hid (Below bb w (wb.drewN nq) ∧ NRow (wb.drewN nq) (.slice a n c) V ∧ (wb.drewN nq).cell? ⟨bb, 0, none⟩ = some (.slice a n c)) := ⟨(unhide HB).trans ⟨rfl, rfl, rfl, Nat.le_refl _, fun _ _ => rfl⟩, nrow_kept (unhide HC) (fun _ _ => rfl), c0⟩
  clear HB HC c0 hbb
  generalize wb.drewN nq = w1 at *
  have c0 := (unhide HB2).2.2
  go_upto_region 2 with fail
  go_loopw [5, 6, 7] (fun s5 s6 s7 wr => ∃ lo hi : Nat, s5 = .int .i64 (lo : Nat) ∧ s6 = .int .i64 (hi : Nat) ∧ wr = w1 ∧ Hid (Lft V x lo hi)) (fun s5 s6 _ _ => (intOf s6).toNat - (intOf s5).toNat)
  case atStart => exact ⟨0, n, rfl, rfl, rfl, Nat.zero_le _, by rw [(unhide HN).1]; exact Nat.le_refl _, fun j _ hj => absurd hj (Nat.not_lt_zero _), fun j y hj hy => by have := (List.getElem?_eq_some_iff.1 hy).1; have := (unhide HN).1; omega⟩
  case round =>
    obtain ⟨lo, hi, rfl, rfl, rfl, hS⟩ := hrel
    obtain ⟨l1, l2, l3⟩ := unhide HN
    obtain ⟨s1, s2, -, -⟩ := unhide hS
    by_cases hlt : lo < hi
    · obtain ⟨m, hm⟩ : ∃ m, m = (lo + hi) / 2 := ⟨_, rfl⟩
      obtain ⟨y, hy⟩ : ∃ y, V[m]? = some y := ⟨_, List.getElem?_eq_getElem (by omega)⟩
      obtain ⟨g, hg⟩ := brow_some (unhide HB2).2.1 (by omega)
      subst hg
      have k1 := brow_at (unhide HB2).2.1 hy
      have z1 : (lo : Int) < (hi : Int) := by omega
      have z2 : (m : Int) < (n : Int) := by omega
      have z4 : ((lo : Int) + (hi : Int)) / 2 = (m : Int) := by omega
      obtain ⟨m1, hm1⟩ : ∃ m1, m1 = m + 1 := ⟨_, rfl⟩
      have zw : Hid (wrap64 ((m : Int) + 1) = (m1 : Int)) := by show wrap64 ((m : Int) + 1) = (m1 : Int); unfold wrap64; omega
      have HM1 := hide hm1
      have hmid := mid_wrap (lo := lo) (hi := hi) (by omega)
      rw [← hm] at hmid
      by_cases hyx : y < x
      · have HJ : Hid (Lft V x m1 hi ∧ hi - m1 < hi - lo) := ⟨by rw [hm1]; exact lft_lo l3 (unhide hS) hy (by omega) hyx, by omega⟩
        obtain ⟨z3, z5⟩ := hmid
        have HZ5 := hide z5
        clear l1 l2 l3 s1 s2 hm hy hlt hS hm1
        go_wp2_with fail
        clear z3 z5
        (try simp only [unhide HZ5])
        (try rw [unhide zw])
        exact ⟨⟨m1, hi, by first | rfl | (rw [unhide HM1]; rfl), rfl, trivial, (unhide HJ).1⟩, by have := (unhide HJ).2; simp [intOf]; omega⟩
      · have HJ : Hid (Lft V x lo m ∧ m - lo < hi - lo) := ⟨lft_hi l3 (unhide hS) hy (by omega) hyx, by omega⟩
        obtain ⟨z3, z5⟩ := hmid
        have HZ5 := hide z5
        clear l1 l2 l3 s1 s2 hm hy hlt hS hm1
        go_wp2_with fail
        clear z3 z5
        (try simp only [unhide HZ5])
        exact ⟨⟨lo, m, rfl, rfl, trivial, (unhide HJ).1⟩, by have := (unhide HJ).2; simp [intOf]; omega⟩
    · obtain rfl : hi = lo := by omega
      have z1 : ¬ (hi : Int) < (hi : Int) := by omega
      have HL := hide (unhide hS)
      by_cases hn : hi < n
      · obtain ⟨y, hy⟩ : ∃ y, V[hi]? = some y := ⟨_, List.getElem?_eq_getElem (by omega)⟩
        obtain ⟨g, hg⟩ := brow_some (unhide HB2).2.1 (by omega)
        subst hg
        have k1 := brow_at (unhide HB2).2.1 hy
        have z2 : (hi : Int) < (n : Int) := by omega
        by_cases hyx : y = x
        · subst hyx
          have HG : Hid (rr = (hi : Int)) := by
            show rr = (hi : Int)
            rw [← unhide HRR]; exact placeOf_some l3 hy
          clear l1 l2 l3 s1 s2 hy hlt hS hn
          go_wp2_with fail
          go_ret
          exact ⟨by rw [unhide HG]; rfl, by rw [unhide HBB]; exact (unhide HB2).1⟩
        · have z3 : (y == x) = false := by simpa using hyx
          have HG : Hid (rr = -1) := by
            show rr = -1
            rw [← unhide HRR]; exact lft_none (unhide hS) (by rw [hy]; exact fun e => hyx (by injection e)) l3
          clear l1 l2 l3 s1 s2 hy hlt hS hn hyx
          go_wp2_with fail
          go_ret
          exact ⟨by rw [unhide HG]; rfl, by rw [unhide HBB]; exact (unhide HB2).1⟩
      · have z2 : ¬ (hi : Int) < (n : Int) := by omega
        have HG : Hid (rr = -1) := by
          show rr = -1
          rw [← unhide HRR]; exact lft_none (unhide hS) (by rw [List.getElem?_eq_none (by omega)]; exact fun e => by cases e) l3
        clear l1 l2 l3 s1 s2 hlt hS hn
        go_wp2_with fail
        go_ret
        exact ⟨by rw [unhide HG]; rfl, by rw [unhide HBB]; exact (unhide HB2).1⟩
end

end Go.Proofs.Ytbmcibofecigeaa

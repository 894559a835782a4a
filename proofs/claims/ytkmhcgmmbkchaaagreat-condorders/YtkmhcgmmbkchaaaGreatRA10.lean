/- The reference's Arcs. -/
import Derived.Test.YtkmhcgmmbkchaaaGreatSmA10
import Derived.Test.YtkmhcgmmbkchaaaGreatAwake10
namespace Go.Proofs.YtkmhcgmmbkchaaaGreat
open Go.RowKit Go.Maps T9
/-- An arc leads from the component at i to that at j. -/
def edBb (css : List (List Int)) (es : List EdV) (i j : Nat) : Bool := decide (i ≠ j) && es.any (fun x => decide (compAt css x.2.1 = (i : Int)) && decide (compAt css x.2.2.1 = (j : Int)))
abbrev edB (css : List (List Int)) (es : List EdV) (i j : Nat) : Prop := edBb css es i j = true
theorem edB_iff {css : List (List Int)} {es : List EdV} {i j : Nat} : edB css es i j ↔ i ≠ j ∧ ∃ x ∈ es, compAt css x.2.1 = (i : Int) ∧ compAt css x.2.2.1 = (j : Int) := by
  unfold edB edBb
  simp
def hd0 (css : List (List Int)) (i : Nat) : Int := (css.getD i []).headD 0
/-- The arcs from the component at i to the first k. -/
def rowA (css : List (List Int)) (es : List EdV) (i : Nat) : Nat → List (Int × Int)
  | 0 => []
  | k + 1 => rowA css es i k ++ if edB css es i k then [(hd0 css i, hd0 css k)] else []
/-- All from the first k. -/
def arcA (css : List (List Int)) (es : List EdV) : Nat → List (Int × Int)
  | 0 => []
  | k + 1 => arcA css es k ++ rowA css es k css.length
theorem rowA_len (css : List (List Int)) (es : List EdV) (i : Nat) : ∀ k, (rowA css es i k).length ≤ k
  | 0 => by simp [rowA]
  | k + 1 => by
    have := rowA_len css es i k
    unfold rowA
    rw [List.length_append]
    split <;> simp <;> omega
theorem arcA_len (css : List (List Int)) (es : List EdV) : ∀ k, (arcA css es k).length ≤ k * css.length
  | 0 => by simp [arcA]
  | k + 1 => by
    have := arcA_len css es k
    have := rowA_len css es k css.length
    unfold arcA
    rw [List.length_append, Nat.succ_mul]
    omega
theorem rowA_mem {css : List (List Int)} {es : List EdV} {i : Nat} {a : Int × Int} : ∀ {k}, a ∈ rowA css es i k ↔ ∃ j, j < k ∧ edB css es i j ∧ a = (hd0 css i, hd0 css j)
  | 0 => by simp [rowA]
  | k + 1 => by
    unfold rowA
    rw [List.mem_append, rowA_mem]
    constructor
    · rintro (⟨j, h1, h2, h3⟩ | h)
      · exact ⟨j, by omega, h2, h3⟩
      · split at h
        · exact ⟨k, by omega, by assumption, List.mem_singleton.1 h⟩
        · cases h
    · rintro ⟨j, h1, h2, h3⟩
      rcases Nat.lt_or_ge j k with q | q
      · exact .inl ⟨j, q, h2, h3⟩
      · obtain rfl : j = k := by omega
        rw [if_pos h2]; exact .inr (List.mem_singleton.2 h3)
theorem arcA_mem {css : List (List Int)} {es : List EdV} {a : Int × Int} : ∀ {k}, a ∈ arcA css es k ↔ ∃ i j, i < k ∧ j < css.length ∧ edB css es i j ∧ a = (hd0 css i, hd0 css j)
  | 0 => by simp [arcA]
  | k + 1 => by
    unfold arcA
    rw [List.mem_append, arcA_mem, rowA_mem]
    constructor
    · rintro (⟨i, j, h1, h2⟩ | ⟨j, h2⟩)
      · exact ⟨i, j, by omega, h2⟩
      · exact ⟨k, j, by omega, h2⟩
    · rintro ⟨i, j, h1, h2⟩
      rcases Nat.lt_or_ge i k with q | q
      · exact .inl ⟨i, j, q, h2⟩
      · obtain rfl : i = k := by omega
        exact .inr ⟨j, h2⟩
theorem rowA_rise {css : List (List Int)} {es : List EdV} (hr : ∀ i j, i < j → j < css.length → hd0 css i < hd0 css j) {i : Nat} : ∀ {k}, k ≤ css.length → (rowA css es i k).Pairwise lexLt
  | 0, _ => List.Pairwise.nil
  | k + 1, hk => by
    unfold rowA
    refine List.pairwise_append.2 ⟨rowA_rise hr (by omega), by split <;> simp, fun a ha b hb => ?_⟩
    obtain ⟨j, h1, -, rfl⟩ := rowA_mem.1 ha
    split at hb
    · rw [List.mem_singleton.1 hb]
      exact .inr ⟨rfl, hr j k h1 (by omega)⟩
    · cases hb
theorem arcA_rise {css : List (List Int)} {es : List EdV} (hr : ∀ i j, i < j → j < css.length → hd0 css i < hd0 css j) : ∀ {k}, k ≤ css.length → (arcA css es k).Pairwise lexLt
  | 0, _ => List.Pairwise.nil
  | k + 1, hk => by
    unfold arcA
    refine List.pairwise_append.2 ⟨arcA_rise hr (by omega), rowA_rise hr (Nat.le_refl _), fun a ha b hb => ?_⟩
    obtain ⟨i, j, h1, h2, -, rfl⟩ := arcA_mem.1 ha
    obtain ⟨j', h3, -, rfl⟩ := rowA_mem.1 hb
    exact .inl (hr i k h1 (by omega))
theorem cell_lt10 {w : World} {b o : Nat} {v : Value} (h : w.cell? ⟨b, o, none⟩ = some v) : b < w.heap.size := by
  rcases Nat.lt_or_ge b w.heap.size with q | q
  · exact q
  · unfold World.cell? at h
    rw [Array.getElem?_eq_none q] at h; cases h
def RfAns (w : World) (css : List (List Int)) (es : List EdV) (e : Ending) (w' : World) : Prop :=
  ∃ a n c, e = .returned (.slice a n c) ∧ ABRow w.heap.size w' (.slice a n c) (arcA css es css.length) ∧ Below w.heap.size w w'
set_option maxHeartbeats 8000000 in
set_option maxRecDepth 100000 in
theorem refArcsS {w : World} {vv ev : Value} {rd wr_ : Int} {V : List Int} {es : List EdV} {h : Nat → Nat} {css : List (List Int)} (hr0 : NRow w vv V) (he : ERow 0 w ev es) (hs : V.Pairwise (· < ·)) (hok : okArcs V (arcsE es)) (hl : V.length ≤ 900) (hl2 : es.length ≤ 900) (hH : Heads (nextOf V (arcsE es)) V.length h) (hcs : css = compsV V h V.length) (hcl : css.length ≤ 900) (hcm : ∀ l ∈ css, 0 < l.length ∧ l.length ≤ 1000) :
    Calls Tryz.prog 31 #[.agg #[vv, ev, .int .i64 rd, .int .i64 wr_]] w fun e w' => Hid (RfAns w css es e w') := by
  have hb := below_new w (oGr vv ev rd wr_)
  have hbx := heap_alloc_new w (oGr vv ev rd wr_)
  have h1 := nrow_below hr0 hb
  have h2 := erow_below he hb
  have CO := hide (ofrS (rd := rd) (wr_ := wr_) h1 h2 hs hok (by omega) (by omega) hH)
  obtain ⟨va, vc, hvv, -⟩ := brow_shape hr0
  obtain ⟨vn, hvn⟩ : ∃ vn, vn = V.length := ⟨_, rfl⟩
  rw [← hvn] at hvv
  clear hvn
  subst hvv
  obtain ⟨ea, ec, hev, -⟩ := erow_shape h2
  obtain ⟨en, hen⟩ : ∃ en, en = es.length := ⟨_, rfl⟩
  rw [← hen] at hev
  subst hev
  have HB : Hid (Below w.heap.size w (w.alloc (oGr (.slice va vn vc) (.slice ea en ec) rd wr_)) ∧ (w.alloc (oGr (.slice va vn vc) (.slice ea en ec) rd wr_)).heap[w.heap.size]? = some (oGr (.slice va vn vc) (.slice ea en ec) rd wr_) ∧ ERow 0 (w.alloc (oGr (.slice va vn vc) (.slice ea en ec) rd wr_)) (.slice ea en ec) es) := ⟨hb, hbx, h2⟩
  have HN : Hid (en = es.length ∧ en ≤ 900 ∧ css.length ≤ 900 ∧ css = compsV V h V.length) := ⟨hen, by omega, hcl, hcs⟩
  have HM := hide hcm
  clear hr0 h1 h2 hb hbx he hl hl2 hen hs hok hH hcl hcm hcs
  go_enter Tryz.func31, Tryz.ntmps31
  go_upto_region 1 with fail
  change Code.wp _ _ _ _ (w.alloc (oGr (.slice va vn vc) (.slice ea en ec) rd wr_))
  generalize w.alloc (oGr (.slice va vn vc) (.slice ea en ec) rd wr_) = wb at *
  obtain ⟨gb, hgb⟩ : ∃ gb, gb = w.heap.size := ⟨_, rfl⟩
  have HGB := hide hgb
  rw [← hgb] at HB ⊢
  clear hgb
  obtain ⟨d0, d1, d2, d3, -⟩ := cellsGr (unhide HB).2.1
  go_wp2_with fail
  refine (unhide CO).mono ?_
  intro r w1 hh
  obtain ⟨x, n, xc, rfl, hLL, hB1⟩ := unhide hh
  rw [← (unhide HN).2.2.2] at hLL
  have hn : n = css.length := by
    obtain ⟨x', c', e, -⟩ := hLL
    injection e
  clear CO hh d0 d1 d2 d3
  have HC : Hid (∀ W, Below w1.heap.size w1 W → W.cell? ⟨gb, 1, none⟩ = some (.slice ea en ec) ∧ ERow 0 W (.slice ea en ec) es ∧ LLr W (.slice x n xc) css) := fun W hW => by
    have hW2 := hB1.trans (hW.mono hB1.size)
    have q := (hW2.block gb (heap_lt (unhide HB).2.1)).trans (unhide HB).2.1
    exact ⟨(cellsGr q).2.1, erow_below (unhide HB).2.2 hW2, llr_below hLL hW⟩
  have HB1 : Hid (Below w.heap.size w w1) := by
    have hb := (unhide HB).1
    rw [unhide HGB] at hb
    exact hb.trans (hB1.mono hb.size)
  have HNC := hide hn
  clear hLL hB1 HB HGB hn
  go_upto_region 4 with fail
  go_loopw [5, 4] (fun s5 s4 W => ∃ (i : Nat) (y : Option Addr) (yn yc : Nat), s5 = .int .i64 (i : Nat) ∧ s4 = .slice y yn yc ∧ i ≤ n ∧ Hid (CPic w1 (.slice y yn yc) (arcA css es i) W)) (fun s5 _ _ => n - (intOf s5).toNat)
  case atStart => exact ⟨0, none, 0, 0, rfl, rfl, Nat.zero_le _, ⟨Below.refl _ _, ⟨rfl, .inl ⟨rfl, rfl⟩⟩⟩⟩
  case round =>
    obtain ⟨i, y, yn, yc, rfl, rfl, hi, hS⟩ := hrel
    by_cases hlt : i < n
    · have z1 : (i : Int) < (n : Int) := by omega
      obtain ⟨i1, hi1⟩ : ∃ i1, i1 = i + 1 := ⟨_, rfl⟩
      have zi : Hid (wrap64 ((i : Int) + 1) = (i1 : Int)) := by
        have := unhide HNC
        have := (unhide HN).2.2.1
        show wrap64 ((i : Int) + 1) = (i1 : Int); unfold wrap64; omega
      have HI : Hid (i1 = i + 1 ∧ i < n ∧ i1 ≤ n ∧ n - i1 < n - i) := ⟨hi1, hlt, by omega, by omega⟩
      have HS0 : Hid (CPic w1 (.slice y yn yc) (arcA css es i ++ rowA css es i 0) wr) := by
        have := unhide hS
        show CPic w1 (.slice y yn yc) (arcA css es i ++ []) wr
        rw [List.append_nil]; exact this
      clear hS hi hlt hi1
      go_upto_region 7 with fail
      clear z1
      go_loopw [6, 4] (fun s6 s4 W => ∃ (j : Nat) (y : Option Addr) (yn yc : Nat), s6 = .int .i64 (j : Nat) ∧ s4 = .slice y yn yc ∧ j ≤ n ∧ Hid (CPic w1 (.slice y yn yc) (arcA css es i ++ rowA css es i j) W)) (fun s6 _ _ => n - (intOf s6).toNat)
      case atStart => exact ⟨0, _, _, _, rfl, rfl, Nat.zero_le _, HS0⟩
      case round =>
        obtain ⟨j, y2, yn2, yc2, rfl, rfl, hj, hS⟩ := hrel
        clear HS0
        by_cases hlj : j < n
        · have z1 : (j : Int) < (n : Int) := by omega
          obtain ⟨j1, hj1⟩ : ∃ j1, j1 = j + 1 := ⟨_, rfl⟩
          have zj : Hid (wrap64 ((j : Int) + 1) = (j1 : Int)) := by
            have := unhide HNC
            have := (unhide HN).2.2.1
            show wrap64 ((j : Int) + 1) = (j1 : Int); unfold wrap64; omega
          have HJ : Hid (j1 = j + 1 ∧ j < n ∧ j1 ≤ n ∧ n - j1 < n - j) := ⟨hj1, hlj, by omega, by omega⟩
          have HS := hide (unhide hS)
          clear hS hj hlj hj1
          go_upto_region 11 with fail
          clear z1
          obtain ⟨W2, hW2⟩ : ∃ W2, W2 = wr := ⟨_, rfl⟩
          rw [← hW2] at HS ⊢
          clear hW2 wr
          have HNO : Hid (¬ edB css es i j → CPic w1 (.slice y2 yn2 yc2) (arcA css es i ++ rowA css es i j1) W2) := fun q => by
            have := unhide HS
            rw [(unhide HJ).1]
            unfold rowA
            rw [if_neg q, List.append_nil]; exact this
          go_loopw [8, 7] (fun s8 s7 W => ∃ (k : Nat) (t : Bool), s8 = .int .i64 (k : Nat) ∧ s7 = .bool t ∧ W = W2 ∧ k ≤ en ∧ Hid (t = true ↔ i ≠ j ∧ ∃ x ∈ es.take k, compAt css x.2.1 = (i : Int) ∧ compAt css x.2.2.1 = (j : Int))) (fun s8 _ _ => en - (intOf s8).toNat)
          case atStart => exact ⟨0, false, rfl, rfl, rfl, Nat.zero_le _, ⟨fun q => (by cases q), fun ⟨_, x, q, _⟩ => (by simp at q)⟩⟩
          case round =>
            obtain ⟨k, t, rfl, rfl, hw, hk, hT⟩ := hrel
            subst hw
            obtain ⟨c1, cE, cL⟩ := unhide HC _ (unhide HS).bel
            by_cases hke : k < en
            · by_cases hij : i = j
              · subst hij
                have HD := hide (unhide HNO (fun q => (edB_iff.1 q).1 rfl))
                have hf : t = false := by
                  cases t with
                  | false => rfl
                  | true => exact absurd rfl ((unhide hT).1 rfl).1
                subst hf
                have z1 : (k : Int) < (en : Int) := by omega
                clear hT hk hke cE cL HNO HS
                go_wp2_with fail
                (try rw [unhide zj])
                exact ⟨⟨j1, _, _, _, rfl, rfl, (unhide HJ).2.2.1, HD⟩, by have := (unhide HJ).2.2.2; simp [intOf]; omega⟩
              · have z1 : (k : Int) < (en : Int) := by omega
                have z2 : ((i : Int) == (j : Int)) = false := by simp; omega
                obtain ⟨k1, hk1⟩ : ∃ k1, k1 = k + 1 := ⟨_, rfl⟩
                have zk : Hid (wrap64 ((k : Int) + 1) = (k1 : Int)) := by
                  have := (unhide HN).2.1
                  show wrap64 ((k : Int) + 1) = (k1 : Int); unfold wrap64; omega
                have HK : Hid (k1 ≤ en ∧ en - k1 < en - k) := ⟨by omega, by omega⟩
                obtain ⟨ed, hed⟩ : ∃ ed, es[k]? = some ed := ⟨_, List.getElem?_eq_getElem (by have := (unhide HN).1; omega)⟩
                have htk : es.take k1 = es.take k ++ [ed] := by rw [hk1, List.take_add_one, hed]; rfl
                have HT1 : Hid (∀ b : Bool, (b = true ↔ t = true ∨ (compAt css ed.2.1 = (i : Int) ∧ compAt css ed.2.2.1 = (j : Int))) → (b = true ↔ i ≠ j ∧ ∃ x ∈ es.take k1, compAt css x.2.1 = (i : Int) ∧ compAt css x.2.2.1 = (j : Int))) := fun b hb => by
                  rw [hb, unhide hT, htk]
                  constructor
                  · rintro (⟨q1, x, q2, q3⟩ | q)
                    · exact ⟨q1, x, List.mem_append.2 (.inl q2), q3⟩
                    · exact ⟨hij, ed, List.mem_append.2 (.inr (List.mem_singleton.2 rfl)), q⟩
                  · rintro ⟨q1, x, q2, q3⟩
                    rcases List.mem_append.1 q2 with q2 | q2
                    · exact .inl ⟨q1, x, q2, q3⟩
                    · rw [List.mem_singleton.1 q2] at q3
                      exact .inr q3
                cases t with
                | true =>
                  have HE := hide (unhide HT1 true (by simp))
                  clear hT hk hke cE cL HNO hed htk HT1 hk1 hij
                  go_wp2_with fail
                  (try rw [unhide zk])
                  exact ⟨⟨k1, true, rfl, rfl, by trivial, (unhide HK).1, by have q := unhide HE; first | exact q | exact ⟨fun _ => q.1 trivial, fun _ => rfl⟩⟩, by have := (unhide HK).2; simp [intOf]; omega⟩
                | false =>
                  obtain ⟨ge, hge⟩ := erow_some cE (by have := (unhide HN).1; omega)
                  subst hge
                  obtain ⟨-, e1, e2, -⟩ := erow_at cE hed
                  have CU := hide (compS (x := ed.2.1) cL (by have := (unhide HN).2.2.1; omega) (fun l hl => by have := (unhide HM l hl).2; omega))
                  have CV := hide (compS (x := ed.2.2.1) cL (by have := (unhide HN).2.2.1; omega) (fun l hl => by have := (unhide HM l hl).2; omega))
                  obtain ⟨cu, hcu⟩ : ∃ cu, cu = compAt css ed.2.1 := ⟨_, rfl⟩
                  obtain ⟨cv, hcv⟩ : ∃ cv, cv = compAt css ed.2.2.1 := ⟨_, rfl⟩
                  rw [← hcu, ← hcv] at HT1
                  rw [← hcu] at CU
                  rw [← hcv] at CV
                  clear hT hk hke cE cL HNO hed htk hk1 hij hcu hcv
                  by_cases hu : cu = (i : Int)
                  · subst hu
                    by_cases hv : cv = (j : Int)
                    · subst hv
                      have HE := hide (unhide HT1 true (by simp))
                      clear HT1
                      go_wp2_with fail
                      refine (unhide CU).mono ?_
                      rintro e w10 ⟨rfl, hw10⟩
                      subst hw10
                      clear CU
                      go_wp2_with fail
                      refine (unhide CV).mono ?_
                      rintro e w11 ⟨rfl, hw11⟩
                      subst hw11
                      clear CV
                      go_wp2_with fail
                      (try rw [unhide zk])
                      exact ⟨⟨k1, true, rfl, rfl, by trivial, (unhide HK).1, by have q := unhide HE; first | exact q | exact ⟨fun _ => q.1 trivial, fun _ => rfl⟩⟩, by have := (unhide HK).2; simp [intOf]; omega⟩
                    · have z3 : (cv == (j : Int)) = false := by simpa using hv
                      have HE := hide (unhide HT1 false (by simp [hv]))
                      clear HT1 hv
                      go_wp2_with fail
                      refine (unhide CU).mono ?_
                      rintro e w10 ⟨rfl, hw10⟩
                      subst hw10
                      clear CU
                      go_wp2_with fail
                      refine (unhide CV).mono ?_
                      rintro e w11 ⟨rfl, hw11⟩
                      subst hw11
                      clear CV
                      go_wp2_with fail
                      (try rw [unhide zk])
                      exact ⟨⟨k1, false, rfl, rfl, by trivial, (unhide HK).1, by have q := unhide HE; first | exact q | exact ⟨fun _ => q.1 trivial, fun _ => rfl⟩⟩, by have := (unhide HK).2; simp [intOf]; omega⟩
                  · have z3 : (cu == (i : Int)) = false := by simpa using hu
                    have HE := hide (unhide HT1 false (by simp [hu]))
                    clear HT1 hu CV
                    go_wp2_with fail
                    refine (unhide CU).mono ?_
                    rintro e w10 ⟨rfl, hw10⟩
                    subst hw10
                    clear CU
                    go_wp2_with fail
                    (try rw [unhide zk])
                    exact ⟨⟨k1, false, rfl, rfl, by trivial, (unhide HK).1, by have q := unhide HE; first | exact q | exact ⟨fun _ => q.1 trivial, fun _ => rfl⟩⟩, by have := (unhide HK).2; simp [intOf]; omega⟩
            · have z1 : ¬ (k : Int) < (en : Int) := by omega
              have hed : t = true ↔ edB css es i j := by
                rw [unhide hT, List.take_of_length_le (by have := (unhide HN).1; omega)]; exact edB_iff.symm
              clear hT cE hk hke
              cases t with
              | false =>
                have HD := hide (unhide HNO (fun q => by cases hed.2 q))
                clear hed HNO HS cL
                go_wp2_with fail
                (try rw [unhide zj])
                exact ⟨⟨j1, _, _, _, rfl, rfl, (unhide HJ).2.2.1, HD⟩, by have := (unhide HJ).2.2.2; simp [intOf]; omega⟩
              | true =>
                have HED := hide (hed.1 rfl)
                clear hed HNO
                have hP0 := (unhide HS).below (below_drewN (Below.refl _ wr) 1)
                have hll : (arcA css es i ++ rowA css es i j).length ≤ 900000 := by
                  have q1 := arcA_len css es i
                  have q2 := rowA_len css es i j
                  have q3 := unhide HNC
                  have q4 := (unhide HN).2.2.1
                  have q5 := (unhide HI).2.1
                  have q6 := (unhide HJ).2.1
                  have q7 : i * css.length ≤ 900 * 900 := Nat.mul_le_mul (by omega) q4
                  rw [List.length_append]; omega
                obtain ⟨a', n', c', w5, r5, hP5, -⟩ := hP0.app (hd0 css i) (hd0 css j) hll
                have hPa := hP0.below (below_new (wr.drewN 1) (oArc (hd0 css i) (hd0 css j)))
                obtain ⟨X, hX⟩ : ∃ X, css[i]? = some X := ⟨_, List.getElem?_eq_getElem (by have := unhide HNC; have := (unhide HI).2.1; omega)⟩
                obtain ⟨Y, hY⟩ : ∃ Y, css[j]? = some Y := ⟨_, List.getElem?_eq_getElem (by have := unhide HNC; have := (unhide HJ).2.1; omega)⟩
                have hXl := unhide HM X (List.mem_of_getElem? hX)
                have hYl := unhide HM Y (List.mem_of_getElem? hY)
                obtain ⟨x', cc', ex, hcell⟩ := (unhide HC w1 (Below.refl _ _)).2.2
                injection ex with ex1 ex2 ex3
                subst ex1 ex3
                clear ex2
                obtain ⟨gc, vX, hgc, cX, rX⟩ := hcell i X hX
                subst hgc
                obtain ⟨gc', vY, hgc', cY, rY⟩ := hcell j Y hY
                have hgg : gc = gc' := by injection hgc' with q; injection q
                clear hgc'
                subst hgg
                obtain ⟨xa, xcc, hxv, -⟩ := brow_shape rX
                obtain ⟨ya, ycc, hyv, -⟩ := brow_shape rY
                obtain ⟨nX, hnX⟩ : ∃ nX, nX = X.length := ⟨_, rfl⟩
                obtain ⟨nY, hnY⟩ : ∃ nY, nY = Y.length := ⟨_, rfl⟩
                rw [← hnX] at hxv
                rw [← hnY] at hyv
                subst hxv hyv
                obtain ⟨gX, hgX⟩ := brow_some rX (by omega)
                subst hgX
                obtain ⟨gY, hgY⟩ := brow_some rY (by omega)
                subst hgY
                have hX0 : X[0]? = some (hd0 css i) := by
                  unfold hd0
                  rw [List.getD_eq_getElem?_getD, hX]
                  cases X with
                  | nil => simp at hXl
                  | cons a l => rfl
                have hY0 : Y[0]? = some (hd0 css j) := by
                  unfold hd0
                  rw [List.getD_eq_getElem?_getD, hY]
                  cases Y with
                  | nil => simp at hYl
                  | cons a l => rfl
                have hK : ∀ W, Below w1.heap.size w1 W → W.cell? ⟨gc, i, none⟩ = some (.slice (some ⟨gX, 0, none⟩) nX xcc) ∧ W.cell? ⟨gX, 0, none⟩ = some (.int .i64 (hd0 css i)) ∧ W.cell? ⟨gc, j, none⟩ = some (.slice (some ⟨gY, 0, none⟩) nY ycc) ∧ W.cell? ⟨gY, 0, none⟩ = some (.int .i64 (hd0 css j)) := fun W hW => by
                  have f1 := brow_at (nrow_below rX hW) hX0
                  have f2 := brow_at (nrow_below rY hW) hY0
                  exact ⟨(hW.cell (p := ⟨gc, i, none⟩) (cell_lt10 cX)).trans cX, f1, (hW.cell (p := ⟨gc, j, none⟩) (cell_lt10 cX)).trans cY, f2⟩
                have k0 := hK wr (unhide HS).bel
                have k1 := hK _ hPa.bel
                have k2 := hK _ hP5.bel
                have z2 : (i : Int) < (n : Int) := by have := (unhide HI).2.1; omega
                have z3 : (j : Int) < (n : Int) := by have := (unhide HJ).2.1; omega
                have z4 : (0 : Int) < (nX : Int) := by omega
                have z5 : (0 : Int) < (nY : Int) := by omega
                have z6 : 0 < nX := by omega
                have z7 : 0 < nY := by omega
                have HD : Hid (CPic w1 (.slice a' n' c') (arcA css es i ++ rowA css es i j1) w5) := by
                  rw [(unhide HJ).1]
                  unfold rowA
                  rw [if_pos (unhide HED), ← List.append_assoc]; exact hP5
                generalize hd0 css i = hi0 at *
                generalize hd0 css j = hj0 at *
                have HR5 : Hid (∀ ty, (Builtin.append_ #[50, 50] ty #[.slice y2 yn2 yc2, .slice (some ⟨wr.drew.heap.size, 0, none⟩) 1 1]).run Tryz.prog (wr.drew.alloc (oArc hi0 hj0)) = .ok (.slice a' n' c') w5) := r5
                replace k1 : (wr.drew.alloc (oArc hi0 hj0)).cell? ⟨gc, i, none⟩ = some (.slice (some ⟨gX, 0, none⟩) nX xcc) ∧ (wr.drew.alloc (oArc hi0 hj0)).cell? ⟨gX, 0, none⟩ = some (.int .i64 hi0) ∧ (wr.drew.alloc (oArc hi0 hj0)).cell? ⟨gc, j, none⟩ = some (.slice (some ⟨gY, 0, none⟩) nY ycc) ∧ (wr.drew.alloc (oArc hi0 hj0)).cell? ⟨gY, 0, none⟩ = some (.int .i64 hj0) := k1
                clear hP0 hPa hP5 hll r5 hX hY hXl hYl hcell cX rX cY rY hnX hnY hX0 hY0 hK HED HS
                go_upto_region 15 with fail
                refine wp_region_noPanic ?_
                refine regionL [] (fun y => y.cell? ⟨gc, i, none⟩ = some (.slice (some ⟨gX, 0, none⟩) nX xcc) ∧ y.cell? ⟨gX, 0, none⟩ = some (.int .i64 hi0) ∧ y.cell? ⟨gc, j, none⟩ = some (.slice (some ⟨gY, 0, none⟩) nY ycc) ∧ y.cell? ⟨gY, 0, none⟩ = some (.int .i64 hj0)) (by kernel_rfl) k0 (fun hHeld => ?_)
                refine takeL (i := 0) (v := ?t2v0) (some 61) rfl rfl (by kernel_rfl) (by kernel_rfl) (by kernel_rfl) (by kernel_rfl) (by kernel_rfl) (fun _ _ _ h => h) (Or.inl ⟨by rfl, ?t2h0⟩) (by assumption) ?t2r0
                case t2h0 => (intro y hSu; (try dsimp only at hSu); go_simp; first | done | with_reducible rfl)
                (try simp only [Act.put, List.setIfInBounds_toArray, List.set_cons_zero, List.set_cons_succ])
                refine takeL (i := 1) (v := ?t2v1) (some 62) rfl rfl (by kernel_rfl) (by kernel_rfl) (by kernel_rfl) (by kernel_rfl) (by kernel_rfl) (fun _ _ _ h => h) (Or.inl ⟨by rfl, ?t2h1⟩) (by assumption) ?t2r1
                case t2h1 => (intro y hSu; (try dsimp only at hSu); go_simp; first | done | with_reducible rfl)
                (try simp only [Act.put, List.setIfInBounds_toArray, List.set_cons_zero, List.set_cons_succ])
                refine takeL (i := 2) (v := ?t2v2) (some 63) rfl rfl (by kernel_rfl) (by kernel_rfl) (by kernel_rfl) (by kernel_rfl) (by kernel_rfl) (fun _ _ _ h => h) (Or.inl ⟨by rfl, ?t2h2⟩) (by assumption) ?t2r2
                case t2h2 => (intro y hSu; (try dsimp only at hSu); go_simp; first | done | with_reducible rfl)
                (try simp only [Act.put, List.setIfInBounds_toArray, List.set_cons_zero, List.set_cons_succ])
                refine takeL (i := 3) (v := ?t2v3) (some 64) rfl rfl (by kernel_rfl) (by kernel_rfl) (by kernel_rfl) (by kernel_rfl) (by kernel_rfl) (fun _ _ _ h => h) (Or.inl ⟨by rfl, ?t2h3⟩) (by assumption) ?t2r3
                case t2h3 => (intro y hSu; (try dsimp only at hSu); go_simp; first | done | with_reducible rfl)
                (try simp only [Act.put, List.setIfInBounds_toArray, List.set_cons_zero, List.set_cons_succ])
                refine takeL (i := 4) (v := ?t2v4) (some 65) rfl rfl (by kernel_rfl) (by kernel_rfl) (by kernel_rfl) (by kernel_rfl) (by kernel_rfl) (fun _ _ _ h => h) (Or.inl ⟨by rfl, ?t2h4⟩) (by assumption) ?t2r4
                case t2h4 => (intro y hSu; (try dsimp only at hSu); go_simp; first | done | with_reducible rfl)
                (try simp only [Act.put, List.setIfInBounds_toArray, List.set_cons_zero, List.set_cons_succ])
                refine takeL (i := 5) (v := ?t2v5) (some 66) rfl rfl (by kernel_rfl) (by kernel_rfl) (by kernel_rfl) (by kernel_rfl) (by kernel_rfl) (fun _ _ _ h => h) (Or.inl ⟨by rfl, ?t2h5⟩) (by assumption) ?t2r5
                case t2h5 => (intro y hSu; (try dsimp only at hSu); go_simp; first | done | with_reducible rfl)
                (try simp only [Act.put, List.setIfInBounds_toArray, List.set_cons_zero, List.set_cons_succ])
                refine takeL (i := 6) (v := ?t2v6) (some 67) rfl rfl (by kernel_rfl) (by kernel_rfl) (by kernel_rfl) (by kernel_rfl) (by kernel_rfl) (fun _ _ _ h => h) (Or.inl ⟨by rfl, ?t2h6⟩) (by assumption) ?t2r6
                case t2h6 => (intro y hSu; (try dsimp only at hSu); go_simp; first | done | with_reducible rfl)
                (try simp only [Act.put, List.setIfInBounds_toArray, List.set_cons_zero, List.set_cons_succ])
                refine takeL (i := 7) (v := ?t2v7) (some 68) rfl rfl (by kernel_rfl) (by kernel_rfl) (by kernel_rfl) (by kernel_rfl) (by kernel_rfl) (fun _ _ _ h => h) (Or.inl ⟨by rfl, ?t2h7⟩) (by assumption) ?t2r7
                case t2h7 => (intro y hSu; (try dsimp only at hSu); go_simp; first | done | with_reducible rfl)
                (try simp only [Act.put, List.setIfInBounds_toArray, List.set_cons_zero, List.set_cons_succ])
                refine takeL (i := 8) (v := ?t2v8) (some 69) rfl rfl (by kernel_rfl) (by kernel_rfl) (by kernel_rfl) (by kernel_rfl) (by kernel_rfl) (fun _ _ _ h => h) (Or.inl ⟨by rfl, ?t2h8⟩) (by assumption) ?t2r8
                case t2h8 => (intro y hSu; (try dsimp only at hSu); go_simp; first | done | with_reducible rfl)
                (try simp only [Act.put, List.setIfInBounds_toArray, List.set_cons_zero, List.set_cons_succ])
                refine takeL (i := 9) (v := ?t2v9) (some 70) rfl rfl (by kernel_rfl) (by kernel_rfl) (by kernel_rfl) (by kernel_rfl) (by kernel_rfl) (fun _ _ _ h => h) (Or.inl ⟨by rfl, ?t2h9⟩) (by assumption) ?t2r9
                case t2h9 => (intro y hSu; (try dsimp only at hSu); go_simp; first | done | with_reducible rfl)
                (try simp only [Act.put, List.setIfInBounds_toArray, List.set_cons_zero, List.set_cons_succ])
                refine takeL (i := 10) (v := ?t2v10) (some 71) rfl rfl (by kernel_rfl) (by kernel_rfl) (by kernel_rfl) (by kernel_rfl) (by kernel_rfl) (fun _ _ _ h => h) (Or.inl ⟨by rfl, ?t2h10⟩) (by assumption) ?t2r10
                case t2h10 => (intro y hSu; (try dsimp only at hSu); go_simp; first | done | with_reducible rfl)
                (try simp only [Act.put, List.setIfInBounds_toArray, List.set_cons_zero, List.set_cons_succ])
                refine takeL (i := 11) (v := ?t2v11) (some 72) rfl rfl (by kernel_rfl) (by kernel_rfl) (by kernel_rfl) (by kernel_rfl) (by kernel_rfl) (fun _ _ _ h => h) (Or.inl ⟨by rfl, ?t2h11⟩) (by assumption) ?t2r11
                case t2h11 => (intro y hSu; (try dsimp only at hSu); go_simp; first | done | with_reducible rfl)
                (try simp only [Act.put, List.setIfInBounds_toArray, List.set_cons_zero, List.set_cons_succ])
                refine takeL (i := 12) (v := ?t2v12) (some 73) rfl rfl (by kernel_rfl) (by kernel_rfl) (by kernel_rfl) (by kernel_rfl) (by kernel_rfl) (fun _ _ _ h => h) (Or.inl ⟨by rfl, ?t2h12⟩) (by assumption) ?t2r12
                case t2h12 => (intro y hSu; (try dsimp only at hSu); go_simp; first | done | with_reducible rfl)
                (try simp only [Act.put, List.setIfInBounds_toArray, List.set_cons_zero, List.set_cons_succ])
                refine takeL (i := 13) (v := ?t2v13) (some 74) rfl rfl (by kernel_rfl) (by kernel_rfl) (by kernel_rfl) (by kernel_rfl) (by kernel_rfl) (fun _ _ _ h => h) (Or.inl ⟨by rfl, ?t2h13⟩) (by assumption) ?t2r13
                case t2h13 => (intro y hSu; (try dsimp only at hSu); go_simp; first | done | with_reducible rfl)
                (try simp only [Act.put, List.setIfInBounds_toArray, List.set_cons_zero, List.set_cons_succ])
                refine readyL (i := 14) (by kernel_rfl) rfl (fun K hK => ?_)
                go_simp
                refine hK.out _ _ (fun _ => k1) ?_
                clear hK K
                (try simp only [Act.put, List.setIfInBounds_toArray, List.set_cons_zero, List.set_cons_succ])
                have hH4 := k1
                refine readyL (i := 15) (by kernel_rfl) rfl (fun K hK => ?_)
                refine step_append_run rfl (.tmp 61) (.tmp 75) 50 rfl _ _ (by simp [Act.eval]; first | rfl | done) (by simp [Act.eval]; first | rfl | done) _ _ (unhide HR5 _) ?_
                refine hK.out _ _ (fun _ => k2) ?_
                clear hK K
                (try simp only [Act.put, List.setIfInBounds_toArray])
                have hH5 := k2
                refine readyL (i := 16) (by kernel_rfl) rfl (fun K hK => ?_)
                go_simp
                refine hK.out _ _ (fun _ => k2) ?_
                clear hK K
                (try simp only [Act.put, List.setIfInBounds_toArray, List.set_cons_zero, List.set_cons_succ])
                have hH7 := k2
                refine doneL (by kernel_rfl) ?_ _
                refine NoPanic.normal ?_
                go_wp2_with fail
                (try rw [unhide zj])
                exact ⟨⟨j1, _, _, _, rfl, rfl, (unhide HJ).2.2.1, HD⟩, by have := (unhide HJ).2.2.2; simp [intOf]; omega⟩
        · have z1 : ¬ (j : Int) < (n : Int) := by omega
          have HD : Hid (CPic w1 (.slice y2 yn2 yc2) (arcA css es i1) wr) := by
            rw [(unhide HI).1]
            unfold arcA
            rw [← unhide HNC, show n = j by omega]
            exact unhide hS
          clear hS hj hlj
          go_wp2_with fail
          (try rw [unhide zi])
          exact ⟨⟨i1, _, _, _, rfl, rfl, (unhide HI).2.2.1, HD⟩, by have := (unhide HI).2.2.2; simp [intOf]; omega⟩
    · have z1 : ¬ (i : Int) < (n : Int) := by omega
      have HE : Hid (RfAns w css es (.returned (.slice y yn yc)) wr) := by
        have q1 := unhide HB1
        have q2 := unhide hS
        rw [show i = css.length by have := unhide HNC; omega] at q2
        exact ⟨_, _, _, rfl, abrow_low q2.row q1.size, q1.trans (q2.bel.mono q1.size)⟩
      clear hS hi hlt
      go_wp2_with fail
      go_ret
      exact unhide HE
end Go.Proofs.YtkmhcgmmbkchaaaGreat

/- fault, whole. -/
import Derived.Test.YtijgeoegeeejcaaFlt13
import Derived.Laws.EntriesVeiled
namespace Go.Proofs.Ytijgeoegeeejcaa
open Go.RowKit Go.Maps
def oV (v : Value) : Obj := .cells #[v] 22
def oFn (vb : Nat) : Obj := .cells #[.func (.func 42) #[] #[.pointer (some ⟨vb, 0, none⟩)]] 82
set_option maxHeartbeats 2000000 in
set_option maxRecDepth 100000 in
theorem faultS {w : World} {vv ev : Value} {ys : List Int} {es : List EdV} {s : Int} (hv : NRow w vv ys) (hs : ys.Pairwise (· ≤ ·)) (he : ERow 0 w ev es) (hl1 : ys.length ≤ 1000) (hl2 : es.length ≤ 1000) :
    Calls Try.prog 24 #[vv, ev, .int .i64 s] w fun e w' => e = .returned (.int .i64 (faultC ys es s)) ∧ Hid (Below w.heap.size w w') := by
  obtain ⟨a1, c1, e1, -⟩ := brow_shape hv
  obtain ⟨n1, hn1⟩ : ∃ n1, vv = .slice a1 n1 c1 := ⟨_, e1⟩
  clear e1
  subst hn1
  obtain ⟨a2, c2, e2⟩ := rrow_shape he
  obtain ⟨n2, hn2⟩ : ∃ n2, ev = .slice a2 n2 c2 := ⟨_, e2⟩
  clear e2
  subst hn2
  obtain ⟨r, hr⟩ : ∃ r, r = faultC ys es s := ⟨_, rfl⟩
  rw [← hr]
  unfold faultC at hr
  have HR := hide hr
  have HH : Hid (NRow w (.slice a1 n1 c1) ys ∧ ys.Pairwise (· ≤ ·) ∧ ERow 0 w (.slice a2 n2 c2) es ∧ ys.length ≤ 1000 ∧ es.length ≤ 1000) := ⟨hv, hs, he, hl1, hl2⟩
  clear hv hs he hl1 hl2 hr
  go_enter Try.func24, Try.ntmps24
  go_upto_region 2 with fail
  have hb1 := below_new w (oV (.slice a1 n1 c1))
  have hb2 := below_new (w.alloc (oV (.slice a1 n1 c1))) (oFn w.heap.size)
  have hsz : (w.alloc (oV (.slice a1 n1 c1))).heap.size = w.heap.size + 1 := by simp
  have hB : Below w.heap.size w ((w.alloc (oV (.slice a1 n1 c1))).alloc (oFn w.heap.size)) := hb1.trans (hb2.mono hb1.size)
  have cV : ((w.alloc (oV (.slice a1 n1 c1))).alloc (oFn w.heap.size)).cell? ⟨w.heap.size, 0, none⟩ = some (.slice a1 n1 c1) := (cell_of_row _ _ 0 _ _ (0, 0) ((hb2.block _ (by omega)).trans (heap_alloc_new w (oV (.slice a1 n1 c1))))).trans rfl
  have cF : ((w.alloc (oV (.slice a1 n1 c1))).alloc (oFn w.heap.size)).cell? ⟨w.heap.size + 1, 0, none⟩ = some (.func (.func 42) #[] #[.pointer (some ⟨w.heap.size, 0, none⟩)]) := by
    have := (cell_of_row _ _ 0 _ _ (0, 0) (heap_alloc_new (w.alloc (oV (.slice a1 n1 c1))) (oFn w.heap.size))).trans rfl
    rwa [hsz] at this
  change Code.wp _ _ _ _ ((w.alloc (oV (.slice a1 n1 c1))).alloc (oFn w.heap.size))
  generalize (w.alloc (oV (.slice a1 n1 c1))).alloc (oFn w.heap.size) = W at *
  obtain ⟨vb, hvb⟩ : ∃ vb, vb = w.heap.size := ⟨_, rfl⟩
  obtain ⟨fb, hfb⟩ : ∃ fb, fb = w.heap.size + 1 := ⟨_, rfl⟩
  rw [← hfb, ← hvb] at cF
  rw [← hvb] at cV
  rw [← hfb, ← hvb]
  have HB := hide hB
  have HV := hide cV
  have HF := hide cF
  clear hb1 hb2 hsz hB hvb hfb
  have hW : Hid (∀ W', Below W.heap.size W W' → NRow W' (.slice a1 n1 c1) ys ∧ ERow 0 W' (.slice a2 n2 c2) es ∧ W'.cell? ⟨vb, 0, none⟩ = some (.slice a1 n1 c1) ∧ W'.cell? ⟨fb, 0, none⟩ = some (.func (.func 42) #[] #[.pointer (some ⟨vb, 0, none⟩)]) ∧ Below w.heap.size w W') := fun W' hb => by
    have hx := (unhide HB).trans (hb.mono (unhide HB).size)
    exact ⟨nrow_below (unhide HH).1 hx, rrow_below (unhide HH).2.2.1 hx, (hb.cell (p := ⟨vb, 0, none⟩) (cell_lt13 (unhide HV))).trans (unhide HV), (hb.cell (p := ⟨fb, 0, none⟩) (cell_lt13 (unhide HF))).trans (unhide HF), hx⟩
  have C1 := hide (repeatsS (unhide hW W (Below.refl _ _)).1 (by have := (unhide HH).2.2.2.1; omega) (unhide HH).2.1)
  obtain ⟨r1, hr1⟩ : ∃ r1, r1 = !decide ys.Nodup := ⟨_, rfl⟩
  have HR1 := hide hr1
  rw [← hr1] at C1
  clear hr1 HV HF
  cases r1 with
  | true =>
    go_wp2_with fail
    refine (unhide C1).mono ?_
    rintro e w1 ⟨rfl, q, hw1⟩
    have HE : Hid (r = 2 ∧ Below w.heap.size w w1) := ⟨by rw [unhide HR, if_pos (by rw [← unhide HR1]; rfl)], by rw [hw1]; exact below_drewN (unhide HB) q⟩
    clear C1 hw1 HB HR HR1 HH hW cV cF
    go_wp2_with fail
    go_ret
    exact ⟨by rw [(unhide HE).1]; rfl, (unhide HE).2⟩
  | false =>
    go_wp2_with fail
    refine (unhide C1).mono ?_
    rintro e w1 ⟨rfl, q1, hw1⟩
    have B1 : Hid (Below W.heap.size W w1) := by rw [hw1]; exact below_drewN (Below.refl _ _) q1
    have C2 := hide (numbersS (unhide hW w1 (unhide B1)).2.1 (unhide HH).2.2.2.2)
    clear C1 hw1
    go_wp2_with fail
    refine (unhide C2).mono ?_
    rintro e w2 ⟨a3, n3, c3, rfl, H2⟩
    obtain ⟨zs, z1, z2, z3, z4⟩ := unhide H2
    have B2 : Hid (Below W.heap.size W w2) := (unhide B1).trans (z4.mono (unhide B1).size)
    have C3 := hide (repeatsS (brow_low z3 (Nat.zero_le _)) (by rw [z1.length_eq, List.length_map]; have := (unhide HH).2.2.2.2; omega) z2)
    obtain ⟨r2, hr2⟩ : ∃ r2, r2 = !decide (es.map (·.1)).Nodup := ⟨_, rfl⟩
    have e2 : (!decide zs.Nodup) = r2 := by rw [hr2, decide_eq_decide.2 z1.nodup_iff]
    rw [e2] at C3
    have HR2 := hide hr2
    clear C2 H2 z1 z2 z3 z4 e2 hr2 B1
    go_wp2_with fail
    refine (unhide C3).mono ?_
    rintro e w3 ⟨rfl, q3, hw3⟩
    have B3 : Hid (Below W.heap.size W w3) := by rw [hw3]; exact below_drewN (unhide B2) q3
    clear C3 hw3 B2
    cases r2 with
    | true =>
      have HE : Hid (r = 2 ∧ Below w.heap.size w w3) := ⟨by rw [unhide HR, if_pos (by rw [← unhide HR1, ← unhide HR2]; rfl)], (unhide hW w3 (unhide B3)).2.2.2.2⟩
      clear HB HR HR1 HR2 HH hW B3 cV cF
      go_wp2_with fail
      go_ret
      exact ⟨by rw [(unhide HE).1]; rfl, (unhide HE).2⟩
    | false =>
      have C4 := hide (contFS (unhide hW w3 (unhide B3)).2.1 (unhide HH).2.2.2.2 (enters_of Try.func47 (by kernel_rfl) rfl) (lowS w3))
      obtain ⟨r3, hr3⟩ : ∃ r3, r3 = es.any lowB := ⟨_, rfl⟩
      rw [← hr3] at C4
      have HR' : Hid (r = if r3 = true then 1 else if (!decide (s ∈ ys) || es.any (awayB ys)) = true then 5 else if es.any badB = true then 7 else 0) := by
        show r = _
        rw [unhide HR, if_neg (by rw [← unhide HR1, ← unhide HR2]; simp), hr3]
      clear HR HR1 HR2 hr3
      go_wp2_with fail
      refine (unhide C4).mono ?_
      rintro e w4 ⟨rfl, hb4⟩
      have B4 : Hid (Below W.heap.size W w4) := (unhide B3).trans ((unhide hb4).mono (unhide B3).size)
      clear C4 hb4 B3
      cases r3 with
      | true =>
        have HE : Hid (r = 1 ∧ Below w.heap.size w w4) := ⟨unhide HR', (unhide hW w4 (unhide B4)).2.2.2.2⟩
        clear HB HR' HH hW B4 cV cF
        go_wp2_with fail
        go_ret
        exact ⟨by rw [(unhide HE).1]; rfl, (unhide HE).2⟩
      | false =>
        obtain ⟨k1, k2, k3, k4, -⟩ := unhide hW w4 (unhide B4)
        have C5 := hide (noneS k3 k1 (by have := (unhide HH).2.2.2.1; omega) (unhide HH).2.1 s)
        have eg : ∀ args w, (callFunc 42 args).run Try.prog w = .ok (.enter 42 args) w := enters_of Try.func42 (by kernel_rfl) rfl
        obtain ⟨r4, hr4⟩ : ∃ r4, r4 = !decide (s ∈ ys) := ⟨_, rfl⟩
        rw [← hr4] at C5
        have HR4 : Hid (r = if (r4 || es.any (awayB ys)) = true then 5 else if es.any badB = true then 7 else 0) := by
          show r = _
          rw [unhide HR', if_neg (by simp), hr4]
        clear HR' hr4 k1 k2 cV cF
        cases r4 with
        | true =>
          go_wp2_with fail
          refine (unhide C5).mono ?_
          rintro e w5 ⟨rfl, q5, hw5⟩
          have HE : Hid (r = 5 ∧ Below w.heap.size w w5) := ⟨by rw [unhide HR4]; rfl, by rw [hw5]; exact below_drewN (unhide hW w4 (unhide B4)).2.2.2.2 q5⟩
          clear C5 hw5 HB HR4 HH hW B4 k3 k4
          go_wp2_with fail
          go_ret
          exact ⟨by rw [(unhide HE).1]; rfl, (unhide HE).2⟩
        | false =>
          go_wp2_with fail
          refine (unhide C5).mono ?_
          rintro e w5 ⟨rfl, q5, hw5⟩
          have B5 : Hid (Below W.heap.size W w5) := by rw [hw5]; exact below_drewN (unhide B4) q5
          obtain ⟨k1, k2, m3, m4, -⟩ := unhide hW w5 (unhide B5)
          have C6 := hide (contFS k2 (unhide HH).2.2.2.2 (enters_of Try.func48 (by kernel_rfl) rfl) (awayS m4 m3 k1 (by have := (unhide HH).2.2.2.1; omega) (unhide HH).2.1))
          obtain ⟨r5, hr5⟩ : ∃ r5, r5 = es.any (awayB ys) := ⟨_, rfl⟩
          rw [← hr5] at C6
          have HR5 : Hid (r = if r5 = true then 5 else if es.any badB = true then 7 else 0) := by
            show r = _
            rw [unhide HR4, hr5, Bool.false_or]
          clear C5 hw5 HR4 hr5 k1 k2 m3 m4 k3 k4 B4
          go_wp2_with fail
          refine (unhide C6).mono ?_
          rintro e w6 ⟨rfl, hb6⟩
          have B6 : Hid (Below W.heap.size W w6) := (unhide B5).trans ((unhide hb6).mono (unhide B5).size)
          clear C6 hb6 B5
          cases r5 with
          | true =>
            have HE : Hid (r = 5 ∧ Below w.heap.size w w6) := ⟨unhide HR5, (unhide hW w6 (unhide B6)).2.2.2.2⟩
            clear HB HR5 HH hW B6
            go_wp2_with fail
            go_ret
            exact ⟨by rw [(unhide HE).1]; rfl, (unhide HE).2⟩
          | false =>
            have C7 := hide (contFS (unhide hW w6 (unhide B6)).2.1 (unhide HH).2.2.2.2 (enters_of Try.func49 (by kernel_rfl) rfl) (badS w6))
            obtain ⟨r6, hr6⟩ : ∃ r6, r6 = es.any badB := ⟨_, rfl⟩
            rw [← hr6] at C7
            have HR6 : Hid (r = if r6 = true then 7 else 0) := by
              show r = _
              rw [unhide HR5, if_neg (by simp), hr6]
            clear HR5 hr6
            go_wp2_with fail
            refine (unhide C7).mono ?_
            rintro e w7 ⟨rfl, hb7⟩
            have HE : Hid (Below w.heap.size w w7) := (unhide hW w7 ((unhide B6).trans ((unhide hb7).mono (unhide B6).size))).2.2.2.2
            clear C7 hb7 B6 hW HB HH
            cases r6 with
            | true =>
              go_wp2_with fail
              go_ret
              exact ⟨by rw [unhide HR6]; rfl, HE⟩
            | false =>
              go_wp2_with fail
              go_ret
              exact ⟨by rw [unhide HR6]; rfl, HE⟩
end Go.Proofs.Ytijgeoegeeejcaa

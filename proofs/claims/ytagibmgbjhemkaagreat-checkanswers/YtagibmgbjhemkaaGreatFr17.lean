/- A claim that came in. -/
import Derived.Test.YtagibmgbjhemkaaGreatEn16
import Derived.Test.YtagibmgbjhemkaaGreatRn16
import Derived.Test.YtagibmgbjhemkaaGreatKC17
import Derived.Test.YtagibmgbjhemkaaGreatFrame72
import Derived.Deep.Slices
import Derived.Deep.Strs
namespace Go.Proofs.YtagibmgbjhemkaaGreat

namespace W16
open Go.RowKit Go.Maps
theorem oV_two (w : World) (F T F' T' : Int) (u u' : Nat) (ev ev' : Value) : ((w.alloc (oV F T u ev)).alloc (oV F' T' u' ev')).heap[w.heap.size]? = some (oV F T u ev) ∧ ((w.alloc (oV F T u ev)).alloc (oV F' T' u' ev')).heap[w.heap.size + 1]? = some (oV F' T' u' ev') ∧ Below w.heap.size w ((w.alloc (oV F T u ev)).alloc (oV F' T' u' ev')) := by
  have s1 : (w.alloc (oV F T u ev)).heap.size = w.heap.size + 1 := by simp
  have b1 := below_new w (oV F T u ev)
  have b2 := below_new (w.alloc (oV F T u ev)) (oV F' T' u' ev')
  have h := heap_alloc_new (w.alloc (oV F T u ev)) (oV F' T' u' ev')
  rw [s1] at h
  exact ⟨(b2.block _ (by omega)).trans (heap_alloc_new _ _), h, b1.trans (b2.mono (by omega))⟩
theorem take_eq_step {es es' : List Int} {i : Nat} {x y : Int} (h : es.take i = es'.take i) (hx : es[i]? = some x) (hy : es'[i]? = some y) (he : x = y) : es.take (i + 1) = es'.take (i + 1) := by
  rw [List.take_add_one, List.take_add_one, hx, hy, h, he]
set_option maxHeartbeats 4000000 in
set_option maxRecDepth 100000 in
theorem sameR {w : World} {ev ev' : Value} (F T F' T' : Int) (u u' : Nat) {es es' : List Int} (h : Lies i64v w ev es) (h' : Lies i64v w ev' es') (hl : es.length ≤ 140737488355328) :
    Calls Tryz.prog 14 #[.agg #[.int .i64 F, .int .i64 T, .int .u32 (u : Nat), ev], .agg #[.int .i64 F', .int .i64 T', .int .u32 (u' : Nat), ev']] w fun e w' => e = .returned (.bool (decide (((F, T, u, es) : WtV) = (F', T', u', es')))) ∧ Hid (Below w.heap.size w w') := by
  obtain ⟨a, c, hv⟩ := lies_shape h
  obtain ⟨a', c', hv'⟩ := lies_shape h'
  obtain ⟨n, hn⟩ : ∃ n, n = es.length := ⟨_, rfl⟩
  obtain ⟨n', hn'⟩ : ∃ n', n' = es'.length := ⟨_, rfl⟩
  rw [← hn] at hv
  rw [← hn'] at hv'
  subst hv hv'
  obtain ⟨t1, t2, tb⟩ := oV_two w F T F' T' u u' (.slice a n c) (.slice a' n' c')
  obtain ⟨c0, c1, c2, c3⟩ := oV_cells t1
  obtain ⟨d0, d1, d2, d3⟩ := oV_cells t2
  have h1 := lies_below h tb
  have h1' := lies_below h' tb
  have HB := hide tb
  generalize hr : decide (((F, T, u, es) : WtV) = (F', T', u', es')) = r
  have fin : ∀ b : Bool, (((F, T, u, es) : WtV) = (F', T', u', es') ↔ b = true) → r = b := fun b hb => by
    rw [← hr]; cases b with
    | true => exact decide_eq_true (hb.2 rfl)
    | false => exact decide_eq_false (fun e => by have := hb.1 e; cases this)
  by_cases q1 : F = F'
  · subst q1
    by_cases q2 : T = T'
    · subst q2
      by_cases q3 : u = u'
      · subst q3
        by_cases q4 : n = n'
        · have HN : Hid (n = es.length ∧ n = es'.length ∧ n ≤ 140737488355328) := ⟨hn, by omega, by omega⟩
          have HF : Hid ((es = es' → r = true) ∧ (es ≠ es' → r = false)) := ⟨fun e => fin true (by rw [e]; simp), fun e => fin false (by simp [e])⟩
          subst q4
          have H1 := hide h1
          have H1' := hide h1'
          have HT := hide (And.intro t1 t2)
          clear h h' h1 h1' hn hn' hr fin hl t1 t2
          unfold oV at *
          go_enter Tryz.func14, Tryz.ntmps14
          go_wp2_with fail
          generalize ((w.alloc (Obj.cells #[Value.int .i64 F, Value.int .i64 T, Value.int .u32 (u : Nat), Value.slice a n c] 35)).alloc (Obj.cells #[Value.int .i64 F, Value.int .i64 T, Value.int .u32 (u : Nat), Value.slice a' n c'] 35)) = wb at *
          generalize w.heap.size + 1 = b2 at *
          obtain ⟨b1, hb1⟩ : ∃ b1, b1 = w.heap.size := ⟨_, rfl⟩
          rw [← hb1] at HT ⊢
          clear hb1
          clear tb c0 c1 c2 c3 d0 d1 d2 d3
          go_loopw [37] (fun s37 wr => ∃ i : Nat, s37 = .int .i64 (i : Nat) ∧ Hid (i ≤ n ∧ Below wb.heap.size wb wr ∧ es.take i = es'.take i)) (fun s37 _ => n - (intOf s37).toNat)
          case atStart => exact ⟨0, rfl, Nat.zero_le _, Below.refl _ _, rfl⟩
          case round =>
            obtain ⟨i, rfl, HI⟩ := hrel
            obtain ⟨i1, i2, i3⟩ := unhide HI
            obtain ⟨l1, l2, l3⟩ := unhide HN
            by_cases hlt : i < n
            · obtain ⟨x, hx⟩ : ∃ x, es[i]? = some x := ⟨_, List.getElem?_eq_getElem (by omega)⟩
              obtain ⟨yy, hy⟩ : ∃ yy, es'[i]? = some yy := ⟨_, List.getElem?_eq_getElem (by omega)⟩
              obtain ⟨bx, ox, rfl, kx⟩ := lies_at (lies_below (unhide H1) i2) hx
              obtain ⟨by_, oy, rfl, ky⟩ := lies_at (lies_below (unhide H1') i2) hy
              unfold i64v at kx ky
              have m1 : wr.cell? ⟨b1, 3, none⟩ = some (.slice (some ⟨bx, ox, none⟩) n c) := (oV_cells ((i2.block _ (heap_lt (unhide HT).1)).trans (unhide HT).1)).2.2.2
              have m2 : wr.cell? ⟨b2, 3, none⟩ = some (.slice (some ⟨by_, oy, none⟩) n c') := (oV_cells ((i2.block _ (heap_lt (unhide HT).2)).trans (unhide HT).2)).2.2.2
              have z1 : (i : Int) < (n : Int) := by omega
              obtain ⟨j, hj⟩ : ∃ j, j = i + 1 := ⟨_, rfl⟩
              have zw : Hid (wrap64 ((i : Int) + 1) = (j : Int)) := by show wrap64 ((i : Int) + 1) = (j : Int); unfold wrap64; omega
              have HBW : Hid (Below w.heap.size w wr ∧ Below wb.heap.size wb wr.drew) := ⟨(unhide HB).trans (i2.mono (unhide HB).size), i2.drew⟩
              by_cases hxy : x = yy
              · subst hxy
                have HJ : Hid (j ≤ n ∧ es.take j = es'.take j ∧ n - j < n - i) := ⟨by omega, by rw [hj]; exact take_eq_step i3 hx hy rfl, by omega⟩
                clear HI i1 i2 i3 l1 l2 l3 hlt hx hy hj
                go_upto_region 6 with fail
                refine wp_region_noPanic ?_
                refine regionL [] (fun y => y.cell? ⟨b1, 3, none⟩ = some (.slice (some ⟨bx, ox, none⟩) n c) ∧ y.cell? ⟨b2, 3, none⟩ = some (.slice (some ⟨by_, oy, none⟩) n c') ∧ y.cell? ⟨bx, ox + i, none⟩ = some (.int .i64 x) ∧ y.cell? ⟨by_, oy + i, none⟩ = some (.int .i64 x)) (by kernel_rfl) ⟨m1, m2, kx, ky⟩ (fun hHeld => ?_)
                refine takeN 0 40 rfl ?_
                (try simp only [sl])
                refine takeN 1 41 rfl ?_
                (try simp only [sl])
                refine takeN 2 42 rfl ?_
                (try simp only [sl])
                refine takeN 3 43 rfl ?_
                (try simp only [sl])
                refine takeN 4 44 rfl ?_
                (try simp only [sl])
                refine takeN 5 45 rfl ?_
                (try simp only [sl])
                refine takeN 6 46 rfl ?_
                (try simp only [sl])
                refine takeN 7 47 rfl ?_
                (try simp only [sl])
                refine takeN 8 48 rfl ?_
                (try simp only [sl])
                refine takeN 9 49 rfl ?_
                (try simp only [sl])
                refine takeN 10 50 rfl ?_
                (try simp only [sl])
                refine doneL (by kernel_rfl) ?_ _
                refine NoPanic.normal ?_
                go_wp2_with fail
                exact ⟨⟨j, by (try rw [unhide zw]) <;> rfl, (unhide HJ).1, (unhide HBW).2, (unhide HJ).2.1⟩, by (try rw [unhide zw]); exact (unhide HJ).2.2⟩
              · have HR : Hid (r = false) := (unhide HF).2 (fun e => hxy (by rw [e, hy] at hx; exact (Option.some.inj hx).symm))
                have z3 : (x != yy) = true := by simpa using hxy
                clear HI i1 i2 i3 l1 l2 l3 hlt hx hy hj hxy
                go_upto_region 6 with fail
                refine wp_region_noPanic ?_
                refine regionL [] (fun y => y.cell? ⟨b1, 3, none⟩ = some (.slice (some ⟨bx, ox, none⟩) n c) ∧ y.cell? ⟨b2, 3, none⟩ = some (.slice (some ⟨by_, oy, none⟩) n c') ∧ y.cell? ⟨bx, ox + i, none⟩ = some (.int .i64 x) ∧ y.cell? ⟨by_, oy + i, none⟩ = some (.int .i64 yy)) (by kernel_rfl) ⟨m1, m2, kx, ky⟩ (fun hHeld => ?_)
                refine takeN 0 40 rfl ?_
                (try simp only [sl])
                refine takeN 1 41 rfl ?_
                (try simp only [sl])
                refine takeN 2 42 rfl ?_
                (try simp only [sl])
                refine takeN 3 43 rfl ?_
                (try simp only [sl])
                refine takeN 4 44 rfl ?_
                (try simp only [sl])
                refine takeN 5 45 rfl ?_
                (try simp only [sl])
                refine takeN 6 46 rfl ?_
                (try simp only [sl])
                refine takeN 7 47 rfl ?_
                (try simp only [sl])
                refine takeN 8 48 rfl ?_
                (try simp only [sl])
                refine takeN 9 49 rfl ?_
                (try simp only [sl])
                refine takeN 10 50 rfl ?_
                (try simp only [sl])
                refine doneL (by kernel_rfl) ?_ _
                refine NoPanic.normal ?_
                go_wp2_with fail
                go_ret
                exact ⟨by rw [unhide HR]; rfl, (unhide HBW).1.drew⟩
            · have z1 : ¬ (i : Int) < (n : Int) := by omega
              have HR : Hid (r = true) := (unhide HF).1 (by
                have e1 := List.take_of_length_le (l := es) (i := i) (by omega)
                have e2 := List.take_of_length_le (l := es') (i := i) (by omega)
                rw [e1, e2] at i3; exact i3)
              have HBW : Hid (Below w.heap.size w wr) := (unhide HB).trans (i2.mono (unhide HB).size)
              clear HI i1 i2 i3 l1 l2 l3 hlt
              go_wp2_with fail
              go_ret
              exact ⟨by rw [unhide HR]; rfl, HBW⟩
        · have HR : Hid (r = false) := fin false (by simp; intro e; exact q4 (by rw [hn, hn', e]))
          have z4 : ((n : Int) != (n' : Int)) = true := by simp; omega
          clear h h' h1 h1' hn hn' hr fin hl t1 t2 q4 tb
          unfold oV at *
          go_enter Tryz.func14, Tryz.ntmps14
          go_wp2_with fail
          go_ret
          exact ⟨by rw [unhide HR]; rfl, HB⟩
      · have HR : Hid (r = false) := fin false (by simp; intro e; exact absurd e q3)
        have z4 : ((u : Int) != (u' : Int)) = true := by simp; omega
        clear h h' h1 h1' hn hn' hr fin hl t1 t2 tb q3
        unfold oV at *
        go_enter Tryz.func14, Tryz.ntmps14
        go_wp2_with fail
        go_ret
        exact ⟨by rw [unhide HR]; rfl, HB⟩
    · have HR : Hid (r = false) := fin false (by simp; intro e; exact absurd e q2)
      have z4 : (T != T') = true := by simpa using q2
      clear h h' h1 h1' hn hn' hr fin hl t1 t2 tb q2
      unfold oV at *
      go_enter Tryz.func14, Tryz.ntmps14
      go_wp2_with fail
      go_ret
      exact ⟨by rw [unhide HR]; rfl, HB⟩
  · have HR : Hid (r = false) := fin false (by simp; intro e; exact absurd e q1)
    have z4 : (F != F') = true := by simpa using q1
    clear h h' h1 h1' hn hn' hr fin hl t1 t2 tb q1
    unfold oV at *
    go_enter Tryz.func14, Tryz.ntmps14
    go_wp2_with fail
    go_ret
    exact ⟨by rw [unhide HR]; rfl, HB⟩
end W16

section
open Go.RowKit Go.Maps
open W16 (WtV Lies u8v i64v dec decV DecAns)
theorem chkA_len {V : Int → Bool} {ps : List (EdgeV × Bool)} {bs : List Nat} (hb : ∀ x ∈ bs, x < 256) : (chkA V ps bs).1.2.2.2.length ≤ 1024 ∧ (decV bs).1.2.2.2.length ≤ 1024 := by
  unfold chkA W16.decV
  cases hd : dec bs with
  | none => exact ⟨Nat.zero_le _, Nat.zero_le _⟩
  | some x =>
    have := (dec_oks hb hd).2.2.2.1
    refine ⟨?_, this⟩
    simp only
    split
    · exact this
    · exact Nat.zero_le _
set_option maxHeartbeats 16000000 in
set_option maxRecDepth 100000 in
theorem answers17 [Inhabited EntI] (a : Option Addr) (len cap : Nat) (o : Nat → OpV) (w : World) (h : IsOps w a len o) {v : Value} {bs : List Nat} (hv : Lies u8v w v bs) (hx : ∀ x ∈ bs, x < 256) (hl : bs.length ≤ 140737488351232) :
    Calls Tryz.prog 3 #[.slice a len cap, v] w fun e w' => e = .returned (.bool true) ∧ Hid (Below w.heap.size w w') := by
  have CB := hide (builtS a len cap o w h)
  have CW : Hid (∀ W : World, Calls Tryz.prog 9 #[] W fun e w' => e = .returned (.bool true) ∧ Hid (Below W.heap.size W w')) := fun W => awake17S W
  have HV : Hid (Lies u8v w v bs ∧ (∀ x ∈ bs, x < 256) ∧ bs.length ≤ 140737488351232) := ⟨hv, hx, hl⟩
  obtain ⟨va, vc, hva⟩ := W16.lies_shape hv
  obtain ⟨bn, hbn⟩ : ∃ bn, bn = bs.length := ⟨_, rfl⟩
  rw [← hbn] at hva
  clear h hv hx hl hbn
  subst hva
  go_enter Tryz.func3, Tryz.ntmps3
  go_wp2_with fail
  refine (unhide CB).mono ?_
  rintro e w1 hh
  obtain ⟨s, a1, m1, q1, a2, m2, q2, rd, wr0, rfl, n, X, g, vs, gs, hn, hG, hs, hL, hB, hrd, hwr⟩ := unhide hh
  obtain ⟨hK, hP, hr0, hr1⟩ := kc_built hG hs hrd hwr hL hB
  have HP := hide hP
  have HR : Hid (0 ≤ rd ∧ rd ≤ 120) := ⟨hr0, by omega⟩
  have HK := hide (hK.box (oG (.slice a1 m1 q1) (.slice a2 m2 q2) rd wr0))
  generalize g.ps = ps at *
  clear hh hG hs hL hB hrd hwr CB hn hK hP hr0 hr1
  go_upto_region 2 with fail
  change Code.wp _ _ _ _ (w1.alloc (oG (.slice a1 m1 q1) (.slice a2 m2 q2) rd wr0))
  generalize w1.alloc (oG (.slice a1 m1 q1) (.slice a2 m2 q2) rd wr0) = w2 at *
  generalize w1.heap.size = b6 at *
  go_wp2_with fail
  refine (unhide CW _).mono ?_
  rintro e w3 ⟨rfl, hb3⟩
  have HK3 := hide ((unhide HK).below (unhide hb3))
  clear HK hb3 CW
  have CR := hide (kcReads (unhide HK3))
  go_wp2_with fail
  refine (unhide CR).mono ?_
  rintro e w4 ⟨rfl, hw4⟩
  rw [hw4]
  clear hw4 w4 CR
  obtain ⟨C, hC⟩ : ∃ C, C = chkA (fun k => decide (k ∈ vs)) ps bs := ⟨_, rfl⟩
  obtain ⟨D, hD⟩ : ∃ D, D = decV bs := ⟨_, rfl⟩
  have hlen := chkA_len (V := fun k => decide (k ∈ vs)) (ps := ps) (unhide HV).2.1
  rw [← hC, ← hD] at hlen
  have HC : Hid (C = chkA (fun k => decide (k ∈ vs)) ps bs ∧ D = decV bs) := ⟨hC, hD⟩
  clear hC hD
  obtain ⟨⟨F, T, u, es⟩, pl, cd⟩ := C
  obtain ⟨⟨dF, dT, du, ds⟩, dc⟩ := D
  have HLN : Hid (es.length ≤ 1024 ∧ ds.length ≤ 1024) := hlen
  clear hlen
  obtain ⟨v5, c5, n5, w5, hr5, g1, g2⟩ := W16.newB (W16.lies_below (unhide HV).1 (unhide HK3).out) (by have := (unhide HV).2.2; omega)
  have HR5 := hide hr5
  have CD := hide (kcCheck (unhide HP) ((unhide HK3).below g2) (W16.byrow_lies g1) (unhide HV).2.1 (by have := (unhide HV).2.2; omega) (fun g e => (g1.lt g e).2) (unhide HR).1 (by have := (unhide HR).2; omega))
  rw [← (unhide HC).1, ← (unhide HC).2] at CD
  clear hr5 g1 g2 HK3
  go_wp2_with (at_builtin; refine Lib.wpList_append_run _ rfl _ _ 23 23 rfl _ _ rfl rfl _ _ (unhide HR5 _) ?_)
  refine (unhide CD).mono ?_
  intro e w6 H6
  obtain ⟨ev, k, rfl, k1, hK6⟩ := unhide H6
  simp only at hK6 k1 ⊢
  obtain ⟨ea, ec, hev⟩ := W16.rrow_shape (hK6.getr (List.mem_cons_self ..))
  obtain ⟨en, hen⟩ : ∃ en, en = es.length := ⟨_, rfl⟩
  rw [← hen] at hev
  clear hen
  subst hev
  have HK7 := hide (hK6.box (oWt F T u (.slice ea en ec)))
  have HKK : Hid (k ≤ ds.length ∧ rd + (k : Int) ≤ 2000) := ⟨k1, by have := (unhide HR).2; have := (unhide HLN).2; omega⟩
  clear CD H6 hK6 k1 HR5
  go_upto_region 6 with fail
  change Code.wp _ _ _ _ (w6.alloc (oWt F T u (.slice ea en ec)))
  generalize w6.alloc (oWt F T u (.slice ea en ec)) = w7 at *
  generalize w6.heap.size = b9 at *
  have CRf := hide (kcRefCheck (rd' := rd) (wr' := wr0) (unhide HP) (unhide HK7) (unhide HV).1 (unhide HV).2.1 (by have := (unhide HV).2.2; omega))
  rw [← (unhide HC).1] at CRf
  obtain ⟨c0, c1, c2, c3, -⟩ := cellsG ((unhide HK7).get (b := b6) (o := oG (.slice a1 m1 q1) (.slice a2 m2 q2) rd wr0) (by simp))
  go_wp2_with fail
  refine (unhide CRf).mono ?_
  intro e w8 H8
  obtain ⟨ev8, rfl, g1, g2⟩ := unhide H8
  simp only at g1 ⊢
  have hK8 := (unhide HK7).row (Nat.le_refl _) g2 g1
  obtain ⟨ea8, ec8, hev⟩ := W16.rrow_shape g1
  obtain ⟨en8, hen⟩ : ∃ en8, en8 = es.length := ⟨_, rfl⟩
  rw [← hen] at hev
  clear hen
  subst hev
  have HK9 := hide (hK8.box (oWt F T u (.slice ea8 en8 ec8)))
  clear CRf H8 g1 g2 HK7 hK8 c0 c1 c2 c3
  go_upto_region 7 with fail
  change Code.wp _ _ _ _ (w8.alloc (oWt F T u (.slice ea8 en8 ec8)))
  generalize w8.alloc (oWt F T u (.slice ea8 en8 ec8)) = w9 at *
  generalize w8.heap.size = b12 at *
  have CDd := hide (W16.decodeR (W16.lies_below (unhide HV).1 (unhide HK9).out) (unhide HV).2.1 (by have := (unhide HV).2.2; omega))
  rw [← (unhide HC).2] at CDd
  go_wp2_with fail
  refine (unhide CDd).mono ?_
  intro e w10 H10
  obtain ⟨ev10, rfl, g1, g2⟩ := unhide H10
  simp only at g1 ⊢
  have hK10 := (unhide HK9).row (Nat.le_refl _) g2 g1
  obtain ⟨da, dcp, hev⟩ := W16.rrow_shape g1
  obtain ⟨dn, hdn⟩ : ∃ dn, dn = ds.length := ⟨_, rfl⟩
  rw [← hdn] at hev
  have HDN := hide hdn
  clear hdn
  subst hev
  have HK11 := hide (hK10.box (oWt dF dT du (.slice da dn dcp)))
  clear CDd H10 g1 g2 HK9 hK10 HC HV
  go_upto_region 8 with fail
  change Code.wp _ _ _ _ (w10.alloc (oWt dF dT du (.slice da dn dcp)))
  generalize w10.alloc (oWt dF dT du (.slice da dn dcp)) = w11 at *
  generalize w10.heap.size = b15 at *
  have HCELL : Hid (∀ W, Below w11.heap.size w11 W → ((W.cell? ⟨b9, 0, none⟩ = some (.int .i64 F) ∧ W.cell? ⟨b9, 1, none⟩ = some (.int .i64 T) ∧ W.cell? ⟨b9, 2, none⟩ = some (.int .u32 (u : Nat)) ∧ W.cell? ⟨b9, 3, none⟩ = some (.slice ea en ec)) ∧ (W.cell? ⟨b12, 0, none⟩ = some (.int .i64 F) ∧ W.cell? ⟨b12, 1, none⟩ = some (.int .i64 T) ∧ W.cell? ⟨b12, 2, none⟩ = some (.int .u32 (u : Nat)) ∧ W.cell? ⟨b12, 3, none⟩ = some (.slice ea8 en8 ec8)) ∧ W.cell? ⟨b15, 3, none⟩ = some (.slice da dn dcp) ∧ W.cell? ⟨b6, 3, none⟩ = some (.int .i64 wr0)) ∧ KC [(b15, oWt dF dT du (.slice da dn dcp)), (b12, oWt F T u (.slice ea8 en8 ec8)), (b9, oWt F T u (.slice ea en ec)), (b6, oG (.slice a1 m1 q1) (.slice a2 m2 q2) rd wr0)] [(.slice da dn dcp, ds), (.slice ea8 en8 ec8, es), (.slice ea en ec, es)] w s ps (.slice a1 m1 q1) (.slice a2 m2 q2) (rd + (k : Int)) wr0 vs gs W) := fun W hW => by
    have hK := (unhide HK11).below hW
    obtain ⟨x0, x1, x2, x3⟩ := oWt_cells (hK.get (b := b9) (o := oWt F T u (.slice ea en ec)) (by simp))
    obtain ⟨y0, y1, y2, y3⟩ := oWt_cells (hK.get (b := b12) (o := oWt F T u (.slice ea8 en8 ec8)) (by simp))
    obtain ⟨z0, z1, z2, z3⟩ := oWt_cells (hK.get (b := b15) (o := oWt dF dT du (.slice da dn dcp)) (by simp))
    obtain ⟨c0, c1, c2, c3, -⟩ := cellsG (hK.get (b := b6) (o := oG (.slice a1 m1 q1) (.slice a2 m2 q2) rd wr0) (by simp))
    exact ⟨⟨⟨x0, x1, x2, x3⟩, ⟨y0, y1, y2, y3⟩, z3, c3⟩, hK⟩
  have CS : Hid (∀ W, Below w11.heap.size w11 W → Calls Tryz.prog 14 #[.agg #[.int .i64 F, .int .i64 T, .int .u32 (u : Nat), .slice ea en ec], .agg #[.int .i64 F, .int .i64 T, .int .u32 (u : Nat), .slice ea8 en8 ec8]] W fun e w' => e = .returned (.bool true) ∧ Hid (Below w11.heap.size w11 w')) := fun W hW => by
    have hK := (unhide HCELL W hW).2
    have := W16.sameR F T F T u u (W16.nrow_lies (hK.getr (v := .slice ea en ec) (ks := es) (by simp))) (W16.nrow_lies (hK.getr (v := .slice ea8 en8 ec8) (ks := es) (by simp))) (by have := (unhide HLN).1; omega)
    refine this.mono ?_
    rintro e w' ⟨rfl, hh⟩
    exact ⟨by simp, hW.trans ((unhide hh).mono hW.size)⟩
  have CRd : Hid (∀ W, Below w11.heap.size w11 W → Calls Tryz.prog 10 #[.pointer (some ⟨s, 0, none⟩)] W fun e w' => e = .returned (.int .i64 (rd + (k : Int))) ∧ w' = W) := fun W hW => kcReads (unhide HCELL W hW).2
  have CWr : Hid (∀ W, Below w11.heap.size w11 W → Calls Tryz.prog 15 #[.pointer (some ⟨s, 0, none⟩)] W fun e w' => e = .returned (.int .i64 wr0) ∧ w' = W) := fun W hW => kcWrites (unhide HCELL W hW).2
  have HOUT : Hid (∀ W, Below w11.heap.size w11 W → Below w.heap.size w W) := fun W hW => (unhide HCELL W hW).2.out
  obtain ⟨hr0, hr1⟩ := unhide HR
  obtain ⟨hk1, hk2⟩ := unhide HKK
  have hdn := unhide HDN
  have zs : IntKind.i64.wrap (rd + (k : Int) - rd) = (k : Int) := by rw [IntKind.wrap_i64]; omega
  have zl : (k : Int) ≤ (dn : Int) := by omega
  have zg : rd ≤ rd + (k : Int) := by omega
  generalize hrk : rd + (k : Int) = rk at *
  clear HK11 hr0 hr1 hk1 hk2 hdn HR HKK HDN HLN hrk HP
  have hS := (unhide HCELL w11 (Below.refl _ _)).1
  refine wp_region_noPanic ?_
  refine regionL [] (fun y => (y.cell? ⟨b9, 0, none⟩ = some (.int .i64 F) ∧ y.cell? ⟨b9, 1, none⟩ = some (.int .i64 T) ∧ y.cell? ⟨b9, 2, none⟩ = some (.int .u32 (u : Nat)) ∧ y.cell? ⟨b9, 3, none⟩ = some (.slice ea en ec)) ∧ (y.cell? ⟨b12, 0, none⟩ = some (.int .i64 F) ∧ y.cell? ⟨b12, 1, none⟩ = some (.int .i64 T) ∧ y.cell? ⟨b12, 2, none⟩ = some (.int .u32 (u : Nat)) ∧ y.cell? ⟨b12, 3, none⟩ = some (.slice ea8 en8 ec8)) ∧ y.cell? ⟨b15, 3, none⟩ = some (.slice da dn dcp) ∧ y.cell? ⟨b6, 3, none⟩ = some (.int .i64 wr0)) (by kernel_rfl) hS (fun hHeld => ?_)
  refine takeN 0 53 rfl ?_
  (try simp only [sl])
  refine takeN 1 54 rfl ?_
  (try simp only [sl])
  refine takeN 2 55 rfl ?_
  (try simp only [sl])
  refine takeN 3 56 rfl ?_
  (try simp only [sl])
  refine takeN 4 57 rfl ?_
  (try simp only [sl])
  refine takeN 5 58 rfl ?_
  (try simp only [sl])
  refine takeN 6 59 rfl ?_
  (try simp only [sl])
  refine takeN 7 60 rfl ?_
  (try simp only [sl])
  refine takeN 8 61 rfl ?_
  (try simp only [sl])
  refine takeN 9 62 rfl ?_
  (try simp only [sl])
  refine takeN 10 63 rfl ?_
  (try simp only [sl])
  refine readyL (i := 11) (by kernel_rfl) rfl (fun K hK => ?_)
  go_simp
  refine (unhide CS _ ((Below.refl _ _).drew)).mono ?_
  rintro e w12 ⟨rfl, H12⟩
  have hS12 := (unhide HCELL w12 (unhide H12)).1
  (try dsimp only)
  refine hK.out _ _ (fun _ => hS12) ?_
  clear hK K
  (try simp only [sl])
  have hH4 := hS12
  refine takeN 12 65 rfl ?_
  (try simp only [sl])
  refine takeN 13 66 rfl ?_
  (try simp only [sl])
  refine takeN 14 67 rfl ?_
  (try simp only [sl])
  refine takeN 16 69 rfl ?_
  (try simp only [sl])
  refine takeN 18 71 rfl ?_
  (try simp only [sl])
  refine takeN 19 72 rfl ?_
  (try simp only [sl])
  refine takeN 20 73 rfl ?_
  (try simp only [sl])
  refine readyL (i := 15) (by kernel_rfl) rfl (fun K hK => ?_)
  go_simp
  refine (unhide CRd _ (unhide H12)).mono ?_
  rintro e w13 ⟨rfl, hw13⟩
  rw [hw13]
  clear hw13
  (try dsimp only)
  refine hK.out _ _ (fun _ => hS12) ?_
  clear hK K
  (try simp only [sl])
  have hH7 := hS12
  refine takeN 17 70 rfl ?_
  (try simp only [sl])
  refine takeN 21 74 rfl ?_
  (try simp only [sl])
  refine takeN 22 75 rfl ?_
  (try simp only [sl])
  refine takeN 23 76 rfl ?_
  (try simp only [sl])
  refine takeN 24 77 rfl ?_
  (try simp only [sl])
  refine takeN 26 79 rfl ?_
  (try simp only [sl])
  refine readyL (i := 25) (by kernel_rfl) rfl (fun K hK => ?_)
  go_simp
  refine (unhide CRd _ (unhide H12)).mono ?_
  rintro e w13 ⟨rfl, hw13⟩
  rw [hw13]
  clear hw13
  (try dsimp only)
  refine hK.out _ _ (fun _ => hS12) ?_
  clear hK K
  (try simp only [sl])
  have hH10 := hS12
  refine takeN 27 80 rfl ?_
  (try simp only [sl])
  refine takeN 28 81 rfl ?_
  (try simp only [sl])
  refine takeN 29 82 rfl ?_
  (try simp only [sl])
  refine takeN 30 83 rfl ?_
  (try simp only [sl])
  refine takeN 32 85 rfl ?_
  (try simp only [sl])
  refine takeN 33 86 rfl ?_
  (try simp only [sl])
  refine readyL (i := 31) (by kernel_rfl) rfl (fun K hK => ?_)
  go_simp
  refine (unhide CWr _ (unhide H12)).mono ?_
  rintro e w13 ⟨rfl, hw13⟩
  rw [hw13]
  clear hw13
  (try dsimp only)
  refine hK.out _ _ (fun _ => hS12) ?_
  clear hK K
  (try simp only [sl])
  have hH13 := hS12
  refine takeN 34 87 rfl ?_
  (try simp only [sl])
  refine takeN 35 88 rfl ?_
  (try simp only [sl])
  refine takeN 36 4 rfl ?_
  (try simp only [sl])
  refine doneL (by kernel_rfl) ?_ _
  refine NoPanic.normal ?_
  have HE := hide (unhide HOUT _ (unhide H12))
  clear hHeld HCELL CS CRd CWr HOUT hS hS12 H12
  go_wp2_with fail
  go_ret
  exact ⟨rfl, HE⟩
end

namespace W16
open Go.ChangeShapes Go.WideShapes Go.ChangeAt Go.RowKit
theorem cellsOf3 : Tryz.prog.cellsOf 3 = 1 := by kernel_rfl
theorem cellsOfB : Tryz.prog.cellsOf 5 = 1 := by kernel_rfl
theorem bytesB : Tryz.prog.bytesOf 5 = 1 := by kernel_rfl
theorem addr_none {w : World} {x : Addr} {v : Value} (h : w.cell? (x.add 0) = some v) : x.spot = none := by
  have := World.cell?_spot h
  simpa [Addr.add] using this
/-- A slice whose elements are one cell each, opened. -/
theorem open_lies {H : Type} {enc : TypeId × Value → H} {W : World} {spare : Nat → Bool} {held : Bool} {v : Value} {fuel : Nat} {x : DataW H × List MemPlace} {t e : TypeId} {α : Type} [Inhabited α] (f : α → Value) (Q : α → Prop) (ht : Tryz.prog.underlying t = some (.slice e)) (he : Tryz.prog.cellsOf e = 1)
    (hf : ∀ n (u : Value) y, DataW.trod enc Tryz.prog W 0 spare held n e [u] = some y → ∃ x, u = f x ∧ Q x) (h : DataW.trod enc Tryz.prog W 0 spare held fuel t [v] = some x) :
    ∃ (xs : List α) (a : Option Addr) (len cap : Nat), v = .slice a len cap ∧ Lies f W v xs ∧ (∀ x ∈ xs, Q x) ∧ len = xs.length ∧ (x.1 = .nil ∧ xs = [] ∨ ∃ es sp, x.1 = .slice es sp ∧ xs.length ≤ es.length) := by
  rcases Deep.open_slice1 ht he h with ⟨hcs, hx⟩ | ⟨y, l, c, m, n, V, D, Pl, hcs, -, hl, -, hmm, hx, hel⟩
  · simp only [List.cons.injEq, and_true] at hcs
    subst hcs
    exact ⟨[], none, 0, 0, rfl, ⟨none, 0, rfl, Nat.le_refl _, fun _ => rfl, .inl rfl⟩, fun x hx => (by cases hx), rfl, .inl ⟨by rw [hx], rfl⟩⟩
  · simp only [List.cons.injEq, and_true] at hcs
    subst hcs
    have hlm : l ≤ m := by rw [hmm]; split <;> omega
    obtain ⟨z, hz⟩ := Deep.choose_lt (α := α) (n := l) (p := fun i y' => W.cell? (y.add i) = some (f y') ∧ Q y') (fun i hi => by
      obtain ⟨h1, h2⟩ := hel i (by omega)
      obtain ⟨y', hy, hq⟩ := hf _ _ _ h2
      exact ⟨y', by rw [h1, hy], hq⟩)
    refine ⟨(List.range l).map z, some y, l, c, rfl, ⟨some y, c, by simp, by simpa using hl, fun e => (by cases e), ?_⟩, fun x hx => ?_, by simp, .inr ⟨_, _, by rw [hx], by simp⟩⟩
    · rcases Nat.eq_zero_or_pos l with h0 | h0
      · exact .inl (by rw [h0]; rfl)
      · obtain ⟨b, off, spot⟩ := y
        obtain rfl : spot = none := addr_none (hz 0 h0).1
        refine .inr ⟨b, off, rfl, fun i x hx => ?_⟩
        have hi : i < l := by have := (List.getElem?_eq_some_iff.1 hx).1; simpa using this
        have e : z i = x := by simpa [hi] using hx
        have := (hz i hi).1
        rw [add_off13, e] at this
        exact this
    · simp only [List.mem_map, List.mem_range] at hx
      obtain ⟨i, hi, rfl⟩ := hx
      exact (hz i hi).2
theorem open_by {H : Type} {enc : TypeId × Value → H} {W : World} {spare : Nat → Bool} {held : Bool} {v : Value} {d : DataW H} {p : List MemPlace} (hv : ∃ c, v.cells = #[c] ∧ c = v) (h : DataW.Trod enc Tryz.prog W 0 spare held 23 v d p) :
    ∃ (bs : List Nat) (a : Option Addr) (len cap : Nat), v = .slice a len cap ∧ Lies u8v W v bs ∧ (∀ x ∈ bs, x < 256) ∧ len = bs.length ∧ (d = .nil ∧ bs = [] ∨ ∃ es sp, d = .slice es sp ∧ bs.length ≤ es.length) := by
  obtain ⟨fuel, hf⟩ := h
  obtain ⟨c, hc, rfl⟩ := hv
  rw [show c.cells.toList = [c] by rw [hc]] at hf
  exact open_lies u8v (fun x => x < 256) Tryz.underlying23 cellsOfB (fun n u y hy => by
    obtain ⟨k, e, -, wk⟩ := DataW.trod_int Tryz.underlying5 hy
    have hk : 0 ≤ k ∧ k < 256 := by
      have h1 : IntKind.u8.min = 0 := by decide
      have h2 : IntKind.u8.max = 255 := by decide
      simp [Lit.wf] at wk; omega
    exact ⟨k.toNat, by simp only [List.cons.injEq, and_true] at e; rw [e]; simp [u8v]; omega, by omega⟩) hf
theorem by_sized {H : Type} {ts : List TypeId} {ds : List (DataW H)} (hsz : (DataW.weightsEach Tryz.prog ts ds).all (· ≤ reachBytes) = true) {j : Nat} {d : DataW H} (ht : ts[j]? = some 23) (hd : ds[j]? = some d) {bs : List Nat} (h : d = .nil ∧ bs = [] ∨ ∃ xs sp, d = .slice xs sp ∧ bs.length ≤ xs.length) : bs.length ≤ 140737488351232 := by
  rcases h with ⟨-, rfl⟩ | ⟨xs, sp, rfl, h⟩
  · simp
  · have := sized_slice hsz ht hd Tryz.underlying23
    rw [bytesB] at this
    unfold reachBytes at this
    omega
end W16

section
open Go.ChangeShapes Go.WideShapes Go.ChangeAt Go.RowKit

end

end Go.Proofs.YtagibmgbjhemkaaGreat

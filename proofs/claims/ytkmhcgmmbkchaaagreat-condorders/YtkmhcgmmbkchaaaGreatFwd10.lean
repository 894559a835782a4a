/- The calls of a Cond that hand on to its parts. -/
import Derived.Test.YtkmhcgmmbkchaaaGreatSprW10
import Derived.Test.YtkmhcgmmbkchaaaGreatKeys10
namespace Go.Proofs.YtkmhcgmmbkchaaaGreat

section
open Go.RowKit Go.Maps
set_option maxHeartbeats 8000000 in
set_option maxRecDepth 100000 in
theorem kspreadV {L : Nat → Nat} {a m n : Nat} {w : World} {f : Int → Option Nat} {g : Int → Int → Option Int} {cn : Int → Nat} {c p ma ml me : Nat} {lk : Int} (h : EndsAt L a w m f n g cn) (hb : w.heap[c]? = some (oC p ma ml me lk)) (hc : L c ≠ a) {x0 : Int} (hx0 : okN x0) {V : List Int} (hV : V.Nodup) (hxV : x0 ∈ V)
    (hVB : ∀ p e q, okN p → okN e → g p e = some q → q ∈ V ∧ okN q) (hVl : V.length ≤ 100000) (hl : 0 ≤ lk) (hl2 : lk ≤ 100000000) {O : Int → Bool} {fk : Nat} {pv : Value} (eg : ∀ args w, (callFunc fk args).run Tryz.prog w = .ok (.enter fk args) w)
    (hO : ∀ v W, Turned (fun b => b = c) w W → okN v → Calls Tryz.prog fk #[pv, .int .i64 v] W fun e w' => e = .returned (.bool (O v)) ∧ Below W.heap.size W w') :
    Calls Tryz.prog 57 #[.pointer (some ⟨c, 0, none⟩), .int .i64 x0, .map (some m), .func (.func fk) #[pv] #[]] w fun r w' => Hid (SprAns w c p ma ml me lk g O V x0 r w') := by
  have hcl := heap_lt hb
  -- the set with x0, the row with x0
  have hb0 : Below w.heap.size w (w.alloc (.map #[] 0)) := (Below.refl _ _).alloc (Nat.le_refl _) _
  have hmk : SetAt (w.alloc (.map #[] 0)) w.heap.size (memF []) 0 := (mapG_made w).congr (fun _ _ => rfl)
  have hs0 : SPic w c p ma ml me lk w.heap.size (.slice none 0 0) [] [] (w.alloc (.map #[] 0)) := ⟨turned_of_below hb0, (hb0.block c hcl).trans hb, hmk, ⟨rfl, .inl ⟨rfl, rfl⟩⟩, Nat.le_refl _, fun e => by cases e⟩
  obtain ⟨w1, r1, hs1, t1⟩ := hs0.add hcl hx0 (by simp) (by simp)
  have hb1 := below_new w1 (.cells #[.int .i64 x0] 3)
  have hs2 := hs1.below hb1
  have hrow : BRow w.heap.size (w1.alloc (.cells #[.int .i64 x0] 3)) (.slice (some ⟨w1.heap.size, 0, none⟩) 1 1) [x0] := ⟨rfl, .inr ⟨w1.heap.size, 1, #[.int .i64 x0], rfl, hs1.tur.size, heap_alloc_new _ _, Nat.le_refl _, by unfold maxLen; omega, rfl, rfl⟩⟩
  have hs3 : SPic w c p ma ml me (lk + ((0 : Nat) : Int)) w.heap.size (.slice (some ⟨w1.heap.size, 0, none⟩) 1 1) [x0] [x0] (w1.alloc (.cells #[.int .i64 x0] 3)) := by
    have e : lk + ((0 : Nat) : Int) = lk := by omega
    rw [e]
    refine ⟨hs2.tur, hs2.box, hs2.set, hrow, hs2.new, fun e => ?_⟩
    have := own_eq e
    have := hs1.set.lt
    omega
  have hS0 : Srch (ArcG g) O V x0 [x0] [x0] := ⟨by simp, by simp, fun _ h => h, by simp, fun z hz => by rw [List.mem_singleton.1 hz]; exact ⟨hxV, hx0, RI.refl _ _⟩⟩
  have hC0 : Clsd (ArcG g) O [x0] [x0] none := fun p hp hk => absurd hp hk
  have HM0 : Hid (SMid w c p ma ml me lk g O V x0 w.heap.size (.slice (some ⟨w1.heap.size, 0, none⟩) 1 1) 1 V.length (w1.alloc (.cells #[.int .i64 x0] 3))) := ⟨[x0], [x0], 0, rfl, rfl, by omega, hs3, hS0, hC0⟩
  have HX : Hid (EndsAt L a w m f n g cn ∧ L c ≠ a ∧ V.Nodup ∧ (∀ p e q, okN p → okN e → g p e = some q → q ∈ V ∧ okN q) ∧ V.length ≤ 100000 ∧ 0 ≤ lk ∧ lk ≤ 100000000 ∧ c < w.heap.size) := ⟨h, hc, hV, hVB, hVl, hl, hl2, hcl⟩
  have HO := hide hO
  have hmm := @run_makeMap Tryz.prog
  clear h hb hc hx0 hV hxV hVB hVl hl hl2 hO hcl hb0 hmk hs0 hs1 t1 hb1 hs2 hrow hs3 hS0 hC0
  go_enter Tryz.func57, Tryz.ntmps57
  go_upto_region 3 with fail
  clear r1 hmm
  generalize w1.alloc (.cells #[.int .i64 x0] 3) = w2 at *
  generalize w1.heap.size = g0 at *
  generalize hs : w.heap.size = s at *
  have HSS := hide hs
  clear hs w1
  generalize hVn : V.length = Vn at *
  have HVN := hide hVn
  clear hVn
  go_loopg [10, 11, 12, 14] Vn (fun kk s10 s11 s12 s14 W => ∃ (wa : Option Addr) (wn wc : Nat), s10 = .slice wa wn wc ∧ Hid (SMid w c p ma ml me lk g O V x0 s (.slice wa wn wc) wn kk W))
  case atStart => exact ⟨some ⟨g0, 0, none⟩, 1, 1, rfl, unhide HM0⟩
  case round =>
    obtain ⟨wa, wn, wc, rfl, hR⟩ := hrel
    clear HM0
    obtain ⟨zs, ks, d, hwn, hzd, hkk, hP, hS, hC⟩ := unhide hR
    obtain ⟨x1, x2, x3, x4, x5, x6, x7, x8⟩ := unhide HX
    rcases List.eq_nil_or_concat ks with rfl | ⟨ks', x, rfl⟩
    · have hwz : wn = 0 := hwn
      subst hwz
      have HE : Hid (SprAns w c p ma ml me lk g O V x0 (.returned (.map (some s))) wr) := ⟨s, zs, rfl, hS.all hC, hS.nod, fun z hz => ⟨(hS.ok z hz).1, (hS.ok z hz).2.1⟩, hP.set, hP.new, by have := hP.box; rw [show d = zs.length by simp at hzd; omega] at this; exact this, hP.tur⟩
      clear hR hkk hP hS hC x1 x2 x3 x4 x5 x6 x7 x8 hzd hwn
      go_wp2_with fail
      go_ret
      exact unhide HE
    · rw [List.concat_eq_append] at hwn hzd hP hS hC
      obtain ⟨k, hk⟩ : ∃ k, k = ks'.length := ⟨_, rfl⟩
      have hwn1 : wn = k + 1 := by rw [hwn, hk]; simp
      have hzd1 : zs.length = k + 1 + d := by rw [hzd, hk]; simp
      obtain ⟨gw, hgw⟩ := brow_some hP.row (by simp)
      subst hgw
      have hcap2 : wn ≤ wc := row_cap hP.row
      obtain ⟨-, q1, hP1⟩ := hP.pop
      obtain ⟨hS1, hxz, hxk⟩ := hS.pop
      have hC1 := hC.pop
      have hxo := (hS.ok x hxz).2.1
      have hzl := hS.len x3
      rw [← hk] at q1 hP1
      have hE1 : EndsAt L a wr m f n g cn := x1.kept (fun b hbl hla => hP1.tur.block b hbl (fun e => x2 (by rw [← e]; exact hla)))
      obtain ⟨D1, hD1⟩ : ∃ D1, D1 = lk + (d : Int) := ⟨_, rfl⟩
      rw [← hD1] at hP1
      have CL := hide (klookS hE1 hP1.box x2 hxo (by omega) (by have := unhide HVN; omega))
      obtain ⟨d1, hd1⟩ : ∃ d1, d1 = d + 1 := ⟨_, rfl⟩
      have hD2 : D1 + 1 = lk + (d1 : Int) := by omega
      rw [hD2] at CL
      have hxc : c < w.heap.size := by rw [unhide HSS]; exact x8
      have hP2 := hP1.counted hxc (lk + (d1 : Int))
      obtain ⟨w3, hw3⟩ : ∃ w3, w3 = wr.setCell ⟨c, 4, none⟩ (.int .i64 (lk + (d1 : Int))) := ⟨_, rfl⟩
      rw [← hw3] at CL hP2
      have hE3 : EndsAt L a w3 m f n g cn := x1.kept (fun b hbl hla => hP2.tur.block b hbl (fun e => x2 (by rw [← e]; exact hla)))
      have HG : Hid (gk = V.length - d ∧ d1 = d + 1 ∧ zs.length = k + d1 ∧ zs.length ≤ V.length) := ⟨hkk, hd1, by omega, hzl⟩
      have HP2 : Hid (SPic w c p ma ml me (lk + (d1 : Int)) s (.slice (some ⟨gw, 0, none⟩) k wc) zs ks' w3 ∧ Srch (ArcG g) O V x0 zs ks' ∧ Clsd (ArcG g) O zs ks' (some x) ∧ x ∈ zs ∧ x ∉ ks' ∧ okN x ∧ k = ks'.length) := ⟨hP2, hS1, hC1, hxz, hxk, hxo, hk⟩
      have HE3 := hide hE3
      have z1 : (0 : Int) < (wn : Int) := by omega
      have z2 : wrap64 ((wn : Int) - 1) = (k : Int) := by have := unhide HVN; unfold wrap64; omega
      have z3 : (k : Int) < (wn : Int) := by omega
      have z4 : (k : Int) ≤ (wc : Int) := by omega
      have z5 : ¬ wc = 0 := by omega
      clear hR hkk hP hS hC x1 x2 x3 x4 x5 x6 x7 x8 hzd hwn hwn1 hzd1 hP1 hS1 hxz hxk hC1 hxo hzl hcap2 hE1 hD1 hd1 hD2 hxc hP2 hw3 hE3 hk
      go_wp2_with fail
      refine (unhide CL).mono ?_
      rintro e w4 ⟨rfl, rfl⟩
      clear CL z2
      cases hf : f x with
      | none =>
        have hrg := run_range_nilMap (P := Tryz.prog) w4 88 3 3 Tryz.underlying88
        have hnx : ∀ ty, (Instr.next (.pointer (some ⟨w4.heap.size, 0, none⟩)) false ty).run Tryz.prog (w4.alloc (.mapIter none 0 #[] 0)) = .ok (.tuple #[.bool false]) (w4.alloc (.mapIter none 0 #[] 0)) := fun ty => run_next_nilMap w4 ty 0 0 #[]
        have HD : Hid (SMid w c p ma ml me lk g O V x0 s (.slice (some ⟨gw, 0, none⟩) k wc) k (V.length - d1) (w4.alloc (.mapIter none 0 #[] 0))) := by
          obtain ⟨q1, q2, q3, q4, q5, q6, q7⟩ := unhide HP2
          obtain ⟨y1, y2, y3, y4⟩ := unhide HG
          refine ⟨zs, ks', d1, q7, by omega, rfl, q1.below (below_new _ _), q2, q3.done (fun q hq _ => ?_)⟩
          obtain ⟨e, he, hge⟩ := hq
          rw [(unhide HE3).non x q6 hf e he] at hge
          cases hge
        have HMS : Hid (V.length - d1 < gk) := by obtain ⟨y1, y2, y3, y4⟩ := unhide HG; show V.length - d1 < gk; omega
        clear hf HP2 HG HE3
        go_wp2_with fail
        refine wp_loop_rounds 1 ?_
        rw [rounds_succ]
        go_wp2_with fail
        go_roundg (V.length - d1)
        case measure => exact unhide HMS
        case rel => exact ⟨_, _, _, rfl, HD⟩
      | some b =>
        obtain ⟨q1, q2, q3, q4, q5, q6, q7⟩ := unhide HP2
        have hin := (unhide HE3).inn x b q6 hf
        obtain ⟨w5, hrg, hR5, hgr, hsz⟩ := hin.range (t := 88) (e := 3) Tryz.underlying88
        have hb5 : Below w4.heap.size w4 w5 := ⟨hgr.os, hgr.tape, hgr.output, hgr.size, fun k hk => hgr.block k hk (by simp)⟩
        obtain ⟨r, hr⟩ : ∃ r, r = w4.heap.size := ⟨_, rfl⟩
        rw [← hr] at hrg hR5
        have hbl : b < s ∧ b ≠ c := by
          have h5 := (unhide HX).1.inn x b q6 hf
          refine ⟨by have := h5.lt; have := unhide HSS; omega, fun e => (unhide HX).2.1 (by rw [← e]; exact (unhide HX).1.lb x b q6 hf)⟩
        have HI0 : Hid (SIn w c p ma ml me lk g O V x0 s x b r (cn x) d1 (.slice (some ⟨gw, 0, none⟩) k wc) (cn x) w5) := by
          refine ⟨zs, ks', _, by have := unhide HG; omega, q4, q5, q1.below hb5, q2, q3, hR5, fun e => ?_, by omega, fun e q he hl hg => ?_⟩
          · have := (q1.row.lt r e).2; omega
          · rw [hg] at hl; cases hl
        have HRS : Hid (s ≤ r ∧ okN x ∧ b < s ∧ b ≠ c ∧ w.heap.size = s ∧ c < s ∧ s < r) := ⟨by have := q1.tur.size; have := unhide HSS; omega, q6, hbl.1, hbl.2, unhide HSS, (unhide HX).2.2.2.2.2.2.2, by have := q1.set.lt; omega⟩
        have HMS : Hid (V.length - d1 < gk) := by obtain ⟨y1, y2, y3, y4⟩ := unhide HG; show V.length - d1 < gk; omega
        have HHR := hide hr
        clear hf HP2 HG HE3 q1 q2 q3 q4 q5 q6 q7 hin hR5 hgr hsz hb5 hbl
        rw [hr] at hrg
        clear hr
        generalize cn x = cx at *
        go_wp2_with fail
        rw [← unhide HHR]
        clear hrg HHR
        go_loopg [10, 14] cx (fun kk s10 s14 W => ∃ (wa : Option Addr) (wn wc : Nat), s10 = .slice wa wn wc ∧ Hid (SIn w c p ma ml me lk g O V x0 s x b r cx d1 (.slice wa wn wc) kk W))
        case atStart => exact ⟨_, _, _, rfl, unhide HI0⟩
        case round =>
          obtain ⟨wa, wn2, wc2, rfl, hR⟩ := hrel
          clear HI0
          obtain ⟨zs1, ks1, left, hzd, hxz, hxk, hP, hS, hC, hRg, hwr, hrl, hlf⟩ := unhide hR
          obtain ⟨y1, y2, y3, y4, y5, y6, y7⟩ := unhide HRS
          rcases hRg.next kitI 0 with ⟨hc0, hall, hrun⟩ | ⟨e, q, w6, c6, hoe, hle, hge, hrun, hen, hRg6, hlt, hgr, hsz⟩
          · have HD : Hid (SMid w c p ma ml me lk g O V x0 s (.slice wa wn2 wc2) wn2 (V.length - d1) wr) := by
              refine ⟨zs1, ks1, d1, ?_, hzd, rfl, hP, hS, hC.done (fun q hq ho => ?_)⟩
              · obtain ⟨yy, cc, ee, -⟩ := brow_shape hP.row
                exact slice_len ee
              · obtain ⟨e, he, hge⟩ := hq
                exact hlf e q he (hall e he) hge ho
            clear hR hzd hxz hxk hP hS hC hRg hwr hrl hlf y1 y2 y3 y4 y5 y6 y7 hall hc0
            go_wp2_with fail
            go_roundg (V.length - d1)
            case measure => exact unhide HMS
            case rel => exact ⟨_, _, _, rfl, HD⟩
          · replace hrun : (Instr.next (.pointer (some ⟨r, 0, none⟩)) false 0).run Tryz.prog wr = .ok (.tuple #[.bool true, .int .i64 e, .int .i64 q]) w6 := hrun
            replace hen : (Instr.entry (.pointer (some ⟨r, 0, none⟩))).run Tryz.prog w6 = .ok (.tuple #[.int .i64 e, .int .i64 q]) w6 := hen
            obtain ⟨hqV, hqo⟩ := (unhide HX).2.2.2.1 x e q y2 hoe hge
            have hP6 : SPic w c p ma ml me (lk + (d1 : Int)) s (.slice wa wn2 wc2) zs1 ks1 w6 := hP.grown hgr (by omega) (by omega) hwr (by omega)
            have CH := hide (kshasS hP6.set hqo)
            rw [memF_some] at CH
            have HIn : Hid (∀ W, SPic w c p ma ml me (lk + (d1 : Int)) s (.slice wa wn2 wc2) zs1 ks1 W → Below w6.heap.size w6 W → (q ∈ zs1 ∨ O q = false) → SIn w c p ma ml me lk g O V x0 s x b r cx d1 (.slice wa wn2 wc2) c6 W) := fun W hW hbW hq => by
              refine ⟨zs1, ks1, _, hzd, hxz, hxk, hW, hS, hC, hRg6.same (hbW.block b (by have := hP6.tur.size; omega)) (hbW.block r (by omega)), hwr, by have := hbW.size; omega, fun e' q' he' hl' hg' ho' => ?_⟩
              by_cases z : e' = e
              · subst z
                obtain rfl : q' = q := Option.some.inj (hg'.symm.trans hge)
                rcases hq with hq | hq
                · exact hq
                · rw [hq] at ho'; cases ho'
              · refine hlf e' q' he' ?_ hg' ho'
                have : (left e' && decide (e' ≠ e)) = false := hl'
                rw [decide_eq_true z, Bool.and_true] at this
                exact this
            have HAdd : Hid (∀ W W' a' n' c', SPic w c p ma ml me (lk + (d1 : Int)) s (.slice a' n' c') (zs1 ++ [q]) (ks1 ++ [q]) W' → Below w6.heap.size w6 W → q ∉ zs1 → O q = true → W'.heap[b]? = W.heap[b]? → W'.heap[r]? = W.heap[r]? → W.heap.size ≤ W'.heap.size → (Value.slice a' n' c').ownBlock ≠ some r → SIn w c p ma ml me lk g O V x0 s x b r cx d1 (.slice a' n' c') c6 W') := fun W W' a' n' c' hW hbW hq ho h1 h2 h3 h4 => by
              have hqx : q ≠ x := fun z => hq (by rw [z]; exact hxz)
              refine ⟨zs1 ++ [q], ks1 ++ [q], _, by simp; omega, List.mem_append.2 (.inl hxz), fun z => (List.mem_append.1 z).elim hxk (fun z => hqx (List.mem_singleton.1 z).symm), hW, hS.add hxz ⟨e, hoe, hge⟩ ho hqo hqV hq, hC.add, hRg6.same (h1.trans (hbW.block b (by have := hP6.tur.size; omega))) (h2.trans (hbW.block r (by omega))), h4, by have := hbW.size; omega, fun e' q' he' hl' hg' ho' => ?_⟩
              by_cases z : e' = e
              · subst z
                obtain rfl : q' = q := Option.some.inj (hg'.symm.trans hge)
                exact List.mem_append.2 (.inr (by simp))
              · refine List.mem_append.2 (.inl (hlf e' q' he' ?_ hg' ho'))
                have : (left e' && decide (e' ≠ e)) = false := hl'
                rw [decide_eq_true z, Bool.and_true] at this
                exact this
            have HP6 : Hid (SPic w c p ma ml me (lk + (d1 : Int)) s (.slice wa wn2 wc2) zs1 ks1 w6 ∧ okN q ∧ zs1.length ≤ V.length ∧ (Value.slice wa wn2 wc2).ownBlock ≠ some r ∧ ks1.length ≤ zs1.length ∧ r < w6.heap.size) := ⟨hP6, hqo, hS.len (unhide HX).2.2.1, hwr, by omega, by omega⟩
            have HC6 := hide hlt
            clear hR hzd hxz hxk hP hS hC hRg hwr hrl hlf y1 y2 y3 y4 y5 y6 y7 hoe hle hge hRg6 hlt hgr hsz hqV hqo hP6
            by_cases hqz : q ∈ zs1
            · rw [decide_eq_true hqz] at CH
              go_wp2_with fail
              refine (unhide CH).mono ?_
              rintro e7 w7 ⟨rfl, hb7⟩
              have HD := hide (unhide HIn w7 ((unhide HP6).1.below hb7) hb7 (.inl hqz))
              clear CH HIn HAdd HP6 hb7 hqz
              go_wp2_with fail
              go_roundg c6
              case measure => exact unhide HC6
              case rel => exact ⟨_, _, _, rfl, HD⟩
            · rw [decide_eq_false hqz] at CH
              go_wp2_with fail
              refine (unhide CH).mono ?_
              rintro e7 w7 ⟨rfl, hb7⟩
              have CO := hide (unhide HO q w7 ((unhide HP6).1.below hb7).tur (unhide HP6).2.1)
              have HB7 := hide hb7
              have HQZ := hide hqz
              clear CH hb7 hqz
              go_wp2_with fail
              refine (unhide CO).mono ?_
              rintro e8 w8 ⟨rfl, hb8⟩
              have hb68 := (unhide HB7).trans (hb8.mono (unhide HB7).size)
              have hP8 := (unhide HP6).1.below hb68
              clear CO
              cases hoq : O q with
              | false =>
                have HD := hide (unhide HIn w8 hP8 hb68 (.inr hoq))
                clear HIn HAdd HP6 hb8 hb68 hP8 HB7 HQZ
                go_wp2_with fail
                go_roundg c6
                case measure => exact unhide HC6
                case rel => exact ⟨_, _, _, rfl, HD⟩
              | true =>
                obtain ⟨t1, t2, t3, t4, t5, t6⟩ := unhide HP6
                have y := unhide HRS
                have hcw : c < w.heap.size := by omega
                have hvl := (unhide HX).2.2.2.2.1
                have hvn := unhide HVN
                obtain ⟨w9, r9, hP9, t9⟩ := hP8.add hcw t2 (unhide HQZ) (by omega)
                obtain ⟨a', n', c', w10, r10, hP10, t10, g10⟩ := hP9.app hcw q (by omega)
                have HR10 := hide r10
                have hs8 := hb68.size
                have hw9 : w8.heap.size = w9.heap.size := mapTurned_size t9
                have hne : (Value.slice a' n' c').ownBlock ≠ some r := fun z => by
                  rcases g10 r z with q1 | q1
                  · exact t4 q1
                  · omega
                have hbk : ∀ k, k < w8.heap.size → k ≠ s → (Value.slice wa wn2 wc2).ownBlock ≠ some k → w10.heap[k]? = w8.heap[k]? := fun k h1 h2 h3 => (t10.block k (by omega) h3).trans (heap_mapT t9 h2)
                have hbw : (Value.slice wa wn2 wc2).ownBlock ≠ some b := fun z => by have := (hP8.row.lt b z).1; omega
                have HD := hide (unhide HAdd w8 w10 a' n' c' hP10 hb68 (unhide HQZ) hoq (hbk b (by omega) (by omega) hbw) (hbk r (by omega) (by omega) t4) (by have := t10.size; omega) hne)
                clear HIn HAdd HP6 hb8 hb68 hP8 HB7 HQZ t1 t2 t3 t4 t5 t6 y hcw hvl hvn hP9 t9 r10 hP10 t10 g10 hs8 hw9 hne hbk hbw
                go_wp2_with (at_builtin; refine Lib.wpList_append_run _ rfl _ _ 25 25 rfl _ _ rfl rfl _ _ (unhide HR10 _) ?_)
                go_roundg c6
                case measure => exact unhide HC6
                case rel => exact ⟨_, _, _, rfl, HD⟩
end

section
open Go.RowKit Go.Maps
theorem jp_congr {S : List (Part Int)} {ks ls : List Int} (h : ∀ k, k ∈ ks ↔ k ∈ ls) (x y : Int) : JP S ks x y ↔ JP S ls x y := by
  unfold JP
  simp only [h]
/-- Those that v reaches. -/
def From (g : Int → Int → Option Int) (v : Int) (V zs : List Int) : Prop := (∀ z, z ∈ zs ↔ RI (fun p q => ArcG g p q ∧ (fun _ => true) q = true) v z) ∧ zs.Nodup ∧ ∀ z ∈ zs, z ∈ V ∧ okN z
/-- Those that reach u, by way of zs. -/
def Back (g : Int → Int → Option Int) (u : Int) (V zs rs : List Int) : Prop := (∀ z, z ∈ rs ↔ RI (fun p q => ArcG g p q ∧ (fun q => (memF zs q).isSome) q = true) u z) ∧ rs.Nodup ∧ ∀ z ∈ rs, z ∈ V ∧ okN z
/-- What joinRings leaves. -/
structure RAft (w : World) (c p m ma ml me : Nat) (lk : Int) (S S' : List (Part Int)) (w' : World) : Prop where
  box : w'.heap[c]? = some (oC p ma ml me lk)
  at_ : PAtN w' p m S'
  tur : Turned (fun b => b = c ∨ FootN p m S b) w w'
  foot : ∀ j, FootN p m S' j → FootN p m S j ∨ w.heap.size ≤ j
  tot_ : tot S' = tot S
def RAns (w : World) (c p m ma ml me : Nat) (lk : Int) (g1 g2 : Int → Int → Option Int) (V : List Int) (S : List (Part Int)) (u v : Int) (w' : World) : Prop :=
  ∃ zs, From g1 v V zs ∧ ((u ∉ zs ∧ RAft w c p m ma ml me (lk + (zs.length : Int)) S S w') ∨
    (u ∈ zs ∧ ∃ rs S', Back g2 u V zs rs ∧ RAft w c p m ma ml me (lk + (zs.length : Int) + (rs.length : Int)) S S' w' ∧ ∀ x y, SP S' x y ↔ JP S rs x y))
theorem yesS (v : Int) (W : World) : Calls Tryz.prog 58 #[.int .i64 v] W fun e w' => e = .returned (.bool true) ∧ Below W.heap.size W w' := by
  have HB : Hid (Below W.heap.size W W) := Below.refl _ _
  go_enter Tryz.func58, Tryz.ntmps58
  go_wp2_with fail
  go_ret
  exact ⟨rfl, unhide HB⟩
theorem len_in {l hs : List Int} (hn : l.Nodup) (hm : ∀ x ∈ l, x ∈ hs) : l.length ≤ hs.length := by
  induction l generalizing hs with
  | nil => exact Nat.zero_le _
  | cons a l ih =>
    obtain ⟨h1, h2⟩ := List.nodup_cons.1 hn
    have ha := hm a List.mem_cons_self
    have := ih (hs := hs.erase a) h2 (fun x hx => (List.mem_erase_of_ne (fun e => h1 (by rw [← e]; exact hx))).2 (hm x (List.mem_cons_of_mem _ hx)))
    rw [List.length_erase_of_mem ha] at this
    have h3 : 0 < hs.length := List.length_pos_of_mem ha
    simp; omega
set_option maxHeartbeats 4000000 in
set_option maxRecDepth 100000 in
theorem kjoinRingsS {L : Nat → Nat} {a1 a2 m ml me n1 n2 : Nat} {w : World} {f1 f2 : Int → Option Nat} {g1 g2 : Int → Int → Option Int} {cn1 cn2 : Int → Nat} {c p ma : Nat} {lk : Int} {S : List (Part Int)} {V : List Int} {u v : Int} (h1 : EndsAt L a1 w ml f1 n1 g1 cn1) (h2 : EndsAt L a2 w me f2 n2 g2 cn2) (hb : w.heap[c]? = some (oC p ma ml me lk)) (hc1 : L c ≠ a1) (hc2 : L c ≠ a2)
    (hP : PAtN w p m S) (hc : ¬ FootN p m S c) (hV : V.Nodup) (hVS : ∀ k ∈ V, SP S k k) (hn : tot S < 1099511627776) (hVl : V.length ≤ 100000) (hu : u ∈ V) (hv : v ∈ V) (hou : okN u) (hov : okN v)
    (hV1 : ∀ p e q, okN p → okN e → g1 p e = some q → q ∈ V ∧ okN q) (hV2 : ∀ p e q, okN p → okN e → g2 p e = some q → q ∈ V ∧ okN q) (hl : 0 ≤ lk) (hl2 : lk ≤ 1000000) :
    Calls Tryz.prog 36 #[.pointer (some ⟨c, 0, none⟩), .int .i64 u, .int .i64 v] w fun r w' => r = .returned (.tuple #[]) ∧ Hid (RAns w c p m ma ml me lk g1 g2 V S u v w') := by
  obtain ⟨-, -, c3, -, -, -⟩ := cellsC hb
  have hcl : c < w.heap.size := heap_lt hb
  have C1 := hide (kspreadS h1 hb hc1 hov hV hv hV1 hVl hl (by omega) (O := fun _ => true) (fk := 58) (fun _ _ => rfl) (fun v W _ _ => yesS v W))
  have HK : Hid (∀ W, Turned (fun b => b = c) w W → EndsAt L a2 W me f2 n2 g2 cn2 ∧ PAtN W p m S) := fun W ht =>
    ⟨h2.kept (fun b hbl hla => ht.block b hbl (fun e => hc2 (by rw [← e]; exact hla))), hP.kept (fun k hk => ht.block k (hP.lt hk) (fun e => hc (by rw [← e]; exact hk)))⟩
  have HX : Hid (V.Nodup ∧ (∀ k ∈ V, SP S k k) ∧ tot S < 1099511627776 ∧ V.length ≤ 100000 ∧ u ∈ V ∧ okN u ∧ (∀ p e q, okN p → okN e → g2 p e = some q → q ∈ V ∧ okN q) ∧ 0 ≤ lk ∧ lk ≤ 1000000 ∧ L c ≠ a2 ∧ ¬ FootN p m S c ∧ c < w.heap.size) := ⟨hV, hVS, hn, hVl, hu, hou, hV2, hl, hl2, hc2, hc, hcl⟩
  clear h1 h2 hb hc1 hc2 hP hc hV hVS hn hVl hu hv hou hov hV1 hV2 hl hl2 hcl
  go_enter Tryz.func36, Tryz.ntmps36
  go_wp2_with fail
  refine (unhide C1).mono ?_
  intro r w1 hA
  obtain ⟨s, zs, rfl, z1, z2, z3, z4, z5, z6, z7⟩ := unhide hA
  clear C1 hA c3
  have C2 := hide (kshasS z4 (unhide HX).2.2.2.2.2.1)
  rw [memF_some] at C2
  have HZ : Hid (From g1 v V zs ∧ SetAt w1 s (memF zs) zs.length ∧ w.heap.size ≤ s ∧ w1.heap[c]? = some (oC p ma ml me (lk + (zs.length : Int))) ∧ Turned (fun b => b = c) w w1) := ⟨⟨z1, z2, z3⟩, z4, z5, z6, z7⟩
  clear z1 z2 z3 z4 z5 z6 z7
  go_wp2_with fail
  refine (unhide C2).mono ?_
  rintro e w2 ⟨rfl, hB2⟩
  clear C2
  obtain ⟨k1, k2, k3, k4, k5⟩ := unhide HZ
  have hT2 : Turned (fun b => b = c) w w2 := k5.trans (turned_of_below hB2)
  have b2 := (hB2.block c (heap_lt k4)).trans k4
  have s2 := k2.kept (hB2.block s k2.lt)
  obtain ⟨E2, P2⟩ := unhide HK w2 hT2
  by_cases hus : u ∈ zs
  · rw [decide_eq_true hus]
    obtain ⟨x1, x2, x3, x4, x5, x6, x7, x8, x9, x10, x11, x12⟩ := unhide HX
    have hzl : zs.length ≤ V.length := len_in k1.2.1 (fun z hz => (k1.2.2 z hz).1)
    have hcs : s ≠ c := by omega
    have C3 := hide (kspreadV E2 b2 x10 x6 x1 x5 x7 x4 (by omega) (by omega) (O := fun q => (memF zs q).isSome) (fk := 59) (pv := .map (some s)) (fun _ _ => rfl) (fun v W ht hv => kshasS (s2.kept (ht.block s s2.lt (fun e => hcs e))) hv))
    obtain ⟨-, -, -, c4, -, -⟩ := cellsC b2
    have HZ2 : Hid (From g1 v V zs ∧ Turned (fun b => b = c) w w2 ∧ u ∈ zs) := ⟨k1, hT2, hus⟩
    clear HZ k1 k2 k3 k4 k5 hB2 hT2 b2 s2 E2 P2 hus x1 x2 x3 x4 x5 x6 x7 x8 x9 x10 x11 x12 hzl hcs
    go_wp2_with fail
    refine (unhide C3).mono ?_
    intro r w3 hA
    obtain ⟨s3, rs, rfl, z1, z2, z3, z4, z5, z6, z7⟩ := unhide hA
    clear C3 hA c4
    have hT3 : Turned (fun b => b = c) w w3 := (unhide HZ2).2.1.trans z7
    have hrl : rs.length ≤ V.length := len_in z2 (fun z hz => (z3 z hz).1)
    have C5 := hide (ksortedS z4 (fun k hk => by
      by_cases hm : k ∈ rs
      · exact (z3 k hm).2
      · exact absurd (memF_out hm) hk) (by have := (unhide HX).2.2.2.1; omega))
    have HZ3 : Hid (Back g2 u V zs rs ∧ w3.heap[c]? = some (oC p ma ml me (lk + (zs.length : Int) + (rs.length : Int))) ∧ Turned (fun b => b = c) w w3 ∧ rs.length ≤ V.length) := ⟨⟨z1, z2, z3⟩, z6, hT3, hrl⟩
    clear z1 z2 z3 z4 z5 z6 z7 hT3 hrl
    go_wp2_with fail
    refine (kkeysS _ _).mono ?_
    rintro e w' ⟨rfl, rfl⟩
    go_wp2_with fail
    refine (unhide C5).mono ?_
    rintro e w4 ⟨vv, vs, rfl, y1, y2, y3, y4, y5⟩
    clear C5
    obtain ⟨q1, q2, q3, q4⟩ := unhide HZ3
    have hmem : ∀ k, k ∈ vs ↔ k ∈ rs := fun k => by
      rw [y3 k]
      by_cases hm : k ∈ rs
      · simp [memF_in hm, hm]
      · simp [memF_out hm, hm]
    obtain ⟨x0, xs, hvs⟩ : ∃ x0 xs, vs = x0 :: xs := by
      cases vs with
      | nil => exact absurd ((hmem u).2 ((q1.1 u).2 (RI.refl _ u))) (by simp)
      | cons x0 xs => exact ⟨x0, xs, rfl⟩
    subst hvs
    obtain ⟨x1, x2, x3, x4, x5, x6, x7, x8, x9, x10, x11, x12⟩ := unhide HX
    have hT4 : Turned (fun b => b = c) w w4 := q3.trans (turned_of_below y5)
    have b4 := (y5.block c (heap_lt q2)).trans q2
    have P4 := (unhide HK w4 hT4).2
    have P3 := (unhide HK w3 q3).2
    have C6 := hide (kjoinAllS b4 P4 (brow_at0 y1) x11 (fun b e hf => by have := (y1.lt b e).1; have := P3.lt hf; omega) (fun k hk => x2 k (q1.2.2 k ((hmem k).1 hk)).1) x3 (by simp at y4; omega))
    have HF : Hid (∀ W, JAns w4 p m S (x0 :: xs) W → RAns w c p m ma ml me lk g1 g2 V S u v W) := fun W hJ => by
      obtain ⟨S', hN, hS⟩ := hJ
      obtain ⟨o1, o2, o3⟩ := unhide HZ2
      refine ⟨zs, o1, .inr ⟨o3, rs, S', q1, ⟨(hN.tur.block c (heap_lt b4) x11).trans b4, hN.at_, (hT4.mono (fun k _ e => .inl e)).trans (hN.tur.mono (fun k _ e => .inr e)), fun j hj => (hN.foot j hj).imp id (fun e => Nat.le_trans hT4.size e), hN.tot_⟩, fun x y => (hS x y).trans (jp_congr hmem x y)⟩⟩
    clear HZ3 HZ2 HX HK q1 q2 q3 q4 hmem x1 x2 x3 x4 x5 x6 x7 x8 x9 x10 x11 x12 hT4 b4 P4 P3 y1 y2 y3 y4 y5
    go_wp2_with fail
    refine (unhide C6).mono ?_
    rintro e w5 ⟨rfl, hJ⟩
    clear C6
    have HR := hide (unhide HF w5 (unhide hJ))
    clear HF hJ
    go_wp2_with fail
    go_end0
    exact ⟨rfl, unhide HR⟩
  · rw [decide_eq_false hus]
    have HR : Hid (RAns w c p m ma ml me lk g1 g2 V S u v w2) := ⟨zs, k1, .inl ⟨hus, b2, P2, hT2.mono (fun k _ e => .inl e), fun j hj => .inl hj, rfl⟩⟩
    clear HZ k1 k2 k3 k4 k5 hB2 hT2 b2 s2 E2 P2 hus HX HK
    go_wp2_with fail
    refine bodyPost_ret (results_none rfl _ _ _) rfl ?_
    exact ⟨rfl, unhide HR⟩
end

section
open Go.RowKit Go.Maps
set_option maxHeartbeats 1000000 in
set_option maxRecDepth 100000 in
theorem kSameF {w : World} {c p ma ml me : Nat} {lk : Int} {a : Int} {b : Int} {Q : Bool → World → Prop} (hb : w.heap[c]? = some (oC p ma ml me lk)) (h : Calls Tryz.prog 46 #[.pointer (some ⟨p, 0, none⟩), .int .i64 a, .int .i64 b] w fun e w' => ∃ t, e = .returned (.bool t) ∧ Hid (Q t w')) :
    Calls Tryz.prog 23 #[.pointer (some ⟨c, 0, none⟩), .int .i64 a, .int .i64 b] w fun e w' => ∃ t, e = .returned (.bool t) ∧ Hid (Q t w') := by
  obtain ⟨c1, -⟩ := cellsC hb
  have C := hide h
  clear h hb
  go_enter Tryz.func23, Tryz.ntmps23
  go_wp2_with fail
  refine (unhide C).mono ?_
  rintro e w' ⟨t, rfl, HQ⟩
  clear C c1
  go_wp2_with fail
  go_ret
  exact ⟨_, rfl, HQ⟩
set_option maxHeartbeats 1000000 in
set_option maxRecDepth 100000 in
theorem kAddVertexF {w : World} {c p ma ml me : Nat} {lk : Int} {a : Int} {Q : Bool → World → Prop} (hb : w.heap[c]? = some (oC p ma ml me lk)) (h : Calls Tryz.prog 33 #[.pointer (some ⟨p, 0, none⟩), .int .i64 a] w fun e w' => ∃ t, e = .returned (.bool t) ∧ Hid (Q t w')) :
    Calls Tryz.prog 13 #[.pointer (some ⟨c, 0, none⟩), .int .i64 a] w fun e w' => ∃ t, e = .returned (.bool t) ∧ Hid (Q t w') := by
  obtain ⟨c1, -⟩ := cellsC hb
  have C := hide h
  clear h hb
  go_enter Tryz.func13, Tryz.ntmps13
  go_wp2_with fail
  refine (unhide C).mono ?_
  rintro e w' ⟨t, rfl, HQ⟩
  clear C c1
  go_wp2_with fail
  go_ret
  exact ⟨_, rfl, HQ⟩
set_option maxHeartbeats 1000000 in
set_option maxRecDepth 100000 in
theorem kHeadF {w : World} {c p ma ml me : Nat} {lk : Int} {a : Int} {Q : Int → Bool → World → Prop} (hb : w.heap[c]? = some (oC p ma ml me lk)) (h : Calls Tryz.prog 45 #[.pointer (some ⟨p, 0, none⟩), .int .i64 a] w fun e w' => ∃ k t, e = .returned (.tuple #[.int .i64 k, .bool t]) ∧ Hid (Q k t w')) :
    Calls Tryz.prog 22 #[.pointer (some ⟨c, 0, none⟩), .int .i64 a] w fun e w' => ∃ k t, e = .returned (.tuple #[.int .i64 k, .bool t]) ∧ Hid (Q k t w') := by
  obtain ⟨c1, -⟩ := cellsC hb
  have C := hide h
  clear h hb
  go_enter Tryz.func22, Tryz.ntmps22
  go_wp2_with fail
  refine (unhide C).mono ?_
  rintro e w' ⟨k, t, rfl, HQ⟩
  clear C c1
  go_wp2_with fail
  go_ret2
  exact ⟨_, _, rfl, HQ⟩
set_option maxHeartbeats 1000000 in
set_option maxRecDepth 100000 in
theorem kMembersF {w : World} {c p ma ml me : Nat} {lk : Int} {a : Int} {Q : Value → World → Prop} (hb : w.heap[c]? = some (oC p ma ml me lk)) (h : Calls Tryz.prog 32 #[.pointer (some ⟨p, 0, none⟩), .int .i64 a] w fun e w' => ∃ v, e = .returned (v) ∧ Hid (Q v w')) :
    Calls Tryz.prog 11 #[.pointer (some ⟨c, 0, none⟩), .int .i64 a] w fun e w' => ∃ v, e = .returned (v) ∧ Hid (Q v w') := by
  obtain ⟨c1, -⟩ := cellsC hb
  have C := hide h
  clear h hb
  go_enter Tryz.func11, Tryz.ntmps11
  go_wp2_with fail
  refine (unhide C).mono ?_
  rintro e w' ⟨v, rfl, HQ⟩
  clear C c1
  go_wp2_with fail
  go_ret
  exact ⟨_, rfl, HQ⟩
theorem kSameS {w : World} {c p m ma ml me : Nat} {lk : Int} {S : List (Part Int)} {a b : Int} (hb : w.heap[c]? = some (oC p ma ml me lk)) (hP : PAtN w p m S) (ha : okN a) (hbb : okN b) :
    Calls Tryz.prog 23 #[.pointer (some ⟨c, 0, none⟩), .int .i64 a, .int .i64 b] w fun e w' => ∃ t, e = .returned (.bool t) ∧ Hid ((t = true ↔ SP S a b) ∧ w' = w) := by
  refine kSameF (Q := fun t w' => (t = true ↔ SP S a b) ∧ w' = w) hb ((sameN a b w hP ha hbb).mono fun e w' hh => ⟨_, hh.1, ?_, hh.2⟩)
  constructor
  · intro h
    obtain ⟨h1, h2⟩ := Bool.and_eq_true_iff.1 h
    obtain ⟨q, hq⟩ := Option.isSome_iff_exists.1 h1
    obtain ⟨x, hx, ax, e1⟩ := fOf_mem hq
    obtain ⟨y, hy, by_, e2⟩ := fOf_mem ((eq_of_beq h2).symm.trans hq)
    rcases hP.fam.of hx hy with rfl | hap
    · exact ⟨x, hx, ax, by_⟩
    · exact absurd (e1.trans e2.symm) hap.1
  · rintro ⟨z, hz, h1, h2⟩
    rw [fOf_some hP.fam hz h1, fOf_some hP.fam hz h2]
    simp
theorem kHeadS {w : World} {c p m ma ml me : Nat} {lk : Int} {S : List (Part Int)} {a : Int} (hb : w.heap[c]? = some (oC p ma ml me lk)) (hP : PAtN w p m S) (ha : okN a) :
    Calls Tryz.prog 22 #[.pointer (some ⟨c, 0, none⟩), .int .i64 a] w fun e w' => ∃ k t, e = .returned (.tuple #[.int .i64 k, .bool t]) ∧ Hid (((t = false ∧ k = 0 ∧ ¬ SP S a a) ∨ (t = true ∧ SP S a k ∧ ∀ y, SP S a y → k ≤ y)) ∧ w' = w) := by
  by_cases hs : SP S a a
  · obtain ⟨x, hx, hk, -⟩ := hs
    refine kHeadF (Q := fun k t w' => ((t = false ∧ k = 0 ∧ ¬ SP S a a) ∨ (t = true ∧ SP S a k ∧ ∀ y, SP S a y → k ≤ y)) ∧ w' = w) hb ((headN a w hP hx hk).mono fun e w' hh => ⟨_, _, hh.1, .inr ⟨rfl, ?_⟩, hh.2⟩)
    have hr := hP.fam.rise x hx
    obtain ⟨k0, l, e⟩ : ∃ k0 l, x.ks = k0 :: l := List.exists_cons_of_ne_nil (hP.fam.some_ x hx)
    rw [e]
    show SP S a k0 ∧ ∀ y, SP S a y → k0 ≤ y
    refine ⟨⟨x, hx, hk, by rw [e]; exact List.mem_cons_self⟩, fun y ⟨z, hz, h1, h2⟩ => ?_⟩
    rcases hP.fam.of hx hz with rfl | hap
    · rw [e] at h2 hr
      rcases List.mem_cons.1 h2 with rfl | h2
      · exact Int.le_refl _
      · have := (List.pairwise_cons.1 hr).1 y h2
        simp [ltN] at this
        omega
    · exact absurd h1 (hap.2.2 _ hk)
  · refine kHeadF (Q := fun k t w' => ((t = false ∧ k = 0 ∧ ¬ SP S a a) ∨ (t = true ∧ SP S a k ∧ ∀ y, SP S a y → k ≤ y)) ∧ w' = w) hb ((headNoN a w hP ha (fun x hx hk => hs ⟨x, hx, hk, hk⟩)).mono fun e w' hh => ⟨_, _, hh.1, .inl ⟨rfl, rfl, hs⟩, hh.2⟩)
set_option maxHeartbeats 1000000 in
set_option maxRecDepth 100000 in
theorem khasS {w : World} {c p m ma ml me : Nat} {lk : Int} {S : List (Part Int)} {a : Int} (hb : w.heap[c]? = some (oC p ma ml me lk)) (hP : PAtN w p m S) (ha : okN a) :
    Calls Tryz.prog 34 #[.pointer (some ⟨c, 0, none⟩), .int .i64 a] w fun e w' => ∃ t, e = .returned (.bool t) ∧ Hid ((t = true ↔ SP S a a) ∧ w' = w) := by
  have C := hide (kHeadS hb hP ha)
  clear hb hP ha
  go_enter Tryz.func34, Tryz.ntmps34
  go_wp2_with fail
  refine (unhide C).mono ?_
  rintro e w' ⟨k, t, rfl, HQ⟩
  clear C
  have HR : Hid ((t = true ↔ SP S a a) ∧ w' = w) := by
    obtain ⟨h, e⟩ := unhide HQ
    refine ⟨?_, e⟩
    rcases h with ⟨rfl, -, hn⟩ | ⟨rfl, ⟨z, hz, h1, -⟩, -⟩
    · simp [hn]
    · exact ⟨fun _ => ⟨z, hz, h1, h1⟩, fun _ => rfl⟩
  clear HQ
  go_wp2_with fail
  go_ret
  exact ⟨t, rfl, HR⟩
end

end Go.Proofs.YtkmhcgmmbkchaaaGreat

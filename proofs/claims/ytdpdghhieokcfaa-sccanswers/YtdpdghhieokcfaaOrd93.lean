/- order walked. -/
import Derived.Test.YtdpdghhieokcfaaOrd92
namespace Go.Proofs.Ytdpdghhieokcfaa
open Go.RowKit Go.Maps T9
theorem LLat.low {B B' a : Nat} {L : Nat → Nat} {w : World} {v : Value} {vs : List Value} {xss : List (List Int)} (h : LLat B' L a w v vs xss) (hb : B ≤ B') : LLat B L a w v vs xss :=
  ⟨⟨h.outer.1, h.outer.2.imp id (fun ⟨g, cap, cur, e, q, r⟩ => ⟨g, cap, cur, e, Nat.le_trans hb q, r⟩)⟩, fun i x ks h1 h2 => brow_low (h.inner i x ks h1 h2) hb, h.lo, h.li⟩
theorem LLat.relabel {B a : Nat} {L L' : Nat → Nat} {w : World} {v : Value} {vs : List Value} {xss : List (List Int)} (h : LLat B L a w v vs xss) (he : ∀ b, B ≤ b → b < w.heap.size → L' b = L b) : LLat B L' a w v vs xss :=
  ⟨h.outer, h.inner, fun b e => (he b (h.outlt e).1 (h.outlt e).2).trans (h.lo b e), fun i x b hi e => (he b (h.inlt hi e).1 (h.inlt hi e).2).trans (h.li i x b hi e)⟩
/-- As it begins. -/
theorem o1_start [Inhabited EntI] {w w1 w2 w3 : World} {n : Nat} {nx : Nat → List Nat} {h : Nat → Nat} {hvv ov wv : Value} {p : Nat} {F : Nat → Prop} (hb1 : Below w.heap.size w w1) (hr1 : BRow w.heap.size w1 hvv (rowI n (fun q => ((h q : Nat) : Int)))) (hB : BetAns w1 n (arcsOf h nx n) ov wv w2) (hb3 : Below w2.heap.size w2 w3) (ho : OnI w3 p F [] 0) (hF : ∀ j, F j → w2.heap.size ≤ j) :
    ∃ gv go ovs, ov = .slice (some ⟨go, 0, none⟩) n n ∧ wv = .slice (some ⟨gv, 0, none⟩) n n ∧ O1 ⟨w, n, nx, h, hvv, gv, go, p, ovs⟩ 0 w3 := by
  obtain ⟨go, gv, L, ovs, rfl, rfl, hM⟩ := hB
  have hb2 := hM.below
  have s1 := hb1.size
  have s2 := hb2.size
  have s3 := hb3.size
  refine ⟨gv, go, ovs, rfl, rfl, [], 0, ⟨fun b => if b < w1.heap.size then 3 else if b < w2.heap.size then L b else 5, F, ⟨?_, ?_, ?_, ⟨rfl, .inl ⟨rfl, rfl⟩⟩, ho, ?_, ?_, fun b e => (by cases e), ?_, (hb1.trans (hb2.mono s1)).trans (hb3.mono (by omega)), fun b e => by have := hF b e; show w.heap.size ≤ b; omega⟩⟩, ⟨fun x hx => (by cases hx), fun m hm => absurd hm.1 (Nat.not_lt_zero _)⟩, rfl⟩
  · exact ((hM.ll.relabel (fun b h1 h2 => by show (if b < w1.heap.size then 3 else if b < w2.heap.size then L b else 5) = L b; rw [if_neg (by omega), if_pos h2])).below hb3).low s1
  · exact brow_low (brow_kept hM.wr (fun b e => hb3.block b (hM.wr.lt b e).2)) s1
  · exact brow_kept hr1 (fun b e => (hb3.block b (by have := (hr1.lt b e).2; omega)).trans (hb2.block b (hr1.lt b e).2))
  · intro b e
    have h1 := hM.wr.lt b e
    show (if b < w1.heap.size then 3 else if b < w2.heap.size then L b else 5) = 2
    rw [if_neg (by omega), if_pos h1.2]; exact hM.l2 b e
  · intro b e; exact if_pos (hr1.lt b e).2
  · intro b e
    have h1 := hF b e
    show (if b < w1.heap.size then 3 else if b < w2.heap.size then L b else 5) = 5
    rw [if_neg (by omega), if_neg (by omega)]
set_option maxHeartbeats 8000000 in
set_option maxRecDepth 100000 in
theorem orderS [Inhabited EntI] {w : World} {gb : Nat} {vv nv : Value} {V : List Int} {nx : Nat → List Nat} (hG : GAt w gb vv nv V nx) (hnx : ∀ p, p < V.length → ∀ q ∈ nx p, q < V.length) (hn : V.length ≤ 100000) (hl : ∀ p, p < V.length → (nx p).length ≤ 1000000) (har : ∀ h, (arcsOf h nx V.length).length ≤ 1000000) :
    Calls Try.prog 23 #[.pointer (some ⟨gb, 0, none⟩)] w fun e w' => Hid (∃ v, e = .returned v ∧ OrAns w V nx v w') := by
  obtain ⟨n, hne⟩ : ∃ n, n = V.length := ⟨_, rfl⟩
  have HNE := hide hne
  obtain ⟨xvv, xcv, hve, -⟩ := brow_shape hG.vr
  rw [← hne] at hve
  subst hve
  obtain ⟨c0, c1, -⟩ := cellsG9 hG.box
  have CH : Hid (Calls Try.prog 32 #[nv] w fun e w' => Hid (∃ hv, e = .returned hv ∧ HeadsAns w nx n hv w')) := by
    have h2 := hG.nx
    rw [← hne] at h2 hnx hl
    exact headsOfS h2 hnx (by omega) hl
  have HG := hide hG
  have HX := hide (And.intro hnx (And.intro hn (And.intro hl har)))
  clear hG hnx hn hl har hne
  go_enter Try.func23, Try.ntmps23
  go_wp2_with fail
  refine (unhide CH).mono ?_
  intro r w1 hh
  obtain ⟨hvv, rfl, h, hH, hle, hb1, hr1⟩ := unhide hh
  clear CH hh c0 c1
  obtain ⟨hx, hc, rfl, -⟩ := brow_shape hr1
  rw [rowI_len] at hr1 ⊢
  have hG1 := (unhide HG).below hb1
  obtain ⟨-, c1, -⟩ := cellsG9 hG1.box
  have CB : Hid (Calls Try.prog 33 #[nv, .slice hx n hc] w1 fun e w' => Hid (∃ ov wv, e = .returned (.tuple #[ov, wv]) ∧ BetAns w1 n (arcsOf h nx n) ov wv w')) := by
    obtain ⟨hnx, hn, hl, har⟩ := unhide HX
    have h2 := hG1.nx
    have har := har h
    rw [← unhide HNE] at h2 hnx hl hn har
    exact betweenS h2 (brow_at0 hr1) hle hnx hn hl har
  have HH := hide (And.intro hH (And.intro hle (And.intro hb1 hr1)))
  clear hH hle hb1 hr1 hG1
  go_wp2_with fail
  refine (unhide CB).mono ?_
  intro r w2 hh
  obtain ⟨ov, wv, rfl, hBA⟩ := unhide hh
  clear CB hh c1
  have CN := hide (newOnI 35 w2 lessCmp)
  have HBA := hide hBA
  clear hBA
  go_wp2_with fail
  refine (unhide CN).mono ?_
  intro r w3 hh
  obtain ⟨rfl, hb3, F, ho, hF⟩ := hh
  clear CN
  obtain ⟨hH, hle, hb1, hr1⟩ := unhide HH
  obtain ⟨gv, go, ovs, rfl, rfl, hO⟩ := o1_start hb1 hr1 (unhide HBA) hb3 ho hF
  obtain ⟨p, hp⟩ : ∃ p, p = w2.heap.size + 1 := ⟨_, rfl⟩
  rw [← hp] at hO ⊢
  have HO := hide hO
  have HGD : Hid (OF.Good ⟨w, n, nx, h, .slice hx n hc, gv, go, p, ovs⟩) := by
    obtain ⟨hnx, hn, hl, har⟩ := unhide HX
    have har := har h
    rw [← unhide HNE] at hnx hn har
    exact ⟨hn, hle, hH.onward hnx, har⟩
  clear hH hle hb1 hr1 hb3 ho hF hO HBA hp
  obtain ⟨Z, hZ⟩ : ∃ Z : OF, Z = ⟨w, n, nx, h, .slice hx n hc, gv, go, p, ovs⟩ := ⟨_, rfl⟩
  rw [← hZ] at HO HGD
  have HZ := hide hZ
  clear hZ
  go_upto_region 5 with fail
  go_loopw [32, 7, 8] (fun s32 s7 s8 wr => ∃ k : Nat, s32 = .int .i64 (k : Nat) ∧ k ≤ n ∧ Hid (O1 Z k wr)) (fun s32 _ _ _ => n - (intOf s32).toNat)
  case atStart => exact ⟨0, rfl, Nat.zero_le _, HO⟩
  case round =>
    obtain ⟨k, rfl, hkn, hO⟩ := hrel
    by_cases hlt : k < n
    · obtain ⟨ms, hn, ⟨L, F', hM⟩, -⟩ := id (unhide hO)
      have hGd := unhide HGD
      have hZ := unhide HZ
      rw [hZ] at hM
      dsimp only at hM
      have hle := hGd.le
      rw [hZ] at hle
      dsimp only at hle
      obtain ⟨gh, hgh⟩ := brow_some hM.hr (by rw [rowI_len]; omega)
      subst hgh
      have d1 := brow_at hM.hr (rowI_at (fun p => ((h p : Nat) : Int)) hlt)
      have hhk : h k < n := by have := hle k; omega
      have d2 := brow_at hM.wr (rowI_at _ hhk)
      obtain ⟨t0, ht0⟩ : ∃ t0, t0 = wtOf Z.ar (h k) := ⟨_, rfl⟩
      have d2' : wr.cell? ⟨gv, h k, none⟩ = some (.int .i64 (t0 : Nat)) := by rw [ht0, hZ]; exact d2
      have z0 : (k : Int) < (n : Int) := by omega
      have z1 : ((h k : Nat) : Int) < (n : Int) := by omega
      have hnb : n ≤ 100000 := by have := hGd.small; rw [hZ] at this; exact this
      obtain ⟨k1, hk1⟩ : ∃ k1, k1 = k + 1 := ⟨_, rfl⟩
      have zw : Hid (wrap64 ((k : Int) + 1) = (k1 : Int)) := by show wrap64 ((k : Int) + 1) = (k1 : Int); unfold wrap64; omega
      have HJ : Hid (k1 ≤ n ∧ n - k1 < n - k) := ⟨by omega, by omega⟩
      have hzh : ∀ q, Z.h q = h q := fun q => by rw [hZ]
      have hzn : Z.n = n := by rw [hZ]
      have hzp : Z.p = p := by rw [hZ]
      by_cases hkk : h k = k
      · have hz1 : (((h k : Nat) : Int) == (k : Int)) = true := by simp [hkk]
        by_cases hw0 : t0 = 0
        · have hz2 : (((t0 : Nat) : Int) == 0) = true := by simp [hw0]
          have CP : Hid (Calls Try.prog 36 #[.pointer (some ⟨p, 0, none⟩), .int .i64 (h k : Nat), .int .i64 (h k : Nat)] wr fun e w' => e = .returned (.bool true) ∧ Hid (O1 Z k1 w')) := by
            show Calls _ _ _ _ _
            rw [hkk, hk1, ← hzp]
            exact o1_push hGd (unhide hO) (by rw [hzn]; exact hlt) (by rw [hzh]; exact hkk) (by rw [← hw0, ht0, hkk])
          generalize h k = hk at *
          clear hM hGd hZ hle hO d2 hhk hnb hk1 hlt hkn hkk hw0 hzh hzn hzp ht0 HO
          go_wp2_with fail
          refine (unhide CP).mono ?_
          rintro e w4 ⟨rfl, hh⟩
          go_wp2_with fail
          rw [unhide zw]
          exact ⟨⟨k1, rfl, (unhide HJ).1, hh⟩, by have := (unhide HJ).2; simp [intOf]; omega⟩
        · have hz2 : (((t0 : Nat) : Int) == 0) = false := by simp; omega
          have HO1 : Hid (O1 Z k1 wr) := by rw [hk1]; exact o1_skip (unhide hO) (fun q => hw0 (by rw [ht0, hkk]; exact q.2))
          generalize h k = hk at *
          clear hM hGd hZ hle hO d2 hhk hnb hk1 hlt hkn hkk hw0 hzh hzn hzp ht0 HO
          go_wp2_with fail
          rw [unhide zw]
          exact ⟨⟨k1, rfl, (unhide HJ).1, HO1⟩, by have := (unhide HJ).2; simp [intOf]; omega⟩
      · have hz1 : (((h k : Nat) : Int) == (k : Int)) = false := by simp; omega
        have HO1 : Hid (O1 Z k1 wr) := by rw [hk1]; exact o1_skip (unhide hO) (fun q => hkk (by rw [← hzh]; exact q.1))
        generalize h k = hk at *
        clear hM hGd hZ hle hO d2 hhk hnb hk1 hlt hkn hkk hzh hzn hzp ht0 HO d2'
        go_wp2_with fail
        rw [unhide zw]
        exact ⟨⟨k1, rfl, (unhide HJ).1, HO1⟩, by have := (unhide HJ).2; simp [intOf]; omega⟩
    · have z0 : ¬ (k : Int) < (n : Int) := by omega
      obtain rfl : n = k := by omega
      have CP : Hid (Calls Try.prog 37 #[.pointer (some ⟨p, 0, none⟩)] wr fun e w' => Hid (∃ a b c, e = .returned (.tuple #[a, b, c]) ∧ PS Z V [] (.slice none 0 0) a c w')) := by
        have h1 := unhide hO
        have hZ := unhide HZ
        have hzn : Z.n = n := by rw [hZ]
        have hzp : Z.p = p := by rw [hZ]
        show Calls _ _ _ _ _
        rw [← hzp]
        rw [← hzn] at h1
        exact popO (unhide HGD) (o1_done h1)
      clear hO hlt hkn HO
      go_wp2_with fail
      refine (unhide CP).mono ?_
      intro r w4 hh
      obtain ⟨pa, pb, pc, rfl, hPS⟩ := unhide hh
      clear CP hh z0
      have HPS := hide hPS
      clear hPS
      go_upto_region 12 with fail
      go_loopg [9, 10, 12] n (fun kk s9 s10 s12 wr => ∃ (T : List Nat) (tx : Option Addr) (tm tc : Nat), s9 = .slice tx tm tc ∧ Hid (kk = n - T.length ∧ PS Z V T (.slice tx tm tc) s10 s12 wr))
      case atStart => exact ⟨[], none, 0, 0, rfl, rfl, unhide HPS⟩
      case round =>
        obtain ⟨T, tx, tm, tc, rfl, hR⟩ := hrel
        obtain ⟨hkk, hPS⟩ := unhide hR
        have hZ := unhide HZ
        have hGd := unhide HGD
        have hzn : Z.n = n := by rw [hZ]
        have hzp : Z.p = p := by rw [hZ]
        have hnb : n ≤ 100000 := by have := hGd.small; rw [hzn] at this; exact this
        rcases hPS with ⟨u, rfl, rfl, hO2⟩ | ⟨rfl, rfl, hOE⟩
        · have hTd := hO2.1
          have hFu := hO2.2.1
          have hun : u < n := by have := hs_lt hFu.1; omega
          have hTn : T.length + 1 ≤ n := by
            have := told_len (T9.Told.next hTd hFu hO2.2.2.1)
            simp at this; omega
          obtain ⟨gx, hgx⟩ : ∃ gx, xvv = some ⟨gx, 0, none⟩ := brow_some (unhide HG).vr (by have := unhide HNE; omega)
          subst hgx
          have hB4 : Below w.heap.size w wr := by
            obtain ⟨-, -, -, ms, hn, ⟨L, F', hM⟩, -⟩ := hO2
            have := hM.below
            rw [hZ] at this; exact this
          have hG4 := (unhide HG).below hB4
          obtain ⟨b0, -, -⟩ := cellsG9 hG4.box
          have hvk : V[u]? = some (V.getD u 0) := by rw [List.getD_eq_getElem?_getD, List.getElem?_eq_getElem (by have := unhide HNE; omega)]; rfl
          have v0 := brow_at hG4.vr hvk
          obtain ⟨a', n', c', w5, r5, hO3⟩ := o2_tell hGd hO2
          have hrow : ∃ xo mo co, Z.ovs[u]? = some (.slice xo mo co) ∧ mo = (owOf Z.ar u).length := by
            obtain ⟨-, -, -, ms, hn, ⟨L, F', hM⟩, -⟩ := hO3
            obtain ⟨x, h1, h2⟩ := hM.ll.inrow (nxl_at (owOf Z.ar) (show u < Z.n by omega))
            obtain ⟨xo, co, e, -⟩ := brow_shape h2
            rw [pl_len] at e
            exact ⟨xo, _, co, by rw [h1, e], rfl⟩
          obtain ⟨xo, mo, co, ho1, ho2⟩ := hrow
          have hcell : w5.cell? ⟨go, u, none⟩ = some (.slice xo mo co) := by
            obtain ⟨-, -, -, ms, hn, ⟨L, F', hM⟩, -⟩ := hO3
            have hgo : Z.go = go := by rw [hZ]
            have := hM.ll.cell ho1
            rw [hgo] at this; exact this
          have HR5 := hide r5
          have HO3 := hide hO3
          have HT := hide (And.intro hkk (And.intro hTn (And.intro ho1 ho2)))
          have z1 : ((u : Nat) : Int) < (n : Int) := by omega
          generalize V.getD u 0 = vu at *
          clear hZ hGd hzn hzp hnb hO2 hTd hFu hun hTn hB4 hG4 hvk r5 hO3 ho1 ho2 hkk hR HPS
          go_upto_region 15 with (at_builtin; refine Lib.wpList_append_run _ rfl _ _ 22 22 rfl _ _ rfl rfl _ _ (unhide HR5 _) ?_)
          clear HR5 b0 v0
          go_upto_region 16 with fail
          clear hcell
          go_loopw [80, 14] (fun s80 s14 wr => ∃ i : Nat, s80 = .int .i64 (i : Nat) ∧ i ≤ mo ∧ Hid (O3 Z V T u i (.slice a' n' c') wr)) (fun s80 _ _ => mo - (intOf s80).toNat)
          case atStart => exact ⟨0, rfl, Nat.zero_le _, HO3⟩
          case round =>
            obtain ⟨i, rfl, him, hO⟩ := hrel
            have hZ := unhide HZ
            have hGd := unhide HGD
            have hzn : Z.n = n := by rw [hZ]
            have hzp : Z.p = p := by rw [hZ]
            have hzv : Z.gv = gv := by rw [hZ]
            obtain ⟨hkk, hTn, ho1, ho2⟩ := unhide HT
            by_cases hlt : i < mo
            · obtain ⟨x, hx⟩ : ∃ x, (owOf Z.ar u)[i]? = some x := ⟨_, List.getElem?_eq_getElem (by omega)⟩
              obtain ⟨s1, s2, s3, s4, s5, s6⟩ := o3_step hGd (unhide hO) hx
              obtain ⟨ms, hn, ⟨L, F', hM⟩, -⟩ := (unhide hO).2.2.2
              have hin := hM.ll.inner u _ _ ho1 (nxl_at (owOf Z.ar) (show u < Z.n by have := hs_lt (unhide hO).2.1.1; exact this))
              obtain ⟨gi, hgi⟩ := brow_some hin (by rw [pl_len]; omega)
              subst hgi
              have q1 := brow_at hin (pl_at hx)
              have hwr := hM.wr
              rw [hzv, hzn] at hwr
              rw [hzn] at s1
              have q2 := brow_at hwr (rowI_at _ s1)
              have qf := (brow_set hwr (k := 0) 0 (by omega)).1
              obtain ⟨t0, ht0⟩ : ∃ t0, t0 = wtAt Z.ar T u i x := ⟨_, rfl⟩
              obtain ⟨t1, ht1⟩ : ∃ t1, t1 = wtAt Z.ar T u (i + 1) x := ⟨_, rfl⟩
              rw [← ht0] at q2 s3 s4
              rw [← ht1] at s3 s5 s6
              have zt : IntKind.i64.wrap ((t0 : Int) - 1) = (t1 : Int) := by rw [IntKind.wrap_i64]; omega
              have z2 : (i : Int) < (mo : Int) := by omega
              have z3 : (x : Int) < (n : Int) := by omega
              obtain ⟨i1, hi1⟩ : ∃ i1, i1 = i + 1 := ⟨_, rfl⟩
              have zw : Hid (wrap64 ((i : Int) + 1) = (i1 : Int)) := by
                have := owOf_le Z.ar u
                have := hGd.ars
                show wrap64 ((i : Int) + 1) = (i1 : Int); unfold wrap64; omega
              have HI1 : Hid (i1 ≤ mo ∧ mo - i1 < mo - i) := ⟨by omega, by omega⟩
              rw [hzv, ← hi1] at s5 s6
              rw [hzp] at s6
              by_cases ht : t1 = 0
              · have hz : (((t1 : Nat) : Int) == 0) = true := by simp [ht]
                have CP := hide (s6 ht)
                clear hZ hGd hzn hzp hzv hkk hTn ho1 ho2 him hO hlt hx s1 s2 s3 s4 s5 s6 hM hin hwr ht0 ht1 hi1 ht HO3
                go_wp2_with fail
                refine (unhide CP).mono ?_
                rintro e w6 ⟨rfl, hh⟩
                go_wp2_with fail
                rw [unhide zw]
                exact ⟨⟨i1, rfl, (unhide HI1).1, hh⟩, by have := (unhide HI1).2; simp [intOf]; omega⟩
              · have hz : (((t1 : Nat) : Int) == 0) = false := by simp; omega
                have HO1 := hide (s5 ht)
                clear hZ hGd hzn hzp hzv hkk hTn ho1 ho2 him hO hlt hx s1 s2 s3 s4 s5 s6 hM hin hwr ht0 ht1 hi1 ht HO3
                go_wp2_with fail
                rw [unhide zw]
                exact ⟨⟨i1, rfl, (unhide HI1).1, HO1⟩, by have := (unhide HI1).2; simp [intOf]; omega⟩
            · have z2 : ¬ (i : Int) < (mo : Int) := by omega
              have CP : Hid (Calls Try.prog 37 #[.pointer (some ⟨p, 0, none⟩)] wr fun e w' => Hid (∃ a b c, e = .returned (.tuple #[a, b, c]) ∧ PS Z V (T ++ [u]) (.slice a' n' c') a c w')) := by
                have h1 := unhide hO
                rw [show i = (owOf Z.ar u).length by omega] at h1
                show Calls _ _ _ _ _
                rw [← hzp]
                exact popO hGd (o3_end h1)
              have HKK := hide (And.intro hkk hTn)
              clear hZ hGd hzn hzp hzv hkk hTn ho1 ho2 him hO hlt HO3
              go_wp2_with fail
              refine (unhide CP).mono ?_
              intro r w6 hh
              obtain ⟨qa, qb, qc, rfl, hPS⟩ := unhide hh
              clear CP hh
              have HPS := hide hPS
              clear hPS
              go_wp2_with fail
              go_roundg (n - (T ++ [u]).length)
              case measure => have := unhide HKK; simp; omega
              case rel => exact ⟨T ++ [u], a', n', c', rfl, rfl, unhide HPS⟩
        · have HGO : Hid (OrAns w V nx (.slice tx tm tc) wr) := by
            obtain ⟨hT, hno, ms, hn, ⟨L, F', hM⟩⟩ := hOE
            obtain ⟨hH, hle, -, -⟩ := unhide HH
            have hall := hGd.on.all hno
            have h1 := hM.tr
            have h2 := hM.below
            unfold OF.hs OF.ar at hT
            unfold OF.hs at hall
            rw [hZ] at hT hall h1 h2
            dsimp only at hT hall h1 h2
            rw [unhide HNE] at hT hall hH
            exact ⟨h, T, hH, hle, hT, hall, h1, h2⟩
          clear hZ hGd hzn hzp hnb hOE hkk hR HPS
          go_wp2_with fail
          go_ret
          exact ⟨_, rfl, unhide HGO⟩
end Go.Proofs.Ytdpdghhieokcfaa

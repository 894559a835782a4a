/- The reference's Decode. -/
import Derived.Test.YtagibmgbjhemkaaGreatRm16
import Derived.Lib.SlicesS
namespace Go.Proofs.YtagibmgbjhemkaaGreat.W16
open Go.RowKit Go.Maps
def DLI (w0 : World) (r0 b4 : Nat) (bs : List Nat) (f t u cn N : Nat) (w : World) (i at_ : Nat) (ev : Value) (es : List Int) : Prop :=
  i ≤ 1024 ∧ at_ ≤ N + 20 ∧ es.length = i ∧ K4 bs f t u cn at_ i es ∧ DS w0 r0 b4 w (f : Nat) (t : Nat) u ev es
def RS (b4 : Nat) (F T : Int) (u : Nat) (ev : Value) (v : Value) (bs : List Nat) (y : World) : Prop :=
  (y.cell? ⟨b4, 0, none⟩ = some (.int .i64 F) ∧ y.cell? ⟨b4, 1, none⟩ = some (.int .i64 T) ∧ y.cell? ⟨b4, 2, none⟩ = some (.int .u32 (u : Nat)) ∧ y.cell? ⟨b4, 3, none⟩ = some ev) ∧ (convert 23 9 v).run Tryz.prog y = .ok (.string (strB bs)) y
theorem rs_of {w0 w : World} {r0 b4 : Nat} {F T : Int} {u : Nat} {ev v : Value} {es : List Int} {bs : List Nat} (S : DS w0 r0 b4 w F T u ev es) (h : Lies u8v w0 v bs) (hb : ∀ x ∈ bs, x < 256) : RS b4 F T u ev v bs w := ⟨S.cells.1, convB (lies_below h S.bel) hb⟩
set_option maxHeartbeats 8000000 in
set_option maxRecDepth 100000 in
theorem decodeR {w : World} {v : Value} {bs : List Nat} (h : Lies u8v w v bs) (hb : ∀ x ∈ bs, x < 256) (hl : bs.length ≤ 140737488355328) :
    Calls Tryz.prog 13 #[v] w fun e w' => Hid (DecAns w (decV bs) e w') := by
  obtain ⟨a, c, hv⟩ := lies_shape h; obtain ⟨N, hN⟩ : ∃ N, N = bs.length := ⟨_, rfl⟩; rw [← hN] at hv; subst hv; have HN : Hid (N = bs.length ∧ N ≤ 140737488355328 ∧ ∀ x ∈ bs, x < 256) := ⟨hN, by omega, hb⟩
  have H := hide h; have HS := hide (ds_start w); obtain ⟨r0, hr0⟩ : ∃ r0, r0 = w.heap.size := ⟨_, rfl⟩; have HR0 := hide hr0; have CN : Hid (∀ (W : World) (k : Nat), Below w.heap.size w W → k ≤ 140737488355428 → Calls Tryz.prog 34 #[.slice a N c, .int .i64 (k : Nat)] W fun e w' => ∃ n at2 : Nat, e = .returned (.tuple #[.int .i64 (n : Nat), .int .i64 (at2 : Nat)]) ∧ w' = W ∧ Hid (NumR bs k n at2)) := fun W k hW hk => numR k (lies_below h hW) hb hl hk
  clear h hb hl hN hr0; unfold oV at *
  go_enter Tryz.func13, Tryz.ntmps13
  go_upto_region 3 with fail
  rw [← unhide HR0] at HS ⊢; generalize ((w.alloc (Obj.cells #[Value.int .i64 0, Value.int .i64 0, Value.int .u32 (0 : Nat), Value.slice none 0 0] 35)).alloc (Obj.cells #[Value.int .i64 0, Value.int .i64 0, Value.int .u32 (0 : Nat), Value.slice none 0 0] 35)) = wa at *; generalize r0 + 1 = b4 at *
  -- From
  have C1 := hide (unhide CN wa 1 (unhide HS).bel (by omega))
  go_wp2_with fail
  refine (unhide C1).mono ?_
  rintro e w1 ⟨f, at1, rfl, rfl, HK⟩
  obtain ⟨⟨c0, c1, c2, c3⟩, f0, f1, f2, f3⟩ := (unhide HS).cells; clear C1
  go_upto_region 4 with fail
  have HS1 := hide ((unhide HS).put0 (f : Nat)); have hK1 : Hid (K1 bs f at1 ∧ at1 ≤ N + 6) := ⟨k1_of (unhide HK), by have h1 := (unhide HK).2.1; have h3 := (unhide HN).1; omega⟩
  clear HS c0 c1 c2 c3 f0 f1 f2 f3 HK; generalize w1.setCell ⟨b4, 0, none⟩ (.int .i64 (f : Nat)) = wb at *
  -- To
  have C1 := hide (unhide CN wb at1 (unhide HS1).bel (by have h1 := (unhide hK1).2; have h2 := (unhide HN).2.1; omega))
  go_wp2_with fail
  refine (unhide C1).mono ?_
  rintro e w2 ⟨t, at2, rfl, rfl, HK⟩
  obtain ⟨⟨c0, c1, c2, c3⟩, f0, f1, f2, f3⟩ := (unhide HS1).cells; clear C1
  go_upto_region 5 with fail
  have HS2 := hide ((unhide HS1).put1 (t : Nat)); have hK2 : Hid (K2 bs f t at2 ∧ at2 ≤ N + 11) := ⟨k2_of (unhide hK1).1 (unhide HK), by have h1 := (unhide HK).2.1; have h2 := (unhide hK1).2; have h3 := (unhide HN).1; omega⟩
  clear HS1 c0 c1 c2 c3 f0 f1 f2 f3 HK hK1; generalize w2.setCell ⟨b4, 1, none⟩ (.int .i64 (t : Nat)) = wc at *
  -- Bits
  go_wp2_with fail
  go_loopw [6, 7] (fun s6 s7 wr => ∃ (n k : Nat), s6 = .int .i64 (n : Nat) ∧ s7 = .int .i64 ((k : Int) - 1) ∧ wr = wc ∧ Hid (BitR bs at2 k n)) (fun _ s7 _ => (intOf s7 + 1).toNat)
  case atStart => exact ⟨0, 4, rfl, rfl, rfl, bitR_start bs at2⟩
  case round =>
    obtain ⟨n, k, rfl, rfl, rfl, HI⟩ := hrel; obtain ⟨i1, i2, i3⟩ := unhide HI; obtain ⟨l1, l2, l3⟩ := unhide HN; have hat := (unhide hK2).2
    cases k with
    | succ k =>
      have hn : n < 16777216 := by
        have h8 : (256 : Nat) ^ (4 - (k + 1)) ≤ 256 ^ 3 := Nat.pow_le_pow_right (by omega) (by omega)
        have h7 : (256 : Nat) ^ 3 = 16777216 := by decide
        omega
      have ek : (((k + 1 : Nat) : Int) - 1) = (k : Int) := by omega
      rw [ek]; have z0 : (k : Int) ≥ 0 := by omega
      obtain ⟨ak, hak⟩ : ∃ ak, ak = at2 + k := ⟨_, rfl⟩; have zk : wrap64 ((at2 : Int) + (k : Int)) = (ak : Int) := by unfold wrap64; omega
      obtain ⟨m, hm⟩ : ∃ m, m = 256 * n := ⟨_, rfl⟩; have zm : wrap64 (256 * (n : Int)) = (m : Int) := by clear zk; unfold wrap64; omega
      by_cases hlt : ak < N
      · obtain ⟨x, hx⟩ : ∃ x, bs[ak]? = some x := ⟨_, List.getElem?_eq_getElem (by clear zk zm; omega)⟩
        obtain ⟨b, off, rfl, k0⟩ := lies_at (lies_below (unhide H) (unhide HS2).bel) hx; unfold u8v at k0; have hx2 := l3 x (List.mem_of_getElem? hx); have z1 : (ak : Int) < (N : Int) := by clear zk zm; omega
        have ZX : Hid (wrap64 ((m : Int) + (x : Int)) = ((m + x : Nat) : Int)) := by show wrap64 _ = _; clear zk zm; unfold wrap64; omega
        have HJ : Hid (BitR bs at2 k (m + x)) := by
          show BitR bs at2 k (m + x); rw [hm]; exact bitR_step (unhide HI) hx2 (fun y hy => by rw [← hak, hx] at hy; exact Option.some.inj hy)
        have ZK : Hid (wrap64 ((k : Int) - 1) = (k : Int) - 1) := by show wrap64 ((k : Int) - 1) = (k : Int) - 1; clear zk zm; unfold wrap64; omega
        clear HI i1 i2 i3 l1 l2 l3 hat hn ek hak hm hlt hx
        go_wp2_with fail
        exact ⟨⟨m + x, k, by rw [unhide ZX], by rw [unhide ZK], trivial, HJ⟩, by rw [unhide ZK]; simp only [intOf]; clear zk zm; omega⟩
      · have z1 : ¬ (ak : Int) < (N : Int) := by clear zk zm; omega
        have HJ : Hid (BitR bs at2 k m) := by
          show BitR bs at2 k m; rw [hm]; exact bitR_none (unhide HI) (by clear zk zm; omega)
        have ZK : Hid (wrap64 ((k : Int) - 1) = (k : Int) - 1) := by show wrap64 ((k : Int) - 1) = (k : Int) - 1; clear zk zm; unfold wrap64; omega
        clear HI i1 i2 i3 l1 l2 l3 hat hn ek hak hm hlt
        go_wp2_with fail
        exact ⟨⟨m, k, by rw [zm], by rw [unhide ZK], trivial, HJ⟩, by rw [unhide ZK]; simp only [intOf]; clear zk zm; omega⟩
    | zero =>
      have ek : (((0 : Nat) : Int) - 1) = -1 := by omega
      rw [ek]; have hbe := bitR_end (unhide HI); have zu : (n : Int) < 4294967296 := by have := hbe.1; omega
      obtain ⟨at3, hat3⟩ : ∃ at3, at3 = at2 + 4 := ⟨_, rfl⟩; have ZA : Hid (wrap64 ((at2 : Int) + 4) = (at3 : Int)) := by show wrap64 _ = _; unfold wrap64; omega
      have HU : Hid (n < 4294967296) := hbe.1; have hK3 : Hid (K3 bs f t n at3 ∧ at3 ≤ N + 15) := ⟨by rw [hat3]; exact k3_of (unhide hK2).1 (unhide HI), by omega⟩
      clear HI i1 i2 i3 l1 l2 l3 hat ek hbe hat3 hK2; obtain ⟨⟨c0, c1, c2, c3⟩, f0, f1, f2, f3⟩ := (unhide HS2).cells
      go_upto_region 13 with fail
      have HS3 := hide ((unhide HS2).put2 n); clear HS2 c0 c1 c2 c3 f0 f1 f2 f3; generalize wr.setCell ⟨b4, 2, none⟩ (.int .u32 (n : Nat)) = wd at *; have zA := unhide ZA; have C1 := hide (unhide CN wd at3 (unhide HS3).bel (by have h1 := (unhide hK3).2; have h2 := (unhide HN).2.1; clear zA; omega))
      go_wp2_with fail
      refine (unhide C1).mono ?_
      rintro e w3 ⟨cn, at4, rfl, rfl, HK⟩
      have HK4 : Hid (DLI w r0 b4 bs f t n cn N w3 0 at4 (.slice none 0 0) []) := ⟨by omega, by have h1 := (unhide HK).2.1; have h2 := (unhide hK3).2; have h3 := (unhide HN).1; clear zA; omega, rfl, k4_of (unhide hK3).1 (unhide HK), unhide HS3⟩
      clear C1 hK3 HK zA ZA zu
      go_wp2_with fail
      go_loopw [5, 8] (fun s5 s8 wr => ∃ (at_ i : Nat) (ev : Value) (es : List Int), s5 = .int .i64 (at_ : Nat) ∧ s8 = .int .i64 (i : Nat) ∧ Hid (DLI w r0 b4 bs f t n cn N wr i at_ ev es)) (fun _ s8 _ => 1024 - (intOf s8).toNat)
      case atStart => exact ⟨at4, 0, _, _, rfl, rfl, HK4⟩
      case round =>
        obtain ⟨at_, i, ev, es, rfl, rfl, HI⟩ := hrel; obtain ⟨j1, j2, j3, j4, j5⟩ := unhide HI; obtain ⟨l1, l2, l3⟩ := unhide HN
        by_cases q1 : i < cn
        · have z1 : (i : Int) < (cn : Int) := by omega
          by_cases q2 : i < 1024
          · have z2 : (i : Int) < 1024 := by omega
            by_cases q3 : at_ < N
            · have z3 : (at_ : Int) < (N : Int) := by omega
              have S0 := hide j5; have HK1 := hide j4; have HM := hide (And.intro j1 (And.intro j2 j3)); have C1 := hide (unhide CN wr at_ j5.bel (by omega))
              have HQ1 := hide q1; have HNB := hide l1; clear HI j1 j2 j3 j4 j5 HK4 HS3 l1 l2 l3 q1 q2 q3
              go_wp2_with fail
              refine (unhide C1).mono ?_
              rintro e w4 ⟨m, at5, rfl, rfl, HK5⟩
              obtain ⟨a5, n5, c5, w5, hr5, h51, h52, S5⟩ := (unhide S0).push (m : Nat) (by have := unhide HM; omega)
              have HR5 := hide hr5; obtain ⟨⟨d0, d1, d2, d3⟩, -⟩ := (unhide S0).cells; obtain ⟨j, hj⟩ : ∃ j, j = i + 1 := ⟨_, rfl⟩; have zj : Hid ((i : Int) + 1 = (j : Int)) := by show (i : Int) + 1 = (j : Int); omega
              have HJ : Hid (DLI w r0 b4 bs f t n cn N (w5.setCell ⟨b4, 3, none⟩ (.slice a5 n5 c5)) j at5 (.slice a5 n5 c5) (es ++ [(m : Int)]) ∧ 1024 - j < 1024 - i) := by
                obtain ⟨m1, m2, m3⟩ := unhide HM; have hk5 := (unhide HK5).2.1; have hnb := unhide HNB; have q2 := z2; exact ⟨⟨by omega, by omega, by simp; omega, by rw [hj]; exact k4_step (unhide HK1) (unhide HK5) (unhide HQ1), S5⟩, by omega⟩
              clear S0 HK1 HM C1 HK5 hr5 S5 hj HQ1 HNB
              go_wp2_with (at_builtin; refine Lib.wpList_append_run _ rfl _ _ 25 25 rfl _ _ rfl rfl _ _ (unhide HR5 _) ?_)
              exact ⟨⟨at5, j, _, _, rfl, by rw [unhide zj], (unhide HJ).1⟩, by rw [unhide zj]; exact (unhide HJ).2⟩
            · have z3 : ¬ (at_ : Int) < (N : Int) := by omega
              have HX : Hid (∀ x, Good x → encWt x = bs → x = (((f : Nat) : Int), ((t : Nat) : Int), n, es)) := k4_end j4 (by omega)
              have HS := hide j5; obtain ⟨ea, ec, hev⟩ := rrow_shape j5.row; have HL := hide (nrow_lies j5.drew.row); have HI2 : Hid (es.length ≤ 1024) := by show es.length ≤ 1024; omega
              clear HI j1 j2 j3 j4 j5 CN HS3 HK4 l1 l2 l3 q1 q2 q3; generalize es.length = en at hev; subst hev
              go_upto_region 20 with fail
              by_cases hE : errC (((f : Nat) : Int), ((t : Nat) : Int), n, es) = 0
              · have hgood := good_of hE (unhide HU); have CE := hide (errorR (f : Nat) (t : Nat) n (unhide HL)); rw [hE] at CE; have hSS := rs_of (unhide HS).drew (unhide H) (unhide HN).2.2; have CC : Hid (∀ W, DS w r0 b4 W (f : Nat) (t : Nat) n (.slice ea en ec) es → Calls Tryz.prog 36 #[.agg #[.int .i64 (f : Nat), .int .i64 (t : Nat), .int .u32 (n : Nat), .slice ea en ec]] W fun e w' => ∃ v', e = .returned v' ∧ Hid (ByRow W.heap.size w' v' (encWt (((f : Nat) : Int), ((t : Nat) : Int), n, es)) ∧ Below W.heap.size W w')) := fun W S => encodeR f t n (nrow_lies S.row) hgood
                by_cases hq : encWt (((f : Nat) : Int), ((t : Nat) : Int), n, es) = bs
                · have hr := (ref_end (y := (((f : Nat) : Int), ((t : Nat) : Int), n, es)) (unhide HN).2.2 (unhide HU) (unhide HX)).1 ⟨hE, hq⟩; have HD := hide hr; rw [hq] at CC; have hbb := (unhide HN).2.2; have HBB := hide hbb; obtain ⟨s1, hs1⟩ : ∃ s1, s1 = strB bs := ⟨_, rfl⟩; have hcs : Hid (∀ (W : World) (V : Value), Lies u8v W V bs → (convert 23 9 V).run Tryz.prog W = .ok (.string s1) W) := fun W V hv => by rw [hs1]; exact convB hv (unhide HBB)
                  unfold RS at hSS; rw [← hs1] at hSS; obtain ⟨⟨d0, d1, d2, d3⟩, d4⟩ := hSS; clear hr hE HX HL hq hs1 hgood hbb; refine wp_region_noPanic ?_; refine regionL [] (fun y => (y.cell? ⟨b4, 0, none⟩ = some (.int .i64 (f : Nat)) ∧ y.cell? ⟨b4, 1, none⟩ = some (.int .i64 (t : Nat)) ∧ y.cell? ⟨b4, 2, none⟩ = some (.int .u32 (n : Nat)) ∧ y.cell? ⟨b4, 3, none⟩ = some (.slice ea en ec)) ∧ (convert 23 9 (.slice a N c)).run Tryz.prog y = .ok (.string s1) y) (by kernel_rfl) ⟨⟨d0, d1, d2, d3⟩, d4⟩ (fun hHeld => ?_)
                  refine takeN 0 82 rfl ?_
                  (try simp only [sl])
                  refine readyL (i := 1) (by kernel_rfl) rfl (fun K hK => ?_)
                  go_simp
                  refine (unhide CE).mono ?_
                  rintro e w5 ⟨rfl, hb5⟩
                  (try dsimp only)
                  have S5 := (unhide HS).drew.below (unhide hb5); have e5 := And.intro S5.cells.1 (unhide hcs _ _ (lies_below (unhide H) S5.bel)); have CC5 := hide (unhide CC _ S5); have HS5 := hide S5; clear S5 hb5 CE CC; refine hK.out _ _ (fun _ => e5) ?_
                  clear hK K
                  (try simp only [sl])
                  have hH4 := e5; refine takeN 2 84 rfl ?_
                  (try simp only [sl])
                  refine takeN 3 85 rfl ?_
                  (try simp only [sl])
                  refine takeN 4 86 rfl ?_
                  (try simp only [sl])
                  refine takeN 7 89 rfl ?_
                  (try simp only [sl])
                  refine takeN 8 90 rfl ?_
                  (try simp only [sl])
                  refine readyL (i := 5) (by kernel_rfl) rfl (fun K hK => ?_)
                  go_simp
                  refine (unhide CC5).mono ?_
                  rintro e w6 ⟨v6, rfl, hv6⟩
                  (try dsimp only)
                  have S6 := (unhide HS5).below (unhide hv6).2; have e6 := And.intro S6.cells.1 (unhide hcs _ _ (lies_below (unhide H) S6.bel)); have c6 := unhide hcs _ _ (byrow_lies (unhide hv6).1); obtain ⟨u1, u2, u3⟩ := S6.fin (.int .i64 (f : Nat)) (.int .i64 (t : Nat)) (.int .u32 (n : Nat)) (.slice ea en ec); have HU1 := hide u1; have HA : Hid (DecAns w (decV bs) (.returned (.tuple #[.agg #[.int .i64 (f : Nat), .int .i64 (t : Nat), .int .u32 (n : Nat), .slice ea en ec], .int .i64 0])) (set4 w6 r0 (.int .i64 (f : Nat)) (.int .i64 (t : Nat)) (.int .u32 (n : Nat)) (.slice ea en ec))) := by
                    show DecAns _ _ _ _; rw [unhide HD]; exact ⟨_, rfl, u2, u3⟩
                  obtain ⟨⟨g0, g1, g2, g3⟩, k0, k1, k2, k3⟩ := S6.rcells; clear S6 u1 u2 u3 hv6 CC5; refine hK.out _ _ (fun _ => e6) ?_
                  clear hK K
                  (try simp only [sl])
                  have hH7 := e6; refine readyL (i := 6) (by kernel_rfl) rfl (fun K hK => ?_)
                  go_simp
                  refine hK.out _ _ (fun _ => e6) ?_
                  clear hK K
                  (try simp only [sl])
                  have hH9 := e6; refine takeN 9 91 rfl ?_
                  (try simp only [sl])
                  refine takeN 10 92 rfl ?_
                  (try simp only [sl])
                  refine doneL (by kernel_rfl) ?_ _
                  refine NoPanic.normal ?_; obtain ⟨⟨m0, m1, m2, m3⟩, -⟩ := e6
                  go_wp2_with fail
                  refine bodyPost_ret (results_cell_tmp1 rfl _ _ _ ⟨r0, 0, none⟩ _ rfl (unhide HU1)) rfl ?_; exact HA
                · have hr := (ref_end (y := (((f : Nat) : Int), ((t : Nat) : Int), n, es)) (unhide HN).2.2 (unhide HU) (unhide HX)).2 (fun q => hq q.2)
                  have HD := hide hr; have hbb := (unhide HN).2.2; have HBB := hide hbb; have hne : strB (encWt (((f : Nat) : Int), ((t : Nat) : Int), n, es)) ≠ strB bs := fun e => hq ((strB_iff (enc_byte _) hbb).1 e)
                  obtain ⟨s1, hs1⟩ : ∃ s1, s1 = strB bs := ⟨_, rfl⟩; obtain ⟨s2, hs2⟩ : ∃ s2, s2 = strB (encWt (((f : Nat) : Int), ((t : Nat) : Int), n, es)) := ⟨_, rfl⟩; have hcs : Hid (∀ (W : World) (V : Value), Lies u8v W V bs → (convert 23 9 V).run Tryz.prog W = .ok (.string s1) W) := fun W V hv => by rw [hs1]; exact convB hv (unhide HBB)
                  have hct : Hid (∀ (W : World) (V : Value), Lies u8v W V (encWt (((f : Nat) : Int), ((t : Nat) : Int), n, es)) → (convert 23 9 V).run Tryz.prog W = .ok (.string s2) W) := fun W V hv => by rw [hs2]; exact convB hv (enc_byte _)
                  rw [← hs1, ← hs2] at hne; have z7 : ¬ s2 = s1 := hne; have z8 : (s2.toList == s1.toList) = false := (Lib.bytes_beq_false_iff s2 s1).2 hne; unfold RS at hSS; rw [← hs1] at hSS; obtain ⟨⟨d0, d1, d2, d3⟩, d4⟩ := hSS; clear hr hE HX HL hq hs1 hs2 hgood hbb hne; generalize encWt (((f : Nat) : Int), ((t : Nat) : Int), n, es) = ew at *; refine wp_region_noPanic ?_; refine regionL [] (fun y => (y.cell? ⟨b4, 0, none⟩ = some (.int .i64 (f : Nat)) ∧ y.cell? ⟨b4, 1, none⟩ = some (.int .i64 (t : Nat)) ∧ y.cell? ⟨b4, 2, none⟩ = some (.int .u32 (n : Nat)) ∧ y.cell? ⟨b4, 3, none⟩ = some (.slice ea en ec)) ∧ (convert 23 9 (.slice a N c)).run Tryz.prog y = .ok (.string s1) y) (by kernel_rfl) ⟨⟨d0, d1, d2, d3⟩, d4⟩ (fun hHeld => ?_)
                  refine takeN 0 82 rfl ?_
                  (try simp only [sl])
                  refine readyL (i := 1) (by kernel_rfl) rfl (fun K hK => ?_)
                  go_simp
                  refine (unhide CE).mono ?_
                  rintro e w5 ⟨rfl, hb5⟩
                  (try dsimp only)
                  have S5 := (unhide HS).drew.below (unhide hb5); have e5 := And.intro S5.cells.1 (unhide hcs _ _ (lies_below (unhide H) S5.bel)); have CC5 := hide (unhide CC _ S5); have HS5 := hide S5; clear S5 hb5 CE CC; refine hK.out _ _ (fun _ => e5) ?_
                  clear hK K
                  (try simp only [sl])
                  have hH15 := e5; refine takeN 2 84 rfl ?_
                  (try simp only [sl])
                  refine takeN 3 85 rfl ?_
                  (try simp only [sl])
                  refine takeN 4 86 rfl ?_
                  (try simp only [sl])
                  refine takeN 7 89 rfl ?_
                  (try simp only [sl])
                  refine takeN 8 90 rfl ?_
                  (try simp only [sl])
                  refine readyL (i := 5) (by kernel_rfl) rfl (fun K hK => ?_)
                  go_simp
                  refine (unhide CC5).mono ?_
                  rintro e w6 ⟨v6, rfl, hv6⟩
                  (try dsimp only)
                  have S6 := (unhide HS5).below (unhide hv6).2; have e6 := And.intro S6.cells.1 (unhide hcs _ _ (lies_below (unhide H) S6.bel)); have c6 := unhide hct _ _ (byrow_lies (unhide hv6).1); obtain ⟨u1, -, u3⟩ := S6.fin (.int .i64 0) (.int .i64 0) (.int .u32 0) (.slice none 0 0); have HU1 := hide u1; have HA : Hid (DecAns w (decV bs) (.returned (.tuple #[.agg #[.int .i64 0, .int .i64 0, .int .u32 0, .slice none 0 0], .int .i64 160])) (set4 w6 r0 (.int .i64 0) (.int .i64 0) (.int .u32 0) (.slice none 0 0))) := by
                    show DecAns _ _ _ _; rw [unhide HD]; exact ⟨_, rfl, ⟨rfl, .inl ⟨rfl, rfl⟩⟩, u3⟩
                  obtain ⟨⟨g0, g1, g2, g3⟩, k0, k1, k2, k3⟩ := S6.rcells; clear S6 u1 u3 hv6 CC5; refine hK.out _ _ (fun _ => e6) ?_
                  clear hK K
                  (try simp only [sl])
                  have hH18 := e6; refine readyL (i := 6) (by kernel_rfl) rfl (fun K hK => ?_)
                  go_simp
                  refine hK.out _ _ (fun _ => e6) ?_
                  clear hK K
                  (try simp only [sl])
                  have hH20 := e6; refine takeN 9 91 rfl ?_
                  (try simp only [sl])
                  refine takeN 10 92 rfl ?_
                  (try simp only [sl])
                  refine doneL (by kernel_rfl) ?_ _
                  refine NoPanic.normal ?_; obtain ⟨⟨m0, m1, m2, m3⟩, -⟩ := e6
                  go_wp2_with fail
                  refine bodyPost_ret (results_cell_tmp1 rfl _ _ _ ⟨r0, 0, none⟩ _ rfl (unhide HU1)) rfl ?_; exact HA
              · have hr := (ref_end (y := (((f : Nat) : Int), ((t : Nat) : Int), n, es)) (unhide HN).2.2 (unhide HU) (unhide HX)).2 (fun q => hE q.1)
                have HD := hide hr; have CE := hide (errorR (f : Nat) (t : Nat) n (unhide HL)); generalize errC (((f : Nat) : Int), ((t : Nat) : Int), n, es) = code at *; have z5 : (code == 0) = false := by simpa using hE
                have z6 : (code != 0) = true := by simpa using hE
                obtain ⟨⟨d0, d1, d2, d3⟩, -⟩ := rs_of (unhide HS).drew (unhide H) (unhide HN).2.2; clear hr hE HX HL; refine wp_region_noPanic ?_; refine regionL [] (fun y => y.cell? ⟨b4, 0, none⟩ = some (.int .i64 (f : Nat)) ∧ y.cell? ⟨b4, 1, none⟩ = some (.int .i64 (t : Nat)) ∧ y.cell? ⟨b4, 2, none⟩ = some (.int .u32 (n : Nat)) ∧ y.cell? ⟨b4, 3, none⟩ = some (.slice ea en ec)) (by kernel_rfl) ⟨d0, d1, d2, d3⟩ (fun hHeld => ?_)
                refine takeN 0 82 rfl ?_
                (try simp only [sl])
                refine readyL (i := 1) (by kernel_rfl) rfl (fun K hK => ?_)
                go_simp
                refine (unhide CE).mono ?_
                rintro e w5 ⟨rfl, hb5⟩
                (try dsimp only)
                have S5 := (unhide HS).drew.below (unhide hb5); refine hK.out _ _ (fun _ => S5.cells.1) ?_
                clear hK K
                (try simp only [sl])
                have hH26 := S5.cells.1; refine takeN 2 84 rfl ?_
                (try simp only [sl])
                refine takeN 3 85 rfl ?_
                (try simp only [sl])
                refine takeK 4 86 rfl ?_
                (try simp only [sl])
                refine takeK 5 87 rfl ?_
                (try simp only [sl])
                refine takeK 6 88 rfl ?_
                (try simp only [sl])
                refine takeK 7 89 rfl ?_
                (try simp only [sl])
                refine takeK 8 90 rfl ?_
                (try simp only [sl])
                refine takeK 9 91 rfl ?_
                (try simp only [sl])
                refine takeN 10 92 rfl ?_
                (try simp only [sl])
                refine doneL (by kernel_rfl) ?_ _
                refine NoPanic.normal ?_; obtain ⟨u1, -, u3⟩ := S5.fin (.int .i64 0) (.int .i64 0) (.int .u32 0) (.slice none 0 0); have HU1 := hide u1; have HA : Hid (DecAns w (decV bs) (.returned (.tuple #[.agg #[.int .i64 0, .int .i64 0, .int .u32 0, .slice none 0 0], .int .i64 160])) (set4 w5 r0 (.int .i64 0) (.int .i64 0) (.int .u32 0) (.slice none 0 0))) := by
                  show DecAns _ _ _ _; rw [unhide HD]; exact ⟨_, rfl, ⟨rfl, .inl ⟨rfl, rfl⟩⟩, u3⟩
                obtain ⟨⟨g0, g1, g2, g3⟩, k0, k1, k2, k3⟩ := S5.rcells; clear S5 u1 u3 hb5 CE HS HD
                go_wp2_with fail
                refine bodyPost_ret (results_cell_tmp1 rfl _ _ _ ⟨r0, 0, none⟩ _ rfl (unhide HU1)) rfl ?_; exact HA
          · have z2 : ¬ (i : Int) < 1024 := by omega
            have HX : Hid (∀ x, Good x → encWt x = bs → x = (((f : Nat) : Int), ((t : Nat) : Int), n, es)) := k4_end j4 (by omega)
            have HS := hide j5; obtain ⟨ea, ec, hev⟩ := rrow_shape j5.row; have HL := hide (nrow_lies j5.drew.row); have HI2 : Hid (es.length ≤ 1024) := by show es.length ≤ 1024; omega
            clear HI j1 j2 j3 j4 j5 CN HS3 HK4 l1 l2 l3 q1 q2; generalize es.length = en at hev; subst hev
            go_upto_region 20 with fail
            by_cases hE : errC (((f : Nat) : Int), ((t : Nat) : Int), n, es) = 0
            · have hgood := good_of hE (unhide HU); have CE := hide (errorR (f : Nat) (t : Nat) n (unhide HL)); rw [hE] at CE; have hSS := rs_of (unhide HS).drew (unhide H) (unhide HN).2.2; have CC : Hid (∀ W, DS w r0 b4 W (f : Nat) (t : Nat) n (.slice ea en ec) es → Calls Tryz.prog 36 #[.agg #[.int .i64 (f : Nat), .int .i64 (t : Nat), .int .u32 (n : Nat), .slice ea en ec]] W fun e w' => ∃ v', e = .returned v' ∧ Hid (ByRow W.heap.size w' v' (encWt (((f : Nat) : Int), ((t : Nat) : Int), n, es)) ∧ Below W.heap.size W w')) := fun W S => encodeR f t n (nrow_lies S.row) hgood
              by_cases hq : encWt (((f : Nat) : Int), ((t : Nat) : Int), n, es) = bs
              · have hr := (ref_end (y := (((f : Nat) : Int), ((t : Nat) : Int), n, es)) (unhide HN).2.2 (unhide HU) (unhide HX)).1 ⟨hE, hq⟩; have HD := hide hr; rw [hq] at CC; have hbb := (unhide HN).2.2; have HBB := hide hbb; obtain ⟨s1, hs1⟩ : ∃ s1, s1 = strB bs := ⟨_, rfl⟩; have hcs : Hid (∀ (W : World) (V : Value), Lies u8v W V bs → (convert 23 9 V).run Tryz.prog W = .ok (.string s1) W) := fun W V hv => by rw [hs1]; exact convB hv (unhide HBB)
                unfold RS at hSS; rw [← hs1] at hSS; obtain ⟨⟨d0, d1, d2, d3⟩, d4⟩ := hSS; clear hr hE HX HL hq hs1 hgood hbb; refine wp_region_noPanic ?_; refine regionL [] (fun y => (y.cell? ⟨b4, 0, none⟩ = some (.int .i64 (f : Nat)) ∧ y.cell? ⟨b4, 1, none⟩ = some (.int .i64 (t : Nat)) ∧ y.cell? ⟨b4, 2, none⟩ = some (.int .u32 (n : Nat)) ∧ y.cell? ⟨b4, 3, none⟩ = some (.slice ea en ec)) ∧ (convert 23 9 (.slice a N c)).run Tryz.prog y = .ok (.string s1) y) (by kernel_rfl) ⟨⟨d0, d1, d2, d3⟩, d4⟩ (fun hHeld => ?_)
                refine takeN 0 82 rfl ?_
                (try simp only [sl])
                refine readyL (i := 1) (by kernel_rfl) rfl (fun K hK => ?_)
                go_simp
                refine (unhide CE).mono ?_
                rintro e w5 ⟨rfl, hb5⟩
                (try dsimp only)
                have S5 := (unhide HS).drew.below (unhide hb5); have e5 := And.intro S5.cells.1 (unhide hcs _ _ (lies_below (unhide H) S5.bel)); have CC5 := hide (unhide CC _ S5); have HS5 := hide S5; clear S5 hb5 CE CC; refine hK.out _ _ (fun _ => e5) ?_
                clear hK K
                (try simp only [sl])
                have hH34 := e5; refine takeN 2 84 rfl ?_
                (try simp only [sl])
                refine takeN 3 85 rfl ?_
                (try simp only [sl])
                refine takeN 4 86 rfl ?_
                (try simp only [sl])
                refine takeN 7 89 rfl ?_
                (try simp only [sl])
                refine takeN 8 90 rfl ?_
                (try simp only [sl])
                refine readyL (i := 5) (by kernel_rfl) rfl (fun K hK => ?_)
                go_simp
                refine (unhide CC5).mono ?_
                rintro e w6 ⟨v6, rfl, hv6⟩
                (try dsimp only)
                have S6 := (unhide HS5).below (unhide hv6).2; have e6 := And.intro S6.cells.1 (unhide hcs _ _ (lies_below (unhide H) S6.bel)); have c6 := unhide hcs _ _ (byrow_lies (unhide hv6).1); obtain ⟨u1, u2, u3⟩ := S6.fin (.int .i64 (f : Nat)) (.int .i64 (t : Nat)) (.int .u32 (n : Nat)) (.slice ea en ec); have HU1 := hide u1; have HA : Hid (DecAns w (decV bs) (.returned (.tuple #[.agg #[.int .i64 (f : Nat), .int .i64 (t : Nat), .int .u32 (n : Nat), .slice ea en ec], .int .i64 0])) (set4 w6 r0 (.int .i64 (f : Nat)) (.int .i64 (t : Nat)) (.int .u32 (n : Nat)) (.slice ea en ec))) := by
                  show DecAns _ _ _ _; rw [unhide HD]; exact ⟨_, rfl, u2, u3⟩
                obtain ⟨⟨g0, g1, g2, g3⟩, k0, k1, k2, k3⟩ := S6.rcells; clear S6 u1 u2 u3 hv6 CC5; refine hK.out _ _ (fun _ => e6) ?_
                clear hK K
                (try simp only [sl])
                have hH37 := e6; refine readyL (i := 6) (by kernel_rfl) rfl (fun K hK => ?_)
                go_simp
                refine hK.out _ _ (fun _ => e6) ?_
                clear hK K
                (try simp only [sl])
                have hH39 := e6; refine takeN 9 91 rfl ?_
                (try simp only [sl])
                refine takeN 10 92 rfl ?_
                (try simp only [sl])
                refine doneL (by kernel_rfl) ?_ _
                refine NoPanic.normal ?_; obtain ⟨⟨m0, m1, m2, m3⟩, -⟩ := e6
                go_wp2_with fail
                refine bodyPost_ret (results_cell_tmp1 rfl _ _ _ ⟨r0, 0, none⟩ _ rfl (unhide HU1)) rfl ?_; exact HA
              · have hr := (ref_end (y := (((f : Nat) : Int), ((t : Nat) : Int), n, es)) (unhide HN).2.2 (unhide HU) (unhide HX)).2 (fun q => hq q.2)
                have HD := hide hr; have hbb := (unhide HN).2.2; have HBB := hide hbb; have hne : strB (encWt (((f : Nat) : Int), ((t : Nat) : Int), n, es)) ≠ strB bs := fun e => hq ((strB_iff (enc_byte _) hbb).1 e)
                obtain ⟨s1, hs1⟩ : ∃ s1, s1 = strB bs := ⟨_, rfl⟩; obtain ⟨s2, hs2⟩ : ∃ s2, s2 = strB (encWt (((f : Nat) : Int), ((t : Nat) : Int), n, es)) := ⟨_, rfl⟩; have hcs : Hid (∀ (W : World) (V : Value), Lies u8v W V bs → (convert 23 9 V).run Tryz.prog W = .ok (.string s1) W) := fun W V hv => by rw [hs1]; exact convB hv (unhide HBB)
                have hct : Hid (∀ (W : World) (V : Value), Lies u8v W V (encWt (((f : Nat) : Int), ((t : Nat) : Int), n, es)) → (convert 23 9 V).run Tryz.prog W = .ok (.string s2) W) := fun W V hv => by rw [hs2]; exact convB hv (enc_byte _)
                rw [← hs1, ← hs2] at hne; have z7 : ¬ s2 = s1 := hne; have z8 : (s2.toList == s1.toList) = false := (Lib.bytes_beq_false_iff s2 s1).2 hne; unfold RS at hSS; rw [← hs1] at hSS; obtain ⟨⟨d0, d1, d2, d3⟩, d4⟩ := hSS; clear hr hE HX HL hq hs1 hs2 hgood hbb hne; generalize encWt (((f : Nat) : Int), ((t : Nat) : Int), n, es) = ew at *; refine wp_region_noPanic ?_; refine regionL [] (fun y => (y.cell? ⟨b4, 0, none⟩ = some (.int .i64 (f : Nat)) ∧ y.cell? ⟨b4, 1, none⟩ = some (.int .i64 (t : Nat)) ∧ y.cell? ⟨b4, 2, none⟩ = some (.int .u32 (n : Nat)) ∧ y.cell? ⟨b4, 3, none⟩ = some (.slice ea en ec)) ∧ (convert 23 9 (.slice a N c)).run Tryz.prog y = .ok (.string s1) y) (by kernel_rfl) ⟨⟨d0, d1, d2, d3⟩, d4⟩ (fun hHeld => ?_)
                refine takeN 0 82 rfl ?_
                (try simp only [sl])
                refine readyL (i := 1) (by kernel_rfl) rfl (fun K hK => ?_)
                go_simp
                refine (unhide CE).mono ?_
                rintro e w5 ⟨rfl, hb5⟩
                (try dsimp only)
                have S5 := (unhide HS).drew.below (unhide hb5); have e5 := And.intro S5.cells.1 (unhide hcs _ _ (lies_below (unhide H) S5.bel)); have CC5 := hide (unhide CC _ S5); have HS5 := hide S5; clear S5 hb5 CE CC; refine hK.out _ _ (fun _ => e5) ?_
                clear hK K
                (try simp only [sl])
                have hH45 := e5; refine takeN 2 84 rfl ?_
                (try simp only [sl])
                refine takeN 3 85 rfl ?_
                (try simp only [sl])
                refine takeN 4 86 rfl ?_
                (try simp only [sl])
                refine takeN 7 89 rfl ?_
                (try simp only [sl])
                refine takeN 8 90 rfl ?_
                (try simp only [sl])
                refine readyL (i := 5) (by kernel_rfl) rfl (fun K hK => ?_)
                go_simp
                refine (unhide CC5).mono ?_
                rintro e w6 ⟨v6, rfl, hv6⟩
                (try dsimp only)
                have S6 := (unhide HS5).below (unhide hv6).2; have e6 := And.intro S6.cells.1 (unhide hcs _ _ (lies_below (unhide H) S6.bel)); have c6 := unhide hct _ _ (byrow_lies (unhide hv6).1); obtain ⟨u1, -, u3⟩ := S6.fin (.int .i64 0) (.int .i64 0) (.int .u32 0) (.slice none 0 0); have HU1 := hide u1; have HA : Hid (DecAns w (decV bs) (.returned (.tuple #[.agg #[.int .i64 0, .int .i64 0, .int .u32 0, .slice none 0 0], .int .i64 160])) (set4 w6 r0 (.int .i64 0) (.int .i64 0) (.int .u32 0) (.slice none 0 0))) := by
                  show DecAns _ _ _ _; rw [unhide HD]; exact ⟨_, rfl, ⟨rfl, .inl ⟨rfl, rfl⟩⟩, u3⟩
                obtain ⟨⟨g0, g1, g2, g3⟩, k0, k1, k2, k3⟩ := S6.rcells; clear S6 u1 u3 hv6 CC5; refine hK.out _ _ (fun _ => e6) ?_
                clear hK K
                (try simp only [sl])
                have hH48 := e6; refine readyL (i := 6) (by kernel_rfl) rfl (fun K hK => ?_)
                go_simp
                refine hK.out _ _ (fun _ => e6) ?_
                clear hK K
                (try simp only [sl])
                have hH50 := e6; refine takeN 9 91 rfl ?_
                (try simp only [sl])
                refine takeN 10 92 rfl ?_
                (try simp only [sl])
                refine doneL (by kernel_rfl) ?_ _
                refine NoPanic.normal ?_; obtain ⟨⟨m0, m1, m2, m3⟩, -⟩ := e6
                go_wp2_with fail
                refine bodyPost_ret (results_cell_tmp1 rfl _ _ _ ⟨r0, 0, none⟩ _ rfl (unhide HU1)) rfl ?_; exact HA
            · have hr := (ref_end (y := (((f : Nat) : Int), ((t : Nat) : Int), n, es)) (unhide HN).2.2 (unhide HU) (unhide HX)).2 (fun q => hE q.1)
              have HD := hide hr; have CE := hide (errorR (f : Nat) (t : Nat) n (unhide HL)); generalize errC (((f : Nat) : Int), ((t : Nat) : Int), n, es) = code at *; have z5 : (code == 0) = false := by simpa using hE
              have z6 : (code != 0) = true := by simpa using hE
              obtain ⟨⟨d0, d1, d2, d3⟩, -⟩ := rs_of (unhide HS).drew (unhide H) (unhide HN).2.2; clear hr hE HX HL; refine wp_region_noPanic ?_; refine regionL [] (fun y => y.cell? ⟨b4, 0, none⟩ = some (.int .i64 (f : Nat)) ∧ y.cell? ⟨b4, 1, none⟩ = some (.int .i64 (t : Nat)) ∧ y.cell? ⟨b4, 2, none⟩ = some (.int .u32 (n : Nat)) ∧ y.cell? ⟨b4, 3, none⟩ = some (.slice ea en ec)) (by kernel_rfl) ⟨d0, d1, d2, d3⟩ (fun hHeld => ?_)
              refine takeN 0 82 rfl ?_
              (try simp only [sl])
              refine readyL (i := 1) (by kernel_rfl) rfl (fun K hK => ?_)
              go_simp
              refine (unhide CE).mono ?_
              rintro e w5 ⟨rfl, hb5⟩
              (try dsimp only)
              have S5 := (unhide HS).drew.below (unhide hb5); refine hK.out _ _ (fun _ => S5.cells.1) ?_
              clear hK K
              (try simp only [sl])
              have hH56 := S5.cells.1; refine takeN 2 84 rfl ?_
              (try simp only [sl])
              refine takeN 3 85 rfl ?_
              (try simp only [sl])
              refine takeK 4 86 rfl ?_
              (try simp only [sl])
              refine takeK 5 87 rfl ?_
              (try simp only [sl])
              refine takeK 6 88 rfl ?_
              (try simp only [sl])
              refine takeK 7 89 rfl ?_
              (try simp only [sl])
              refine takeK 8 90 rfl ?_
              (try simp only [sl])
              refine takeK 9 91 rfl ?_
              (try simp only [sl])
              refine takeN 10 92 rfl ?_
              (try simp only [sl])
              refine doneL (by kernel_rfl) ?_ _
              refine NoPanic.normal ?_; obtain ⟨u1, -, u3⟩ := S5.fin (.int .i64 0) (.int .i64 0) (.int .u32 0) (.slice none 0 0); have HU1 := hide u1; have HA : Hid (DecAns w (decV bs) (.returned (.tuple #[.agg #[.int .i64 0, .int .i64 0, .int .u32 0, .slice none 0 0], .int .i64 160])) (set4 w5 r0 (.int .i64 0) (.int .i64 0) (.int .u32 0) (.slice none 0 0))) := by
                show DecAns _ _ _ _; rw [unhide HD]; exact ⟨_, rfl, ⟨rfl, .inl ⟨rfl, rfl⟩⟩, u3⟩
              obtain ⟨⟨g0, g1, g2, g3⟩, k0, k1, k2, k3⟩ := S5.rcells; clear S5 u1 u3 hb5 CE HS HD
              go_wp2_with fail
              refine bodyPost_ret (results_cell_tmp1 rfl _ _ _ ⟨r0, 0, none⟩ _ rfl (unhide HU1)) rfl ?_; exact HA
        · have z1 : ¬ (i : Int) < (cn : Int) := by omega
          have HX : Hid (∀ x, Good x → encWt x = bs → x = (((f : Nat) : Int), ((t : Nat) : Int), n, es)) := k4_end j4 (by omega)
          have HS := hide j5; obtain ⟨ea, ec, hev⟩ := rrow_shape j5.row; have HL := hide (nrow_lies j5.drew.row); have HI2 : Hid (es.length ≤ 1024) := by show es.length ≤ 1024; omega
          clear HI j1 j2 j3 j4 j5 CN HS3 HK4 l1 l2 l3 q1; generalize es.length = en at hev; subst hev
          go_upto_region 20 with fail
          by_cases hE : errC (((f : Nat) : Int), ((t : Nat) : Int), n, es) = 0
          · have hgood := good_of hE (unhide HU); have CE := hide (errorR (f : Nat) (t : Nat) n (unhide HL)); rw [hE] at CE; have hSS := rs_of (unhide HS).drew (unhide H) (unhide HN).2.2; have CC : Hid (∀ W, DS w r0 b4 W (f : Nat) (t : Nat) n (.slice ea en ec) es → Calls Tryz.prog 36 #[.agg #[.int .i64 (f : Nat), .int .i64 (t : Nat), .int .u32 (n : Nat), .slice ea en ec]] W fun e w' => ∃ v', e = .returned v' ∧ Hid (ByRow W.heap.size w' v' (encWt (((f : Nat) : Int), ((t : Nat) : Int), n, es)) ∧ Below W.heap.size W w')) := fun W S => encodeR f t n (nrow_lies S.row) hgood
            by_cases hq : encWt (((f : Nat) : Int), ((t : Nat) : Int), n, es) = bs
            · have hr := (ref_end (y := (((f : Nat) : Int), ((t : Nat) : Int), n, es)) (unhide HN).2.2 (unhide HU) (unhide HX)).1 ⟨hE, hq⟩; have HD := hide hr; rw [hq] at CC; have hbb := (unhide HN).2.2; have HBB := hide hbb; obtain ⟨s1, hs1⟩ : ∃ s1, s1 = strB bs := ⟨_, rfl⟩; have hcs : Hid (∀ (W : World) (V : Value), Lies u8v W V bs → (convert 23 9 V).run Tryz.prog W = .ok (.string s1) W) := fun W V hv => by rw [hs1]; exact convB hv (unhide HBB)
              unfold RS at hSS; rw [← hs1] at hSS; obtain ⟨⟨d0, d1, d2, d3⟩, d4⟩ := hSS; clear hr hE HX HL hq hs1 hgood hbb; refine wp_region_noPanic ?_; refine regionL [] (fun y => (y.cell? ⟨b4, 0, none⟩ = some (.int .i64 (f : Nat)) ∧ y.cell? ⟨b4, 1, none⟩ = some (.int .i64 (t : Nat)) ∧ y.cell? ⟨b4, 2, none⟩ = some (.int .u32 (n : Nat)) ∧ y.cell? ⟨b4, 3, none⟩ = some (.slice ea en ec)) ∧ (convert 23 9 (.slice a N c)).run Tryz.prog y = .ok (.string s1) y) (by kernel_rfl) ⟨⟨d0, d1, d2, d3⟩, d4⟩ (fun hHeld => ?_)
              refine takeN 0 82 rfl ?_
              (try simp only [sl])
              refine readyL (i := 1) (by kernel_rfl) rfl (fun K hK => ?_)
              go_simp
              refine (unhide CE).mono ?_
              rintro e w5 ⟨rfl, hb5⟩
              (try dsimp only)
              have S5 := (unhide HS).drew.below (unhide hb5); have e5 := And.intro S5.cells.1 (unhide hcs _ _ (lies_below (unhide H) S5.bel)); have CC5 := hide (unhide CC _ S5); have HS5 := hide S5; clear S5 hb5 CE CC; refine hK.out _ _ (fun _ => e5) ?_
              clear hK K
              (try simp only [sl])
              have hH64 := e5; refine takeN 2 84 rfl ?_
              (try simp only [sl])
              refine takeN 3 85 rfl ?_
              (try simp only [sl])
              refine takeN 4 86 rfl ?_
              (try simp only [sl])
              refine takeN 7 89 rfl ?_
              (try simp only [sl])
              refine takeN 8 90 rfl ?_
              (try simp only [sl])
              refine readyL (i := 5) (by kernel_rfl) rfl (fun K hK => ?_)
              go_simp
              refine (unhide CC5).mono ?_
              rintro e w6 ⟨v6, rfl, hv6⟩
              (try dsimp only)
              have S6 := (unhide HS5).below (unhide hv6).2; have e6 := And.intro S6.cells.1 (unhide hcs _ _ (lies_below (unhide H) S6.bel)); have c6 := unhide hcs _ _ (byrow_lies (unhide hv6).1); obtain ⟨u1, u2, u3⟩ := S6.fin (.int .i64 (f : Nat)) (.int .i64 (t : Nat)) (.int .u32 (n : Nat)) (.slice ea en ec); have HU1 := hide u1; have HA : Hid (DecAns w (decV bs) (.returned (.tuple #[.agg #[.int .i64 (f : Nat), .int .i64 (t : Nat), .int .u32 (n : Nat), .slice ea en ec], .int .i64 0])) (set4 w6 r0 (.int .i64 (f : Nat)) (.int .i64 (t : Nat)) (.int .u32 (n : Nat)) (.slice ea en ec))) := by
                show DecAns _ _ _ _; rw [unhide HD]; exact ⟨_, rfl, u2, u3⟩
              obtain ⟨⟨g0, g1, g2, g3⟩, k0, k1, k2, k3⟩ := S6.rcells; clear S6 u1 u2 u3 hv6 CC5; refine hK.out _ _ (fun _ => e6) ?_
              clear hK K
              (try simp only [sl])
              have hH67 := e6; refine readyL (i := 6) (by kernel_rfl) rfl (fun K hK => ?_)
              go_simp
              refine hK.out _ _ (fun _ => e6) ?_
              clear hK K
              (try simp only [sl])
              have hH69 := e6; refine takeN 9 91 rfl ?_
              (try simp only [sl])
              refine takeN 10 92 rfl ?_
              (try simp only [sl])
              refine doneL (by kernel_rfl) ?_ _
              refine NoPanic.normal ?_; obtain ⟨⟨m0, m1, m2, m3⟩, -⟩ := e6
              go_wp2_with fail
              refine bodyPost_ret (results_cell_tmp1 rfl _ _ _ ⟨r0, 0, none⟩ _ rfl (unhide HU1)) rfl ?_; exact HA
            · have hr := (ref_end (y := (((f : Nat) : Int), ((t : Nat) : Int), n, es)) (unhide HN).2.2 (unhide HU) (unhide HX)).2 (fun q => hq q.2)
              have HD := hide hr; have hbb := (unhide HN).2.2; have HBB := hide hbb; have hne : strB (encWt (((f : Nat) : Int), ((t : Nat) : Int), n, es)) ≠ strB bs := fun e => hq ((strB_iff (enc_byte _) hbb).1 e)
              obtain ⟨s1, hs1⟩ : ∃ s1, s1 = strB bs := ⟨_, rfl⟩; obtain ⟨s2, hs2⟩ : ∃ s2, s2 = strB (encWt (((f : Nat) : Int), ((t : Nat) : Int), n, es)) := ⟨_, rfl⟩; have hcs : Hid (∀ (W : World) (V : Value), Lies u8v W V bs → (convert 23 9 V).run Tryz.prog W = .ok (.string s1) W) := fun W V hv => by rw [hs1]; exact convB hv (unhide HBB)
              have hct : Hid (∀ (W : World) (V : Value), Lies u8v W V (encWt (((f : Nat) : Int), ((t : Nat) : Int), n, es)) → (convert 23 9 V).run Tryz.prog W = .ok (.string s2) W) := fun W V hv => by rw [hs2]; exact convB hv (enc_byte _)
              rw [← hs1, ← hs2] at hne; have z7 : ¬ s2 = s1 := hne; have z8 : (s2.toList == s1.toList) = false := (Lib.bytes_beq_false_iff s2 s1).2 hne; unfold RS at hSS; rw [← hs1] at hSS; obtain ⟨⟨d0, d1, d2, d3⟩, d4⟩ := hSS; clear hr hE HX HL hq hs1 hs2 hgood hbb hne; generalize encWt (((f : Nat) : Int), ((t : Nat) : Int), n, es) = ew at *; refine wp_region_noPanic ?_; refine regionL [] (fun y => (y.cell? ⟨b4, 0, none⟩ = some (.int .i64 (f : Nat)) ∧ y.cell? ⟨b4, 1, none⟩ = some (.int .i64 (t : Nat)) ∧ y.cell? ⟨b4, 2, none⟩ = some (.int .u32 (n : Nat)) ∧ y.cell? ⟨b4, 3, none⟩ = some (.slice ea en ec)) ∧ (convert 23 9 (.slice a N c)).run Tryz.prog y = .ok (.string s1) y) (by kernel_rfl) ⟨⟨d0, d1, d2, d3⟩, d4⟩ (fun hHeld => ?_)
              refine takeN 0 82 rfl ?_
              (try simp only [sl])
              refine readyL (i := 1) (by kernel_rfl) rfl (fun K hK => ?_)
              go_simp
              refine (unhide CE).mono ?_
              rintro e w5 ⟨rfl, hb5⟩
              (try dsimp only)
              have S5 := (unhide HS).drew.below (unhide hb5); have e5 := And.intro S5.cells.1 (unhide hcs _ _ (lies_below (unhide H) S5.bel)); have CC5 := hide (unhide CC _ S5); have HS5 := hide S5; clear S5 hb5 CE CC; refine hK.out _ _ (fun _ => e5) ?_
              clear hK K
              (try simp only [sl])
              have hH75 := e5; refine takeN 2 84 rfl ?_
              (try simp only [sl])
              refine takeN 3 85 rfl ?_
              (try simp only [sl])
              refine takeN 4 86 rfl ?_
              (try simp only [sl])
              refine takeN 7 89 rfl ?_
              (try simp only [sl])
              refine takeN 8 90 rfl ?_
              (try simp only [sl])
              refine readyL (i := 5) (by kernel_rfl) rfl (fun K hK => ?_)
              go_simp
              refine (unhide CC5).mono ?_
              rintro e w6 ⟨v6, rfl, hv6⟩
              (try dsimp only)
              have S6 := (unhide HS5).below (unhide hv6).2; have e6 := And.intro S6.cells.1 (unhide hcs _ _ (lies_below (unhide H) S6.bel)); have c6 := unhide hct _ _ (byrow_lies (unhide hv6).1); obtain ⟨u1, -, u3⟩ := S6.fin (.int .i64 0) (.int .i64 0) (.int .u32 0) (.slice none 0 0); have HU1 := hide u1; have HA : Hid (DecAns w (decV bs) (.returned (.tuple #[.agg #[.int .i64 0, .int .i64 0, .int .u32 0, .slice none 0 0], .int .i64 160])) (set4 w6 r0 (.int .i64 0) (.int .i64 0) (.int .u32 0) (.slice none 0 0))) := by
                show DecAns _ _ _ _; rw [unhide HD]; exact ⟨_, rfl, ⟨rfl, .inl ⟨rfl, rfl⟩⟩, u3⟩
              obtain ⟨⟨g0, g1, g2, g3⟩, k0, k1, k2, k3⟩ := S6.rcells; clear S6 u1 u3 hv6 CC5; refine hK.out _ _ (fun _ => e6) ?_
              clear hK K
              (try simp only [sl])
              have hH78 := e6; refine readyL (i := 6) (by kernel_rfl) rfl (fun K hK => ?_)
              go_simp
              refine hK.out _ _ (fun _ => e6) ?_
              clear hK K
              (try simp only [sl])
              have hH80 := e6; refine takeN 9 91 rfl ?_
              (try simp only [sl])
              refine takeN 10 92 rfl ?_
              (try simp only [sl])
              refine doneL (by kernel_rfl) ?_ _
              refine NoPanic.normal ?_; obtain ⟨⟨m0, m1, m2, m3⟩, -⟩ := e6
              go_wp2_with fail
              refine bodyPost_ret (results_cell_tmp1 rfl _ _ _ ⟨r0, 0, none⟩ _ rfl (unhide HU1)) rfl ?_; exact HA
          · have hr := (ref_end (y := (((f : Nat) : Int), ((t : Nat) : Int), n, es)) (unhide HN).2.2 (unhide HU) (unhide HX)).2 (fun q => hE q.1)
            have HD := hide hr; have CE := hide (errorR (f : Nat) (t : Nat) n (unhide HL)); generalize errC (((f : Nat) : Int), ((t : Nat) : Int), n, es) = code at *; have z5 : (code == 0) = false := by simpa using hE
            have z6 : (code != 0) = true := by simpa using hE
            obtain ⟨⟨d0, d1, d2, d3⟩, -⟩ := rs_of (unhide HS).drew (unhide H) (unhide HN).2.2; clear hr hE HX HL; refine wp_region_noPanic ?_; refine regionL [] (fun y => y.cell? ⟨b4, 0, none⟩ = some (.int .i64 (f : Nat)) ∧ y.cell? ⟨b4, 1, none⟩ = some (.int .i64 (t : Nat)) ∧ y.cell? ⟨b4, 2, none⟩ = some (.int .u32 (n : Nat)) ∧ y.cell? ⟨b4, 3, none⟩ = some (.slice ea en ec)) (by kernel_rfl) ⟨d0, d1, d2, d3⟩ (fun hHeld => ?_)
            refine takeN 0 82 rfl ?_
            (try simp only [sl])
            refine readyL (i := 1) (by kernel_rfl) rfl (fun K hK => ?_)
            go_simp
            refine (unhide CE).mono ?_
            rintro e w5 ⟨rfl, hb5⟩
            (try dsimp only)
            have S5 := (unhide HS).drew.below (unhide hb5); refine hK.out _ _ (fun _ => S5.cells.1) ?_
            clear hK K
            (try simp only [sl])
            have hH86 := S5.cells.1; refine takeN 2 84 rfl ?_
            (try simp only [sl])
            refine takeN 3 85 rfl ?_
            (try simp only [sl])
            refine takeK 4 86 rfl ?_
            (try simp only [sl])
            refine takeK 5 87 rfl ?_
            (try simp only [sl])
            refine takeK 6 88 rfl ?_
            (try simp only [sl])
            refine takeK 7 89 rfl ?_
            (try simp only [sl])
            refine takeK 8 90 rfl ?_
            (try simp only [sl])
            refine takeK 9 91 rfl ?_
            (try simp only [sl])
            refine takeN 10 92 rfl ?_
            (try simp only [sl])
            refine doneL (by kernel_rfl) ?_ _
            refine NoPanic.normal ?_; obtain ⟨u1, -, u3⟩ := S5.fin (.int .i64 0) (.int .i64 0) (.int .u32 0) (.slice none 0 0); have HU1 := hide u1; have HA : Hid (DecAns w (decV bs) (.returned (.tuple #[.agg #[.int .i64 0, .int .i64 0, .int .u32 0, .slice none 0 0], .int .i64 160])) (set4 w5 r0 (.int .i64 0) (.int .i64 0) (.int .u32 0) (.slice none 0 0))) := by
              show DecAns _ _ _ _; rw [unhide HD]; exact ⟨_, rfl, ⟨rfl, .inl ⟨rfl, rfl⟩⟩, u3⟩
            obtain ⟨⟨g0, g1, g2, g3⟩, k0, k1, k2, k3⟩ := S5.rcells; clear S5 u1 u3 hb5 CE HS HD
            go_wp2_with fail
            refine bodyPost_ret (results_cell_tmp1 rfl _ _ _ ⟨r0, 0, none⟩ _ rfl (unhide HU1)) rfl ?_; exact HA
end Go.Proofs.YtagibmgbjhemkaaGreat.W16

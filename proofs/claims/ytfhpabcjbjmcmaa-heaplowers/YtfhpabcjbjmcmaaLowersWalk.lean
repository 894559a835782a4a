/- The walk of bramblelaw03.HeapLowers. -/
import Derived.Test.YtfhpabcjbjmcmaaTwo
import Derived.Deep.RegionHeld3
import Derived.Deep.CutRange
namespace Go.Proofs.Ytfhpabcjbjmcmaa
open Go.RowKit Go.Maps

set_option maxHeartbeats 400000 in
theorem less16 : Less (.func (.func 16) #[] #[]) (fun x => x) := by
  refine less_of (enters_of Try.func16 (by kernel_rfl) rfl) (fun x y w => ?_)
  go_enter Try.func16, Try.ntmps16
  go_wp2
  go_ret
  exact ⟨rfl, rfl⟩

theorem ents_mem {z : Nat → Int} {N j : Nat} (h : j < N) : ent z j ∈ ents z N := by
  unfold ents; exact List.mem_map.2 ⟨j, List.mem_range.2 h, rfl⟩

set_option maxHeartbeats 4000000 in
set_option maxRecDepth 100000 in
theorem lowers_any [Inhabited EntI] [Inhabited EntS] (a a2 : Option Addr) (b off len cap b2 off2 m cap2 N : Nat) (z y : Nat → Int) (w : World) (hN : Hid (N = min len 400))
    (HC : Hid (∀ i, i < len → a = some ⟨b, off, none⟩ ∧ w.cell? ⟨b, off + i, none⟩ = some (.int .i64 (z i)))) (HC2 : Hid (∀ i, i < m → a2 = some ⟨b2, off2, none⟩ ∧ w.cell? ⟨b2, off2 + i, none⟩ = some (.int .i64 (y i)))) :
    Calls Try.prog 5 #[.slice a len cap, .slice a2 m cap2] w fun e w' => e = .returned (.bool true) ∧ Below w.heap.size w w' := by
  go_enter Try.func5, Try.ntmps5
  go_wp2_with fail
  refine (newLI 16 w less16).mono ?_
  rintro e w1 ⟨p, rfl, L1⟩
  have HT := hide (newT 16 w.heap.size w w1 p [] 0 L1 less16)
  clear L1
  go_wp2_with fail
  refine (unhide HT).mono ?_
  rintro e w2 ⟨p2, rfl, T2⟩
  have HT2 := hide T2
  clear T2 HT
  go_wp2_with fail
  refine (awake_any w2).mono ?_
  rintro e w3 ⟨rfl, hb3⟩
  have HT3 := hide ((unhide HT2).step hb3)
  clear HT2 hb3
  go_upto_region 5 with fail
  go_cut [8] from 33 (fun s8 wq => s8 = .int .i64 N ∧ wq = w3)
  case first =>
    rcases Nat.lt_trichotomy len 400 with h | h | h
    · have hN2 : N = len := by have := unhide hN; omega
      have h1 : (len : Int) < 400 := by omega
      clear hN
      go_wp2_with fail
      go_meet
      case rel => exact ⟨by rw [hN2], rfl⟩
    · have hN2 : N = len := by have := unhide hN; omega
      subst h
      clear hN
      go_wp2_with fail
      go_meet
      case rel => exact ⟨by rw [hN2]; rfl, rfl⟩
    · have hN2 : N = 400 := by have := unhide hN; omega
      have h1 : (400 : Int) < (len : Int) := by omega
      clear hN
      go_wp2_with fail
      go_meet
      case rel => exact ⟨by rw [hN2]; rfl, rfl⟩
  case rest =>
    obtain ⟨rfl, rfl⟩ := hcut
    have hN4 : N ≤ 400 := by have := unhide hN; omega
    have HNl : Hid (N ≤ len) := by show N ≤ len; have := unhide hN; omega
    clear hN
    go_wp2_with fail
    go_loopw [9] (fun s9 wr => ∃ k : Nat, k ≤ N ∧ s9 = .int .i64 k ∧ Hid (TwoI w.heap.size w p (ents z k) k p2 (ents (lowz z y m) k) k wr)) (fun s9 _ => N - (intOf s9).toNat)
    case atStart => exact ⟨0, Nat.zero_le _, rfl, unhide HT3⟩
    case round =>
      obtain ⟨k, hk, rfl, HL⟩ := hrel
      by_cases hlt : k < N
      · have hltz : (k : Int) < (N : Int) := by omega
        have hlk : k < len := by have := unhide HNl; omega
        have hll : (k : Int) < (len : Int) := by omega
        obtain ⟨ea, ca⟩ := unhide HC k hlk
        subst ea
        have hbw : b < w.heap.size := World.block_lt_of_cell? _ _ ca
        have c1 : wr.cell? ⟨b, off + k, none⟩ = some (.int .i64 (z k)) := ((unhide HL).below.cell (by exact hbw)).trans ca
        have CP := hide (pushT (k : Int) (z k) (unhide HL) (key_ok k (by omega)) (fun x hx => by
          obtain ⟨j, hj, rfl⟩ := mem_ents hx
          show (j : Int) ≠ (k : Int)
          omega) (by rw [ents_length]; omega) (by omega))
        have CQ : Hid (∀ w4, TwoI w.heap.size w p (ents z k ++ [⟨k, z k, k⟩]) (k + 1) p2 (ents (lowz z y m) k) k w4 → w4.cell? ⟨b, off + k, none⟩ = some (.int .i64 (z k)) ∧ Calls Try.prog 14 #[.pointer (some ⟨p2, 0, none⟩), .int .i64 k, .int .i64 (lowz z y m k)] w4 fun e w' => e = .returned (.bool true) ∧ Hid (TwoI w.heap.size w p (ents z (k + 1)) (k + 1) p2 (ents (lowz z y m) (k + 1)) (k + 1) w')) := fun w4 T4 =>
          ⟨(T4.below.cell (by exact hbw)).trans ca, (pushT (k : Int) (lowz z y m k) T4.swap (key_ok k (by omega)) (fun x hx => by
            obtain ⟨j, hj, rfl⟩ := mem_ents hx
            show (j : Int) ≠ (k : Int)
            omega) (by rw [ents_length]; omega) (by omega)).mono fun e w' ⟨he, T5⟩ => ⟨he, by show TwoI _ _ _ _ _ _ _ _ _; rw [ents_succ, ents_succ]; exact T5.swap⟩⟩
        have HBW := hide (unhide HL).below
        generalize hzk : z k = zk at c1 CP CQ
        have HZ := hide hzk
        clear hzk HL hbw ca
        by_cases hm : k < m
        · have hmz : (k : Int) < (m : Int) := by omega
          obtain ⟨ea, ca⟩ := unhide HC2 k hm
          subst ea
          have c2 : wr.cell? ⟨b2, off2 + k, none⟩ = some (.int .i64 (y k)) := (HBW.out.cell (by exact World.block_lt_of_cell? _ _ ca)).trans ca
          generalize hyk : y k = yk at c2
          have HY := hide hyk
          clear hyk ca
          rcases Int.lt_trichotomy zk yk with h | h | h
          · have HLV : Hid (lowz z y m k = zk) := by show _ = _; unfold lowz; rw [if_pos hm, HZ.out, HY.out]; omega
            go_wp2_with fail
            refine (unhide CP).mono ?_
            rintro e w4 ⟨rfl, T4⟩
            obtain ⟨c4, CR⟩ := unhide CQ w4 T4
            rw [HLV.out] at CR
            have HCR := hide CR
            clear T4 CP CQ CR
            go_wp2_with fail
            refine (unhide HCR).mono ?_
            rintro e w5 ⟨rfl, T5⟩
            clear HCR
            go_wp2_with fail
            go_roundw
            case rel => exact ⟨k + 1, by omega, by go_num, unhide T5⟩
            case measure => simp [intOf]; omega
          · have HLV : Hid (lowz z y m k = zk) := by show _ = _; unfold lowz; rw [if_pos hm, HZ.out, HY.out]; omega
            subst h
            go_wp2_with fail
            refine (unhide CP).mono ?_
            rintro e w4 ⟨rfl, T4⟩
            obtain ⟨c4, CR⟩ := unhide CQ w4 T4
            rw [HLV.out] at CR
            have HCR := hide CR
            clear T4 CP CQ CR
            go_wp2_with fail
            refine (unhide HCR).mono ?_
            rintro e w5 ⟨rfl, T5⟩
            clear HCR
            go_wp2_with fail
            go_roundw
            case rel => exact ⟨k + 1, by omega, by go_num, unhide T5⟩
            case measure => simp [intOf]; omega
          · have HLV : Hid (lowz z y m k = yk) := by show _ = _; unfold lowz; rw [if_pos hm, HZ.out, HY.out]; omega
            go_wp2_with fail
            refine (unhide CP).mono ?_
            rintro e w4 ⟨rfl, T4⟩
            obtain ⟨c4, CR⟩ := unhide CQ w4 T4
            rw [HLV.out] at CR
            have HCR := hide CR
            clear T4 CP CQ CR
            go_wp2_with fail
            refine (unhide HCR).mono ?_
            rintro e w5 ⟨rfl, T5⟩
            clear HCR
            go_wp2_with fail
            go_roundw
            case rel => exact ⟨k + 1, by omega, by go_num, unhide T5⟩
            case measure => simp [intOf]; omega
        · have hmz : ¬ (k : Int) < (m : Int) := by omega
          have HLV : Hid (lowz z y m k = zk) := by show _ = _; unfold lowz; rw [if_neg hm, HZ.out]
          go_wp2_with fail
          refine (unhide CP).mono ?_
          rintro e w4 ⟨rfl, T4⟩
          obtain ⟨c4, CR⟩ := unhide CQ w4 T4
          rw [HLV.out] at CR
          have HCR := hide CR
          clear T4 CP CQ CR
          go_wp2_with fail
          refine (unhide HCR).mono ?_
          rintro e w5 ⟨rfl, T5⟩
          clear HCR
          go_wp2_with fail
          go_roundw
          case rel => exact ⟨k + 1, by omega, by go_num, unhide T5⟩
          case measure => simp [intOf]; omega
      · have hltz : ¬ (k : Int) < (N : Int) := by omega
        obtain rfl : k = N := by omega
        have HTN : Hid (TwoI w.heap.size w p (ents (zz z y m k) k) k p2 (ents (lowz z y m) k) k wr) := by show TwoI _ _ _ _ _ _ _ _ _; rw [zz_all]; exact unhide HL
        clear HL
        go_wp2_with fail
        go_loopw [11] (fun s11 wr => ∃ c : Nat, c ≤ k ∧ s11 = .int .i64 ((c : Int) - 1) ∧ Hid (TwoI w.heap.size w p (ents (zz z y m c) k) k p2 (ents (lowz z y m) k) k wr)) (fun s11 _ => (intOf s11 + 1).toNat)
        case atStart => exact ⟨k, Nat.le_refl _, rfl, unhide HTN⟩
        case round =>
          obtain ⟨c, hc, rfl, HL⟩ := hrel
          rcases c with _ | c
          · have HT0 : Hid (TwoI w.heap.size w p (ents (lowz z y m) k) k p2 (ents (lowz z y m) k) k wr) := by
              have := unhide HL
              rw [zz_none] at this
              exact this
            clear HL
            go_wp2_with fail
            go_loopw [12] (fun s12 wr => ∃ (i : Nat) (ms : List EntI), s12 = .int .i64 i ∧ i ≤ k + 1 ∧ Hid (((i ≤ k ∧ ms.length + i = k) ∨ (i = k + 1 ∧ ms = [])) ∧ TwoI w.heap.size w p ms k p2 ms k wr)) (fun s12 _ => k + 1 - (intOf s12).toNat)
            case atStart => exact ⟨0, ents (lowz z y m) k, rfl, by omega, .inl ⟨by omega, by rw [ents_length]; rfl⟩, unhide HT0⟩
            case round =>
              obtain ⟨i, ms, rfl, hi, HS⟩ := hrel
              rcases Nat.lt_trichotomy i k with h | h | h
              · have h1 : (i : Int) ≤ (k : Int) := by omega
                have h2 : (i : Int) < (k : Int) := by omega
                have hml : Hid (ms.length + i = k) := by
                  rcases (unhide HS).1 with ⟨-, g⟩ | ⟨g, -⟩
                  · exact g
                  · omega
                have CP := hide (popT (unhide HS).2 (by have := unhide hml; omega) (by have := unhide hml; omega))
                go_wp2_with fail
                refine (unhide CP).mono ?_
                rintro e w4 ⟨x, hx, rfl, hle, T4⟩
                have CP2 := hide (popT T4.swap (by have := unhide hml; omega) (by have := unhide hml; omega))
                have HX := hide (And.intro hx hle)
                clear T4 CP hx hle
                go_wp2_with fail
                refine (unhide CP2).mono ?_
                rintro e w5 ⟨x2, hx2, rfl, hle2, T5⟩
                obtain rfl : x2 = x := first_one (unhide HS).2.once.2 hx2 (unhide HX).1 hle2 (unhide HX).2
                have HT5 : Hid (TwoI w.heap.size w p (without x2.key ms) k p2 (without x2.key ms) k w5) := T5.swap
                have HLN : Hid ((without x2.key ms).length + (i + 1) = k) := by
                  have g1 := length_without (unhide HS).2.once.1 hx2
                  have g2 := unhide hml
                  show _ = _
                  omega
                clear T5 CP2 hx2 hle2 HX HS hml
                generalize hms : without x2.key ms = ms2 at *
                clear hms
                generalize x2.key = kk at *
                generalize x2.rank = rr at *
                go_wp2_with fail
                refine ⟨?_, ?measure⟩
                (repeat apply Exists.intro)
                refine ⟨?rel, rfl⟩
                case rel => exact ⟨i + 1, ms2, by go_num, by omega, .inl ⟨by omega, unhide HLN⟩, unhide HT5⟩
                case measure => simp [intOf]; omega
              · subst h
                obtain rfl : ms = [] := by
                  rcases (unhide HS).1 with ⟨-, g⟩ | ⟨g, -⟩
                  · exact List.eq_nil_of_length_eq_zero (by omega)
                  · omega
                have CP := hide (popNoneT (unhide HS).2)
                have CP2 := hide (popNoneT (unhide HS).2.swap)
                go_wp2_with fail
                refine (unhide CP).mono ?_
                rintro e w' ⟨rfl, rfl⟩
                clear CP
                go_wp2_with fail
                refine (unhide CP2).mono ?_
                rintro e w' ⟨rfl, rfl⟩
                clear CP2
                go_wp2_with fail
                refine ⟨?_, ?measure⟩
                (repeat apply Exists.intro)
                refine ⟨?rel, rfl⟩
                case rel => exact ⟨i + 1, [], by go_num, by omega, .inr ⟨rfl, rfl⟩, (unhide HS).2⟩
                case measure => simp [intOf]
              · obtain rfl : i = k + 1 := by omega
                have h1 : ¬ ((k + 1 : Nat) : Int) ≤ (k : Int) := by omega
                have HB := hide (unhide HS).2.below
                clear HS
                go_wp2_with fail
                go_ret
                exact ⟨rfl, unhide HB⟩
          · have e1 : (((c + 1 : Nat) : Int) - 1) = (c : Int) := by omega
            rw [e1]
            have hc0 : (0 : Int) ≤ (c : Int) := by omega
            have hck : (c : Int) < (k : Int) := by omega
            by_cases hm : c < m
            · have hmz : (c : Int) < (m : Int) := by omega
              obtain ⟨ea, ca⟩ := unhide HC c (by have := unhide HNl; omega)
              obtain ⟨eb, cb⟩ := unhide HC2 c hm
              subst ea eb
              have hlz : (c : Int) < (len : Int) := by have := unhide HNl; omega
              have HB1 : Hid (b < w.heap.size ∧ b2 < w.heap.size) := ⟨World.block_lt_of_cell? _ _ ca, World.block_lt_of_cell? _ _ cb⟩
              have HRD : Hid (∀ wx, Below w.heap.size w wx → wx.cell? ⟨b, off + c, none⟩ = some (.int .i64 (z c)) ∧ wx.cell? ⟨b2, off2 + c, none⟩ = some (.int .i64 (y c))) := fun wx hb => ⟨(hb.cell (by exact (unhide HB1).1)).trans ca, (hb.cell (by exact (unhide HB1).2)).trans cb⟩
              obtain ⟨d1, d2⟩ := unhide HRD wr (unhide HL).below
              have CL : Hid (∀ q, Calls Try.prog 17 #[.pointer (some ⟨p, 0, none⟩), .int .i64 c, .int .i64 (y c)] (wr.drewN q) fun e w' => e = .returned (.bool (decide (y c < z c))) ∧ (w'.cell? ⟨b, off + c, none⟩ = some (.int .i64 (z c)) ∧ w'.cell? ⟨b2, off2 + c, none⟩ = some (.int .i64 (y c))) ∧ Hid (TwoI w.heap.size w p (ents (zz z y m c) k) k p2 (ents (lowz z y m) k) k w')) := fun q => by
                have hT := (unhide HL).step (below_drewN (Below.refl _ wr) q)
                have hz : zz z y m (c + 1) c = z c := by unfold zz; rw [if_pos (by omega)]
                have := lowerT hT (ents_mem (z := zz z y m (c + 1)) (N := k) (j := c) (by omega)) (y c) (by rw [ents_length]; omega)
                simp only [ent, hz] at this
                refine this.mono ?_
                rintro e w' ⟨he, T'⟩
                rw [zz_low (by omega) hm] at T'
                exact ⟨he, unhide HRD w' T'.below, T'⟩
              generalize hzc : z c = zc at d1 CL
              generalize hyc : y c = yc at d2 CL
              clear hzc hyc HL HRD
              by_cases hyz : yc < zc
              · rw [decide_eq_true hyz] at CL
                go_upto_region 17 with fail
                go_cut [94] from 72 to 94 (fun s94 wq => s94 = .bool false ∧ Hid (TwoI w.heap.size w p (ents (zz z y m c) k) k p2 (ents (lowz z y m) k) k wq))
                case first =>
                  go_region_held3 (fun w' => w'.cell? ⟨b, off + c, none⟩ = some (.int .i64 zc) ∧ w'.cell? ⟨b2, off2 + c, none⟩ = some (.int .i64 yc)) (first | go_keep | exact ⟨dd1, dd2⟩) ((go_at_call 17; refine (unhide CL _).mono ?_; rintro e w' ⟨rfl, ⟨dd1, dd2⟩, hT⟩))
                  all_goals
                    go_wp2_with fail
                    go_meet
                    case rel => exact ⟨rfl, unhide hT⟩
                case rest =>
                  obtain ⟨rfl, HTC⟩ := hcut
                  clear CL d1 d2
                  go_wp2_with fail
                  go_roundw
                  case rel => exact ⟨c, by omega, rfl, unhide HTC⟩
                  case measure => simp [intOf]
              · rw [decide_eq_false hyz] at CL
                go_upto_region 17 with fail
                go_cut [94] from 72 to 94 (fun s94 wq => s94 = .bool false ∧ Hid (TwoI w.heap.size w p (ents (zz z y m c) k) k p2 (ents (lowz z y m) k) k wq))
                case first =>
                  go_region_held3 (fun w' => w'.cell? ⟨b, off + c, none⟩ = some (.int .i64 zc) ∧ w'.cell? ⟨b2, off2 + c, none⟩ = some (.int .i64 yc)) (first | go_keep | exact ⟨dd1, dd2⟩) ((go_at_call 17; refine (unhide CL _).mono ?_; rintro e w' ⟨rfl, ⟨dd1, dd2⟩, hT⟩))
                  all_goals
                    go_wp2_with fail
                    go_meet
                    case rel => exact ⟨rfl, unhide hT⟩
                case rest =>
                  obtain ⟨rfl, HTC⟩ := hcut
                  clear CL d1 d2
                  go_wp2_with fail
                  go_roundw
                  case rel => exact ⟨c, by omega, rfl, unhide HTC⟩
                  case measure => simp [intOf]
            · have hmz : ¬ (c : Int) < (m : Int) := by omega
              have hmd : decide ((c : Int) < (m : Int)) = false := by simp; omega
              have hmd2 : decide (c < m) = false := by simp; omega
              have HTC : Hid (TwoI w.heap.size w p (ents (zz z y m c) k) k p2 (ents (lowz z y m) k) k wr) := by
                have := unhide HL
                rw [zz_keep hm] at this
                exact this
              clear HL
              go_wp2_with fail
              go_quiet (fail)
              go_wp2_with fail
              go_roundw
              case rel => exact ⟨c, by omega, rfl, (unhide HTC).step (below_drewN (Below.refl _ _) nq)⟩
              case measure => simp [intOf]
end Go.Proofs.Ytfhpabcjbjmcmaa

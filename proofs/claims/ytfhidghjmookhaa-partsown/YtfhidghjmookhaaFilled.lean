/- filled: parts of texts behind the calls of a script. -/
import Derived.Test.YtfhidghjmookhaaNamed
namespace Go.Proofs.Ytfhidghjmookhaa
open Go.RowKit Go.Maps

set_option maxHeartbeats 4000000 in
set_option maxRecDepth 100000 in
theorem filled_any (a : Option Addr) (b off len cap N : Nat) (o : Nat → Int × Int × Int) (w : World) (hN : Hid (N = min len 100))
    (HC : Hid (∀ i, i < len → a = some ⟨b, off, none⟩ ∧ w.cell? ⟨b, off + i * 3, none⟩ = some (.int .i64 (o i).1) ∧ w.cell? ⟨b, off + i * 3 + 1, none⟩ = some (.int .i64 (o i).2.1) ∧ w.cell? ⟨b, off + i * 3 + 2, none⟩ = some (.int .i64 (o i).2.2))) :
    Calls Try.prog 16 #[.slice a len cap] w fun e w' => ∃ p, e = .returned (.pointer (some ⟨p, 0, none⟩)) ∧ Hid (∃ S, LiveZ w.heap.size w p S w' ∧ Le 300 S) := by
  go_enter Try.func16, Try.ntmps16
  go_wp2_with fail
  refine (newLZ w).mono ?_
  rintro e w1 ⟨p, rfl, L1⟩
  have HL1 : Hid (∃ S, LiveZ w.heap.size w p S w1 ∧ Le 0 S) := ⟨[], L1, by simp [tot], by simp⟩
  clear L1
  have hN4 : N ≤ 100 := by have := unhide hN; omega
  go_wp2_with fail
  go_loopw [4] (fun s4 wr => ∃ k : Nat, k ≤ N ∧ s4 = .int .i64 k ∧ Hid (∃ S, LiveZ w.heap.size w p S wr ∧ Le (k * 3) S)) (fun s4 _ => N - (intOf s4).toNat)
  case atStart => exact ⟨0, Nat.zero_le _, rfl, unhide HL1⟩
  case round =>
    obtain ⟨k, hk, rfl, HK⟩ := hrel
    rename World => wo
    by_cases hlt : k < N
    · have hlk : k < len := by have := unhide hN; omega
      have hll : (k : Int) < (len : Int) := by omega
      have h100 : (k : Int) < 100 := by omega
      obtain ⟨ea, q0, q1, q2⟩ := unhide HC k hlk
      subst ea
      have hbw : b < w.heap.size := World.block_lt_of_cell? _ _ q0
      have HRD : Hid (∀ wx, Below w.heap.size w wx → wx.cell? ⟨b, off + k * 3, none⟩ = some (.int .i64 (o k).1) ∧ wx.cell? ⟨b, off + k * 3 + 1, none⟩ = some (.int .i64 (o k).2.1) ∧ wx.cell? ⟨b, off + k * 3 + 2, none⟩ = some (.int .i64 (o k).2.2)) := fun wx hb => ⟨(hb.cell (by exact hbw)).trans q0, (hb.cell (by exact hbw)).trans q1, (hb.cell (by exact hbw)).trans q2⟩
      generalize (o k).1 = K1 at HRD
      generalize (o k).2.1 = K2 at HRD
      generalize (o k).2.2 = K3 at HRD
      obtain ⟨d0, d1, d2⟩ := unhide HRD wo (by obtain ⟨S, hS, -⟩ := unhide HK; exact hS.below)
      have CN : Hid (∀ (kk : Int) (wx : World), Hid (∃ S, LiveZ w.heap.size w p S wx ∧ Le (k * 3) S) → Calls Try.prog 22 #[.int .i64 kk] wx fun e w' => e = .returned (encStr (nm kk)) ∧ (w'.cell? ⟨b, off + k * 3 + 1, none⟩ = some (.int .i64 K2) ∧ w'.cell? ⟨b, off + k * 3 + 2, none⟩ = some (.int .i64 K3)) ∧ Hid (∃ S, LiveZ w.heap.size w p S w' ∧ Le (k * 3) S)) := fun kk wx hx => by
        obtain ⟨S, hS, hT⟩ := unhide hx
        exact (name_any kk wx).mono fun e w' hh => ⟨hh.1, (unhide HRD w' (hS.step hh.2).below).2, S, hS.step hh.2, hT⟩
      have HD : Hid (∃ S, LiveZ w.heap.size w p S wo.drew ∧ Le (k * 3) S) := by
        obtain ⟨S, hS, hT⟩ := unhide HK
        exact ⟨S, hS.step (below_drewN (Below.refl _ wo) 1), hT⟩
      clear q0 q1 q2 hbw
      go_upto_region 5 with fail
      go_cut [5, 6] from 22 to 33 (fun s5 s6 wq => s5 = encStr (nm K2) ∧ s6 = encStr (nm K3) ∧ Hid (∃ S, LiveZ w.heap.size w p S wq ∧ Le (k * 3) S))
      case first =>
        go_region_held3 (fun w' => w'.cell? ⟨b, off + k * 3 + 1, none⟩ = some (.int .i64 K2) ∧ w'.cell? ⟨b, off + k * 3 + 2, none⟩ = some (.int .i64 K3)) (first | exact ⟨dd1, dd2⟩ | exact ⟨d1, d2⟩ | (go_keep; done)) ((go_at_call 22; refine (unhide CN _ _ (by first | assumption | exact HD)).mono ?_; rintro e w' ⟨rfl, ⟨dd1, dd2⟩, hT⟩))
        all_goals
          go_wp2_with fail
          go_meet
          case rel => exact ⟨rfl, rfl, unhide hT⟩
      case rest =>
        obtain ⟨rfl, rfl, HT⟩ := hcut
        rename World => w5
        obtain ⟨S, hS, hT⟩ := unhide HT
        have e0 := (unhide HRD w5 hS.below).1
        have HKB : Hid (k * 3 + 3 < 1099511627776) := by show k * 3 + 3 < 1099511627776; omega
        have hkw : IntKind.i64.wrap ((k : Int) + 1) = ((k + 1 : Nat) : Int) := by rw [IntKind.wrap_i64]; omega
        have HEND : Hid (∀ w6, (∃ S, LiveZ w.heap.size w p S w6 ∧ Le (k * 3 + 3) S) → ∃ S, LiveZ w.heap.size w p S w6 ∧ Le ((k + 1) * 3) S) := fun w6 h => by
          obtain ⟨S, h1, h2⟩ := h
          exact ⟨S, h1, h2.mono (by omega)⟩
        by_cases h2 : K1 = 2
        · subst h2
          have CD := hide (dropNamed (nm K2) hS (ok_nm K2) hT (by omega))
          clear hS hT HT CN HD HRD d0 d1 d2
          go_wp2_with fail
          refine (unhide CD).mono ?_
          rintro e w6 ⟨bb, rfl, H6⟩
          have HE := hide (unhide HEND w6 (by obtain ⟨S, h1, h2⟩ := unhide H6; exact ⟨S, h1, h2.mono (by omega)⟩))
          clear CD H6 HEND
          go_wp2_with fail
          go_roundw
          case rel => exact ⟨k + 1, by omega, rfl, unhide HE⟩
          case measure => simp [intOf]; omega
        · have n2 : (K1 == 2) = false := by simpa using h2
          by_cases h3 : K1 = 3
          · subst h3
            have CA := hide (addNamed (nm K2) hS (ok_nm K2) (nm_full _) hT (by omega))
            clear hS hT HT CN HD HRD d0 d1 d2 h2 n2
            go_wp2_with fail
            refine (unhide CA).mono ?_
            rintro e w6 ⟨bb, rfl, H6⟩
            obtain ⟨S6, hS6, hT6⟩ := unhide H6
            have CB := hide (addNamed (nm K3) hS6 (ok_nm K3) (nm_full _) hT6 (by omega))
            clear CA H6 hS6 hT6
            go_wp2_with fail
            refine (unhide CB).mono ?_
            rintro e w7 ⟨bb2, rfl, H7⟩
            obtain ⟨S7, hS7, hT7⟩ := unhide H7
            have CJ := hide (joinNamed (nm K2) (nm K3) hS7 (ok_nm K2) (ok_nm K3) hT7 (by omega))
            clear CB H7 hS7 hT7
            go_wp2_with fail
            refine (unhide CJ).mono ?_
            rintro e w8 ⟨bb3, rfl, H8⟩
            have HE := hide (unhide HEND w8 (by obtain ⟨S, h1, h2⟩ := unhide H8; exact ⟨S, h1, h2.mono (by omega)⟩))
            clear CJ H8 HEND
            go_wp2_with fail
            go_roundw
            case rel => exact ⟨k + 1, by omega, rfl, unhide HE⟩
            case measure => simp [intOf]; omega
          · have n3 : (K1 == 3) = false := by simpa using h3
            by_cases h4 : K1 = 4
            · subst h4
              have CD := hide (burstNamed (nm K2) hS (ok_nm K2) hT (by omega))
              clear hS hT HT CN HD HRD d0 d1 d2 h2 n2 h3 n3
              go_wp2_with fail
              refine (unhide CD).mono ?_
              rintro e w6 ⟨bb, rfl, H6⟩
              have HE := hide (unhide HEND w6 (by obtain ⟨S, h1, h2⟩ := unhide H6; exact ⟨S, h1, h2.mono (by omega)⟩))
              clear CD H6 HEND
              go_wp2_with fail
              go_roundw
              case rel => exact ⟨k + 1, by omega, rfl, unhide HE⟩
              case measure => simp [intOf]; omega
            · have n4 : (K1 == 4) = false := by simpa using h4
              have CA := hide (addNamed (nm K2) hS (ok_nm K2) (nm_full _) hT (by omega))
              clear hS hT HT CN HD HRD d0 d1 d2 h2 h3 h4
              go_wp2_with fail
              refine (unhide CA).mono ?_
              rintro e w6 ⟨bb, rfl, H6⟩
              have HE := hide (unhide HEND w6 (by obtain ⟨S, h1, h2⟩ := unhide H6; exact ⟨S, h1, h2.mono (by omega)⟩))
              clear CA H6 HEND
              go_wp2_with fail
              go_roundw
              case rel => exact ⟨k + 1, by omega, rfl, unhide HE⟩
              case measure => simp [intOf]; omega
    · have HF : Hid (∃ S, LiveZ w.heap.size w p S wo ∧ Le 300 S) := by
        obtain ⟨S, h1, h2⟩ := unhide HK
        exact ⟨S, h1, h2.mono (by omega)⟩
      rcases Nat.lt_or_ge k len with h | h
      · have h1 : (k : Int) < (len : Int) := by omega
        have h2 : ¬ (k : Int) < 100 := by have := unhide hN; omega
        clear HK hN
        go_wp2_with fail
        go_ret
        exact ⟨p, rfl, unhide HF⟩
      · have h1 : ¬ (k : Int) < (len : Int) := by omega
        clear HK hN
        go_wp2_with fail
        go_ret
        exact ⟨p, rfl, unhide HF⟩
end Go.Proofs.Ytfhidghjmookhaa

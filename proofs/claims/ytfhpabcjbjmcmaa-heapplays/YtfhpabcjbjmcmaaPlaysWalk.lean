/- The walk of bramblelaw03.HeapPlays. -/
import Derived.Test.YtfhpabcjbjmcmaaStepAny
import Derived.Test.YtfhpabcjbjmcmaaAwake
namespace Go.Proofs.Ytfhpabcjbjmcmaa
open Go.RowKit Go.Maps

set_option maxHeartbeats 400000 in
theorem less9 : Less (.func (.func 9) #[] #[]) (fun x => x) := by
  refine less_of (enters_of Try.func9 (by kernel_rfl) rfl) (fun x y w => ?_)
  go_enter Try.func9, Try.ntmps9
  go_wp2
  go_ret
  exact ⟨rfl, rfl⟩

def slen : Value → Nat
  | .slice _ n _ => n
  | _ => 0

theorem LiveI.game [Inhabited EntI] {B : Nat} {w0 w : World} {p : Nat} (h : LiveI B w0 p [] 0 w) : Game B w0 p [] 0 (.slice none 0 0) (pairs []) w := by
  obtain ⟨F, h1, h2⟩ := h.on
  exact ⟨h.below, h.room, ⟨rfl, .inl ⟨rfl, rfl⟩⟩, F, h1, h2, fun b hb => by cases hb⟩

set_option maxHeartbeats 4000000 in
set_option maxRecDepth 100000 in
theorem plays_any [Inhabited EntI] [Inhabited EntS] (a : Option Addr) (b off len cap : Nat) (o : Nat → Int × Int × Int) (w : World)
    (HC : Hid (∀ i, i < len → a = some ⟨b, off, none⟩ ∧ (w.cell? ⟨b, off + i * 3, none⟩ = some (.int .i64 (o i).1) ∧ w.cell? ⟨b, off + i * 3 + 1, none⟩ = some (.int .i64 (o i).2.1) ∧ w.cell? ⟨b, off + i * 3 + 2, none⟩ = some (.int .i64 (o i).2.2)) ∧ KeyOkI (o i).2.1)) :
    Calls Try.prog 3 #[.slice a len cap] w fun e w' => e = .returned (.bool true) ∧ Below w.heap.size w w' := by
  go_enter Try.func3, Try.ntmps3
  go_wp2_with fail
  refine (newLI 9 w less9).mono ?_
  rintro e w1 ⟨p, rfl, L1⟩
  have HL1 := hide L1
  clear L1
  go_wp2_with fail
  refine (awake_any w1).mono ?_
  rintro e w2 ⟨rfl, hb2⟩
  have HG2 := hide ((unhide HL1).step hb2).game
  clear HL1 hb2
  go_wp2_with fail
  go_loopw [4, 5] (fun s4 s5 wr => ∃ (k : Nat) (ms : List EntI) (n : Nat), k ≤ len ∧ k ≤ 400 ∧ s5 = .int .i64 k ∧ ms.length ≤ k ∧ n ≤ k ∧ Game w.heap.size w p ms n s4 (pairs ms) wr) (fun _ s5 _ => 400 - (intOf s5).toNat)
  case atStart => exact ⟨0, [], 0, Nat.zero_le _, by omega, rfl, Nat.le_refl _, Nat.le_refl _, unhide HG2⟩
  case round =>
    obtain ⟨k, ms, n, hk, hk4, rfl, hms, hn, G⟩ := hrel
    obtain ⟨va, vc, rfl⟩ := item_shape G.row
    by_cases hlt : k < len ∧ k < 400
    · obtain ⟨h1, h2⟩ := hlt
      have h1z : (k : Int) < (len : Int) := by omega
      have h2z : (k : Int) < 400 := by omega
      obtain ⟨ea, ⟨c1, c2, c3⟩, hkey⟩ := unhide HC k h1
      subst ea
      have hbw : b < w.heap.size := World.block_lt_of_cell? _ _ c1
      have d1 := (G.below.cell (p := ⟨b, off + k * 3, none⟩) (by exact hbw)).trans c1
      have d2 := (G.below.cell (p := ⟨b, off + k * 3 + 1, none⟩) (by exact hbw)).trans c2
      have d3 := (G.below.cell (p := ⟨b, off + k * 3 + 2, none⟩) (by exact hbw)).trans c3
      have CS := hide (step_any (o k).1 (o k).2.1 (o k).2.2 G hkey (by omega) (by omega))
      generalize (o k).1 = q0 at *
      generalize (o k).2.1 = q1 at *
      generalize (o k).2.2 = q2 at *
      clear c1 c2 c3 hbw G hkey
      generalize (pairs ms).length = L0 at *
      go_wp2_with fail
      refine (unhide CS).mono ?_
      rintro e w3 ⟨v', ms', n', rfl, hl3, hn3, hg3⟩
      obtain ⟨va', vc', rfl⟩ := item_shape (unhide hg3).row
      have CL := hide (gLen (unhide hg3))
      rw [← pairs_length ms'] at CL hl3
      have hl4 : ms'.length ≤ ms.length + 1 := by rw [← pairs_length ms']; exact hl3
      generalize (pairs ms').length = L3 at *
      clear CS d1 d2 d3
      go_wp2_with fail
      refine (unhide CL).mono ?_
      rintro e w4 ⟨rfl, rfl⟩
      clear CL
      go_wp2_with fail
      go_roundw
      case rel => exact ⟨k + 1, ms', n', by omega, by omega, by go_num, by omega, by omega, unhide hg3⟩
      case measure => simp [intOf]; omega
    · have HG := hide G
      have hm4 : ms.length ≤ 400 := by omega
      clear G hms hn
      rcases (by omega : k = len ∨ (k < len ∧ k = 400)) with rfl | ⟨h1, rfl⟩
      all_goals
        go_wp2_with fail
        go_loopw [4] (fun s4 wr => ∃ (ms : List EntI) (n : Nat), ms.length ≤ 400 ∧ Game w.heap.size w p ms n s4 (pairs ms) wr) (fun s4 _ => slen s4)
        case atStart => exact ⟨ms, n, hm4, unhide HG⟩
        case round =>
          obtain ⟨ms, n, hms, G⟩ := hrel
          obtain ⟨va, vc, rfl⟩ := item_shape G.row
          rcases Nat.eq_zero_or_pos ms.length with h0 | h0
          · obtain rfl : ms = [] := List.length_eq_zero_iff.1 h0
            have CL := hide (gLen G)
            have HB := hide G.below
            clear G h0
            go_wp2_with fail
            refine (unhide CL).mono ?_
            rintro e w4 ⟨rfl, rfl⟩
            clear CL
            go_wp2_with fail
            go_ret
            exact ⟨rfl, unhide HB⟩
          · have CS := hide (stepPop 0 0 G h0 (by omega))
            have HO := hide G.facts.1
            have hpz : (0 : Int) < ((pairs ms).length : Int) := by rw [pairs_length]; omega
            have HLM := hide (pairs_length ms)
            have HMS := hide hms
            clear G hms h0
            generalize (pairs ms).length = L at *
            go_wp2_with fail
            refine (unhide CS).mono ?_
            rintro e w3 ⟨x, hx, v', rfl, hg3⟩
            obtain ⟨va', vc', rfl⟩ := item_shape (unhide hg3).row
            have HL3 := hide (length_without (unhide HO) hx)
            clear CS hx
            go_wp2_with fail
            go_roundw
            case rel => exact ⟨_, n, by have := unhide HL3; have := unhide HMS; omega, unhide hg3⟩
            case measure => show (pairs _).length < L; rw [pairs_length]; have := unhide HL3; have := unhide HLM; omega
end Go.Proofs.Ytfhpabcjbjmcmaa

/- told: a set's runs as the reference's. -/
import Derived.Test.YtdalghfhpekcfaaLiveI
import Derived.Test.YtdalghfhpekcfaaRefRow
import Derived.Lib.AppendZeros
import Derived.OwnWalk
namespace Go.Proofs.Ytdalghfhpekcfaa
open Go.RowKit Go.Shelf

theorem wideI {x : Int} (h : (-9223372036854775808) ≤ x) (h2 : x ≤ 9223372036854775807) : IntKind.i64.wrap x = x := by rw [IntKind.wrap_i64]; omega

set_option maxHeartbeats 1000000 in
set_option maxRecDepth 100000 in
theorem toldI {p : Nat} {v : Value} {rs : List (Int × Int)} (w : World) (hS : SetI w p v rs) (hC : Canon rs) (hF : Fits (-9223372036854775808) 9223372036854775807 rs) (hn : rs.length ≤ 1000000) :
    Calls Try.prog 44 #[.pointer (some ⟨p, 0, none⟩)] w fun e w' => ∃ v', e = .returned v' ∧ Hid (NewR w.heap.size w w' v' rs) := by
  have HC := hide (runsI w hS (by omega))
  have HN := hide hn
  have HW : Hid (∀ i, i < rs.length → IntKind.i64.wrap (lo rs i) = lo rs i ∧ IntKind.i64.wrap (hi rs i) = hi rs i) := fun i hi1 => by
    have h1 := hF i hi1
    have h2 := hC.run i hi1
    exact ⟨wideI h1.1 (by omega), wideI (by omega) h1.2⟩
  clear hS hn hC hF
  go_enter Try.func44, Try.ntmps44
  go_wp2_with fail
  refine (unhide HC).mono ?_
  rintro e w1 ⟨v1, rfl, hh⟩
  have HX : Hid (∃ a c, v1 = .slice a rs.length c ∧ ∀ i, i < rs.length → ∃ g, a = some ⟨g, 0, none⟩ ∧ g < w1.heap.size ∧ w1.cell? ⟨g, i * 2, none⟩ = some (.int .i64 (lo rs i)) ∧ w1.cell? ⟨g, i * 2 + 1, none⟩ = some (.int .i64 (hi rs i))) := by
    have h1 := (unhide hh).1
    rcases h1.2 with ⟨rfl, h3⟩ | ⟨g, cap, cur, rfl, -, hg, -⟩
    · exact ⟨none, 0, by rw [h3], fun i hi1 => by omega⟩
    · have hc := owns_cells h1
      exact ⟨_, _, rfl, fun i hi1 => ⟨g, rfl, (Array.getElem?_eq_some_iff.1 hg).1, hc i hi1⟩⟩
  obtain ⟨a, c, rfl, hcell⟩ := unhide HX
  have HCELL := hide hcell
  have HB1 := hide (unhide hh).2
  have HS1 : Hid (w.heap.size ≤ w1.heap.size) := (unhide hh).2.size
  have HTK : Hid (∀ k, k < rs.length → rs.take (k + 1) = rs.take k ++ [(lo rs k, hi rs k)] ∧ (rs.take k).length = k) := fun k hk => ⟨take_next hk, by rw [List.length_take]; omega⟩
  have HALL : Hid (rs.take rs.length = rs) := List.take_length
  generalize hL : rs.length = L at *
  clear HC HX hcell hh hL
  go_wp2_with fail
  go_loopw [3, 9] (fun s3 s9 wr => ∃ (k c3 : Nat) (a3 : Option Addr), k ≤ L ∧ s9 = .int .i64 k ∧ s3 = .slice a3 k c3 ∧ Hid (NewR w1.heap.size w1 wr (.slice a3 k c3) (rs.take k))) (fun _ s9 _ => L - (intOf s9).toNat)
  case atStart => exact ⟨0, 0, none, Nat.zero_le _, rfl, rfl, by rw [List.take_zero]; exact NewR.nil w1⟩
  case round =>
    obtain ⟨k, c3, a3, hk, rfl, rfl, HR⟩ := hrel
    by_cases hlt : k < L
    · have hltz : (k : Int) < (L : Int) := by omega
      have hk6 : (k : Int) < 1000000 := by have := unhide HN; omega
      obtain ⟨g, rfl, hg, d1, d2⟩ := unhide HCELL k hlt
      have c1 : wr.cell? ⟨g, k * 2, none⟩ = _ := ((unhide HR).below.cell (by exact hg)).trans d1
      have c2 : wr.cell? ⟨g, k * 2 + 1, none⟩ = _ := ((unhide HR).below.cell (by exact hg)).trans d2
      obtain ⟨w1', w2'⟩ := unhide HW k hlt
      obtain ⟨t1, t2⟩ := unhide HTK k hlt
      have HA := ((unhide HR).alloc (.cells #[.int .i64 (lo rs k), .int .i64 (hi rs k)] 93)).append (lo rs k) (hi rs k) (by rw [t2]; have := unhide HN; omega)
      rw [t2, ← t1] at HA
      rw [show (wr.alloc (.cells #[.int .i64 (lo rs k), .int .i64 (hi rs k)] 93)).heap.size = wr.heap.size + 1 from Array.size_push ..] at HA
      obtain ⟨g', cap', w', hr, hN⟩ := HA
      have HRn := hide hr
      generalize lo rs k = x at *
      generalize hi rs k = y at *
      clear d1 d2 hg t1 t2 hr HR
      go_wp2_with (at_builtin; refine Lib.wpList_append_run _ rfl _ _ 44 44 rfl (.slice a3 k c3) (.slice (some ⟨wr.heap.size + 1, 0, none⟩) 1 1) rfl rfl _ _ HRn.out ?_)
      go_roundw
      case rel => exact ⟨k + 1, _, _, by omega, by go_num, rfl, hN⟩
      case measure => simp [intOf]; omega
    · obtain rfl : k = L := by omega
      have HE : Hid (NewR w.heap.size w wr (.slice a3 k c3) rs) := by
        have h := unhide HR
        rw [unhide HALL] at h
        have hs := unhide HS1
        exact ⟨h.row, fun j hj => Nat.le_trans hs (h.blk j hj), (unhide HB1).trans (h.below.mono hs), Nat.le_trans hs h.size⟩
      clear HR HALL
      go_wp2_with fail
      go_ret
      exact ⟨_, rfl, HE⟩
end Go.Proofs.Ytdalghfhpekcfaa

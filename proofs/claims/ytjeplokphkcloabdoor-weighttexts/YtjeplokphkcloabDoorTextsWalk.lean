/- The walk of bramblelaw01.WeightTexts. -/
import Derived.Test.YtjeplokphkcloabDoorRead2
namespace Go.Proofs.YtjeplokphkcloabDoor
open Go.RowKit

theorem bits_cost {r : Nat} (h : r ≤ 2139095040) : bitsB r = (r : Int) := by
  rw [bitsB_eq (by omega)]
  have : M.nan r = false := decide_eq_false (by omega)
  rw [this]; rfl
theorem is_same {r : Nat} (h : r ≤ 2139095040) (w : World) :
    Calls Tryd.prog 10 #[.float .f32 r, .int .u32 (r : Int)] w fun e w' => e = .returned (.bool true) ∧ w' = w := by
  have := is_any r (r : Int) w
  rwa [bits_cost h, show (((r : Int) == (r : Int)) && ((r : Int) == (r : Int))) = true by simp] at this

theorem admW_le (v : Nat) : admW v ≤ 2139095040 := by unfold admW; (repeat' split) <;> omega
theorem rdW_le (g : Nat → Nat) : rdW g ≤ 2139095040 := by
  unfold rdW
  split
  · exact admW_le _
  · omega

/-- Read and the reference's Read answer alike of any text. -/
theorem reads_alike (s : ByteArray) : ∃ (r : Nat) (e : Int), r ≤ 2139095040 ∧ (∀ w, Calls Tryd.prog 8 #[.string s] w fun x w' => x = .returned (.tuple #[.float .f32 r, .int .i64 e]) ∧ w' = w) ∧
    (∀ w, Calls Tryd.prog 9 #[.string s] w fun x w' => x = .returned (.tuple #[.int .u32 (r : Int), .int .i64 e]) ∧ w' = w) := by
  by_cases hs : s.size = 8
  · have hg : ∀ k (h : k < s.size), (s[k]).toNat = (fun k => (s.data.toList.getD k 0).toNat) k := by
      intro k h
      show _ = (s.data.toList.getD k 0).toNat
      rw [List.getD, List.getElem?_eq_getElem (by simpa using h)]
      rfl
    exact ⟨_, _, rdW_le _, fun w => read_8 s _ hs hg w, fun w => refRead_8 s _ hs hg w⟩
  · have h8 : ((s.size : Int) == 8) = false := by simp; omega
    exact ⟨0, 10, by omega, fun w => read_bad s h8 w, fun w => refRead_bad s h8 w⟩

/-- The text of a weight is read back. -/
theorem read_back (u : Nat) (hu : u < 2139095040) (w : World) :
    Calls Tryd.prog 8 #[.string ⟨(hexs 8 u).toArray⟩] w fun x w' => x = .returned (.tuple #[.float .f32 u, .int .i64 0]) ∧ w' = w := by
  have hs : (ByteArray.mk (hexs 8 u).toArray).size = 8 := by
    show (hexs 8 u).toArray.size = 8
    simp [hexs]
  have hg : ∀ k (h : k < (ByteArray.mk (hexs 8 u).toArray).size), ((ByteArray.mk (hexs 8 u).toArray)[k]).toNat = (fun j => ((hexs 8 u).getD j 0).toNat) k := by
    intro k h
    show _ = ((hexs 8 u).getD k 0).toNat
    have h' : k < (hexs 8 u).length := by rw [hexs_length]; omega
    rw [List.getD, List.getElem?_eq_getElem h']
    rfl
  have := read_8 _ _ hs hg w
  have hp := pv_hexs u (by omega) 8 (by omega)
  simp only [Nat.sub_self, Nat.pow_zero, Nat.div_one] at hp
  unfold rdW rdE at this
  rw [hp] at this
  simp only [] at this
  rwa [show admW u = u by unfold admW; rw [if_neg (by omega), if_neg (by omega)], show admE u = 0 by unfold admE; rw [if_neg (by omega), if_neg (by omega)]] at this

theorem wordOf_fin {u : Nat} (h : u < 2139095040) : wordOf u = u := by
  unfold wordOf
  rw [show M.nan u = false from decide_eq_false (by omega)]; rfl

set_option maxHeartbeats 1000000 in
theorem texts_any (b : Nat) (hb : b < 4294967296) (s : ByteArray) (w : World) (hc : w.cell? ⟨4, 15, none⟩ = some (.int .u8 4)) :
    Calls Tryd.prog 3 #[.int .u32 (b : Int), .string s] w fun e w' => e = .returned (.bool true) ∧ Below w.heap.size w w' := by
  have h4 : 4 < w.heap.size := World.block_lt_of_cell? _ _ hc
  have HF : Hid (∀ w, Calls Tryd.prog 6 #[.int .u32 (b : Int)] w fun e w' => e = .returned (.float .f32 b) ∧ w' = w) := fun w => float_any b w
  have HT := hide (fun w hc => text_any b hb w hc)
  have HU := hide (fun w => refText_any b hb w)
  obtain ⟨r, re, hr, hrd, hrf⟩ := reads_alike s
  have HRD := hide hrd
  have HRF := hide hrf
  have HI := hide (fun w => is_same hr w)
  have HA := hide (admit_nat b)
  have hx := run_tobits
  have hfin : admW b < 2139095040 := by unfold admW; (repeat' split) <;> omega
  have HT2 := hide (fun w hc => text_any (admW b) (by omega) w hc)
  rw [wordOf_fin hfin] at HT2
  have HB := hide (read_back (admW b) hfin)
  have HI2 := hide (fun w => is_same (r := admW b) (by omega) w)
  generalize admW b = a at HA HT2 HB HI2
  generalize hexs 8 (wordOf b) = T at HT HU
  generalize hexs 8 a = T2 at HT2 HB
  have hea : admE b = 0 ∨ (admE b == 0) = false := by
    by_cases h : admE b = 0
    · exact Or.inl h
    · exact Or.inr (by simpa using h)
  generalize admE b = ae at HA hea
  clear hrd hrf hr hfin hb
  rcases hea with rfl | hne
  · go_enter Tryd.func3, Tryd.ntmps3
    go_wp2_with fail
    refine (awake_any _ hc h4).mono ?_
    rintro e w' ⟨rfl, A, rfl⟩
    go_wp2_with fail
    refine (unhide HF _).mono ?_
    rintro e w' ⟨rfl, hw⟩
    subst hw
    go_wp2_with fail
    refine (unhide HT _ (by rw [World.cell?_alloc_past _ _ _ h4, hc])).mono ?_
    rintro e w2 ⟨rfl, hb2⟩
    go_wp2_with fail
    refine (unhide HU _).mono ?_
    rintro e w3 ⟨rfl, hb3⟩
    have h23 := hb2.size
    simp only [World.size_alloc] at h23
    have hb : Below w.heap.size w w3 := (((Below.refl _ _).alloc (Nat.le_refl _) _).trans (hb2.mono (by simp))).trans (hb3.mono (by omega))
    clear hb2 hb3 h23
    go_wp2_with fail
    refine (unhide HRD _).mono ?_
    rintro e w' ⟨rfl, hw⟩
    subst hw
    go_wp2_with fail
    refine (unhide HRF _).mono ?_
    rintro e w' ⟨rfl, hw⟩
    subst hw
    go_wp2_with fail
    refine (unhide HI _).mono ?_
    rintro e w' ⟨rfl, hw⟩
    subst hw
    go_wp2_with fail
    refine (unhide HA _).mono ?_
    rintro e w' ⟨rfl, hw⟩
    subst hw
    have hc3 : w'.cell? ⟨4, 15, none⟩ = some (.int .u8 4) := (hb.cell (p := ⟨4, 15, none⟩) (by exact h4)).trans hc
    go_wp2_with fail
    refine (unhide HT2 _ hc3).mono ?_
    rintro e w4 ⟨rfl, hb4⟩
    have hbb : Below w.heap.size w w4 := hb.trans (hb4.mono hb.size)
    clear hb hb4 hc3
    go_wp2_with fail
    refine (unhide HB _).mono ?_
    rintro e w' ⟨rfl, hw⟩
    subst hw
    go_wp2_with fail
    refine (unhide HI2 _).mono ?_
    rintro e w' ⟨rfl, hw⟩
    subst hw
    go_wp2
    go_ret
    exact ⟨by simp, hbb⟩
  · go_enter Tryd.func3, Tryd.ntmps3
    go_wp2_with fail
    refine (awake_any _ hc h4).mono ?_
    rintro e w' ⟨rfl, A, rfl⟩
    go_wp2_with fail
    refine (unhide HF _).mono ?_
    rintro e w' ⟨rfl, hw⟩
    subst hw
    go_wp2_with fail
    refine (unhide HT _ (by rw [World.cell?_alloc_past _ _ _ h4, hc])).mono ?_
    rintro e w2 ⟨rfl, hb2⟩
    go_wp2_with fail
    refine (unhide HU _).mono ?_
    rintro e w3 ⟨rfl, hb3⟩
    have h23 := hb2.size
    simp only [World.size_alloc] at h23
    have hb : Below w.heap.size w w3 := (((Below.refl _ _).alloc (Nat.le_refl _) _).trans (hb2.mono (by simp))).trans (hb3.mono (by omega))
    clear hb2 hb3 h23
    go_wp2_with fail
    refine (unhide HRD _).mono ?_
    rintro e w' ⟨rfl, hw⟩
    subst hw
    go_wp2_with fail
    refine (unhide HRF _).mono ?_
    rintro e w' ⟨rfl, hw⟩
    subst hw
    go_wp2_with fail
    refine (unhide HI _).mono ?_
    rintro e w' ⟨rfl, hw⟩
    subst hw
    go_wp2_with fail
    refine (unhide HA _).mono ?_
    rintro e w' ⟨rfl, hw⟩
    subst hw
    go_wp2
    go_ret
    exact ⟨rfl, hb⟩
end Go.Proofs.YtjeplokphkcloabDoor

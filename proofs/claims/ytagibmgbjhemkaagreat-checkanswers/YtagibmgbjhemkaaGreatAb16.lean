/- The four bytes of a cost: appendBits. -/
import Derived.Test.YtagibmgbjhemkaaGreatAn16
namespace Go.Proofs.YtagibmgbjhemkaaGreat.W16
open Go.RowKit Go.Maps
set_option maxHeartbeats 2000000 in
set_option maxRecDepth 100000 in
theorem appendBitsS {B : Nat} {w : World} {v : Value} {xs : List Nat} {u : Nat} (h : ByRow B w v xs) (hB : B ≤ w.heap.size) (hl : xs.length ≤ 900000) (hu : u < 4294967296) :
    Calls Tryz.prog 49 #[v, .int .u32 (u : Nat)] w fun e w' => ∃ v', e = .returned v' ∧ Hid (Grows B w v w' v' (xs ++ bb u)) := by
  obtain ⟨a0, c0, rfl⟩ := rrow_shape h
  have HN : Hid (xs.length ≤ 900000 ∧ B ≤ w.heap.size ∧ u < 4294967296) := ⟨hl, hB, hu⟩
  have H := hide h
  generalize hn0 : xs.length = n0 at *
  have HN0 := hide hn0
  clear h hB hl hu hn0
  go_enter Tryz.func49, Tryz.ntmps49
  go_wp2_with fail
  go_loopw [0, 5] (fun s0 s5 wr => ∃ (k a' n' c' : _) , s0 = .slice a' n' c' ∧ s5 = .int .i64 ((8 * k : Nat) : Int) ∧ Hid (k ≤ 4 ∧ Grows B w (.slice a0 n0 c0) wr (.slice a' n' c') (xs ++ (bb u).take k))) (fun _ s5 _ => 40 - (intOf s5).toNat)
  case atStart => exact ⟨0, a0, n0, c0, rfl, rfl, Nat.zero_le _, Grows.refl (by rw [List.take_zero, List.append_nil]; exact unhide H)⟩
  case round =>
    obtain ⟨k, a', n', c', rfl, rfl, HI⟩ := hrel
    obtain ⟨i1, i2⟩ := unhide HI
    obtain ⟨l1, l2, l3⟩ := unhide HN
    have hby : B ≤ wr.heap.size := Nat.le_trans l2 i2.2.1.size
    have hyl : (xs ++ (bb u).take k).length < 1000000 := by have := unhide HN0; simp [bb]; omega
    by_cases h4 : k = 4
    · subst h4
      have HG : Hid (Grows B w (.slice a0 n0 c0) wr (.slice a' n' c') (xs ++ bb u)) := i2
      clear HI i1 i2 l1 l2 l3 hby hyl
      go_wp2_with fail
      go_ret
      exact ⟨_, rfl, HG⟩
    · have step : ∀ (d : Nat), (bb u)[k]? = some d → ∃ a2 m2 c2 w2, Hid (∀ ty, (Builtin.append_ #[23, 23] ty #[.slice a' n' c', .slice (some ⟨wr.heap.size, 0, none⟩) 1 1]).run Tryz.prog (wr.alloc (.cells #[.int .u8 (d : Nat)] 5)) = .ok (.slice a2 m2 c2) w2) ∧ Hid (Grows B w (.slice a0 n0 c0) w2 (.slice a2 m2 c2) (xs ++ (bb u).take (k + 1))) := fun d hd => by
        obtain ⟨a2, m2, c2, w2, hr, g1, g2, g3⟩ := run_app1B d i2.1 hby hyl
        have e : (bb u).take (k + 1) = (bb u).take k ++ [d] := by rw [List.take_add_one, hd]; rfl
        have : Grows B wr (.slice a' n' c') w2 (.slice a2 m2 c2) (xs ++ (bb u).take (k + 1)) := ⟨by rw [e, ← List.append_assoc]; exact g1, g2, g3⟩
        exact ⟨a2, m2, c2, w2, hr, i2.trans this⟩
      have hk : k = 0 ∨ k = 1 ∨ k = 2 ∨ k = 3 := by omega
      rcases hk with rfl | rfl | rfl | rfl
      all_goals obtain ⟨a2, m2, c2, w2, HR, HG⟩ := step _ rfl
      all_goals clear step HI i1 i2 l1 l2 hby hyl h4
      · have ed : ((u % 256 : Nat) : Int) = (u : Int) % 256 := by omega
        rw [ed] at HR
        clear l3 ed
        go_wp2_with (at_builtin; refine Lib.wpList_append_run _ rfl _ _ 23 23 rfl _ _ rfl rfl _ _ (unhide HR _) ?_)
        exact ⟨⟨1, a2, m2, c2, rfl, rfl, by omega, HG⟩, by simp [intOf]⟩
      · have ed : ((u / 256 % 256 : Nat) : Int) = (u : Int) / 256 % 256 := by omega
        rw [ed] at HR
        clear l3 ed
        go_wp2_with (at_builtin; refine Lib.wpList_append_run _ rfl _ _ 23 23 rfl _ _ rfl rfl _ _ (unhide HR _) ?_)
        exact ⟨⟨2, a2, m2, c2, rfl, rfl, by omega, HG⟩, by simp [intOf]⟩
      · have ed : ((u / 65536 % 256 : Nat) : Int) = (u : Int) / 65536 % 256 := by omega
        rw [ed] at HR
        clear l3 ed
        go_wp2_with (at_builtin; refine Lib.wpList_append_run _ rfl _ _ 23 23 rfl _ _ rfl rfl _ _ (unhide HR _) ?_)
        exact ⟨⟨3, a2, m2, c2, rfl, rfl, by omega, HG⟩, by simp [intOf]⟩
      · have ed : ((u / 16777216 % 256 : Nat) : Int) = (u : Int) / 16777216 % 256 := by omega
        rw [ed] at HR
        clear l3 ed
        go_wp2_with (at_builtin; refine Lib.wpList_append_run _ rfl _ _ 23 23 rfl _ _ rfl rfl _ _ (unhide HR _) ?_)
        exact ⟨⟨4, a2, m2, c2, rfl, rfl, by omega, HG⟩, by simp [intOf]⟩
end Go.Proofs.YtagibmgbjhemkaaGreat.W16

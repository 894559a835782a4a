/- New, slices.Clone over runs, Runs. -/
import Derived.Test.YtdalghfhpekcfaaCutK
import Derived.Lib.SliceRun
namespace Go.Proofs.Ytdalghfhpekcfaa
open Go.RowKit Go.Shelf

theorem newK (w : World) : Calls Try.prog 47 #[] w fun e w' => e = .returned (.pointer (some ⟨w.heap.size, 0, none⟩)) ∧ w' = w.alloc (.cells #[.slice none 0 0] 104) := by
  go_enter Try.func47, Try.ntmps47
  go_wp2
  go_ret
  exact ⟨rfl, rfl⟩

theorem newSetK (w : World) : SetK (w.alloc (.cells #[.slice none 0 0] 104)) w.heap.size (.slice none 0 0) [] :=
  ⟨heap_alloc_new w _, World.ownsRow_nil _ _ _ _, by simp [Value.ownBlock]⟩

set_option maxHeartbeats 400000 in
set_option maxRecDepth 100000 in
theorem sCloneK {v : Value} {rs : List (Int × Int)} (w : World) (hown : w.ownsRow 0 107 2 v rs.length (enc .i8 rs)) (hn : rs.length ≤ 1099511627776) :
    Calls Try.prog 106 #[v] w fun e w' => ∃ v', e = .returned v' ∧ Hid (w'.ownsRow w.heap.size 107 2 v' rs.length (enc .i8 rs) ∧ Below w.heap.size w w') := by
  have q22 : ∀ (w : World) (a : Option Addr) (n c n' c' : Nat), (binOp .eql 102 (.slice a n c) (.slice none n' c')).run Try.prog w = .ok (.bool a.isNone) w := fun w a n c n' c' => Lib.run_eql_slice_nil w _ _ a n c n' c' Try.underlying102
  have hc := @World.ownsRow.cells _ _ _ _ _ _ _ hown
  rcases hown.2 with ⟨rfl, h0⟩ | ⟨g, cap, cur, rfl, -, hg, h1, h2, h3, h4⟩
  · have : rs = [] := List.eq_nil_of_length_eq_zero h0
    subst this
    clear hown hc hn
    go_enter Try.func106, Try.ntmps106
    go_wp2_with fail
    go_ret
    exact ⟨_, rfl, World.ownsRow_nil _ _ _ _, Below.refl _ _⟩
  · obtain ⟨i0, hi0, hz0, hzs, hzb⟩ := info_parts infoK
    have hmade : (w.alloc (.cells #[] 107)).ownsRow w.heap.size 107 2 (.slice (some ⟨w.heap.size, 0, none⟩) 0 0) 0 [] := World.ownsRow_made w #[] 0 (Nat.le_refl _) (by unfold maxLen; omega) rfl
    obtain ⟨v', w', hr, hown', hgr, -⟩ := run_append_own (P := Try.prog) (w.alloc (.cells #[] 107)) w.heap.size 102 102 107 i0 _ 2 2 Try.underlying102 hi0 hz0 hzs hzb rfl (by omega) _ 0 [] hmade ⟨g, 0, none⟩ rs.length cap (enc .i8 rs) (enc_length _ _)
      (fun j u hj => cell_old _ (hc rfl j u hj)) (enc_one _ _) (by unfold maxLen; omega) (by omega) (by simp)
    rw [Nat.zero_add, List.nil_append] at hown'
    have HR := hide hr
    have HF := hide (And.intro hown' (((Below.refl w.heap.size w).alloc (Nat.le_refl _) (.cells #[] 107)).grown hgr (by simp) (fun k hk => by simp [Value.ownBlock] at hk; omega)))
    clear hown hc hn hg h1 h2 h3 h4 hi0 hmade hr hown' hgr
    go_enter Try.func106, Try.ntmps106
    go_wp2_with (at_builtin; refine Lib.wpList_append_run _ rfl _ _ 102 102 rfl (.slice (some ⟨w.heap.size, 0, none⟩) 0 0) (.slice (some ⟨g, 0, none⟩) rs.length cap) rfl rfl _ _ HR.out ?_)
    go_ret
    exact ⟨v', rfl, HF⟩

set_option maxHeartbeats 400000 in
set_option maxRecDepth 100000 in
theorem runsK {p : Nat} {v : Value} {rs : List (Int × Int)} (w : World) (hS : SetK w p v rs) (hn : rs.length ≤ 1099511627776) :
    Calls Try.prog 81 #[.pointer (some ⟨p, 0, none⟩)] w fun e w' => ∃ v', e = .returned v' ∧ Hid (w'.ownsRow w.heap.size 107 2 v' rs.length (enc .i8 rs) ∧ Below w.heap.size w w') := by
  have hp := hS.cell
  have HC := hide (sCloneK w hS.row hn)
  obtain ⟨rfl, -⟩ | ⟨g, c, rfl, -⟩ := hS.two
  all_goals
    clear hS hn
    go_enter Try.func81, Try.ntmps81
    go_wp2_with fail
    refine (unhide HC).mono ?_
    rintro e w' ⟨v', rfl, h⟩
    go_wp2_with fail
    go_ret
    exact ⟨v', rfl, h⟩

end Go.Proofs.Ytdalghfhpekcfaa

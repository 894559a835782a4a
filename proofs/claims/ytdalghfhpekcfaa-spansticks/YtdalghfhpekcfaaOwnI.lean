/- New, slices.Clone over runs, Runs. -/
import Derived.Test.YtdalghfhpekcfaaCutI
import Derived.Lib.SliceRun
namespace Go.Proofs.Ytdalghfhpekcfaa
open Go.RowKit Go.Shelf

theorem newI (w : World) : Calls Try.prog 27 #[] w fun e w' => e = .returned (.pointer (some ⟨w.heap.size, 0, none⟩)) ∧ w' = w.alloc (.cells #[.slice none 0 0] 91) := by
  go_enter Try.func27, Try.ntmps27
  go_wp2
  go_ret
  exact ⟨rfl, rfl⟩

theorem newSetI (w : World) : SetI (w.alloc (.cells #[.slice none 0 0] 91)) w.heap.size (.slice none 0 0) [] :=
  ⟨heap_alloc_new w _, World.ownsRow_nil _ _ _ _, by simp [Value.ownBlock]⟩

set_option maxHeartbeats 400000 in
set_option maxRecDepth 100000 in
theorem sCloneI {v : Value} {rs : List (Int × Int)} (w : World) (hown : w.ownsRow 0 93 2 v rs.length (enc .i64 rs)) (hn : rs.length ≤ 1099511627776) :
    Calls Try.prog 98 #[v] w fun e w' => ∃ v', e = .returned v' ∧ Hid (w'.ownsRow w.heap.size 93 2 v' rs.length (enc .i64 rs) ∧ Below w.heap.size w w') := by
  have q22 : ∀ (w : World) (a : Option Addr) (n c n' c' : Nat), (binOp .eql 89 (.slice a n c) (.slice none n' c')).run Try.prog w = .ok (.bool a.isNone) w := fun w a n c n' c' => Lib.run_eql_slice_nil w _ _ a n c n' c' Try.underlying89
  have hc := @World.ownsRow.cells _ _ _ _ _ _ _ hown
  rcases hown.2 with ⟨rfl, h0⟩ | ⟨g, cap, cur, rfl, -, hg, h1, h2, h3, h4⟩
  · have : rs = [] := List.eq_nil_of_length_eq_zero h0
    subst this
    clear hown hc hn
    go_enter Try.func98, Try.ntmps98
    go_wp2_with fail
    go_ret
    exact ⟨_, rfl, World.ownsRow_nil _ _ _ _, Below.refl _ _⟩
  · obtain ⟨i0, hi0, hz0, hzs, hzb⟩ := info_parts infoI
    have hmade : (w.alloc (.cells #[] 93)).ownsRow w.heap.size 93 2 (.slice (some ⟨w.heap.size, 0, none⟩) 0 0) 0 [] := World.ownsRow_made w #[] 0 (Nat.le_refl _) (by unfold maxLen; omega) rfl
    obtain ⟨v', w', hr, hown', hgr, -⟩ := run_append_own (P := Try.prog) (w.alloc (.cells #[] 93)) w.heap.size 89 89 93 i0 _ 2 16 Try.underlying89 hi0 hz0 hzs hzb rfl (by omega) _ 0 [] hmade ⟨g, 0, none⟩ rs.length cap (enc .i64 rs) (enc_length _ _)
      (fun j u hj => cell_old _ (hc rfl j u hj)) (enc_one _ _) (by unfold maxLen; omega) (by omega) (by simp)
    rw [Nat.zero_add, List.nil_append] at hown'
    have HR := hide hr
    have HF := hide (And.intro hown' (((Below.refl w.heap.size w).alloc (Nat.le_refl _) (.cells #[] 93)).grown hgr (by simp) (fun k hk => by simp [Value.ownBlock] at hk; omega)))
    clear hown hc hn hg h1 h2 h3 h4 hi0 hmade hr hown' hgr
    go_enter Try.func98, Try.ntmps98
    go_wp2_with (at_builtin; refine Lib.wpList_append_run _ rfl _ _ 89 89 rfl (.slice (some ⟨w.heap.size, 0, none⟩) 0 0) (.slice (some ⟨g, 0, none⟩) rs.length cap) rfl rfl _ _ HR.out ?_)
    go_ret
    exact ⟨v', rfl, HF⟩

set_option maxHeartbeats 400000 in
set_option maxRecDepth 100000 in
theorem runsI {p : Nat} {v : Value} {rs : List (Int × Int)} (w : World) (hS : SetI w p v rs) (hn : rs.length ≤ 1099511627776) :
    Calls Try.prog 74 #[.pointer (some ⟨p, 0, none⟩)] w fun e w' => ∃ v', e = .returned v' ∧ Hid (w'.ownsRow w.heap.size 93 2 v' rs.length (enc .i64 rs) ∧ Below w.heap.size w w') := by
  have hp := hS.cell
  have HC := hide (sCloneI w hS.row hn)
  obtain ⟨rfl, -⟩ | ⟨g, c, rfl, -⟩ := hS.two
  all_goals
    clear hS hn
    go_enter Try.func74, Try.ntmps74
    go_wp2_with fail
    refine (unhide HC).mono ?_
    rintro e w' ⟨v', rfl, h⟩
    go_wp2_with fail
    go_ret
    exact ⟨v', rfl, h⟩

end Go.Proofs.Ytdalghfhpekcfaa

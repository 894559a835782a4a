/- newRecords. -/
import Derived.Test.YtagibmgbjhemkaaGreatFo17
import Derived.Test.YtagibmgbjhemkaaGreatRs16
namespace Go.Proofs.YtagibmgbjhemkaaGreat
open Go.RowKit Go.Maps
theorem load_rec (w : World) (g s m : Nat) (h : w.heap[g]? = some (oRec s m)) : (loadVar 139 ⟨g, 0, none⟩).run Tryz.prog w = .ok (.agg #[.iface 24 (.pointer (some ⟨s, 0, none⟩)), .map (some m)]) w :=
  run_loadVar_mid (P := Tryz.prog) w g 0 139 [.iface 24 (.pointer (some ⟨s, 0, none⟩)), .map (some m)] _ (fun j v hj => by
    match j with
    | 0 => simp at hj; subst hj; exact (oRec_cells h).1
    | 1 => simp at hj; subst hj; exact (oRec_cells h).2
    | j + 2 => simp at hj) Tryz.underlying139 rfl (by kernel_rfl)
set_option maxHeartbeats 2000000 in
set_option maxRecDepth 100000 in
theorem newRecS (w : World) (s : Nat) :
    Calls Tryz.prog 77 #[.iface 24 (.pointer (some ⟨s, 0, none⟩))] w fun e w' => ∃ m, e = .returned (.agg #[.iface 24 (.pointer (some ⟨s, 0, none⟩)), .map (some m)]) ∧ Hid (w.heap.size ≤ m ∧ Below w.heap.size w w' ∧ ∀ ps, Kn ps 0 w' m) := by
  have h1 := below_new w (oRec s (w.heap.size + 1))
  have h2 := below_new (w.alloc (oRec s (w.heap.size + 1))) (.map #[] 0)
  have s1 : (w.alloc (oRec s (w.heap.size + 1))).heap.size = w.heap.size + 1 := by simp
  have HE : Hid (((w.alloc (oRec s (w.heap.size + 1))).alloc (.map #[] 0)).heap[w.heap.size]? = some (oRec s (w.heap.size + 1)) ∧ w.heap.size ≤ w.heap.size + 1 ∧ Below w.heap.size w ((w.alloc (oRec s (w.heap.size + 1))).alloc (.map #[] 0)) ∧ ∀ ps, Kn ps 0 ((w.alloc (oRec s (w.heap.size + 1))).alloc (.map #[] 0)) (w.heap.size + 1)) :=
    ⟨(h2.block _ (by omega)).trans (heap_alloc_new _ _), by omega, h1.trans (h2.mono (by omega)), fun ps => by have := kn_new ps (w.alloc (oRec s (w.heap.size + 1))); rw [s1] at this; exact this⟩
  clear h1 h2 s1
  have hmm := @run_makeMap Tryz.prog
  go_enter Tryz.func77, Tryz.ntmps77
  go_wp2_with fail
  (try simp only [Exit.inBlock, Exit.then])
  change bodyPost _ _ _ _ _ ((w.alloc (oRec s (w.heap.size + 1))).alloc (.map #[] 0))
  refine bodyPost_ret (W16.results_cell1 rfl _ _ _ ⟨w.heap.size, 0, none⟩ _ rfl (load_rec _ _ _ _ (unhide HE).1)) rfl ?_
  exact ⟨_, rfl, (unhide HE).2⟩
end Go.Proofs.YtagibmgbjhemkaaGreat

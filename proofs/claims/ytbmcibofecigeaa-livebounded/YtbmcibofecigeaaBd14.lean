/- LiveBounded: over every start and every script of calls, behind each call of an edge the tree says how many places it touched: never below 0, not more than are reachable before or behind, 0 where nothing can have changed; and of a call that is refused, or of another kind, it says what it said before. -/
import Derived.Test.YtbmcibofecigeaaBdW14
import Derived.Test.YtbmcibofecigeaaBdM14
import Derived.Test.YtbmcibofecigeaaRows
namespace Go.Proofs.Ytbmcibofecigeaa.liveBounded
open Go.ChangeShapes Go.WideShapes Go.ChangeAt Go.RowKit

theorem walk (s : Int) (a : Option Addr) (len cap : Nat) (o : Nat → OpV) (w : World) (hs : (Lit.int .i64 s).wf = true) (h : IsOps w a len o) (_ : len * 40 ≤ 140737488351232) :
    Calls Try.prog 3 #[.int .i64 s, .slice a len cap] w fun e w' => e = .returned (.bool true) ∧ Below w.heap.size w w' := by
  have inst : Inhabited EntF := ⟨⟨0, 0, 0⟩⟩
  exact liveBounded_any s a len cap o w hs h

set_option maxRecDepth 100000 in
theorem lifted (os : Os) (started : os.Started) (H : Type) (enc : TypeId × Value → H) :
    ReturnsInHanded {} Try.checked os 3 .any (Rows.liveBoundedSpec.pre6 enc Try.prog Try.f3 Rows.liveBoundedRow.domain false) (Rows.liveBoundedSpec.post enc Try.prog Try.f3 false true false false) := by
  refine returnsInHanded_of_change_sized (C := Try.checked) own started (by kernel_rfl) Try.func3
    (ChangeSpec.witness6 (enc := enc) (C := Try.checked) false ⟨#[], #[.int .i64 0, .slice none 0 0], []⟩ 8 (by kernel_rfl) (by kernel_rfl) (by kernel_rfl) (by kernel_rfl)) ?_
  intro W base args ds gs before hval0 hW _ hsz _
  have hval : ∀ (j : Nat) t v, Try.f3.params[j]? = some t → args[j]? = some v → Value.okWide Try.prog W .any base t v := hval0
  have hW' := hW
  obtain ⟨p, q, hA0, hV, rfl, -, -⟩ := hW
  have hA : DataW.TrodAll enc Try.prog W 0 (fun _ => true) true Try.f3.params.toList args.toList ds p := hA0
  rw [Try.params3] at hA hval
  obtain ⟨v0, vs0, d0, ds0, p0, q0, hargs, rfl, rfl, h0, r0⟩ := trodAll_cons hA
  obtain ⟨v1, vs1, d1, ds1, p1, q1, rfl, rfl, rfl, h1, r1⟩ := trodAll_cons r0
  obtain ⟨rfl, rfl, rfl⟩ := trodAll_nil r1
  obtain rfl : args = #[v0, v1] := by cases args; simp_all
  obtain ⟨rfl, rfl⟩ := trodVars_none hV
  obtain ⟨x0, rfl, rfl, rfl, w0⟩ := open_int Try.underlying3 (hval 0 3 v0 rfl rfl) h0
  obtain ⟨a1, len1, cap1, rfl⟩ := okWide_slice Try.underlying22 (hval 1 22 v1 rfl rfl)
  have lt1 : ∀ x ∈ p1, x.block < W.heap.size := by obtain ⟨m, hm⟩ := h1; exact DataW.trod_lt m _ _ _ hm
  obtain ⟨o1, ho1, hd1⟩ := open_ops h1
  have hb1 : len1 * 40 ≤ 140737488351232 := by
    rcases hd1 with ⟨-, h⟩ | ⟨es, sp, rfl, h⟩
    · omega
    · have := sized_slice hsz (j := 1) (t := 22) (e := 33) rfl rfl Try.underlying22
      rw [show Try.checked.prog.bytesOf 33 = 40 from bytes33] at this
      unfold reachBytes at this
      omega
  clear hA0 hval0
  refine (walk x0 a1 len1 cap1 o1 W w0 ho1 (by omega)).mono fun e W' ⟨he, bel⟩ => ?_
  subst he
  exact ⟨_, rfl, _, _, _, [], _, [], hW', trodAll_mk1 (shut_bool Try.underlying4 _), (trodAll_cons_mk (shut_int Try.underlying3 w0) (trodAll_cons_mk (Below.trod laidOut (by kernel_rfl) (of_decide_eq_true (by kernel_rfl)) h1 bel lt1) trodAll_mk0)), rfl, bel.frame _, fun h => by cases h⟩
end Go.Proofs.Ytbmcibofecigeaa.liveBounded
namespace Go.Proofs.Ytbmcibofecigeaa
theorem liveBounded_said : Rows.LiveBoundedSaid :=
  OpenClaim.holds_of_wide 3 Try.f3 rfl rfl rfl rfl rfl rfl rfl ⟨rfl, rfl, rfl, rfl, rfl⟩ rfl rfl rfl rfl rfl (by kernel_rfl) Try.func3 (by kernel_rfl)
    (of_decide_eq_true (by kernel_rfl)) (by unfold Func.isWrapper; first | (rw [if_pos (by decide +kernel)]; kernel_rfl) | (rw [if_neg (by decide +kernel)]; exact ⟨rfl, rfl⟩))
    (fun os started H enc _ => liveBounded.lifted os started H enc)
#print axioms liveBounded_said
end Go.Proofs.Ytbmcibofecigeaa

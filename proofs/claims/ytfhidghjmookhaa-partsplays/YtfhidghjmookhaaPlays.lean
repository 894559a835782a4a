/- bramblelaw05.PartsPlays answers true for every slice of calls, and its argument reads behind the call as it read before. -/
import Derived.Test.YtfhidghjmookhaaPlaysWalk
import Derived.Test.YtfhidghjmookhaaFrame
namespace Go.Proofs.Ytfhidghjmookhaa.partsPlays
open Go.ChangeShapes Go.WideShapes Go.ChangeAt Go.RowKit

theorem at_ops {w : World} {a : Option Addr} {len : Nat} {o : Nat → Int × Int × Int} (h : IsOps w a len o) : ∃ b off, ∀ i, i < len → a = some ⟨b, off, none⟩ ∧ (w.cell? ⟨b, off + i * 3, none⟩ = some (.int .i64 (o i).1) ∧ w.cell? ⟨b, off + i * 3 + 1, none⟩ = some (.int .i64 (o i).2.1) ∧ w.cell? ⟨b, off + i * 3 + 2, none⟩ = some (.int .i64 (o i).2.2)) ∧ okN (o i).2.1 ∧ okN (o i).2.2 := by
  rcases h with rfl | ⟨b, off, rfl, -, hc⟩
  · exact ⟨0, 0, fun i hi => absurd hi (Nat.not_lt_zero _)⟩
  · exact ⟨b, off, fun i hi => ⟨rfl, (hc i hi).1, (hc i hi).2.2.1, (hc i hi).2.2.2⟩⟩

theorem walk (a : Option Addr) (len cap : Nat) (o : Nat → Int × Int × Int) (w : World) (h : IsOps w a len o) (_ : len * 24 ≤ 140737488351232) :
    Calls Try.prog 3 #[.slice a len cap] w fun e w' => e = .returned (.bool true) ∧ Below w.heap.size w w' := by
  obtain ⟨b, off, hc⟩ := at_ops h
  exact plays_any a b off len cap (min len 100) o w rfl hc

set_option maxRecDepth 100000 in
theorem lifted (os : Os) (started : os.Started) (H : Type) (enc : TypeId × Value → H) :
    ReturnsInHanded {} Try.checked os 3 .any (Rows.partsPlaysSpec.pre6 enc Try.prog Try.f3 Rows.partsPlaysRow.domain false) (Rows.partsPlaysSpec.post enc Try.prog Try.f3 false true false false) := by
  refine returnsInHanded_of_change_sized (C := Try.checked) own started (by kernel_rfl) Try.func3
    (ChangeSpec.witness6 (enc := enc) (C := Try.checked) false ⟨#[], #[.slice none 0 0], []⟩ 8 (by kernel_rfl) (by kernel_rfl) (by kernel_rfl) (by kernel_rfl)) ?_
  intro W base args ds gs before hval0 hW _ hsz _
  have hval : ∀ (j : Nat) t v, Try.f3.params[j]? = some t → args[j]? = some v → Value.okWide Try.prog W .any base t v := hval0
  have hW' := hW
  obtain ⟨p, q, hA0, hV, rfl, -, -⟩ := hW
  have hA : DataW.TrodAll enc Try.prog W 0 (fun _ => true) true Try.f3.params.toList args.toList ds p := hA0
  rw [Try.params3] at hA hval
  obtain ⟨v0, vs0, d0, ds0, p0, q0, hargs, rfl, rfl, h0, r0⟩ := trodAll_cons hA
  obtain ⟨rfl, rfl, rfl⟩ := trodAll_nil r0
  obtain rfl : args = #[v0] := by cases args; simp_all
  obtain ⟨rfl, rfl⟩ := trodVars_none hV
  obtain ⟨a0, len0, cap0, rfl⟩ := okWide_slice Try.underlying22 (hval 0 22 v0 rfl rfl)
  have lt0 : ∀ x ∈ p0, x.block < W.heap.size := by obtain ⟨m, hm⟩ := h0; exact DataW.trod_lt m _ _ _ hm
  obtain ⟨o0, ho0, hd0⟩ := open_ops h0
  have hb0 : len0 * 24 ≤ 140737488351232 := by
    rcases hd0 with ⟨-, h⟩ | ⟨es, sp, rfl, h⟩
    · omega
    · have := sized_slice hsz (j := 0) (t := 22) (e := 32) rfl rfl Try.underlying22
      rw [show Try.checked.prog.bytesOf 32 = 24 from bytes32] at this
      unfold reachBytes at this
      omega
  clear hA0 hval0
  refine (walk a0 len0 cap0 o0 W ho0 (by omega)).mono fun e W' ⟨he, bel⟩ => ?_
  subst he
  exact ⟨_, rfl, _, _, _, [], _, [], hW', trodAll_mk1 (shut_bool Try.underlying4 _), (trodAll_cons_mk (Below.trod laidOut (by kernel_rfl) (of_decide_eq_true (by kernel_rfl)) h0 bel lt0) trodAll_mk0), rfl, bel.frame _, fun h => by cases h⟩
end Go.Proofs.Ytfhidghjmookhaa.partsPlays
namespace Go.Proofs.Ytfhidghjmookhaa
theorem partsPlays_said : Rows.PartsPlaysSaid :=
  OpenClaim.holds_of_wide 3 Try.f3 rfl rfl rfl rfl rfl rfl rfl ⟨rfl, rfl, rfl, rfl, rfl⟩ rfl rfl rfl rfl rfl (by kernel_rfl) Try.func3 (by kernel_rfl)
    (of_decide_eq_true (by kernel_rfl)) (by unfold Func.isWrapper; first | (rw [if_pos (by decide +kernel)]; kernel_rfl) | (rw [if_neg (by decide +kernel)]; exact ⟨rfl, rfl⟩))
    (fun os started H enc _ => partsPlays.lifted os started H enc)
#print axioms partsPlays_said
end Go.Proofs.Ytfhidghjmookhaa

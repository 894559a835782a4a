/- WitnessOwn: for every witness that comes in the law's call answers true and leaves it as it is; no condition. -/
import Derived.Test.YtffdpfkcfohbiaaL616
import Derived.Test.YtffdpfkcfohbiaaFr16
import Derived.Test.YtffdpfkcfohbiaaRows
namespace Go.Proofs.Ytffdpfkcfohbiaa.witnessOwn
open Go.ChangeShapes Go.WideShapes Go.ChangeAt Go.RowKit

theorem walk (w : World) {ev : Value} {es : List Int} (F T : Int) (u : Nat) (h : Lies i64v w ev es) (hu : u < 4294967296) (hl : es.length * 8 ≤ 140737488351232) :
    Calls Try.prog 6 #[.agg #[.int .i64 F, .int .i64 T, .int .u32 (u : Nat), ev]] w fun e w' => e = .returned (.bool true) ∧ Hid (Below w.heap.size w w') := ownW w F T u h hu hl

set_option maxRecDepth 100000 in
theorem lifted (os : Os) (started : os.Started) (H : Type) (enc : TypeId × Value → H) :
    ReturnsInHanded {} Try.checked os 6 .any (Rows.witnessOwnSpec.pre6 enc Try.prog Try.f6 Rows.witnessOwnRow.domain false) (Rows.witnessOwnSpec.post enc Try.prog Try.f6 false true false false) := by
  refine returnsInHanded_of_change_sized (C := Try.checked) own started (by kernel_rfl) Try.func6
    (ChangeSpec.witness6 (enc := enc) (C := Try.checked) false ⟨#[], #[.agg #[.int .i64 0, .int .i64 0, .int .u32 0, .slice none 0 0]], []⟩ 8 (by kernel_rfl) (by kernel_rfl) (by kernel_rfl) (by kernel_rfl)) ?_
  intro W base args ds gs before hval0 hW _ hsz _
  have hval : ∀ (j : Nat) t v, Try.f6.params[j]? = some t → args[j]? = some v → Value.okWide Try.prog W .any base t v := hval0
  have hW' := hW
  obtain ⟨p, q, hA0, hV, rfl, -, -⟩ := hW
  have hA : DataW.TrodAll enc Try.prog W 0 (fun _ => true) true Try.f6.params.toList args.toList ds p := hA0
  rw [Try.params6] at hA hval
  obtain ⟨v0, vs0, d0, ds0, p0, q0, hargs, rfl, rfl, h0, r0⟩ := trodAll_cons hA
  obtain ⟨rfl, rfl, rfl⟩ := trodAll_nil r0
  obtain rfl : args = #[v0] := by cases args; simp_all
  obtain ⟨rfl, rfl⟩ := trodVars_none hV
  have lt0 : ∀ x ∈ p0, x.block < W.heap.size := by obtain ⟨m, hm⟩ := h0; exact DataW.trod_lt m _ _ _ hm
  obtain ⟨F0, T0, u0, ev0, es0, da0, db0, dc0, dd0, rfl, rfl, hl0, hu0, hd0⟩ := open_wit (hval 0 25 v0 rfl rfl) h0
  have hb0 := wit_sized hsz (j := 0) rfl rfl hd0
  clear hA0 hval0
  refine (walk W F0 T0 u0 hl0 hu0 hb0).mono fun e W' ⟨he, bel⟩ => ?_
  subst he
  exact ⟨_, rfl, _, _, _, [], _, [], hW', trodAll_mk1 (shut_bool Try.underlying4 _), (trodAll_cons_mk (Below.trod laidOut (by kernel_rfl) (of_decide_eq_true (by kernel_rfl)) h0 (unhide bel) lt0) trodAll_mk0), rfl, (unhide bel).frame _, fun h => by cases h⟩
end Go.Proofs.Ytffdpfkcfohbiaa.witnessOwn
namespace Go.Proofs.Ytffdpfkcfohbiaa
theorem witnessOwn_said : Rows.WitnessOwnSaid :=
  OpenClaim.holds_of_wide 6 Try.f6 rfl rfl rfl rfl rfl rfl rfl ⟨rfl, rfl, rfl, rfl, rfl⟩ rfl rfl rfl rfl rfl (by kernel_rfl) Try.func6 (by kernel_rfl)
    (of_decide_eq_true (by kernel_rfl)) (by unfold Func.isWrapper; first | (rw [if_pos (by decide +kernel)]; kernel_rfl) | (rw [if_neg (by decide +kernel)]; exact ⟨rfl, rfl⟩))
    (fun os started H enc _ => witnessOwn.lifted os started H enc)
#print axioms witnessOwn_said
end Go.Proofs.Ytffdpfkcfohbiaa

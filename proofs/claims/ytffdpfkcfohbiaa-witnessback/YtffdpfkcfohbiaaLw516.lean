/- WitnessBack: for every witness, all bytes and every number that come in the law's call answers true and leaves them as they are; no condition. -/
import Derived.Test.YtffdpfkcfohbiaaL516
import Derived.Test.YtffdpfkcfohbiaaFr16
import Derived.Test.YtffdpfkcfohbiaaRows
namespace Go.Proofs.Ytffdpfkcfohbiaa.witnessBack
open Go.ChangeShapes Go.WideShapes Go.ChangeAt Go.RowKit

theorem walk (w : World) {ev v : Value} {es : List Int} {bs : List Nat} (F T : Int) (u : Nat) (h : Lies i64v w ev es) (hu : u < 4294967296) (hl : es.length * 8 ≤ 140737488351232) (hv : Lies u8v w v bs) (hx : ∀ x ∈ bs, x < 256) (hbl : bs.length ≤ 140737488351232) (cut : Int) (_ : (Lit.int .i64 cut).wf = true) :
    Calls Try.prog 5 #[.agg #[.int .i64 F, .int .i64 T, .int .u32 (u : Nat), ev], v, .int .i64 cut] w fun e w' => e = .returned (.bool true) ∧ Hid (Below w.heap.size w w') := backW w F T u cut h hu hl hv hx hbl

set_option maxRecDepth 100000 in
theorem lifted (os : Os) (started : os.Started) (H : Type) (enc : TypeId × Value → H) :
    ReturnsInHanded {} Try.checked os 5 .any (Rows.witnessBackSpec.pre6 enc Try.prog Try.f5 Rows.witnessBackRow.domain false) (Rows.witnessBackSpec.post enc Try.prog Try.f5 false true false false) := by
  refine returnsInHanded_of_change_sized (C := Try.checked) own started (by kernel_rfl) Try.func5
    (ChangeSpec.witness6 (enc := enc) (C := Try.checked) false ⟨#[], #[.agg #[.int .i64 0, .int .i64 0, .int .u32 0, .slice none 0 0], .slice none 0 0, .int .i64 0], []⟩ 8 (by kernel_rfl) (by kernel_rfl) (by kernel_rfl) (by kernel_rfl)) ?_
  intro W base args ds gs before hval0 hW _ hsz _
  have hval : ∀ (j : Nat) t v, Try.f5.params[j]? = some t → args[j]? = some v → Value.okWide Try.prog W .any base t v := hval0
  have hW' := hW
  obtain ⟨p, q, hA0, hV, rfl, -, -⟩ := hW
  have hA : DataW.TrodAll enc Try.prog W 0 (fun _ => true) true Try.f5.params.toList args.toList ds p := hA0
  rw [Try.params5] at hA hval
  obtain ⟨v0, vs0, d0, ds0, p0, q0, hargs, rfl, rfl, h0, r0⟩ := trodAll_cons hA
  obtain ⟨v1, vs1, d1, ds1, p1, q1, rfl, rfl, rfl, h1, r1⟩ := trodAll_cons r0
  obtain ⟨v2, vs2, d2, ds2, p2, q2, rfl, rfl, rfl, h2, r2⟩ := trodAll_cons r1
  obtain ⟨rfl, rfl, rfl⟩ := trodAll_nil r2
  obtain rfl : args = #[v0, v1, v2] := by cases args; simp_all
  obtain ⟨rfl, rfl⟩ := trodVars_none hV
  have lt0 : ∀ x ∈ p0, x.block < W.heap.size := by obtain ⟨m, hm⟩ := h0; exact DataW.trod_lt m _ _ _ hm
  obtain ⟨F0, T0, u0, ev0, es0, da0, db0, dc0, dd0, rfl, rfl, hl0, hu0, hd0⟩ := open_wit (hval 0 25 v0 rfl rfl) h0
  have hb0 := wit_sized hsz (j := 0) rfl rfl hd0
  have lt1 : ∀ x ∈ p1, x.block < W.heap.size := by obtain ⟨m, hm⟩ := h1; exact DataW.trod_lt m _ _ _ hm
  obtain ⟨a1, len1, cap1, rfl⟩ := okWide_slice Try.underlying27 (hval 1 27 v1 rfl rfl)
  obtain ⟨bs1, -, -, -, -, hl1, hx1, -, hd1⟩ := open_by ⟨_, rfl, rfl⟩ h1
  have hb1 := by_sized hsz (j := 1) rfl rfl hd1
  obtain ⟨x2, rfl, rfl, rfl, w2⟩ := open_int Try.underlying3 (hval 2 3 v2 rfl rfl) h2
  clear hA0 hval0
  refine (walk W F0 T0 u0 hl0 hu0 hb0 hl1 hx1 hb1 x2 w2).mono fun e W' ⟨he, bel⟩ => ?_
  subst he
  exact ⟨_, rfl, _, _, _, [], _, [], hW', trodAll_mk1 (shut_bool Try.underlying4 _), (trodAll_cons_mk (Below.trod laidOut (by kernel_rfl) (of_decide_eq_true (by kernel_rfl)) h0 (unhide bel) lt0) (trodAll_cons_mk (Below.trod laidOut (by kernel_rfl) (of_decide_eq_true (by kernel_rfl)) h1 (unhide bel) lt1) (trodAll_cons_mk (shut_int Try.underlying3 w2) trodAll_mk0))), rfl, (unhide bel).frame _, fun h => by cases h⟩
end Go.Proofs.Ytffdpfkcfohbiaa.witnessBack
namespace Go.Proofs.Ytffdpfkcfohbiaa
theorem witnessBack_said : Rows.WitnessBackSaid :=
  OpenClaim.holds_of_wide 5 Try.f5 rfl rfl rfl rfl rfl rfl rfl ⟨rfl, rfl, rfl, rfl, rfl⟩ rfl rfl rfl rfl rfl (by kernel_rfl) Try.func5 (by kernel_rfl)
    (of_decide_eq_true (by kernel_rfl)) (by unfold Func.isWrapper; first | (rw [if_pos (by decide +kernel)]; kernel_rfl) | (rw [if_neg (by decide +kernel)]; exact ⟨rfl, rfl⟩))
    (fun os started H enc _ => witnessBack.lifted os started H enc)
#print axioms witnessBack_said
end Go.Proofs.Ytffdpfkcfohbiaa

/- CheckClaims: over every store that a script builds, for any claim and any bytes, Claim answers as the reference does. -/
import Derived.Test.YtagibmgbjhemkaaGreatFr17
import Derived.Test.YtagibmgbjhemkaaGreatRows
namespace Go.Proofs.YtagibmgbjhemkaaGreat.checkClaims
open Go.ChangeShapes Go.WideShapes Go.ChangeAt Go.RowKit

theorem walk (a : Option Addr) (len cap : Nat) (o : Nat → OpV) (f t : Int) (u : Nat) (v : Value) (bs : List Nat) (w : World) (h : IsOps w a len o) (_ : len * 40 ≤ 140737488351232) (hv : W16.Lies W16.u8v w v bs) (hx : ∀ x ∈ bs, x < 256) (hl : bs.length ≤ 140737488351232) :
    Calls Tryz.prog 4 #[.slice a len cap, .agg #[.int .i64 f, .int .i64 t, .int .u32 (u : Nat)], v] w fun e w' => e = .returned (.bool true) ∧ Hid (Below w.heap.size w w') := by
  have i1 : Inhabited EntI := ⟨⟨0, 0, 0⟩⟩
  exact claims17 a len cap o f t u w h hv hx hl

set_option maxRecDepth 100000 in
theorem lifted (os : Os) (started : os.Started) (H : Type) (enc : TypeId × Value → H) :
    ReturnsInHanded {} Tryz.checked os 4 .any (Rows.checkClaimsSpec.pre6 enc Tryz.prog Tryz.f4 Rows.checkClaimsRow.domain false) (Rows.checkClaimsSpec.post enc Tryz.prog Tryz.f4 false true false false) := by
  refine returnsInHanded_of_change_sized (C := Tryz.checked) own started (by kernel_rfl) Tryz.func4
    (ChangeSpec.witness6 (enc := enc) (C := Tryz.checked) false ⟨#[], #[.slice none 0 0, .agg #[.int .i64 0, .int .i64 0, .int .u32 0], .slice none 0 0], []⟩ 8 (by kernel_rfl) (by kernel_rfl) (by kernel_rfl) (by kernel_rfl)) ?_
  intro W base args ds gs before hval0 hW _ hsz _
  have hval : ∀ (j : Nat) t v, Tryz.f4.params[j]? = some t → args[j]? = some v → Value.okWide Tryz.prog W .any base t v := hval0
  have hW' := hW
  obtain ⟨p, q, hA0, hV, rfl, -, -⟩ := hW
  have hA : DataW.TrodAll enc Tryz.prog W 0 (fun _ => true) true Tryz.f4.params.toList args.toList ds p := hA0
  rw [Tryz.params4] at hA hval
  obtain ⟨v0, vs0, d0, ds0, p0, q0, hargs, rfl, rfl, h0, r0⟩ := trodAll_cons hA
  obtain ⟨v1, vs1, d1, ds1, p1, q1, rfl, rfl, rfl, h1, r1⟩ := trodAll_cons r0
  obtain ⟨v2, vs2, d2, ds2, p2, q2, rfl, rfl, rfl, h2, r2⟩ := trodAll_cons r1
  obtain ⟨rfl, rfl, rfl⟩ := trodAll_nil r2
  obtain rfl : args = #[v0, v1, v2] := by cases args; simp_all
  obtain ⟨rfl, rfl⟩ := trodVars_none hV
  obtain ⟨a0, len0, cap0, rfl⟩ := okWide_slice Tryz.underlying22 (hval 0 22 v0 rfl rfl)
  have lt0 : ∀ x ∈ p0, x.block < W.heap.size := by obtain ⟨m, hm⟩ := h0; exact DataW.trod_lt m _ _ _ hm
  obtain ⟨o0, ho0, hd0⟩ := open_ops h0
  have hb0 : len0 * 40 ≤ 140737488351232 := by
    rcases hd0 with ⟨-, h⟩ | ⟨es, sp, rfl, h⟩
    · omega
    · have := sized_slice hsz (j := 0) (t := 22) (e := 75) rfl rfl Tryz.underlying22
      rw [show Tryz.checked.prog.bytesOf 75 = 40 from bytes75] at this
      unfold reachBytes at this
      omega
  have lt1 : ∀ x ∈ p1, x.block < W.heap.size := by obtain ⟨m, hm⟩ := h1; exact DataW.trod_lt m _ _ _ hm
  obtain ⟨f1, t1, u1, rfl⟩ := open_said (hval 1 46 v1 rfl rfl) h1
  have lt2 : ∀ x ∈ p2, x.block < W.heap.size := by obtain ⟨m, hm⟩ := h2; exact DataW.trod_lt m _ _ _ hm
  obtain ⟨a2, len2, cap2, rfl⟩ := okWide_slice Tryz.underlying23 (hval 2 23 v2 rfl rfl)
  obtain ⟨bs2, -, -, -, -, hl2, hx2, -, hd2⟩ := W16.open_by ⟨_, rfl, rfl⟩ h2
  have hb2 := W16.by_sized hsz (j := 2) rfl rfl hd2
  clear hA0 hval0
  refine (walk a0 len0 cap0 o0 f1 t1 u1 _ bs2 W ho0 (by omega) hl2 hx2 hb2).mono fun e W' ⟨he, bel⟩ => ?_
  subst he
  exact ⟨_, rfl, _, _, _, [], _, [], hW', trodAll_mk1 (shut_bool Tryz.underlying4 _), (trodAll_cons_mk (Below.trod laidOut (by kernel_rfl) (of_decide_eq_true (by kernel_rfl)) h0 (unhide bel) lt0) (trodAll_cons_mk (Below.trod laidOut (by kernel_rfl) (of_decide_eq_true (by kernel_rfl)) h1 (unhide bel) lt1) (trodAll_cons_mk (Below.trod laidOut (by kernel_rfl) (of_decide_eq_true (by kernel_rfl)) h2 (unhide bel) lt2) trodAll_mk0))), rfl, (unhide bel).frame _, fun h => by cases h⟩
end Go.Proofs.YtagibmgbjhemkaaGreat.checkClaims
namespace Go.Proofs.YtagibmgbjhemkaaGreat
theorem checkClaims_said : Rows.CheckClaimsSaid :=
  OpenClaim.holds_of_wide 4 Tryz.f4 rfl rfl rfl rfl rfl rfl rfl ⟨rfl, rfl, rfl, rfl, rfl⟩ rfl rfl rfl rfl rfl (by kernel_rfl) Tryz.func4 (by kernel_rfl)
    (of_decide_eq_true (by kernel_rfl)) (by unfold Func.isWrapper; first | (rw [if_pos (by decide +kernel)]; kernel_rfl) | (rw [if_neg (by decide +kernel)]; exact ⟨rfl, rfl⟩))
    (fun os started H enc _ => checkClaims.lifted os started H enc)
#print axioms checkClaims_said
end Go.Proofs.YtagibmgbjhemkaaGreat

/- CheckWalks: over every store that a script builds, from any vertex, for a walk along its edges: its witness is accepted and claimed, and what is made of it by another cost, another beginning or end, or without its last edge, is told as what is wrong with it; and once its first edge is gone, that one is missing. -/
import Derived.Test.YtagibmgbjhemkaaGreatFr172
import Derived.Test.YtagibmgbjhemkaaGreatRows
namespace Go.Proofs.YtagibmgbjhemkaaGreat.checkWalks
open Go.ChangeShapes Go.WideShapes Go.ChangeAt Go.RowKit
theorem walk (a : Option Addr) (len cap : Nat) (o : Nat → OpV) (x : Int) (a2 : Option Addr) (len2 cap2 : Nat) (z : Nat → Int) (w : World) (h : IsOps w a len o) (_ : len * 40 ≤ 140737488351232) (hx : (Lit.int .i64 x).wf = true) (h2 : IsInts w a2 len2 z) (_ : len2 * 8 ≤ 140737488351232) :
    Calls Tryz.prog 5 #[.slice a len cap, .int .i64 x, .slice a2 len2 cap2] w fun e w' => e = .returned (.bool true) ∧ Hid (Below w.heap.size w w') := by
  have i1 : Inhabited EntI := ⟨⟨0, 0, 0⟩⟩; exact walks17 a len cap o x hx w h (is_row h2)
set_option maxRecDepth 100000 in
theorem lifted (os : Os) (started : os.Started) (H : Type) (enc : TypeId × Value → H) :
    ReturnsInHanded {} Tryz.checked os 5 .any (Rows.checkWalksSpec.pre6 enc Tryz.prog Tryz.f5 Rows.checkWalksRow.domain false) (Rows.checkWalksSpec.post enc Tryz.prog Tryz.f5 false true false false) := by
  refine returnsInHanded_of_change_sized (C := Tryz.checked) own started (by kernel_rfl) Tryz.func5
    (ChangeSpec.witness6 (enc := enc) (C := Tryz.checked) false ⟨#[], #[.slice none 0 0, .int .i64 0, .slice none 0 0], []⟩ 8 (by kernel_rfl) (by kernel_rfl) (by kernel_rfl) (by kernel_rfl)) ?_
  intro W base args ds gs before hval0 hW _ hsz _; have hval : ∀ (j : Nat) t v, Tryz.f5.params[j]? = some t → args[j]? = some v → Value.okWide Tryz.prog W .any base t v := hval0; have hW' := hW; obtain ⟨p, q, hA0, hV, rfl, -, -⟩ := hW; have hA : DataW.TrodAll enc Tryz.prog W 0 (fun _ => true) true Tryz.f5.params.toList args.toList ds p := hA0
  rw [Tryz.params5] at hA hval; obtain ⟨v0, vs0, d0, ds0, p0, q0, hargs, rfl, rfl, h0, r0⟩ := trodAll_cons hA; obtain ⟨v1, vs1, d1, ds1, p1, q1, rfl, rfl, rfl, h1, r1⟩ := trodAll_cons r0; obtain ⟨v2, vs2, d2, ds2, p2, q2, rfl, rfl, rfl, h2, r2⟩ := trodAll_cons r1; obtain ⟨rfl, rfl, rfl⟩ := trodAll_nil r2; obtain rfl : args = #[v0, v1, v2] := by cases args; simp_all
  obtain ⟨rfl, rfl⟩ := trodVars_none hV; obtain ⟨a0, len0, cap0, rfl⟩ := okWide_slice Tryz.underlying22 (hval 0 22 v0 rfl rfl); have lt0 : ∀ x ∈ p0, x.block < W.heap.size := by obtain ⟨m, hm⟩ := h0; exact DataW.trod_lt m _ _ _ hm
  obtain ⟨o0, ho0, hd0⟩ := open_ops h0; have hb0 : len0 * 40 ≤ 140737488351232 := by
    rcases hd0 with ⟨-, h⟩ | ⟨es, sp, rfl, h⟩
    · omega
    · have := sized_slice hsz (j := 0) (t := 22) (e := 75) rfl rfl Tryz.underlying22; rw [show Tryz.checked.prog.bytesOf 75 = 40 from bytes75] at this
      unfold reachBytes at this; omega
  obtain ⟨x1, rfl, rfl, rfl, w1⟩ := open_int Tryz.underlying3 (hval 1 3 v1 rfl rfl) h1; obtain ⟨a2, len2, cap2, rfl⟩ := okWide_slice Tryz.underlying25 (hval 2 25 v2 rfl rfl); have lt2 : ∀ x ∈ p2, x.block < W.heap.size := by obtain ⟨m, hm⟩ := h2; exact DataW.trod_lt m _ _ _ hm
  obtain ⟨o2, ho2, hd2⟩ := open_is h2; have hb2 : len2 * 8 ≤ 140737488351232 := by
    rcases hd2 with ⟨-, h⟩ | ⟨es, sp, rfl, h⟩
    · omega
    · have := sized_slice hsz (j := 2) (t := 25) (e := 3) rfl rfl Tryz.underlying25; rw [show Tryz.checked.prog.bytesOf 3 = 8 from bytes3] at this
      unfold reachBytes at this; omega
  clear hA0 hval0; refine (walk a0 len0 cap0 o0 x1 a2 len2 cap2 o2 W ho0 (by omega) w1 ho2 (by omega)).mono fun e W' ⟨he, bel⟩ => ?_
  subst he; exact ⟨_, rfl, _, _, _, [], _, [], hW', trodAll_mk1 (shut_bool Tryz.underlying4 _), (trodAll_cons_mk (Below.trod laidOut (by kernel_rfl) (of_decide_eq_true (by kernel_rfl)) h0 (unhide bel) lt0) (trodAll_cons_mk (shut_int Tryz.underlying3 w1) (trodAll_cons_mk (Below.trod laidOut (by kernel_rfl) (of_decide_eq_true (by kernel_rfl)) h2 (unhide bel) lt2) trodAll_mk0))), rfl, (unhide bel).frame _, fun h => by cases h⟩
end Go.Proofs.YtagibmgbjhemkaaGreat.checkWalks
namespace Go.Proofs.YtagibmgbjhemkaaGreat
theorem checkWalks_said : Rows.CheckWalksSaid :=
  OpenClaim.holds_of_wide 5 Tryz.f5 rfl rfl rfl rfl rfl rfl rfl ⟨rfl, rfl, rfl, rfl, rfl⟩ rfl rfl rfl rfl rfl (by kernel_rfl) Tryz.func5 (by kernel_rfl)
    (of_decide_eq_true (by kernel_rfl)) (by unfold Func.isWrapper; first | (rw [if_pos (by decide +kernel)]; kernel_rfl) | (rw [if_neg (by decide +kernel)]; exact ⟨rfl, rfl⟩))
    (fun os started H enc _ => checkWalks.lifted os started H enc)
#print axioms checkWalks_said
end Go.Proofs.YtagibmgbjhemkaaGreat

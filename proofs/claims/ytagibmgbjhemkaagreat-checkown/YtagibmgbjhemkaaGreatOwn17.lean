/- CheckOwn: over every store that a script builds and for any bytes, the bytes that are offered stay while they are checked and aren't kept, what was answered stays when they are written over, and the graph is only asked. -/
import Derived.Test.YtagibmgbjhemkaaGreatFr17
import Derived.Test.YtagibmgbjhemkaaGreatRows
namespace Go.Proofs.YtagibmgbjhemkaaGreat.checkOwn
open Go.ChangeShapes Go.WideShapes Go.ChangeAt Go.RowKit

theorem walk (a : Option Addr) (len cap : Nat) (o : Nat → OpV) (v : Value) (bs : List Nat) (w : World) (h : IsOps w a len o) (_ : len * 40 ≤ 140737488351232) (hv : W16.Lies W16.u8v w v bs) (hx : ∀ x ∈ bs, x < 256) (hl : bs.length ≤ 140737488351232) :
    Calls Tryz.prog 7 #[.slice a len cap, v] w fun e w' => e = .returned (.bool true) ∧ Hid (Below w.heap.size w w') := by
  have i1 : Inhabited EntI := ⟨⟨0, 0, 0⟩⟩
  exact own17 a len cap o w h hv hx hl

set_option maxRecDepth 100000 in
theorem lifted (os : Os) (started : os.Started) (H : Type) (enc : TypeId × Value → H) :
    ReturnsInHanded {} Tryz.checked os 7 .any (Rows.checkOwnSpec.pre6 enc Tryz.prog Tryz.f7 Rows.checkOwnRow.domain false) (Rows.checkOwnSpec.post enc Tryz.prog Tryz.f7 false true false false) := by
  refine returnsInHanded_of_change_sized (C := Tryz.checked) own started (by kernel_rfl) Tryz.func7
    (ChangeSpec.witness6 (enc := enc) (C := Tryz.checked) false ⟨#[], #[.slice none 0 0, .slice none 0 0], []⟩ 8 (by kernel_rfl) (by kernel_rfl) (by kernel_rfl) (by kernel_rfl)) ?_
  intro W base args ds gs before hval0 hW _ hsz _
  have hval : ∀ (j : Nat) t v, Tryz.f7.params[j]? = some t → args[j]? = some v → Value.okWide Tryz.prog W .any base t v := hval0
  have hW' := hW
  obtain ⟨p, q, hA0, hV, rfl, -, -⟩ := hW
  have hA : DataW.TrodAll enc Tryz.prog W 0 (fun _ => true) true Tryz.f7.params.toList args.toList ds p := hA0
  rw [Tryz.params7] at hA hval
  obtain ⟨v0, vs0, d0, ds0, p0, q0, hargs, rfl, rfl, h0, r0⟩ := trodAll_cons hA
  obtain ⟨v1, vs1, d1, ds1, p1, q1, rfl, rfl, rfl, h1, r1⟩ := trodAll_cons r0
  obtain ⟨rfl, rfl, rfl⟩ := trodAll_nil r1
  obtain rfl : args = #[v0, v1] := by cases args; simp_all
  obtain ⟨rfl, rfl⟩ := trodVars_none hV
  obtain ⟨a0, len0, cap0, rfl⟩ := okWide_slice Tryz.underlying22 (hval 0 22 v0 rfl rfl)
  have lt0 : ∀ x ∈ p0, x.block < W.heap.size := by obtain ⟨m, hm⟩ := h0; exact DataW.trod_lt m _ _ _ hm
  obtain ⟨o0, ho0, hd0⟩ := open_ops h0
  have hb0 : len0 * 40 ≤ 140737488351232 := by
    rcases hd0 with ⟨-, h⟩ | ⟨es, sp, rfl, h⟩
    · omega
    · have := sized_slice hsz (j := 0) (t := 22) (e := 75) rfl rfl Tryz.underlying22
      rw [show Tryz.checked.prog.bytesOf 75 = 40 from bytes75] at this
      unfold reachBytes at this
      omega
  have lt1 : ∀ x ∈ p1, x.block < W.heap.size := by obtain ⟨m, hm⟩ := h1; exact DataW.trod_lt m _ _ _ hm
  obtain ⟨a1, len1, cap1, rfl⟩ := okWide_slice Tryz.underlying23 (hval 1 23 v1 rfl rfl)
  obtain ⟨bs1, -, -, -, -, hl1, hx1, -, hd1⟩ := W16.open_by ⟨_, rfl, rfl⟩ h1
  have hb1 := W16.by_sized hsz (j := 1) rfl rfl hd1
  clear hA0 hval0
  refine (walk a0 len0 cap0 o0 _ bs1 W ho0 (by omega) hl1 hx1 hb1).mono fun e W' ⟨he, bel⟩ => ?_
  subst he
  exact ⟨_, rfl, _, _, _, [], _, [], hW', trodAll_mk1 (shut_bool Tryz.underlying4 _), (trodAll_cons_mk (Below.trod laidOut (by kernel_rfl) (of_decide_eq_true (by kernel_rfl)) h0 (unhide bel) lt0) (trodAll_cons_mk (Below.trod laidOut (by kernel_rfl) (of_decide_eq_true (by kernel_rfl)) h1 (unhide bel) lt1) trodAll_mk0)), rfl, (unhide bel).frame _, fun h => by cases h⟩
end Go.Proofs.YtagibmgbjhemkaaGreat.checkOwn
namespace Go.Proofs.YtagibmgbjhemkaaGreat
theorem checkOwn_said : Rows.CheckOwnSaid :=
  OpenClaim.holds_of_wide 7 Tryz.f7 rfl rfl rfl rfl rfl rfl rfl ⟨rfl, rfl, rfl, rfl, rfl⟩ rfl rfl rfl rfl rfl (by kernel_rfl) Tryz.func7 (by kernel_rfl)
    (of_decide_eq_true (by kernel_rfl)) (by unfold Func.isWrapper; first | (rw [if_pos (by decide +kernel)]; kernel_rfl) | (rw [if_neg (by decide +kernel)]; exact ⟨rfl, rfl⟩))
    (fun os started H enc _ => checkOwn.lifted os started H enc)
#print axioms checkOwn_said
end Go.Proofs.YtagibmgbjhemkaaGreat

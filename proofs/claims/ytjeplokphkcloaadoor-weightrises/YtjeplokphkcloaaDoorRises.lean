/- bramblelaw01.WeightRises answers true for every three uint32, and its arguments read behind the call as they read before; the listed tables of Go's library hold what their initialisers lay (the card ties that to the program's text). -/
import Derived.Test.YtjeplokphkcloaaDoorFrame
import Derived.Test.YtjeplokphkcloaaDoorCost
namespace Go.Proofs.YtjeplokphkcloaaDoor.weightRises
open Go.ChangeShapes Go.WideShapes Go.ChangeAt Go.RowKit

set_option maxHeartbeats 400000 in
theorem no_a (a b c : Nat)  (ha : ¬ a ≤ 2139095040) (hxa : a < 4294967296) (w : World) (hc : w.cell? ⟨4, 15, none⟩ = some (.int .u8 4)) :
    Calls Tryd.prog 7 #[.int .u32 (a : Int), .int .u32 (b : Int), .int .u32 (c : Int)] w fun e w' => e = .returned (.bool true) ∧ Grown w w' := by
  have h4 : 4 < w.heap.size := World.block_lt_of_cell? _ _ hc
  have HFa := hide (float_nat a)
  have HFb := hide (float_nat b)
  have HFc := hide (float_nat c)
  have HCa : Hid (∀ w, Calls Tryd.prog 14 #[.float .f32 a] w fun e w' => e = .returned (.bool false) ∧ w' = w) := fun w => by
    have := cost_nat a hxa w
    rwa [decide_eq_false (by omega)] at this
  have ia : (2139095040 : Int) < (a : Int) := by omega
  go_enter Tryd.func7, Tryd.ntmps7
  go_wp2_with fail
  refine (awake_any _ hc h4).mono ?_
  rintro e w' ⟨rfl, A, rfl⟩
  go_wp2_with fail
  refine (unhide HFa _).mono ?_
  rintro e w' ⟨rfl, rfl⟩
  go_wp2_with fail
  refine (unhide HFb _).mono ?_
  rintro e w' ⟨rfl, rfl⟩
  go_wp2_with fail
  refine (unhide HFc _).mono ?_
  rintro e w' ⟨rfl, rfl⟩
  go_wp2_with fail
  refine (unhide HCa _).mono ?_
  rintro e w' ⟨rfl, rfl⟩
  go_wp2
  go_ret
  exact ⟨by simp, (Grown.refl _).alloc _ _⟩

set_option maxHeartbeats 400000 in
theorem no_b (a b c : Nat) (ha : a ≤ 2139095040) (hb : ¬ b ≤ 2139095040) (hxb : b < 4294967296) (w : World) (hc : w.cell? ⟨4, 15, none⟩ = some (.int .u8 4)) :
    Calls Tryd.prog 7 #[.int .u32 (a : Int), .int .u32 (b : Int), .int .u32 (c : Int)] w fun e w' => e = .returned (.bool true) ∧ Grown w w' := by
  have h4 : 4 < w.heap.size := World.block_lt_of_cell? _ _ hc
  have HFa := hide (float_nat a)
  have HFb := hide (float_nat b)
  have HFc := hide (float_nat c)
  have HCa : Hid (∀ w, Calls Tryd.prog 14 #[.float .f32 a] w fun e w' => e = .returned (.bool true) ∧ w' = w) := fun w => by
    have := cost_nat a (by omega) w
    rwa [decide_eq_true (by omega)] at this
  have HCb : Hid (∀ w, Calls Tryd.prog 14 #[.float .f32 b] w fun e w' => e = .returned (.bool false) ∧ w' = w) := fun w => by
    have := cost_nat b hxb w
    rwa [decide_eq_false (by omega)] at this
  have ia : ¬ (2139095040 : Int) < (a : Int) := by omega
  have ib : (2139095040 : Int) < (b : Int) := by omega
  go_enter Tryd.func7, Tryd.ntmps7
  go_wp2_with fail
  refine (awake_any _ hc h4).mono ?_
  rintro e w' ⟨rfl, A, rfl⟩
  go_wp2_with fail
  refine (unhide HFa _).mono ?_
  rintro e w' ⟨rfl, rfl⟩
  go_wp2_with fail
  refine (unhide HFb _).mono ?_
  rintro e w' ⟨rfl, rfl⟩
  go_wp2_with fail
  refine (unhide HFc _).mono ?_
  rintro e w' ⟨rfl, rfl⟩
  go_wp2_with fail
  refine (unhide HCa _).mono ?_
  rintro e w' ⟨rfl, rfl⟩
  go_wp2_with fail
  refine (unhide HCb _).mono ?_
  rintro e w' ⟨rfl, rfl⟩
  go_wp2
  go_ret
  exact ⟨by simp, (Grown.refl _).alloc _ _⟩

set_option maxHeartbeats 400000 in
theorem no_c (a b c : Nat) (ha : a ≤ 2139095040) (hb : b ≤ 2139095040) (hcc : ¬ c ≤ 2139095040) (hxc : c < 4294967296) (w : World) (hc : w.cell? ⟨4, 15, none⟩ = some (.int .u8 4)) :
    Calls Tryd.prog 7 #[.int .u32 (a : Int), .int .u32 (b : Int), .int .u32 (c : Int)] w fun e w' => e = .returned (.bool true) ∧ Grown w w' := by
  have h4 : 4 < w.heap.size := World.block_lt_of_cell? _ _ hc
  have HFa := hide (float_nat a)
  have HFb := hide (float_nat b)
  have HFc := hide (float_nat c)
  have HCa : Hid (∀ w, Calls Tryd.prog 14 #[.float .f32 a] w fun e w' => e = .returned (.bool true) ∧ w' = w) := fun w => by
    have := cost_nat a (by omega) w
    rwa [decide_eq_true (by omega)] at this
  have HCb : Hid (∀ w, Calls Tryd.prog 14 #[.float .f32 b] w fun e w' => e = .returned (.bool true) ∧ w' = w) := fun w => by
    have := cost_nat b (by omega) w
    rwa [decide_eq_true (by omega)] at this
  have HCc : Hid (∀ w, Calls Tryd.prog 14 #[.float .f32 c] w fun e w' => e = .returned (.bool false) ∧ w' = w) := fun w => by
    have := cost_nat c hxc w
    rwa [decide_eq_false (by omega)] at this
  have ia : ¬ (2139095040 : Int) < (a : Int) := by omega
  have ib : ¬ (2139095040 : Int) < (b : Int) := by omega
  have ic : (2139095040 : Int) < (c : Int) := by omega
  go_enter Tryd.func7, Tryd.ntmps7
  go_wp2_with fail
  refine (awake_any _ hc h4).mono ?_
  rintro e w' ⟨rfl, A, rfl⟩
  go_wp2_with fail
  refine (unhide HFa _).mono ?_
  rintro e w' ⟨rfl, rfl⟩
  go_wp2_with fail
  refine (unhide HFb _).mono ?_
  rintro e w' ⟨rfl, rfl⟩
  go_wp2_with fail
  refine (unhide HFc _).mono ?_
  rintro e w' ⟨rfl, rfl⟩
  go_wp2_with fail
  refine (unhide HCa _).mono ?_
  rintro e w' ⟨rfl, rfl⟩
  go_wp2_with fail
  refine (unhide HCb _).mono ?_
  rintro e w' ⟨rfl, rfl⟩
  go_wp2_with fail
  refine (unhide HCc _).mono ?_
  rintro e w' ⟨rfl, rfl⟩
  go_wp2
  go_ret
  exact ⟨by simp, (Grown.refl _).alloc _ _⟩

set_option maxHeartbeats 1000000 in
theorem all_costs (a b c : Nat) (ha : a ≤ 2139095040) (hb : b ≤ 2139095040) (hcc : c ≤ 2139095040) (w : World) (hc : w.cell? ⟨4, 15, none⟩ = some (.int .u8 4)) :
    Calls Tryd.prog 7 #[.int .u32 (a : Int), .int .u32 (b : Int), .int .u32 (c : Int)] w fun e w' => e = .returned (.bool true) ∧ Grown w w' := by
  have h4 : 4 < w.heap.size := World.block_lt_of_cell? _ _ hc
  have HFa := hide (float_nat a)
  have HFb := hide (float_nat b)
  have HFc := hide (float_nat c)
  have HCa : Hid (∀ w, Calls Tryd.prog 14 #[.float .f32 a] w fun e w' => e = .returned (.bool true) ∧ w' = w) := fun w => by
    have := cost_nat a (by omega) w
    rwa [decide_eq_true (by omega)] at this
  have HCb : Hid (∀ w, Calls Tryd.prog 14 #[.float .f32 b] w fun e w' => e = .returned (.bool true) ∧ w' = w) := fun w => by
    have := cost_nat b (by omega) w
    rwa [decide_eq_true (by omega)] at this
  have HCc : Hid (∀ w, Calls Tryd.prog 14 #[.float .f32 c] w fun e w' => e = .returned (.bool true) ∧ w' = w) := fun w => by
    have := cost_nat c (by omega) w
    rwa [decide_eq_true (by omega)] at this
  have HP := hide (fun w => add_cost ha hcc w)
  have HQ := hide (fun w => add_cost hb hcc w)
  have HZ := hide (fun w => add_cost hcc ha w)
  have H0 := hide (fun w => add_cost ha (show 0 ≤ 2139095040 by omega) w)
  rw [M.addC_comm hcc ha] at HZ
  rw [M.addC_zero ha] at H0
  have lp := M.addC_le ha hcc
  have lq := M.addC_le hb hcc
  have gp := M.addC_ge ha hcc
  have gq := M.addC_ge hb hcc
  have mono : ¬ b < a → M.addC a c ≤ M.addC b c := fun h => M.addC_mono ha hb hcc (by omega)
  generalize M.addC a c = p at *
  generalize M.addC b c = q at *
  have B1 : Hid (∀ w, Calls Tryd.prog 21 #[.float .f32 p, .float .f32 a] w fun e w' => e = .returned (.bool false) ∧ w' = w) := fun w => by
    have := before_cost lp ha w
    rwa [decide_eq_false (by omega)] at this
  have B2 : Hid (∀ w, Calls Tryd.prog 21 #[.float .f32 q, .float .f32 b] w fun e w' => e = .returned (.bool false) ∧ w' = w) := fun w => by
    have := before_cost lq hb w
    rwa [decide_eq_false (by omega)] at this
  have CP : Hid (∀ w, Calls Tryd.prog 14 #[.float .f32 p] w fun e w' => e = .returned (.bool true) ∧ w' = w) := fun w => by
    have := cost_nat p (by omega) w
    rwa [decide_eq_true (by omega)] at this
  have CQ : Hid (∀ w, Calls Tryd.prog 14 #[.float .f32 q] w fun e w' => e = .returned (.bool true) ∧ w' = w) := fun w => by
    have := cost_nat q (by omega) w
    rwa [decide_eq_true (by omega)] at this
  have IA := hide (fun w => is_same ha w)
  have BP := hide (fun w => bits_nat lp w)
  by_cases hba : b < a
  · have B3 : Hid (∀ w, Calls Tryd.prog 21 #[.float .f32 b, .float .f32 a] w fun e w' => e = .returned (.bool true) ∧ w' = w) := fun w => by
      have := before_cost hb ha w
      rwa [decide_eq_true hba] at this
    clear mono hba lp lq gp gq ha hb hcc
    go_enter Tryd.func7, Tryd.ntmps7
    go_wp2_with fail
    refine (awake_any _ hc h4).mono ?_
    rintro e w' ⟨rfl, A, rfl⟩
    go_wp2_with fail
    refine (unhide HFa _).mono ?_
    rintro e w' ⟨rfl, rfl⟩
    go_wp2_with fail
    refine (unhide HFb _).mono ?_
    rintro e w' ⟨rfl, rfl⟩
    go_wp2_with fail
    refine (unhide HFc _).mono ?_
    rintro e w' ⟨rfl, rfl⟩
    go_wp2_with fail
    refine (unhide HCa _).mono ?_
    rintro e w' ⟨rfl, rfl⟩
    go_wp2_with fail
    refine (unhide HCb _).mono ?_
    rintro e w' ⟨rfl, rfl⟩
    go_wp2_with fail
    refine (unhide HCc _).mono ?_
    rintro e w' ⟨rfl, rfl⟩
    go_wp2_with fail
    refine (unhide HP _).mono ?_
    rintro e w' ⟨rfl, rfl⟩
    go_wp2_with fail
    refine (unhide HQ _).mono ?_
    rintro e w' ⟨rfl, rfl⟩
    go_wp2_with fail
    refine (unhide B1 _).mono ?_
    rintro e w' ⟨rfl, rfl⟩
    go_wp2_with fail
    refine (unhide B2 _).mono ?_
    rintro e w' ⟨rfl, rfl⟩
    go_wp2_with fail
    refine (unhide CP _).mono ?_
    rintro e w' ⟨rfl, rfl⟩
    go_wp2_with fail
    refine (unhide CQ _).mono ?_
    rintro e w' ⟨rfl, rfl⟩
    go_wp2_with fail
    refine (unhide B3 _).mono ?_
    rintro e w' ⟨rfl, rfl⟩
    go_wp2_with fail
    refine (unhide H0 _).mono ?_
    rintro e w' ⟨rfl, rfl⟩
    go_wp2_with fail
    refine (unhide IA _).mono ?_
    rintro e w' ⟨rfl, rfl⟩
    go_wp2_with fail
    refine (unhide BP _).mono ?_
    rintro e w' ⟨rfl, rfl⟩
    go_wp2_with fail
    refine (unhide HZ _).mono ?_
    rintro e w' ⟨rfl, rfl⟩
    go_wp2_with fail
    refine (unhide BP _).mono ?_
    rintro e w' ⟨rfl, rfl⟩
    go_wp2
    go_ret
    exact ⟨by simp, (Grown.refl _).alloc _ _⟩
  · have B3 : Hid (∀ w, Calls Tryd.prog 21 #[.float .f32 b, .float .f32 a] w fun e w' => e = .returned (.bool false) ∧ w' = w) := fun w => by
      have := before_cost hb ha w
      rwa [decide_eq_false hba] at this
    have hpq := mono hba
    have B4 : Hid (∀ w, Calls Tryd.prog 21 #[.float .f32 q, .float .f32 p] w fun e w' => e = .returned (.bool false) ∧ w' = w) := fun w => by
      have := before_cost lq lp w
      rwa [decide_eq_false (by omega)] at this
    clear mono hba lp lq gp gq ha hb hcc hpq
    go_enter Tryd.func7, Tryd.ntmps7
    go_wp2_with fail
    refine (awake_any _ hc h4).mono ?_
    rintro e w' ⟨rfl, A, rfl⟩
    go_wp2_with fail
    refine (unhide HFa _).mono ?_
    rintro e w' ⟨rfl, rfl⟩
    go_wp2_with fail
    refine (unhide HFb _).mono ?_
    rintro e w' ⟨rfl, rfl⟩
    go_wp2_with fail
    refine (unhide HFc _).mono ?_
    rintro e w' ⟨rfl, rfl⟩
    go_wp2_with fail
    refine (unhide HCa _).mono ?_
    rintro e w' ⟨rfl, rfl⟩
    go_wp2_with fail
    refine (unhide HCb _).mono ?_
    rintro e w' ⟨rfl, rfl⟩
    go_wp2_with fail
    refine (unhide HCc _).mono ?_
    rintro e w' ⟨rfl, rfl⟩
    go_wp2_with fail
    refine (unhide HP _).mono ?_
    rintro e w' ⟨rfl, rfl⟩
    go_wp2_with fail
    refine (unhide HQ _).mono ?_
    rintro e w' ⟨rfl, rfl⟩
    go_wp2_with fail
    refine (unhide B1 _).mono ?_
    rintro e w' ⟨rfl, rfl⟩
    go_wp2_with fail
    refine (unhide B2 _).mono ?_
    rintro e w' ⟨rfl, rfl⟩
    go_wp2_with fail
    refine (unhide CP _).mono ?_
    rintro e w' ⟨rfl, rfl⟩
    go_wp2_with fail
    refine (unhide CQ _).mono ?_
    rintro e w' ⟨rfl, rfl⟩
    go_wp2_with fail
    refine (unhide B3 _).mono ?_
    rintro e w' ⟨rfl, rfl⟩
    go_wp2_with fail
    refine (unhide B4 _).mono ?_
    rintro e w' ⟨rfl, rfl⟩
    go_wp2_with fail
    refine (unhide H0 _).mono ?_
    rintro e w' ⟨rfl, rfl⟩
    go_wp2_with fail
    refine (unhide IA _).mono ?_
    rintro e w' ⟨rfl, rfl⟩
    go_wp2_with fail
    refine (unhide BP _).mono ?_
    rintro e w' ⟨rfl, rfl⟩
    go_wp2_with fail
    refine (unhide HZ _).mono ?_
    rintro e w' ⟨rfl, rfl⟩
    go_wp2_with fail
    refine (unhide BP _).mono ?_
    rintro e w' ⟨rfl, rfl⟩
    go_wp2
    go_ret
    exact ⟨by simp, (Grown.refl _).alloc _ _⟩

theorem walk_nat (a b c : Nat) (ha : a < 4294967296) (hb : b < 4294967296) (hcc : c < 4294967296) (w : World) (hc : w.cell? ⟨4, 15, none⟩ = some (.int .u8 4)) :
    Calls Tryd.prog 7 #[.int .u32 (a : Int), .int .u32 (b : Int), .int .u32 (c : Int)] w fun e w' => e = .returned (.bool true) ∧ Grown w w' := by
  by_cases h1 : a ≤ 2139095040
  · by_cases h2 : b ≤ 2139095040
    · by_cases h3 : c ≤ 2139095040
      · exact all_costs a b c h1 h2 h3 w hc
      · exact no_c a b c h1 h2 h3 hcc w hc
    · exact no_b a b c h1 h2 hb w hc
  · exact no_a a b c h1 ha w hc

theorem walk (a0 : Int) (a1 : Int) (a2 : Int) (w0 : (Lit.int .u32 a0).wf = true) (w1 : (Lit.int .u32 a1).wf = true) (w2 : (Lit.int .u32 a2).wf = true) (w : World) (hc : w.cell? ⟨4, 15, none⟩ = some (.int .u8 4)) :
    Calls Tryd.prog 7 #[.int .u32 a0, .int .u32 a1, .int .u32 a2] w fun e w' => e = .returned (.bool true) ∧ Grown w w' := by
  have b0 := bounds_u32 w0
  have b1 := bounds_u32 w1
  have b2 := bounds_u32 w2
  obtain ⟨x0, rfl⟩ := Int.eq_ofNat_of_zero_le b0.1
  obtain ⟨x1, rfl⟩ := Int.eq_ofNat_of_zero_le b1.1
  obtain ⟨x2, rfl⟩ := Int.eq_ofNat_of_zero_le b2.1
  exact walk_nat x0 x1 x2 (by omega) (by omega) (by omega) w hc

theorem contract (H : Type) (enc : TypeId × Value → H) (W : World) (base : Nat) (args : Array Value) (ds gs : List (DataW H)) (before : List MemPlace)
    (hval : ∀ (j : Nat) t v, Tryd.f7.params[j]? = some t → args[j]? = some v → Value.okWide Tryd.prog W .any base t v)
    (hW : DataW.Whole enc Tryd.prog Tryd.f7.params.toList Rows.weightRisesSpec.vars false W args.toList ds gs before) (hL : laidMetH Tryd.prog Rows.weightRisesRow.laid W) :
    Calls Tryd.prog 7 args W fun e W' => ∃ v, e = .returned v ∧ Rows.weightRisesSpec.post enc Tryd.prog Tryd.f7 false true false false W args v W' := by
  have hW' := hW
  obtain ⟨p, q, hA0, hV, rfl, hfz, hnd⟩ := hW
  have hA : DataW.TrodAll enc Tryd.prog W 0 (fun _ => true) true Tryd.f7.params.toList args.toList ds p := hA0
  rw [Tryd.params7] at hA hval
  obtain ⟨v0, vs0, d0, ds0, p0, q0, hargs, rfl, rfl, h0, r0⟩ := trodAll_cons hA
  obtain ⟨v1, vs1, d1, ds1, p1, q1, rfl, rfl, rfl, h1, r1⟩ := trodAll_cons r0
  obtain ⟨v2, vs2, d2, ds2, p2, q2, rfl, rfl, rfl, h2, r2⟩ := trodAll_cons r1
  obtain ⟨rfl, rfl, rfl⟩ := trodAll_nil r2
  obtain rfl : args = #[v0, v1, v2] := by cases args; simp_all
  obtain ⟨rfl, rfl⟩ := trodVars_none hV
  obtain ⟨a0, rfl, rfl, rfl, w0⟩ := open_int Tryd.underlying22 (hval 0 22 v0 rfl rfl) h0
  obtain ⟨a1, rfl, rfl, rfl, w1⟩ := open_int Tryd.underlying22 (hval 1 22 v1 rfl rfl) h1
  obtain ⟨a2, rfl, rfl, rfl, w2⟩ := open_int Tryd.underlying22 (hval 2 22 v2 rfl rfl) h2
  clear hA0
  simp only [List.append_nil] at hW'
  refine (walk a0 a1 a2 w0 w1 w2 W (table hL)).mono fun e W' ⟨he, hg⟩ => ?_
  subst he
  exact ⟨_, rfl, post_of_same (pa := []) (pv := []) hW' (fun _ _ _ => (trodAll_cons_mk (shut_bool Tryd.underlying4 _) trodAll_mk0)) (fun sp _ => (trodAll_cons_mk (shut_int Tryd.underlying22 w0) (trodAll_cons_mk (shut_int Tryd.underlying22 w1) (trodAll_cons_mk (shut_int Tryd.underlying22 w2) trodAll_mk0)))) (fun _ _ => rfl) rfl
    (hg.frame _) hg.2.1 (ok_one (by kernel_rfl) rfl (okWide_bool_mk Tryd.underlying4 _))⟩

theorem laid_met (os : Os) : laidMet Tryd.prog Rows.weightRisesRow.laid ((laidOver (World.holding Tryd.prog os ⟨#[], #[], []⟩)).forCall (fun _ _ => 0) ⟨#[], #[.int .u32 0, .int .u32 0, .int .u32 0], []⟩).memory :=
  laidMet_of_run' 8 (by kernel_rfl) (by kernel_rfl)
theorem reads (os : Os) {H : Type} (enc : TypeId × Value → H) : ∃ places, DataW.whole enc Tryd.prog ((laidOver (World.holding Tryd.prog os ⟨#[], #[], []⟩)).forCall (fun _ _ => 0) ⟨#[], #[.int .u32 0, .int .u32 0, .int .u32 0], []⟩).memory Tryd.f7.params.toList Rows.weightRisesSpec.vars false #[Value.int .u32 0, Value.int .u32 0, Value.int .u32 0].toList 8 = some ([.lit (.int .u32 0), .lit (.int .u32 0), .lit (.int .u32 0)], [], places) :=
  ⟨[], by kernel_rfl⟩

set_option maxRecDepth 100000 in
theorem lifted (os : Os) (started : os.Started) (H : Type) (enc : TypeId × Value → H) (F : Stop.Interp) :
    ReturnsInHanded {} Tryd.checked os 7 .any ((OpenSpec.ofChange Rows.weightRisesSpec).preRow enc Tryd.prog Tryd.f7 Rows.weightRisesRow.domain false Rows.weightRisesRow.laid) (((OpenSpec.ofChange Rows.weightRisesSpec).at F).post enc Tryd.prog Tryd.f7 false true false false) := by
  obtain ⟨places, hx⟩ := reads os enc
  refine returnsInHanded_of_row (C := Tryd.checked) (s := OpenSpec.ofChange Rows.weightRisesSpec) own started (by kernel_rfl) Tryd.func7
    (witness_row_at (enc := enc) (C := Tryd.checked) false (laidOver (World.holding Tryd.prog os ⟨#[], #[], []⟩)) #[.int .u32 0, .int .u32 0, .int .u32 0] rfl (by kernel_rfl) (by kernel_rfl) (by kernel_rfl)
      (OpenSpec.preRow_of_cond 8 hx (by kernel_rfl) (fun k hk => by cases hk) (by kernel_rfl) (laid_met os))) ?_
  intro W base args ds gs before hval hW _ _ _ hL _ _
  exact contract H enc W base args ds gs before hval hW hL

theorem said : Rows.WeightRisesSaid :=
  OpenClaim.holds_of_cond 7 Tryd.f7 rfl rfl rfl rfl rfl rfl rfl ⟨rfl, rfl, rfl, rfl, rfl⟩ rfl rfl rfl rfl rfl (by kernel_rfl) Tryd.func7 (by kernel_rfl)
    (of_decide_eq_true (by kernel_rfl)) (by unfold Func.isWrapper; first | (rw [if_pos (by decide +kernel)]; kernel_rfl) | (rw [if_neg (by decide +kernel)]; exact ⟨rfl, rfl⟩))
    (fun os started H enc _ F => by rw [OpenClaim.pre_eq_preRow]; exact lifted os started H enc F)

theorem plain (f : FuncId) (fn : Func) (hf : Tryd.pinned.checked.prog.funcNamed "bramble/bramblelaw01.WeightRises" = some f) (hfn : Tryd.pinned.checked.prog.funcs[f]? = some fn) :
    false = Tryd.pinned.checked.prog.looks [] ∧ ∀ (j : Nat) t, fn.params[j]? = some t → Tryd.pinned.checked.prog.wantsStandIn t = false := by
  obtain rfl : f = 7 := Option.some.inj ((show Tryd.prog.funcNamed "bramble/bramblelaw01.WeightRises" = some 7 by kernel_rfl).symm.trans hf) |>.symm
  obtain rfl : fn = Tryd.f7 := (Option.some.inj (Tryd.func7.symm.trans hfn)).symm
  refine ⟨by kernel_rfl, fun j t ht => ?_⟩
  rw [Tryd.params7] at ht
  obtain rfl : t = 22 := by simpa using Array.mem_of_getElem? ht
  exact (show Tryd.prog.wantsStandIn 22 = false by kernel_rfl)
end Go.Proofs.YtjeplokphkcloaaDoor.weightRises
namespace Go.Proofs.YtjeplokphkcloaaDoor
/-- THE CARD. -/
theorem weightRises_card : Rows.WeightRisesCardSaid :=
  Claim7.holds_tied_plain_at .later [] _ _ _ _ weightRises.said (fun _ h => by cases h) (by kernel_rfl) (fun _ h => by cases h) weightRises_row_tie rfl ⟨rfl, rfl⟩ (by kernel_rfl) rfl weightRises.plain (by kernel_rfl)
#print axioms weightRises_card
end Go.Proofs.YtjeplokphkcloaaDoor

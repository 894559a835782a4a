/- Insert, walked. -/
import Derived.Test.YtbmcibofecigeaaLvR14
namespace Go.Proofs.Ytbmcibofecigeaa
open Go.RowKit Go.Maps
attribute [local go_sem] run_storeF run_fieldE0 run_fieldE1
def oEd14 (e u v b : Int) : Obj := .cells #[.int .i64 e, .int .i64 u, .int .i64 v, .int .u32 b] 42 (0, 0)
theorem cellsEd14 {w : World} {g : Nat} {e u v b : Int} (h : w.heap[g]? = some (oEd14 e u v b)) : w.cell? ⟨g, 0, none⟩ = some (.int .i64 e) ∧ w.cell? ⟨g, 1, none⟩ = some (.int .i64 u) ∧ w.cell? ⟨g, 2, none⟩ = some (.int .i64 v) ∧ w.cell? ⟨g, 3, none⟩ = some (.int .u32 b) :=
  ⟨(cell_of_row _ _ 0 _ 42 (0, 0) h).trans rfl, (cell_of_row _ _ 1 _ 42 (0, 0) h).trans rfl, (cell_of_row _ _ 2 _ 42 (0, 0) h).trans rfl, (cell_of_row _ _ 3 _ 42 (0, 0) h).trans rfl⟩
theorem ERel.none_ {E : L14.Es} {gs : List EdV} (h : ERel E gs) {e : Int} (hno : ∀ x ∈ gs, x.1 ≠ e) : E e = none := by
  cases q : E e with
  | none => rfl
  | some x =>
    obtain ⟨u, v, c⟩ := x
    exact absurd rfl (hno _ ((h.ed e u v c).1 q))
theorem ERel.some_ {E : L14.Es} {gs : List EdV} (h : ERel E gs) {e u v b : Int} (hx : (e, u, v, b) ∈ gs) : E e = some (u, v, b.toNat) := by
  have hlo := (h.lo _ hx).2.1
  refine (h.ed e u v b.toNat).2 ?_
  rw [show ((b.toNat : Nat) : Int) = b by simp at hlo; omega]; exact hx
theorem ERel.put {E : L14.Es} {gs : List EdV} (h : ERel E gs) {e u v : Int} {c : Nat} (hno : ∀ x ∈ gs, x.1 ≠ e) (he : 1 ≤ e) (hc : c < 2139095040) : ERel (putG E e (some (u, v, c))) (gs ++ [(e, u, v, (c : Int))]) := by
  refine ⟨fun d x y k => ?_, ?_, fun x hx => ?_⟩
  · by_cases z : d = e
    · rw [z, putG_self]
      constructor
      · intro q
        have q := Option.some.inj q
        have e1 : u = x := congrArg (·.1) q
        have e2 : v = y := congrArg (·.2.1) q
        have e3 : c = k := congrArg (·.2.2) q
        rw [e1, e2, e3]; simp
      · intro q
        rcases List.mem_append.1 q with q | q
        · exact absurd rfl (hno _ q)
        · have q := List.mem_singleton.1 q
          have e1 : x = u := congrArg (·.2.1) q
          have e2 : y = v := congrArg (·.2.2.1) q
          have e3 : (k : Int) = (c : Int) := congrArg (·.2.2.2) q
          have e3 : k = c := by omega
          rw [e1, e2, e3]
    · rw [putG_ne z, h.ed, List.mem_append]
      refine ⟨.inl, fun q => q.resolve_right (fun q => z ?_)⟩
      exact congrArg (·.1) (List.mem_singleton.1 q)
  · rw [List.map_append, List.nodup_append]
    refine ⟨h.un, by simp, fun a ha b hb => ?_⟩
    obtain ⟨x, hx, rfl⟩ := List.mem_map.1 ha
    rw [show b = e by simpa using hb]
    exact hno x hx
  · rcases List.mem_append.1 hx with q | q
    · exact h.lo x q
    · rw [List.mem_singleton.1 q]
      refine ⟨he, ?_, ?_⟩
      · show 0 ≤ (c : Int); omega
      · show (c : Int) < 2139095040; omega
theorem LvS.tc_ {L : Lab} {w : World} {p mv me : Nat} {s tc : Int} {V : Int → Option Nat} {nv : Nat} {E : L14.Es} {ne : Nat} {T : L14.Tr} {O I : Int → List Int} (h : LvS L w p mv me s tc V nv E ne T O I) (x : Int) : LvS L (w.setCell ⟨p, 3, none⟩ (.int .i64 x)) p mv me s x V nv E ne T O I ∧ ChL L w L (w.setCell ⟨p, 3, none⟩ (.int .i64 x)) := by
  obtain ⟨h1, h2⟩ := h.at_.setTc x
  exact ⟨⟨h1, fun b q => h.fr b (Nat.le_trans h2.size q)⟩, fun _ _ => rfl, h2.mono (fun k _ e => by rw [e, h.at_.lp]; exact fun z => by cases z)⟩
/-- How many were touched, where the graph got better. -/
def TouU (T T' : L14.Tr) (n : Nat) : Prop := (∃ P : List Int, P.Nodup ∧ P.length = n ∧ ∀ v ∈ P, L14.fnd T v = true ∨ L14.fnd T' v = true) ∧ (0 < n → GainL T T')
/-- How many were touched, where the edge e went, or is dearer. -/
def TouD (T T' : L14.Tr) (e : Int) (n : Nat) : Prop := (∃ P : List Int, P.Nodup ∧ P.length = n ∧ ∀ v ∈ P, L14.fnd T v = true ∨ L14.fnd T' v = true) ∧ (0 < n → ∃ v, L14.fnd T v = true ∧ L14.lst T v = e)
section
variable {L : Lab} {w w' : World} {p : Nat} {s tc : Int} {vs : List Int} {gs : List EdV} {T : L14.Tr} {N : Nat}
theorem vInsLow (h : LvK L w p s tc vs gs T N) {e u v b : Int} (he : e < 1) : Calls Try.prog 13 #[.pointer (some ⟨p, 0, none⟩), .agg #[.int .i64 e, .int .i64 u, .int .i64 v, .int .u32 b]] w fun r w' => r = .returned (.int .i64 1) ∧ Hid (LvGo L w p s tc vs gs T N w') := by
  have hb := below_new w (oEd14 e u v b)
  obtain ⟨q0, -, -, -⟩ := cellsEd14 (heap_alloc_new w (oEd14 e u v b))
  have HE : Hid (LvGo L w p s tc vs gs T N (w.alloc (oEd14 e u v b))) := h.go hb
  unfold oEd14 at *
  clear h hb
  go_enter Try.func13, Try.ntmps13
  go_wp2_with fail
  go_ret
  exact ⟨rfl, HE⟩
set_option maxHeartbeats 4000000 in
set_option maxRecDepth 100000 in
theorem vInsTwice (h : LvK L w p s tc vs gs T N) {e u v b : Int} (he : ¬ e < 1) (oe : okN e) (hs : ∃ x ∈ gs, x.1 = e) : Calls Try.prog 13 #[.pointer (some ⟨p, 0, none⟩), .agg #[.int .i64 e, .int .i64 u, .int .i64 v, .int .u32 b]] w fun r w' => r = .returned (.int .i64 2) ∧ Hid (LvGo L w p s tc vs gs T N w') := by
  have hb := below_new w (oEd14 e u v b)
  have hblk := heap_alloc_new w (oEd14 e u v b)
  obtain ⟨W1, hW1⟩ : ∃ W1, W1 = w.alloc (oEd14 e u v b) := ⟨_, rfl⟩
  obtain ⟨wb, hwb⟩ : ∃ wb, wb = w.heap.size := ⟨_, rfl⟩
  rw [← hW1] at hblk hb
  rw [← hwb] at hblk
  obtain ⟨mv, me, V, nv, E, ne, O, I, h1, g2, g3, g4, g5, g6, g7⟩ := h
  have g1 := h1.below hb
  obtain ⟨⟨e', u', v', b'⟩, hx, hxe⟩ := hs
  have hxe : e' = e := hxe
  rw [hxe] at hx
  have hE := g5.some_ hx
  generalize b'.toNat = c' at *
  have hq0 := (g1.below (below_drewN (Below.refl _ _) 1)).at_.lookE2 oe
  rw [hE] at hq0
  have hq : (Instr.lookup 49 (.map (some me)) (.int .i64 e) true).run Try.prog W1.drew = .ok (.tuple #[.agg #[.int .i64 u', .int .i64 v', .float .f32 c'], .bool true]) W1.drew := hq0
  obtain ⟨-, -, p2, -, -⟩ := cellsL g1.at_.box
  obtain ⟨q0, -, -, -⟩ := cellsEd14 hblk
  have hb2 := below_new W1 (oEg 0 0 0)
  have hqA : (Instr.lookup 49 (.map (some me)) (.int .i64 e) true).run Try.prog (W1.alloc (.cells #[.int .i64 0, .int .i64 0, .float .f32 0] 73)).drew = .ok (.tuple #[.agg #[.int .i64 u', .int .i64 v', .float .f32 c'], .bool true]) (W1.alloc (.cells #[.int .i64 0, .int .i64 0, .float .f32 0] 73)).drew := by
    have := (g1.below (below_drewN hb2 1)).at_.lookE2 oe
    rw [hE] at this
    exact this
  have p2A : (W1.alloc (.cells #[.int .i64 0, .int .i64 0, .float .f32 0] 73)).cell? ⟨p, 2, none⟩ = some (.map (some me)) := (cellsL (g1.below hb2).at_.box).2.2.1
  have q0A : (W1.alloc (.cells #[.int .i64 0, .int .i64 0, .float .f32 0] 73)).cell? ⟨wb, 0, none⟩ = some (.int .i64 e) := (cellsEd14 ((hb2.block wb (heap_lt hblk)).trans hblk)).1
  obtain ⟨W2, hW2⟩ : ∃ W2, W2 = (W1.alloc (oEg u' v' c')).drew := ⟨_, rfl⟩
  have hbd : Below w.heap.size w W2 := by
    rw [hW2]
    exact below_drewN (hb.trans ((below_new W1 (oEg u' v' c')).mono hb.size)) 1
  have hblk2 : W2.heap[wb]? = some (oEd14 e u v b) := by
    rw [hW2]
    exact ((below_new W1 (oEg u' v' c')).block wb (heap_lt hblk)).trans hblk
  obtain ⟨z0, z1, z2, z3⟩ := cellsEd14 hblk2
  have k1 := h1.below hbd
  have HE : Hid (LvGo L w p s tc vs gs T N W2) := ⟨L, ⟨mv, me, V, nv, E, ne, O, I, k1, g2, g3, g4, g5, g6, g7⟩, ChL.below hbd⟩
  clear hx hxe z0 z1 z2 z3
  have HW1 := hide hW1
  have HW2 := hide hW2
  have HWB := hide hwb
  clear h1 hb hb2 hblk hblk2 hbd hW1 hW2 hwb g1 g2 g3 g4 g5 g6 g7 hE hq0 k1
  go_enter Try.func13, Try.ntmps13
  go_upto_region 1 with fail
  rw [show w.alloc (.cells #[.int .i64 e, .int .i64 u, .int .i64 v, .int .u32 b] 42) = W1 from (unhide HW1).symm, ← unhide HWB]
  clear HW1 HWB
  go_upto_region 3 with fail
  go_region
  all_goals
    rw [show (W1.alloc (.cells #[.int .i64 u', .int .i64 v', .float .f32 c'] 73)).drew = W2 from (unhide HW2).symm]
    clear HW2 hq p2 q0 hqA p2A q0A
    go_wp2_with fail
    go_ret
    exact ⟨rfl, HE⟩
set_option maxHeartbeats 4000000 in
set_option maxRecDepth 100000 in
theorem vInsNoU (h : LvK L w p s tc vs gs T N) {e u v b : Int} (he : ¬ e < 1) (oe : okN e) (hno : ∀ x ∈ gs, x.1 ≠ e) (hu : u ∉ vs) (ou : okN u) : Calls Try.prog 13 #[.pointer (some ⟨p, 0, none⟩), .agg #[.int .i64 e, .int .i64 u, .int .i64 v, .int .u32 b]] w fun r w' => r = .returned (.int .i64 5) ∧ Hid (LvGo L w p s tc vs gs T N w') := by
  have hb := below_new w (oEd14 e u v b)
  have hblk := heap_alloc_new w (oEd14 e u v b)
  obtain ⟨W1, hW1⟩ : ∃ W1, W1 = w.alloc (oEd14 e u v b) := ⟨_, rfl⟩
  obtain ⟨wb, hwb⟩ : ∃ wb, wb = w.heap.size := ⟨_, rfl⟩
  rw [← hW1] at hblk hb
  rw [← hwb] at hblk
  obtain ⟨mv, me, V, nv, E, ne, O, I, h1, g2, g3, g4, g5, g6, g7⟩ := h
  have g1 := h1.below hb
  have hE := g5.none_ hno
  have hq0 := (g1.below (below_drewN (Below.refl _ _) 1)).at_.lookE2 oe
  rw [hE] at hq0
  have hq : (Instr.lookup 49 (.map (some me)) (.int .i64 e) true).run Try.prog W1.drew = .ok (.tuple #[.agg #[.int .i64 0, .int .i64 0, .float .f32 0], .bool false]) W1.drew := hq0
  obtain ⟨-, -, p2, -, -⟩ := cellsL g1.at_.box
  obtain ⟨q0, -, -, -⟩ := cellsEd14 hblk
  have hb2 := below_new W1 (oEg 0 0 0)
  have hqA : (Instr.lookup 49 (.map (some me)) (.int .i64 e) true).run Try.prog (W1.alloc (.cells #[.int .i64 0, .int .i64 0, .float .f32 0] 73)).drew = .ok (.tuple #[.agg #[.int .i64 0, .int .i64 0, .float .f32 0], .bool false]) (W1.alloc (.cells #[.int .i64 0, .int .i64 0, .float .f32 0] 73)).drew := by
    have := (g1.below (below_drewN hb2 1)).at_.lookE2 oe
    rw [hE] at this
    exact this
  have p2A : (W1.alloc (.cells #[.int .i64 0, .int .i64 0, .float .f32 0] 73)).cell? ⟨p, 2, none⟩ = some (.map (some me)) := (cellsL (g1.below hb2).at_.box).2.2.1
  have q0A : (W1.alloc (.cells #[.int .i64 0, .int .i64 0, .float .f32 0] 73)).cell? ⟨wb, 0, none⟩ = some (.int .i64 e) := (cellsEd14 ((hb2.block wb (heap_lt hblk)).trans hblk)).1
  obtain ⟨W2, hW2⟩ : ∃ W2, W2 = (W1.alloc (oEg 0 0 0)).drew := ⟨_, rfl⟩
  have hbd : Below w.heap.size w W2 := by
    rw [hW2]
    exact below_drewN (hb.trans ((below_new W1 (oEg 0 0 0)).mono hb.size)) 1
  have hblk2 : W2.heap[wb]? = some (oEd14 e u v b) := by
    rw [hW2]
    exact ((below_new W1 (oEg 0 0 0)).block wb (heap_lt hblk)).trans hblk
  obtain ⟨z0, z1, z2, z3⟩ := cellsEd14 hblk2
  have k1 := h1.below hbd
  have HE : Hid (LvGo L w p s tc vs gs T N W2) := ⟨L, ⟨mv, me, V, nv, E, ne, O, I, k1, g2, g3, g4, g5, g6, g7⟩, ChL.below hbd⟩
  have hVu : V u = none := by
    cases q : V u with
    | none => rfl
    | some b => exact absurd ((g2.mem u).2 (by rw [q]; exact fun z => by cases z)) hu
  have Cu := hide (vhasT k1.at_ ou)
  rw [hVu] at Cu
  have Cu' : Hid (Calls Try.prog 29 #[.pointer (some ⟨p, 0, none⟩), .int .i64 u] W2 fun e w' => e = .returned (.bool false) ∧ w' = W2) := Cu
  clear Cu hVu
  clear hno hu ou z0 z2 z3
  have HW1 := hide hW1
  have HW2 := hide hW2
  have HWB := hide hwb
  clear h1 hb hb2 hblk hblk2 hbd hW1 hW2 hwb g1 g2 g3 g4 g5 g6 g7 hE hq0 k1
  go_enter Try.func13, Try.ntmps13
  go_upto_region 1 with fail
  rw [show w.alloc (.cells #[.int .i64 e, .int .i64 u, .int .i64 v, .int .u32 b] 42) = W1 from (unhide HW1).symm, ← unhide HWB]
  clear HW1 HWB
  go_upto_region 3 with fail
  go_region
  all_goals
    rw [show (W1.alloc (.cells #[.int .i64 0, .int .i64 0, .float .f32 0] 73)).drew = W2 from (unhide HW2).symm]
    clear HW2 hq p2 q0 hqA p2A q0A
    go_wp2_with fail
    refine (unhide Cu').mono ?_
    rintro r1 w1 ⟨rfl, hw⟩
    rw [hw]
    clear Cu' hw w1
    go_wp2_with fail
    go_ret
    exact ⟨rfl, HE⟩
set_option maxHeartbeats 4000000 in
set_option maxRecDepth 100000 in
theorem vInsNoV (h : LvK L w p s tc vs gs T N) {e u v b : Int} (he : ¬ e < 1) (oe : okN e) (hno : ∀ x ∈ gs, x.1 ≠ e) (hu : u ∈ vs) (hv : v ∉ vs) (ov : okN v) : Calls Try.prog 13 #[.pointer (some ⟨p, 0, none⟩), .agg #[.int .i64 e, .int .i64 u, .int .i64 v, .int .u32 b]] w fun r w' => r = .returned (.int .i64 5) ∧ Hid (LvGo L w p s tc vs gs T N w') := by
  have hb := below_new w (oEd14 e u v b)
  have hblk := heap_alloc_new w (oEd14 e u v b)
  obtain ⟨W1, hW1⟩ : ∃ W1, W1 = w.alloc (oEd14 e u v b) := ⟨_, rfl⟩
  obtain ⟨wb, hwb⟩ : ∃ wb, wb = w.heap.size := ⟨_, rfl⟩
  rw [← hW1] at hblk hb
  rw [← hwb] at hblk
  obtain ⟨mv, me, V, nv, E, ne, O, I, h1, g2, g3, g4, g5, g6, g7⟩ := h
  have g1 := h1.below hb
  have hE := g5.none_ hno
  have hq0 := (g1.below (below_drewN (Below.refl _ _) 1)).at_.lookE2 oe
  rw [hE] at hq0
  have hq : (Instr.lookup 49 (.map (some me)) (.int .i64 e) true).run Try.prog W1.drew = .ok (.tuple #[.agg #[.int .i64 0, .int .i64 0, .float .f32 0], .bool false]) W1.drew := hq0
  obtain ⟨-, -, p2, -, -⟩ := cellsL g1.at_.box
  obtain ⟨q0, -, -, -⟩ := cellsEd14 hblk
  have hb2 := below_new W1 (oEg 0 0 0)
  have hqA : (Instr.lookup 49 (.map (some me)) (.int .i64 e) true).run Try.prog (W1.alloc (.cells #[.int .i64 0, .int .i64 0, .float .f32 0] 73)).drew = .ok (.tuple #[.agg #[.int .i64 0, .int .i64 0, .float .f32 0], .bool false]) (W1.alloc (.cells #[.int .i64 0, .int .i64 0, .float .f32 0] 73)).drew := by
    have := (g1.below (below_drewN hb2 1)).at_.lookE2 oe
    rw [hE] at this
    exact this
  have p2A : (W1.alloc (.cells #[.int .i64 0, .int .i64 0, .float .f32 0] 73)).cell? ⟨p, 2, none⟩ = some (.map (some me)) := (cellsL (g1.below hb2).at_.box).2.2.1
  have q0A : (W1.alloc (.cells #[.int .i64 0, .int .i64 0, .float .f32 0] 73)).cell? ⟨wb, 0, none⟩ = some (.int .i64 e) := (cellsEd14 ((hb2.block wb (heap_lt hblk)).trans hblk)).1
  obtain ⟨W2, hW2⟩ : ∃ W2, W2 = (W1.alloc (oEg 0 0 0)).drew := ⟨_, rfl⟩
  have hbd : Below w.heap.size w W2 := by
    rw [hW2]
    exact below_drewN (hb.trans ((below_new W1 (oEg 0 0 0)).mono hb.size)) 1
  have hblk2 : W2.heap[wb]? = some (oEd14 e u v b) := by
    rw [hW2]
    exact ((below_new W1 (oEg 0 0 0)).block wb (heap_lt hblk)).trans hblk
  obtain ⟨z0, z1, z2, z3⟩ := cellsEd14 hblk2
  have k1 := h1.below hbd
  have HE : Hid (LvGo L w p s tc vs gs T N W2) := ⟨L, ⟨mv, me, V, nv, E, ne, O, I, k1, g2, g3, g4, g5, g6, g7⟩, ChL.below hbd⟩
  obtain ⟨bu, hbu⟩ := g2.at_ hu
  have Cu := hide (vhasT k1.at_ (g2.okV u hu))
  rw [hbu] at Cu
  have Cu' : Hid (Calls Try.prog 29 #[.pointer (some ⟨p, 0, none⟩), .int .i64 u] W2 fun e w' => e = .returned (.bool true) ∧ w' = W2) := Cu
  clear Cu hbu
  have hVv : V v = none := by
    cases q : V v with
    | none => rfl
    | some b => exact absurd ((g2.mem v).2 (by rw [q]; exact fun z => by cases z)) hv
  have Cv := hide (vhasT k1.at_ ov)
  rw [hVv] at Cv
  have Cv' : Hid (Calls Try.prog 29 #[.pointer (some ⟨p, 0, none⟩), .int .i64 v] W2 fun e w' => e = .returned (.bool false) ∧ w' = W2) := Cv
  clear Cv hVv
  clear hno hu hv ov z0 z3
  have HW1 := hide hW1
  have HW2 := hide hW2
  have HWB := hide hwb
  clear h1 hb hb2 hblk hblk2 hbd hW1 hW2 hwb g1 g2 g3 g4 g5 g6 g7 hE hq0 k1
  go_enter Try.func13, Try.ntmps13
  go_upto_region 1 with fail
  rw [show w.alloc (.cells #[.int .i64 e, .int .i64 u, .int .i64 v, .int .u32 b] 42) = W1 from (unhide HW1).symm, ← unhide HWB]
  clear HW1 HWB
  go_upto_region 3 with fail
  go_region
  all_goals
    rw [show (W1.alloc (.cells #[.int .i64 0, .int .i64 0, .float .f32 0] 73)).drew = W2 from (unhide HW2).symm]
    clear HW2 hq p2 q0 hqA p2A q0A
    go_wp2_with fail
    refine (unhide Cu').mono ?_
    rintro r1 w1 ⟨rfl, hw⟩
    rw [hw]
    clear Cu' hw w1
    go_wp2_with fail
    refine (unhide Cv').mono ?_
    rintro r1 w1 ⟨rfl, hw⟩
    rw [hw]
    clear Cv' hw w1
    go_wp2_with fail
    go_ret
    exact ⟨rfl, HE⟩
set_option maxHeartbeats 4000000 in
set_option maxRecDepth 100000 in
theorem vInsBad (h : LvK L w p s tc vs gs T N) {e u v b : Int} (he : ¬ e < 1) (oe : okN e) (hno : ∀ x ∈ gs, x.1 ≠ e) (hu : u ∈ vs) (hv : v ∈ vs) (hk : kept b = none) : Calls Try.prog 13 #[.pointer (some ⟨p, 0, none⟩), .agg #[.int .i64 e, .int .i64 u, .int .i64 v, .int .u32 b]] w fun r w' => r = .returned (.int .i64 7) ∧ Hid (LvGo L w p s tc vs gs T N w') := by
  have hb := below_new w (oEd14 e u v b)
  have hblk := heap_alloc_new w (oEd14 e u v b)
  obtain ⟨W1, hW1⟩ : ∃ W1, W1 = w.alloc (oEd14 e u v b) := ⟨_, rfl⟩
  obtain ⟨wb, hwb⟩ : ∃ wb, wb = w.heap.size := ⟨_, rfl⟩
  rw [← hW1] at hblk hb
  rw [← hwb] at hblk
  obtain ⟨mv, me, V, nv, E, ne, O, I, h1, g2, g3, g4, g5, g6, g7⟩ := h
  have g1 := h1.below hb
  have hE := g5.none_ hno
  have hq0 := (g1.below (below_drewN (Below.refl _ _) 1)).at_.lookE2 oe
  rw [hE] at hq0
  have hq : (Instr.lookup 49 (.map (some me)) (.int .i64 e) true).run Try.prog W1.drew = .ok (.tuple #[.agg #[.int .i64 0, .int .i64 0, .float .f32 0], .bool false]) W1.drew := hq0
  obtain ⟨-, -, p2, -, -⟩ := cellsL g1.at_.box
  obtain ⟨q0, -, -, -⟩ := cellsEd14 hblk
  have hb2 := below_new W1 (oEg 0 0 0)
  have hqA : (Instr.lookup 49 (.map (some me)) (.int .i64 e) true).run Try.prog (W1.alloc (.cells #[.int .i64 0, .int .i64 0, .float .f32 0] 73)).drew = .ok (.tuple #[.agg #[.int .i64 0, .int .i64 0, .float .f32 0], .bool false]) (W1.alloc (.cells #[.int .i64 0, .int .i64 0, .float .f32 0] 73)).drew := by
    have := (g1.below (below_drewN hb2 1)).at_.lookE2 oe
    rw [hE] at this
    exact this
  have p2A : (W1.alloc (.cells #[.int .i64 0, .int .i64 0, .float .f32 0] 73)).cell? ⟨p, 2, none⟩ = some (.map (some me)) := (cellsL (g1.below hb2).at_.box).2.2.1
  have q0A : (W1.alloc (.cells #[.int .i64 0, .int .i64 0, .float .f32 0] 73)).cell? ⟨wb, 0, none⟩ = some (.int .i64 e) := (cellsEd14 ((hb2.block wb (heap_lt hblk)).trans hblk)).1
  obtain ⟨W2, hW2⟩ : ∃ W2, W2 = (W1.alloc (oEg 0 0 0)).drew := ⟨_, rfl⟩
  have hbd : Below w.heap.size w W2 := by
    rw [hW2]
    exact below_drewN (hb.trans ((below_new W1 (oEg 0 0 0)).mono hb.size)) 1
  have hblk2 : W2.heap[wb]? = some (oEd14 e u v b) := by
    rw [hW2]
    exact ((below_new W1 (oEg 0 0 0)).block wb (heap_lt hblk)).trans hblk
  obtain ⟨z0, z1, z2, z3⟩ := cellsEd14 hblk2
  have k1 := h1.below hbd
  have HE : Hid (LvGo L w p s tc vs gs T N W2) := ⟨L, ⟨mv, me, V, nv, E, ne, O, I, k1, g2, g3, g4, g5, g6, g7⟩, ChL.below hbd⟩
  obtain ⟨bu, hbu⟩ := g2.at_ hu
  have Cu := hide (vhasT k1.at_ (g2.okV u hu))
  rw [hbu] at Cu
  have Cu' : Hid (Calls Try.prog 29 #[.pointer (some ⟨p, 0, none⟩), .int .i64 u] W2 fun e w' => e = .returned (.bool true) ∧ w' = W2) := Cu
  clear Cu hbu
  obtain ⟨bv, hbv⟩ := g2.at_ hv
  have Cv := hide (vhasT k1.at_ (g2.okV v hv))
  rw [hbv] at Cv
  have Cv' : Hid (Calls Try.prog 29 #[.pointer (some ⟨p, 0, none⟩), .int .i64 v] W2 fun e w' => e = .returned (.bool true) ∧ w' = W2) := Cv
  clear Cv hbv
  have CA : Hid (Calls Try.prog 30 #[.int .u32 b] W2 fun e w' => e = .returned (.tuple #[.float .f32 0, .int .i64 7]) ∧ w' = W2) := by
    have := admitS b W2
    unfold ansAd at this
    rw [hk] at this
    exact this
  clear hno hu hv hk z0
  have HW1 := hide hW1
  have HW2 := hide hW2
  have HWB := hide hwb
  clear h1 hb hb2 hblk hblk2 hbd hW1 hW2 hwb g1 g2 g3 g4 g5 g6 g7 hE hq0 k1
  go_enter Try.func13, Try.ntmps13
  go_upto_region 1 with fail
  rw [show w.alloc (.cells #[.int .i64 e, .int .i64 u, .int .i64 v, .int .u32 b] 42) = W1 from (unhide HW1).symm, ← unhide HWB]
  clear HW1 HWB
  go_upto_region 3 with fail
  go_region
  all_goals
    rw [show (W1.alloc (.cells #[.int .i64 0, .int .i64 0, .float .f32 0] 73)).drew = W2 from (unhide HW2).symm]
    clear HW2 hq p2 q0 hqA p2A q0A
    go_wp2_with fail
    refine (unhide Cu').mono ?_
    rintro r1 w1 ⟨rfl, hw⟩
    rw [hw]
    clear Cu' hw w1
    go_wp2_with fail
    refine (unhide Cv').mono ?_
    rintro r1 w1 ⟨rfl, hw⟩
    rw [hw]
    clear Cv' hw w1
    go_wp2_with fail
    refine (unhide CA).mono ?_
    rintro r1 w1 ⟨rfl, hw⟩
    rw [hw]
    clear CA hw w1
    go_wp2_with fail
    go_ret
    exact ⟨rfl, HE⟩
set_option maxHeartbeats 4000000 in
set_option maxRecDepth 100000 in
theorem vInsYes [Inhabited EntF] (h : LvK L w p s tc vs gs T N) {e u v b : Int} (he : ¬ e < 1) (oe : okN e) (hno : ∀ x ∈ gs, x.1 ≠ e) (hu : u ∈ vs) (hv : v ∈ vs) {c : Nat} (hk : kept b = some (c : Int)) (hN : N + 1 ≤ 200) : Calls Try.prog 13 #[.pointer (some ⟨p, 0, none⟩), .agg #[.int .i64 e, .int .i64 u, .int .i64 v, .int .u32 b]] w fun r w' => r = .returned (.int .i64 0) ∧ Hid (∃ (n : Nat) (T' : L14.Tr), LvGo L w p s n vs (gs ++ [(e, u, v, (c : Int))]) T' (N + 1) w' ∧ TouU T T' n) := by
  have hb := below_new w (oEd14 e u v b)
  have hblk := heap_alloc_new w (oEd14 e u v b)
  obtain ⟨W1, hW1⟩ : ∃ W1, W1 = w.alloc (oEd14 e u v b) := ⟨_, rfl⟩
  obtain ⟨wb, hwb⟩ : ∃ wb, wb = w.heap.size := ⟨_, rfl⟩
  rw [← hW1] at hblk hb
  rw [← hwb] at hblk
  obtain ⟨mv, me, V, nv, E, ne, O, I, h1, g2, g3, g4, g5, g6, g7⟩ := h
  have g1 := h1.below hb
  have hE := g5.none_ hno
  have hq0 := (g1.below (below_drewN (Below.refl _ _) 1)).at_.lookE2 oe
  rw [hE] at hq0
  have hq : (Instr.lookup 49 (.map (some me)) (.int .i64 e) true).run Try.prog W1.drew = .ok (.tuple #[.agg #[.int .i64 0, .int .i64 0, .float .f32 0], .bool false]) W1.drew := hq0
  obtain ⟨-, -, p2, -, -⟩ := cellsL g1.at_.box
  obtain ⟨q0, -, -, -⟩ := cellsEd14 hblk
  have hb2 := below_new W1 (oEg 0 0 0)
  have hqA : (Instr.lookup 49 (.map (some me)) (.int .i64 e) true).run Try.prog (W1.alloc (.cells #[.int .i64 0, .int .i64 0, .float .f32 0] 73)).drew = .ok (.tuple #[.agg #[.int .i64 0, .int .i64 0, .float .f32 0], .bool false]) (W1.alloc (.cells #[.int .i64 0, .int .i64 0, .float .f32 0] 73)).drew := by
    have := (g1.below (below_drewN hb2 1)).at_.lookE2 oe
    rw [hE] at this
    exact this
  have p2A : (W1.alloc (.cells #[.int .i64 0, .int .i64 0, .float .f32 0] 73)).cell? ⟨p, 2, none⟩ = some (.map (some me)) := (cellsL (g1.below hb2).at_.box).2.2.1
  have q0A : (W1.alloc (.cells #[.int .i64 0, .int .i64 0, .float .f32 0] 73)).cell? ⟨wb, 0, none⟩ = some (.int .i64 e) := (cellsEd14 ((hb2.block wb (heap_lt hblk)).trans hblk)).1
  obtain ⟨W2, hW2⟩ : ∃ W2, W2 = (W1.alloc (oEg 0 0 0)).drew := ⟨_, rfl⟩
  have hbd : Below w.heap.size w W2 := by
    rw [hW2]
    exact below_drewN (hb.trans ((below_new W1 (oEg 0 0 0)).mono hb.size)) 1
  have hblk2 : W2.heap[wb]? = some (oEd14 e u v b) := by
    rw [hW2]
    exact ((below_new W1 (oEg 0 0 0)).block wb (heap_lt hblk)).trans hblk
  obtain ⟨z0, z1, z2, z3⟩ := cellsEd14 hblk2
  have k1 := h1.below hbd
  obtain ⟨bu, hbu⟩ := g2.at_ hu
  have Cu := hide (vhasT k1.at_ (g2.okV u hu))
  rw [hbu] at Cu
  have Cu' : Hid (Calls Try.prog 29 #[.pointer (some ⟨p, 0, none⟩), .int .i64 u] W2 fun e w' => e = .returned (.bool true) ∧ w' = W2) := Cu
  clear Cu hbu
  obtain ⟨bv, hbv⟩ := g2.at_ hv
  have Cv := hide (vhasT k1.at_ (g2.okV v hv))
  rw [hbv] at Cv
  have Cv' : Hid (Calls Try.prog 29 #[.pointer (some ⟨p, 0, none⟩), .int .i64 v] W2 fun e w' => e = .returned (.bool true) ∧ w' = W2) := Cv
  clear Cv hbv
  have CA : Hid (Calls Try.prog 30 #[.int .u32 b] W2 fun e w' => e = .returned (.tuple #[.float .f32 c, .int .i64 0]) ∧ w' = W2) := by
    have := admitS b W2
    unfold ansAd at this
    rw [hk] at this
    exact this
  have hc : c < 2139095040 := by
    unfold kept at hk
    split at hk
    · have := Option.some.inj hk; omega
    · split at hk
      · cases hk
      · have := Option.some.inj hk; omega
  have CP := hide (vputT (c := c) k1 g2 (by omega) (by omega) hE oe hu hv)
  have HPB : Hid (∀ L1 w3, ChL L W2 L1 w3 → w3.heap[wb]? = some (oEd14 e u v b)) := fun L1 w3 hc3 => (hc3.tur.block wb (heap_lt hblk2) (fun z => z (h1.fr wb (by omega)))).trans hblk2
  have HR : Hid (∀ L1 w3, LvS L1 w3 p mv me s tc V nv (putG E e (some (u, v, c))) (ne + 1) T (updO O u (insL (O u) e)) (updO I v (insL (I v) e)) → ChL L W2 L1 w3 → Calls Try.prog 32 #[.pointer (some ⟨p, 0, none⟩), .int .i64 e] w3 fun r w' => ∃ n : Nat, r = .returned (.int .i64 n) ∧ Hid (w'.frozen? ⟨p, 3, none⟩ = false ∧ w'.cell? ⟨p, 3, none⟩ = some (.int .i64 tc) ∧ ∃ T', LvGo L w p s n vs (gs ++ [(e, u, v, (c : Int))]) T' (N + 1) (w'.setCell ⟨p, 3, none⟩ (.int .i64 n)) ∧ TouU T T' n)) := fun L1 w3 hl hc3 => by
    have hG := g2.put hE (c := c) oe hu hv
    have hLv : L14.Lv (putG E e (some (u, v, c))) s T (fun _ => False) [e] := g4.more (putG_self _ _ _) (by omega) (by omega) (fun d q => putG_ne q) (fun u' v' c' q => by rw [hE] at q; cases q)
    refine (vapproachT hl hG g3 (by omega) hLv (putG_self _ _ _)).mono ?_
    rintro r w4 ⟨n, rfl, H⟩
    obtain ⟨T', m1, m2, m3, m4, P, m5, m6, m7, m8⟩ := unhide H
    obtain ⟨t1, t2⟩ := m1.tc_ (n : Int)
    obtain ⟨-, -, -, b3, bf⟩ := cellsL m1.at_.box
    exact ⟨n, rfl, bf 3, b3, T', ⟨L1, ⟨mv, me, V, nv, _, ne + 1, _, _, t1, hG, g3, m2, g5.put hno (by omega) hc, by omega, by omega⟩, (ChL.below hbd).trans (hc3.trans (m3.trans t2))⟩, ⟨P, m5, m6, fun x hx => .inr (m7 x hx)⟩, m8⟩
  clear hno hu hv hk hc
  have HW1 := hide hW1
  have HW2 := hide hW2
  have HWB := hide hwb
  clear h1 hb hb2 hblk hblk2 hbd hW1 hW2 hwb g1 g2 g3 g4 g5 g6 g7 hE hq0 k1
  go_enter Try.func13, Try.ntmps13
  go_upto_region 1 with fail
  rw [show w.alloc (.cells #[.int .i64 e, .int .i64 u, .int .i64 v, .int .u32 b] 42) = W1 from (unhide HW1).symm, ← unhide HWB]
  clear HW1 HWB
  go_upto_region 3 with fail
  go_region
  all_goals
    rw [show (W1.alloc (.cells #[.int .i64 0, .int .i64 0, .float .f32 0] 73)).drew = W2 from (unhide HW2).symm]
    clear HW2 hq p2 q0 hqA p2A q0A
    go_wp2_with fail
    refine (unhide Cu').mono ?_
    rintro r1 w1 ⟨rfl, hw⟩
    rw [hw]
    clear Cu' hw w1
    go_wp2_with fail
    refine (unhide Cv').mono ?_
    rintro r1 w1 ⟨rfl, hw⟩
    rw [hw]
    clear Cv' hw w1
    go_wp2_with fail
    refine (unhide CA).mono ?_
    rintro r1 w1 ⟨rfl, hw⟩
    rw [hw]
    clear CA hw w1
    go_wp2_with fail
    refine (unhide CP).mono ?_
    rintro r1 w3 ⟨rfl, H3⟩
    obtain ⟨L1, m1, m2⟩ := unhide H3
    obtain ⟨y0, -, -, -⟩ := cellsEd14 (unhide HPB L1 w3 m2)
    have CR := hide (unhide HR L1 w3 m1 m2)
    clear CP H3 HPB HR m1 m2 z0 z1 z2 z3
    go_wp2_with fail
    refine (unhide CR).mono ?_
    rintro r1 w4 ⟨n, rfl, H4⟩
    obtain ⟨f1, f2, T', f3, f4⟩ := unhide H4
    have HE : Hid (∃ (n : Nat) (T' : L14.Tr), LvGo L w p s n vs (gs ++ [(e, u, v, (c : Int))]) T' (N + 1) (w4.setCell ⟨p, 3, none⟩ (.int .i64 n)) ∧ TouU T T' n) := ⟨n, T', f3, f4⟩
    have HE2 : Hid (∃ (n2 : Nat) (T' : L14.Tr), LvGo L w p s n2 vs (gs ++ [(e, u, v, (c : Int))]) T' (N + 1) (w4.setCell ⟨p, 3, none⟩ (.int .i64 n)) ∧ TouU T T' n2) := ⟨n, T', f3, f4⟩
    clear CR H4 f3 f4 HE y0
    go_wp2_with fail
    go_ret
    exact ⟨rfl, HE2⟩
end
end Go.Proofs.Ytbmcibofecigeaa

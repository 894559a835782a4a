/- offer, walked. -/
import Derived.Test.YtbmcibofecigeaaLvO14
namespace Go.Proofs.Ytbmcibofecigeaa
open Go.RowKit Go.Maps
attribute [local go_sem] run_storeF
def oEg (u v : Int) (c : Nat) : Obj := .cells #[.int .i64 u, .int .i64 v, .float .f32 c] 73
theorem cellsEg {w : World} {b : Nat} {u v : Int} {c : Nat} (h : w.heap[b]? = some (oEg u v c)) : w.cell? ⟨b, 0, none⟩ = some (.int .i64 u) ∧ w.cell? ⟨b, 1, none⟩ = some (.int .i64 v) ∧ w.cell? ⟨b, 2, none⟩ = some (.float .f32 c) :=
  ⟨(cell_of_row _ _ 0 _ _ (0, 0) h).trans rfl, (cell_of_row _ _ 1 _ _ (0, 0) h).trans rfl, (cell_of_row _ _ 2 _ _ (0, 0) h).trans rfl⟩
theorem lv_congr {E : L14.Es} {s : Int} {T : L14.Tr} {Q Q' : Int → Prop} {rest : List Int} (h : L14.Lv E s T Q rest) (hq : ∀ u, Q' u ↔ Q u) : L14.Lv E s T Q' rest := by
  have : Q' = Q := funext (fun u => propext (hq u))
  rw [this]; exact h
/-- What an offer leaves. -/
def OffL [Inhabited EntF] (N0 : Nat) (L : Lab) (w : World) (p mv me : Nat) (s tc : Int) (V : Int → Option Nat) (nv : Nat) (E : L14.Es) (ne : Nat) (T : L14.Tr) (O I : Int → List Int) (ph : Nat) (ms : List EntF) (vs : List Int) (K : Nat) (P : List Int) (mx : Nat) (rest : List Int) (w' : World) : Prop :=
  ∃ T' ms' nn', LH N0 L w' p mv me s tc V nv E ne T' O I ph ms' nn' ∧ L14.Lv E s T' (QK ms') rest ∧ OrdL T' ms' P mx ∧ nn' + muL vs T' ≤ K ∧ MonoL T T' ∧ (∀ z ∈ P, T' z = T z) ∧ ((T' = T ∧ ms' = ms) ∨ GainL T T') ∧ Tou N0 L w w'
/-- An offer that is taken, as mathematics. -/
structure OffT (E : L14.Es) (s : Int) (T T2 : L14.Tr) (ms : List EntF) (vs P : List Int) (mx : Nat) (rest : List Int) (v e : Int) (k : Nat) : Prop where
  t2 : T2 = L14.upd T v (true, k, e)
  lv : L14.Lv E s T2 (fun z => z = v ∨ QK ms z) rest
  mu : muL vs T2 + 1 ≤ muL vs T
  mo : MonoL T T2
  pp : ∀ z ∈ P, T2 z = T z
  ga : GainL T T2
  np : v ∉ P
  mle : mx ≤ k
  rk : ∀ x ∈ ms, x.key = v → k < x.rank ∧ x.rank ≤ 2139095040
theorem offTaken {E : L14.Es} {s : Int} {T : L14.Tr} {ms : List EntF} {vs P : List Int} {mx : Nat} {rest : List Int} {u v e : Int} {c k : Nat} (hLv : L14.Lv E s T (QK ms) (e :: rest)) (hE : E e = some (u, v, c)) (hu : L14.fnd T u = true) (hk : k = M.addC (L14.cst T u) c) (hs : L14.fnd T v = false ∨ (L14.fnd T v = true ∧ k < L14.cst T v)) (od : OrdL T ms P mx) (hmx : mx ≤ L14.cst T u) (hvs : vs.Nodup) (hvm : v ∈ vs) :
    OffT E s T (L14.upd T v (true, k, e)) ms vs P mx rest v e k := by
  have hkI : k ≤ 2139095040 := by rw [hk]; exact M.addC_le (hLv.le_ u) (hLv.wl _ _ _ _ hE)
  have hmk : mx ≤ k := by
    have := M.addC_ge (hLv.le_ u) (hLv.wl _ _ _ _ hE)
    rw [hk]; omega
  have hnp := od.fresh hmk hs
  have hco : costL (L14.upd T v (true, k, e)) v < costL T v := by
    unfold costL
    rw [fnd_upd_self, cst_upd_self, if_pos rfl]
    rcases hs with q | ⟨q1, q2⟩
    · rw [q, if_neg (by decide)]; omega
    · rw [q1, if_pos rfl]; exact q2
  refine ⟨rfl, hLv.take hE hu hk (hs.imp id (fun z => z.2)), ?_, fun w => ?_, fun z hz => L14.upd_ne (fun q => hnp (by rw [← q]; exact hz)), ⟨v, hco⟩, hnp, hmk, fun x hx hxk => ?_⟩
  · have := muL_upd (T := T) (x := (true, k, e)) hvs hvm hco
    omega
  · by_cases q : w = v
    · rw [q]; exact Nat.le_of_lt hco
    · unfold costL; rw [fnd_upd_ne q, cst_upd_ne q]; exact Nat.le_refl _
  · have hf := hLv.qf v ⟨x, hx, hxk⟩
    rw [od.rk x hx, hxk]
    refine ⟨?_, hLv.le_ v⟩
    rcases hs with q | ⟨-, q⟩
    · rw [hf] at q; cases q
    · exact q
section
variable [Inhabited EntF] {N0 : Nat} {L : Lab} {w w' : World} {p mv me : Nat} {s tc : Int} {V : Int → Option Nat} {nv : Nat} {E : L14.Es} {ne : Nat} {T T2 : L14.Tr} {O I : Int → List Int} {ph : Nat} {ms : List EntF} {nn : Nat} {vs P : List Int} {K mx : Nat} {rest : List Int}
theorem offPush {v e : Int} {k : Nat} (h : OffT E s T T2 ms vs P mx rest v e k) (od : OrdL T ms P mx) (hq : ¬ QK ms v) (hl : LH N0 L w' p mv me s tc V nv E ne T2 O I ph (ms ++ [⟨v, k, nn⟩]) (nn + 1)) (ht : Tou N0 L w w') (hK : nn + muL vs T ≤ K) : OffL N0 L w p mv me s tc V nv E ne T O I ph ms vs K P mx rest w' := by
  have hm := h.mu
  refine ⟨T2, _, _, hl, lv_congr h.lv (fun u => ?_), by rw [h.t2]; exact od.push h.mle h.np hq, by omega, h.mo, h.pp, .inr h.ga, ht⟩
  constructor
  · rintro ⟨x, hx, z⟩
    rcases List.mem_append.1 hx with q | q
    · exact .inr ⟨x, q, z⟩
    · rw [List.mem_singleton.1 q] at z; exact .inl z.symm
  · rintro (z | ⟨x, hx, z⟩)
    · exact ⟨⟨v, k, nn⟩, by simp, z.symm⟩
    · exact ⟨x, List.mem_append.2 (.inl hx), z⟩
theorem offLower {v e : Int} {k : Nat} (h : OffT E s T T2 ms vs P mx rest v e k) (od : OrdL T ms P mx) (hq : QK ms v) (hl : LH N0 L w' p mv me s tc V nv E ne T2 O I ph (lowered v k ms) nn) (ht : Tou N0 L w w') (hK : nn + muL vs T ≤ K) : OffL N0 L w p mv me s tc V nv E ne T O I ph ms vs K P mx rest w' := by
  have hm := h.mu
  refine ⟨T2, _, _, hl, lv_congr h.lv (fun u => ?_), by rw [h.t2]; exact od.lower h.mle h.np, by omega, h.mo, h.pp, .inr h.ga, ht⟩
  rw [qk_lowered]
  exact ⟨fun z => .inr z, fun z => z.elim (fun q => by rw [q]; exact hq) id⟩
theorem offAfter {w1 : World} {v e : Int} {k : Nat} (h : OffT E s T T2 ms vs P mx rest v e k) (od : OrdL T ms P mx) (hl : LH N0 L w1 p mv me s tc V nv E ne T2 O I ph ms nn) (ht : Tou N0 L w w1) (hK : nn + muL vs T ≤ K) (hKb : K < 1000000000000) (hkI : k ≤ 2139095040) (r : Bool) (w2 : World) (ha : PushAns N0 L w1 p mv me s tc V nv E ne T2 O I ph ms nn v k r w2) :
    (r = true → OffL N0 L w p mv me s tc V nv E ne T O I ph ms vs K P mx rest w2) ∧ (r = false → Calls Try.prog 66 #[.pointer (some ⟨ph, 0, none⟩), .int .i64 v, .float .f32 k] w2 fun e w' => ∃ b, e = .returned (.bool b) ∧ Hid (OffL N0 L w p mv me s tc V nv E ne T O I ph ms vs K P mx rest w')) := by
  refine ⟨fun hr => ?_, fun hr => ?_⟩
  · obtain ⟨-, a, b, c⟩ | ⟨a, -⟩ := ha
    · exact offPush h od a b (ht.trans c) hK
    · rw [hr] at a; cases a
  · obtain ⟨a, -⟩ | ⟨-, a, b⟩ := ha
    · rw [hr] at a; cases a
    · rw [b]
      refine (lowerL hl a hkI (by omega) h.rk).mono ?_
      rintro e1 w3 ⟨r1, rfl, h3⟩
      obtain ⟨g1, g2⟩ := unhide h3
      exact ⟨r1, rfl, offLower h od a g1 (ht.trans g2) hK⟩
set_option maxHeartbeats 4000000 in
set_option maxRecDepth 100000 in
theorem vofferT (h : LH N0 L w p mv me s tc V nv E ne T O I ph ms nn) {e u v : Int} {c bu bv : Nat} (hLv : L14.Lv E s T (QK ms) (e :: rest)) (od : OrdL T ms P mx) (hE : E e = some (u, v, c)) (hu : V u = some bu) (hv : V v = some bv) (oe : okN e) (ou : okN u) (ov : okN v) (hvs : vs.Nodup) (hvm : v ∈ vs) (hK : nn + muL vs T ≤ K) (hKb : K < 1000000000000) (hmx : L14.fnd T u = true → mx ≤ L14.cst T u) :
    Calls Try.prog 49 #[.pointer (some ⟨p, 0, none⟩), .pointer (some ⟨ph, 0, none⟩), .int .i64 e] w fun r w' => r = .returned (.tuple #[]) ∧ Hid (OffL N0 L w p mv me s tc V nv E ne T O I ph ms vs K P mx rest w') := by
  have hq0 := h.lv.lookE oe
  rw [hE] at hq0
  have hq : (Instr.lookup 49 (.map (some me)) (.int .i64 e) false).run Try.prog w = .ok (.agg #[.int .i64 u, .int .i64 v, .float .f32 c]) w := hq0
  obtain ⟨-, -, b2, -, -⟩ := cellsL h.lv.box
  have hb := below_new w (oEg u v c)
  have hblk := heap_alloc_new w (oEg u v c)
  obtain ⟨W1, hW1⟩ : ∃ W1, W1 = w.alloc (oEg u v c) := ⟨_, rfl⟩
  obtain ⟨wb, hwb⟩ : ∃ wb, wb = w.heap.size := ⟨_, rfl⟩
  rw [← hW1] at hb hblk
  rw [← hwb] at hblk
  have hwl : wb < W1.heap.size := (Array.getElem?_eq_some_iff.1 hblk).1
  have h1 := h.below hb
  have hlb : L wb = none := h.nw wb (by omega)
  -- at any world in which the tree stands and the box lies
  have HX : Hid (∀ W, Below W1.heap.size W1 W → (W.cell? ⟨wb, 0, none⟩ = some (.int .i64 u) ∧ W.cell? ⟨wb, 1, none⟩ = some (.int .i64 v) ∧ W.cell? ⟨wb, 2, none⟩ = some (.float .f32 c)) ∧ W.cell? ⟨p, 1, none⟩ = some (.map (some mv)) ∧ (Instr.lookup 48 (.map (some mv)) (.int .i64 u) false).run Try.prog W = .ok (.pointer (some ⟨bu, 0, none⟩)) W ∧ (Instr.lookup 48 (.map (some mv)) (.int .i64 v) false).run Try.prog W = .ok (.pointer (some ⟨bv, 0, none⟩)) W ∧ LH N0 L W p mv me s tc V nv E ne T O I ph ms nn) := fun W hW => by
    have hL := h1.below hW
    have q1 := hL.lv.lookV ou
    have q2 := hL.lv.lookV ov
    rw [hu] at q1
    rw [hv] at q2
    exact ⟨cellsEg ((hW.block wb hwl).trans hblk), (cellsL hL.lv.box).2.1, q1, q2, hL⟩
  obtain ⟨ovu, ivu, su, -⟩ := h1.lv.sp u bu hu
  obtain ⟨ovv, ivv, sv, slv, -⟩ := h1.lv.sp v bv hv
  obtain ⟨-, -, ku2, ku3, -, -⟩ := cellsSp su
  obtain ⟨-, -, kv2, kv3, kv4, kvf⟩ := cellsSp sv
  have ku2' : W1.cell? ⟨bu, 2, none⟩ = some (.bool (L14.fnd T u)) := ku2
  have ku3' : W1.cell? ⟨bu, 3, none⟩ = some (.float .f32 (L14.cst T u)) := ku3
  have kv2' : W1.cell? ⟨bv, 2, none⟩ = some (.bool (L14.fnd T v)) := kv2
  have kv3' : W1.cell? ⟨bv, 3, none⟩ = some (.float .f32 (L14.cst T v)) := kv3
  have kv4' : W1.cell? ⟨bv, 4, none⟩ = some (.int .i64 (L14.lst T v)) := kv4
  obtain ⟨k, hk⟩ : ∃ k, k = M.addC (L14.cst T u) c := ⟨_, rfl⟩
  have hcI := hLv.wl _ _ _ _ hE
  have hkI : k ≤ 2139095040 := by rw [hk]; exact M.addC_le (hLv.le_ u) hcI
  have CA := hide (add_cost (hLv.le_ u) hcI)
  rw [← hk] at CA
  have CB := hide (before_cost hkI (hLv.le_ v))
  obtain ⟨⟨x0, x1, x2⟩, y1, -, -, -⟩ := unhide HX W1 (Below.refl _ _)
  obtain ⟨-, -, y2, y3, -⟩ := unhide HX W1.drew (below_drewN (Below.refl _ _) 1)
  -- where nothing is nearer
  have HSK : Hid ((L14.fnd T u = false ∨ (L14.fnd T v = true ∧ ¬ k < L14.cst T v)) → ∀ q, OffL N0 L w p mv me s tc V nv E ne T O I ph ms vs K P mx rest (W1.drewN q)) := fun hs q => by
    obtain ⟨-, -, -, -, hL⟩ := unhide HX (W1.drewN q) (below_drewN (Below.refl _ _) q)
    have ht : Below w.heap.size w (W1.drewN q) := below_drewN hb q
    exact ⟨T, ms, nn, hL, hLv.skip hE (hs.imp id (fun z => ⟨z.1, by rw [← hk]; omega⟩)), od, hK, MonoL.refl _, fun _ _ => rfl, .inl ⟨rfl, rfl⟩, turned_of_below ht⟩
  -- where the edge is nearer
  obtain ⟨T2, hT2⟩ : ∃ T2, T2 = L14.upd T v (true, k, e) := ⟨_, rfl⟩
  obtain ⟨WS, hWS⟩ : ∃ WS, WS = (((W1.setCell ⟨bv, 2, none⟩ (.bool true)).setCell ⟨bv, 3, none⟩ (.float .f32 k)).setCell ⟨bv, 4, none⟩ (.int .i64 e)).drew.drew := ⟨_, rfl⟩
  have HTS : Hid (LH N0 L WS p mv me s tc V nv E ne T2 O I ph ms nn ∧ Tou N0 L w WS ∧ WS.cell? ⟨wb, 1, none⟩ = some (.int .i64 v)) := by
    obtain ⟨g1, g2⟩ := h1.lv.setSp hv (true, k, e)
    rw [← hT2] at g1
    obtain ⟨g3, g4⟩ := h1.tree g1 g2 slv
    have hwv : wb ≠ bv := fun z => by rw [z, slv] at hlb; cases hlb
    have hw2 := (g2.block wb hwl hwv).trans hblk
    rw [hWS]
    exact ⟨g3.below (below_drewN (Below.refl _ _) 2), ((turned_of_below hb).trans g4).drewN 2, (cellsEg hw2).2.1⟩
  have HFA : Hid (L14.fnd T u = true → (L14.fnd T v = false ∨ (L14.fnd T v = true ∧ k < L14.cst T v)) → ∀ r w2, PushAns N0 L WS p mv me s tc V nv E ne T2 O I ph ms nn v k r w2 →
    (r = true → OffL N0 L w p mv me s tc V nv E ne T O I ph ms vs K P mx rest w2) ∧ (r = false → Calls Try.prog 66 #[.pointer (some ⟨ph, 0, none⟩), .int .i64 v, .float .f32 k] w2 fun e w' => ∃ b, e = .returned (.bool b) ∧ Hid (OffL N0 L w p mv me s tc V nv E ne T O I ph ms vs K P mx rest w'))) := fun h1 h2 r w2 ha =>
    offAfter (by rw [hT2]; exact offTaken hLv hE h1 hk h2 od (hmx h1) hvs hvm) od (unhide HTS).1 (unhide HTS).2.1 hK hKb hkI r w2 ha
  have C1 := hide (pushL (unhide HTS).1 ov hkI (by omega))
  have HWS := hide hWS
  have HW1 := hide hW1
  have HWB := hide hwb
  clear hWS hT2
  clear h hLv od hE hu hv oe ou ov hvs hvm hK hKb hmx hq0 hb hblk hW1 hwb hwl h1 hlb su sv slv ku2 ku3 kv2 kv3 kv4 hk hcI hkI
  generalize L14.fnd T u = fu at *
  generalize L14.fnd T v = fv at *
  generalize L14.cst T u = cu at *
  generalize L14.cst T v = cv at *
  generalize L14.lst T v = lv at *
  go_enter Try.func49, Try.ntmps49
  go_upto_region 1 with fail
  rw [show w.alloc (.cells #[.int .i64 u, .int .i64 v, .float .f32 c] 73) = W1 from (unhide HW1).symm, ← unhide HWB]
  clear HW1 HWB b2 hq
  refine wp_region_noPanic ?_
  refine regionL [] (fun y => y.cell? ⟨p, 1, none⟩ = some (.map (some mv)) ∧ y.cell? ⟨wb, 0, none⟩ = some (.int .i64 u) ∧ y.cell? ⟨wb, 1, none⟩ = some (.int .i64 v) ∧ (Instr.lookup 48 (.map (some mv)) (.int .i64 u) false).run Try.prog y = .ok (.pointer (some ⟨bu, 0, none⟩)) y ∧ (Instr.lookup 48 (.map (some mv)) (.int .i64 v) false).run Try.prog y = .ok (.pointer (some ⟨bv, 0, none⟩)) y) (by kernel_rfl) ⟨y1, x0, x1, y2, y3⟩ (fun hHeld => ?_)
  refine takeL (i := 0) (v := ?t2v0) (some 16) rfl rfl (by kernel_rfl) (by kernel_rfl) (by kernel_rfl) (by kernel_rfl) (by kernel_rfl) (fun _ _ _ h => h) (Or.inl ⟨by rfl, ?t2h0⟩) (by assumption) ?t2r0
  case t2h0 => (intro y hSu; (try dsimp only at hSu); go_simp; first | done | with_reducible rfl)
  (try simp only [Act.put, List.setIfInBounds_toArray, List.set_cons_zero, List.set_cons_succ])
  refine takeL (i := 1) (v := ?t2v1) (some 17) rfl rfl (by kernel_rfl) (by kernel_rfl) (by kernel_rfl) (by kernel_rfl) (by kernel_rfl) (fun _ _ _ h => h) (Or.inl ⟨by rfl, ?t2h1⟩) (by assumption) ?t2r1
  case t2h1 => (intro y hSu; (try dsimp only at hSu); go_simp; first | done | with_reducible rfl)
  (try simp only [Act.put, List.setIfInBounds_toArray, List.set_cons_zero, List.set_cons_succ])
  refine takeL (i := 2) (v := ?t2v2) (some 18) rfl rfl (by kernel_rfl) (by kernel_rfl) (by kernel_rfl) (by kernel_rfl) (by kernel_rfl) (fun _ _ _ h => h) (Or.inl ⟨by rfl, ?t2h2⟩) (by assumption) ?t2r2
  case t2h2 => (intro y hSu; (try dsimp only at hSu); go_simp; first | done | with_reducible rfl)
  (try simp only [Act.put, List.setIfInBounds_toArray, List.set_cons_zero, List.set_cons_succ])
  refine takeL (i := 3) (v := ?t2v3) (some 19) rfl rfl (by kernel_rfl) (by kernel_rfl) (by kernel_rfl) (by kernel_rfl) (by kernel_rfl) (fun _ _ _ h => h) (Or.inl ⟨by rfl, ?t2h3⟩) (by assumption) ?t2r3
  case t2h3 => (intro y hSu; (try dsimp only at hSu); go_simp; first | done | with_reducible rfl)
  (try simp only [Act.put, List.setIfInBounds_toArray, List.set_cons_zero, List.set_cons_succ])
  refine takeL (i := 4) (v := ?t2v4) (some 20) rfl rfl (by kernel_rfl) (by kernel_rfl) (by kernel_rfl) (by kernel_rfl) (by kernel_rfl) (fun _ _ _ h => h) (Or.inl ⟨by rfl, ?t2h4⟩) (by assumption) ?t2r4
  case t2h4 => (intro y hSu; (try dsimp only at hSu); go_simp; first | done | with_reducible rfl)
  (try simp only [Act.put, List.setIfInBounds_toArray, List.set_cons_zero, List.set_cons_succ])
  refine takeL (i := 5) (v := ?t2v5) (some 21) rfl rfl (by kernel_rfl) (by kernel_rfl) (by kernel_rfl) (by kernel_rfl) (by kernel_rfl) (fun _ _ _ h => h) (Or.inl ⟨by rfl, ?t2h5⟩) (by assumption) ?t2r5
  case t2h5 => (intro y hSu; (try dsimp only at hSu); go_simp; first | done | with_reducible rfl)
  (try simp only [Act.put, List.setIfInBounds_toArray, List.set_cons_zero, List.set_cons_succ])
  refine takeL (i := 6) (v := ?t2v6) (some 22) rfl rfl (by kernel_rfl) (by kernel_rfl) (by kernel_rfl) (by kernel_rfl) (by kernel_rfl) (fun _ _ _ h => h) (Or.inl ⟨by rfl, ?t2h6⟩) (by assumption) ?t2r6
  case t2h6 => (intro y hSu; (try dsimp only at hSu); go_simp; first | done | with_reducible rfl)
  (try simp only [Act.put, List.setIfInBounds_toArray, List.set_cons_zero, List.set_cons_succ])
  refine takeL (i := 7) (v := ?t2v7) (some 23) rfl rfl (by kernel_rfl) (by kernel_rfl) (by kernel_rfl) (by kernel_rfl) (by kernel_rfl) (fun _ _ _ h => h) (Or.inl ⟨by rfl, ?t2h7⟩) (by assumption) ?t2r7
  case t2h7 => (intro y hSu; (try dsimp only at hSu); go_simp; first | done | with_reducible rfl)
  (try simp only [Act.put, List.setIfInBounds_toArray, List.set_cons_zero, List.set_cons_succ])
  refine takeL (i := 8) (v := ?t2v8) (some 24) rfl rfl (by kernel_rfl) (by kernel_rfl) (by kernel_rfl) (by kernel_rfl) (by kernel_rfl) (fun _ _ _ h => h) (Or.inl ⟨by rfl, ?t2h8⟩) (by assumption) ?t2r8
  case t2h8 => (intro y hSu; (try dsimp only at hSu); go_simp; first | done | with_reducible rfl)
  (try simp only [Act.put, List.setIfInBounds_toArray, List.set_cons_zero, List.set_cons_succ])
  refine takeL (i := 9) (v := ?t2v9) (some 25) rfl rfl (by kernel_rfl) (by kernel_rfl) (by kernel_rfl) (by kernel_rfl) (by kernel_rfl) (fun _ _ _ h => h) (Or.inl ⟨by rfl, ?t2h9⟩) (by assumption) ?t2r9
  case t2h9 => (intro y hSu; (try dsimp only at hSu); go_simp; first | done | with_reducible rfl)
  (try simp only [Act.put, List.setIfInBounds_toArray, List.set_cons_zero, List.set_cons_succ])
  refine takeL (i := 10) (v := ?t2v10) (some 26) rfl rfl (by kernel_rfl) (by kernel_rfl) (by kernel_rfl) (by kernel_rfl) (by kernel_rfl) (fun _ _ _ h => h) (Or.inl ⟨by rfl, ?t2h10⟩) (by assumption) ?t2r10
  case t2h10 => (intro y hSu; (try dsimp only at hSu); go_simp; first | done | with_reducible rfl)
  (try simp only [Act.put, List.setIfInBounds_toArray, List.set_cons_zero, List.set_cons_succ])
  refine takeL (i := 11) (v := ?t2v11) (some 27) rfl rfl (by kernel_rfl) (by kernel_rfl) (by kernel_rfl) (by kernel_rfl) (by kernel_rfl) (fun _ _ _ h => h) (Or.inl ⟨by rfl, ?t2h11⟩) (by assumption) ?t2r11
  case t2h11 => (intro y hSu; (try dsimp only at hSu); go_simp; first | done | with_reducible rfl)
  (try simp only [Act.put, List.setIfInBounds_toArray, List.set_cons_zero, List.set_cons_succ])
  refine takeL (i := 12) (v := ?t2v12) (some 28) rfl rfl (by kernel_rfl) (by kernel_rfl) (by kernel_rfl) (by kernel_rfl) (by kernel_rfl) (fun _ _ _ h => h) (Or.inl ⟨by rfl, ?t2h12⟩) (by assumption) ?t2r12
  case t2h12 => (intro y hSu; (try dsimp only at hSu); go_simp; first | done | with_reducible rfl)
  (try simp only [Act.put, List.setIfInBounds_toArray, List.set_cons_zero, List.set_cons_succ])
  refine takeL (i := 13) (v := ?t2v13) (some 29) rfl rfl (by kernel_rfl) (by kernel_rfl) (by kernel_rfl) (by kernel_rfl) (by kernel_rfl) (fun _ _ _ h => h) (Or.inl ⟨by rfl, ?t2h13⟩) (by assumption) ?t2r13
  case t2h13 => (intro y hSu; (try dsimp only at hSu); go_simp; first | done | with_reducible rfl)
  (try simp only [Act.put, List.setIfInBounds_toArray, List.set_cons_zero, List.set_cons_succ])
  refine takeL (i := 14) (v := ?t2v14) (some 7) rfl rfl (by kernel_rfl) (by kernel_rfl) (by kernel_rfl) (by kernel_rfl) (by kernel_rfl) (fun _ _ _ h => h) (Or.inl ⟨by rfl, ?t2h14⟩) (by assumption) ?t2r14
  case t2h14 => (intro y hSu; (try dsimp only at hSu); go_simp; first | done | with_reducible rfl)
  (try simp only [Act.put, List.setIfInBounds_toArray, List.set_cons_zero, List.set_cons_succ])
  refine takeL (i := 15) (v := ?t2v15) (some 8) rfl rfl (by kernel_rfl) (by kernel_rfl) (by kernel_rfl) (by kernel_rfl) (by kernel_rfl) (fun _ _ _ h => h) (Or.inl ⟨by rfl, ?t2h15⟩) (by assumption) ?t2r15
  case t2h15 => (intro y hSu; (try dsimp only at hSu); go_simp; first | done | with_reducible rfl)
  (try simp only [Act.put, List.setIfInBounds_toArray, List.set_cons_zero, List.set_cons_succ])
  refine doneL (by kernel_rfl) ?_ _
  refine NoPanic.normal ?_
  clear hHeld y1 y2 y3 x0
  cases fu with
  | false =>
    have HE := hide (unhide HSK (.inl rfl) 1)
    clear HSK HX CA CB HFA HTS C1 HWS
    go_wp2_with fail
    refine bodyPost_ret (results_none rfl _ _ _) rfl ?_
    exact ⟨rfl, HE⟩
  | true =>
    go_upto_region 3 with fail
    refine wp_region_noPanic ?_
    refine regionL [] (fun y => y.cell? ⟨bu, 3, none⟩ = some (.float .f32 cu) ∧ y.cell? ⟨wb, 2, none⟩ = some (.float .f32 c)) (by kernel_rfl) ⟨ku3', x2⟩ (fun hHeld => ?_)
    refine takeL (i := 0) (v := ?t5v0) (some 35) rfl rfl (by kernel_rfl) (by kernel_rfl) (by kernel_rfl) (by kernel_rfl) (by kernel_rfl) (fun _ _ _ h => h) (Or.inl ⟨by rfl, ?t5h0⟩) (by assumption) ?t5r0
    case t5h0 => (intro y hSu; (try dsimp only at hSu); go_simp; first | done | with_reducible rfl)
    (try simp only [Act.put, List.setIfInBounds_toArray, List.set_cons_zero, List.set_cons_succ])
    refine takeL (i := 1) (v := ?t5v1) (some 36) rfl rfl (by kernel_rfl) (by kernel_rfl) (by kernel_rfl) (by kernel_rfl) (by kernel_rfl) (fun _ _ _ h => h) (Or.inl ⟨by rfl, ?t5h1⟩) (by assumption) ?t5r1
    case t5h1 => (intro y hSu; (try dsimp only at hSu); go_simp; first | done | with_reducible rfl)
    (try simp only [Act.put, List.setIfInBounds_toArray, List.set_cons_zero, List.set_cons_succ])
    refine takeL (i := 2) (v := ?t5v2) (some 37) rfl rfl (by kernel_rfl) (by kernel_rfl) (by kernel_rfl) (by kernel_rfl) (by kernel_rfl) (fun _ _ _ h => h) (Or.inl ⟨by rfl, ?t5h2⟩) (by assumption) ?t5r2
    case t5h2 => (intro y hSu; (try dsimp only at hSu); go_simp; first | done | with_reducible rfl)
    (try simp only [Act.put, List.setIfInBounds_toArray, List.set_cons_zero, List.set_cons_succ])
    refine takeL (i := 3) (v := ?t5v3) (some 38) rfl rfl (by kernel_rfl) (by kernel_rfl) (by kernel_rfl) (by kernel_rfl) (by kernel_rfl) (fun _ _ _ h => h) (Or.inl ⟨by rfl, ?t5h3⟩) (by assumption) ?t5r3
    case t5h3 => (intro y hSu; (try dsimp only at hSu); go_simp; first | done | with_reducible rfl)
    (try simp only [Act.put, List.setIfInBounds_toArray, List.set_cons_zero, List.set_cons_succ])
    refine takeL (i := 4) (v := ?t5v4) (some 39) rfl rfl (by kernel_rfl) (by kernel_rfl) (by kernel_rfl) (by kernel_rfl) (by kernel_rfl) (fun _ _ _ h => h) (Or.inl ⟨by rfl, ?t5h4⟩) (by assumption) ?t5r4
    case t5h4 => (intro y hSu; (try dsimp only at hSu); go_simp; first | done | with_reducible rfl)
    (try simp only [Act.put, List.setIfInBounds_toArray, List.set_cons_zero, List.set_cons_succ])
    refine takeL (i := 5) (v := ?t5v5) (some 40) rfl rfl (by kernel_rfl) (by kernel_rfl) (by kernel_rfl) (by kernel_rfl) (by kernel_rfl) (fun _ _ _ h => h) (Or.inl ⟨by rfl, ?t5h5⟩) (by assumption) ?t5r5
    case t5h5 => (intro y hSu; (try dsimp only at hSu); go_simp; first | done | with_reducible rfl)
    (try simp only [Act.put, List.setIfInBounds_toArray, List.set_cons_zero, List.set_cons_succ])
    refine readyL (i := 6) (by kernel_rfl) rfl (fun K hK => ?_)
    go_simp
    refine (unhide CA _).mono ?_
    rintro e1 w1 ⟨rfl, rfl⟩
    (try dsimp only)
    refine hK.out _ _ (fun _ => (And.intro ku3' x2)) ?_
    clear hK K
    (try simp only [Act.put, List.setIfInBounds_toArray, List.set_cons_zero, List.set_cons_succ])
    have hH7 := (And.intro ku3' x2)
    refine takeL (i := 7) (v := ?t8v7) (some 9) rfl rfl (by kernel_rfl) (by kernel_rfl) (by kernel_rfl) (by kernel_rfl) (by kernel_rfl) (fun _ _ _ h => h) (Or.inl ⟨by rfl, ?t8h7⟩) (by assumption) ?t8r7
    case t8h7 => (intro y hSu; (try dsimp only at hSu); go_simp; first | done | with_reducible rfl)
    (try simp only [Act.put, List.setIfInBounds_toArray, List.set_cons_zero, List.set_cons_succ])
    refine doneL (by kernel_rfl) ?_ _
    refine NoPanic.normal ?_
    clear hHeld ku3' ku2' x2 CA HX
    by_cases hnear : fv = false ∨ (fv = true ∧ k < cv)
    · have HR := hide (unhide HFA rfl hnear)
      have HPO : Hid (WS.cell? ⟨wb, 1, none⟩ = some (.int .i64 v)) := (unhide HTS).2.2
      have HP3 : Hid (∀ w3, PushAns N0 L WS p mv me s tc V nv E ne T2 O I ph ms nn v k false w3 → w3.cell? ⟨wb, 1, none⟩ = some (.int .i64 v)) := fun w3 hw => by
        obtain ⟨z, -⟩ | ⟨-, -, z⟩ := hw
        · cases z
        · rw [z]; exact unhide HPO
      have hcut : fv = true → decide (k < cv) = true := fun q => decide_eq_true (hnear.elim (fun z => by rw [q] at z; cases z) (fun z => z.2))
      clear HSK HFA HTS hnear
      cases fv with
      | false =>
        clear hcut CB
        go_upto_region 6 with fail
        clear kv2' kv3' kv4'
        rw [show (((W1.setCell ⟨bv, 2, none⟩ (.bool true)).setCell ⟨bv, 3, none⟩ (.float .f32 k)).setCell ⟨bv, 4, none⟩ (.int .i64 e)).drew.drew = WS from (unhide HWS).symm]
        have hPO := unhide HPO
        clear HWS kvf x1
        go_wp2_with fail
        refine (unhide C1).mono ?_
        rintro e1 w3 ⟨r, rfl, H3⟩
        clear C1 hPO HPO
        obtain ⟨D1, D2⟩ := unhide HR r w3 (unhide H3)
        cases r with
        | true =>
          have HE := hide (D1 rfl)
          clear D1 D2 HR H3
          go_wp2_with fail
          go_end0
          exact ⟨rfl, HE⟩
        | false =>
          have CL := hide (D2 rfl)
          have hx1 : w3.cell? ⟨wb, 1, none⟩ = some (.int .i64 v) := unhide HP3 w3 (unhide H3)
          clear D1 D2 HR H3 HP3
          go_wp2_with fail
          refine (unhide CL).mono ?_
          rintro e1 w4 ⟨r4, rfl, HE⟩
          clear CL hx1
          go_wp2_with fail
          go_end0
          exact ⟨rfl, HE⟩
      | true =>
        have hd := hcut rfl
        rw [hd] at CB
        clear hcut hd
        go_upto_region 5 with fail
        refine (unhide CB _).mono ?_
        rintro e1 w1 ⟨rfl, hw1⟩
        rw [hw1]
        clear hw1 w1 CB
        go_upto_region 6 with fail
        clear kv2' kv3' kv4'
        rw [show (((W1.setCell ⟨bv, 2, none⟩ (.bool true)).setCell ⟨bv, 3, none⟩ (.float .f32 k)).setCell ⟨bv, 4, none⟩ (.int .i64 e)).drew.drew = WS from (unhide HWS).symm]
        have hPO := unhide HPO
        clear HWS kvf x1
        go_wp2_with fail
        refine (unhide C1).mono ?_
        rintro e1 w3 ⟨r, rfl, H3⟩
        clear C1 hPO HPO
        obtain ⟨D1, D2⟩ := unhide HR r w3 (unhide H3)
        cases r with
        | true =>
          have HE := hide (D1 rfl)
          clear D1 D2 HR H3
          go_wp2_with fail
          go_end0
          exact ⟨rfl, HE⟩
        | false =>
          have CL := hide (D2 rfl)
          have hx1 : w3.cell? ⟨wb, 1, none⟩ = some (.int .i64 v) := unhide HP3 w3 (unhide H3)
          clear D1 D2 HR H3 HP3
          go_wp2_with fail
          refine (unhide CL).mono ?_
          rintro e1 w4 ⟨r4, rfl, HE⟩
          clear CL hx1
          go_wp2_with fail
          go_end0
          exact ⟨rfl, HE⟩
    · have hfv : fv = true := by
        cases fv with
        | true => rfl
        | false => exact absurd (.inl rfl) hnear
      subst hfv
      have hk : ¬ k < cv := fun z => hnear (.inr ⟨rfl, z⟩)
      have HE := hide (unhide HSK (.inr ⟨rfl, hk⟩) 2)
      have hd : decide (k < cv) = false := decide_eq_false hk
      rw [hd] at CB
      clear HSK HFA HTS C1 HWS hnear hk hd
      go_wp2_with fail
      refine (unhide CB _).mono ?_
      rintro e1 w1 ⟨rfl, hw1⟩
      rw [hw1]
      clear hw1 w1 CB
      go_wp2_with fail
      refine bodyPost_ret (results_none rfl _ _ _) rfl ?_
      exact ⟨rfl, HE⟩
end
end Go.Proofs.Ytbmcibofecigeaa

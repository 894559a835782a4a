/- The table's All, and the store's Edges: a range over it. -/
import Derived.Test.YtagibmgbjhemkaaGreatStDropV
import Derived.Lib.SliceRun
import Derived.RangeFuncBox
import Derived.RangeFuncNested
import Derived.RangeFuncBound
import Derived.RangeFuncCalls
import Derived.RangeFuncLeaves
import Derived.RangeFuncFrom
import Derived.OwnWalkIn
import Derived.TacticsInMore
import Derived.LoopNIn
import Derived.LoopIn
namespace Go.Proofs.YtagibmgbjhemkaaGreat
open Go.RowKit Go.Maps

set_option maxHeartbeats 1000000 in
set_option maxRecDepth 100000 in
theorem cloneE {v : Value} {ps : List (EdgeV × Bool)} (w : World) (h : w.ownsRow 0 172 5 v ps.length (encE ps)) (hn : ps.length ≤ 65536) :
    Calls Tryz.prog 112 #[v] w fun e w' => ∃ v', e = .returned v' ∧ Hid (w'.ownsRow w.heap.size 172 5 v' ps.length (encE ps) ∧ Below w.heap.size w w') := by
  have qPL : ∀ (w : World) (a : Option Addr) (n c n' c' : Nat), (binOp .eql 164 (.slice a n c) (.slice none n' c')).run Tryz.prog w = .ok (.bool a.isNone) w := fun w a n c n' c' => Lib.run_eql_slice_nil w _ _ a n c n' c' Tryz.underlying164
  rcases h.2 with ⟨rfl, h0⟩ | ⟨g, cap, cur, rfl, -, hg, -⟩
  · have HE : Hid (w.ownsRow w.heap.size 172 5 (.slice none 0 0) ps.length (encE ps) ∧ Below w.heap.size w w) := ⟨⟨h.1, .inl ⟨rfl, h0⟩⟩, Below.refl _ _⟩
    clear h hn h0
    go_enter Tryz.func112, Tryz.ntmps112
    go_wp2_with fail
    go_ret
    exact ⟨_, rfl, unhide HE⟩
  · obtain ⟨i0, hi0, hz0, hzs, hzb⟩ := info_parts infoPE
    have hmade : (w.alloc (.cells #[] 172)).ownsRow w.heap.size 172 5 (.slice (some ⟨w.heap.size, 0, none⟩) 0 0) 0 [] := World.ownsRow_made w #[] 0 (Nat.le_refl _) (by unfold maxLen; omega) rfl
    have hc := @World.ownsRow.cells _ _ _ _ _ _ _ h
    obtain ⟨v1, w2, hr1, hown1, hgr1, -⟩ := run_append_own (P := Tryz.prog) (w.alloc (.cells #[] 172)) w.heap.size 164 164 172 i0 _ 5 40 Tryz.underlying164 hi0 hz0 hzs hzb rfl (by omega) _ 0 [] hmade ⟨g, 0, none⟩ ps.length cap (encE ps) (encE_length ps)
      (fun j u hj => by
        have := hc rfl j u hj
        exact (((Below.refl w.heap.size w).alloc (Nat.le_refl _) (.cells #[] 172)).cell (World.block_lt_of_cell? _ _ this)).trans this) (encE_one ps) (by unfold maxLen; omega) (by omega) (by simp)
    rw [Nat.zero_add, List.nil_append] at hown1
    have HE : Hid (w2.ownsRow w.heap.size 172 5 v1 ps.length (encE ps) ∧ Below w.heap.size w w2) := ⟨hown1, ((Below.refl w.heap.size w).alloc (Nat.le_refl _) (.cells #[] 172)).grown hgr1 (by simp) (fun j hj => by simp [Value.ownBlock] at hj; omega)⟩
    have HR1 := hide hr1
    generalize ps.length = L at *
    clear h hn hg hc hr1 hown1 hgr1 hmade hi0
    go_enter Tryz.func112, Tryz.ntmps112
    go_wp2_with (at_builtin; refine Lib.wpList_append_run _ rfl _ _ 164 164 rfl (.slice (some ⟨w.heap.size, 0, none⟩) 0 0) (.slice (some ⟨g, 0, none⟩) L cap) rfl rfl _ _ HR1.out ?_)
    go_ret
    exact ⟨_, rfl, unhide HE⟩

section
variable [Inhabited EntI] {w w' : World} {t hp : Nat} {v : Value} {most : Int} {ps : List (EdgeV × Bool)} {ms : List EntI} {n : Nat} {G : Nat → Prop}
set_option maxHeartbeats 1000000 in
set_option maxRecDepth 100000 in
theorem allE (h : TAtE w t hp v most ps ms n G) :
    Calls Tryz.prog 93 #[.pointer (some ⟨t, 0, none⟩)] w fun e w' => ∃ (bx : Nat) (v : Value), e = .returned (.func (.func 113) #[] #[.pointer (some ⟨bx, 0, none⟩)]) ∧ Hid (w'.cell? ⟨bx, 0, none⟩ = some v ∧ w'.ownsRow w.heap.size 172 5 v ps.length (encE ps) ∧ w.heap.size ≤ bx ∧ bx < w'.heap.size ∧ Below w.heap.size w w') := by
  have hl := h.len
  have ht := h.top
  have c1 := h.cells.2.1
  have CC := hide (cloneE w h.row (by omega))
  obtain ⟨a, c, hv⟩ : ∃ a c, v = .slice a ps.length c := by
    rcases h.row.2 with ⟨rfl, h3⟩ | ⟨g, cap, cur, rfl, -⟩
    · exact ⟨none, 0, by rw [h3]⟩
    · exact ⟨_, _, rfl⟩
  subst hv
  generalize ps.length = L at *
  clear h hl ht
  go_enter Tryz.func93, Tryz.ntmps93
  go_wp2_with fail
  refine (unhide CC).mono ?_
  rintro e u ⟨v', rfl, hh⟩
  obtain ⟨a3, c3, hv3⟩ : ∃ a3 c3, v' = .slice a3 L c3 := by
    rcases (unhide hh).1.2 with ⟨rfl, h3⟩ | ⟨g, cap, cur, rfl, -⟩
    · exact ⟨none, 0, by rw [h3]⟩
    · exact ⟨_, _, rfl⟩
  have HE : Hid ((u.alloc (.cells #[v'] 164)).cell? ⟨u.heap.size, 0, none⟩ = some v' ∧ (u.alloc (.cells #[v'] 164)).ownsRow w.heap.size 172 5 v' L (encE ps) ∧ w.heap.size ≤ u.heap.size ∧ u.heap.size < (u.alloc (.cells #[v'] 164)).heap.size ∧ Below w.heap.size w (u.alloc (.cells #[v'] 164))) := by
    obtain ⟨r1, b1⟩ := unhide hh
    have ba : Below u.heap.size u (u.alloc (.cells #[v'] 164)) := (Below.refl _ _).alloc (Nat.le_refl _) _
    refine ⟨?_, ⟨r1.1, ?_⟩, b1.size, by simp, b1.trans (ba.mono b1.size)⟩
    · rw [World.cell?_alloc_at _ _ _ _ (by simp)]; rfl
    · rcases r1.2 with hn | ⟨g, cap, cur, rfl, hb, hgg, rest⟩
      · exact .inl hn
      · exact .inr ⟨g, cap, cur, rfl, hb, (ba.block g (Array.getElem?_eq_some_iff.1 hgg).1).trans hgg, rest⟩
  clear CC hh
  subst hv3
  go_wp2_with fail
  go_ret
  exact ⟨u.heap.size, _, rfl, unhide HE⟩
end

/-- What the iterator gives up to the place k. -/
def risE (ps : List (EdgeV × Bool)) : Nat → List (Int × EdgeV)
  | 0 => []
  | k + 1 => match ps[k]? with
    | some (a, true) => risE ps k ++ [((k : Int) + 1, a)]
    | _ => risE ps k
theorem risE_in {ps : List (EdgeV × Bool)} {k : Nat} {a : EdgeV} (h : ps[k]? = some (a, true)) : risE ps (k + 1) = risE ps k ++ [((k : Int) + 1, a)] := by simp [risE, h]
theorem risE_out {ps : List (EdgeV × Bool)} {k : Nat} {a : EdgeV} (h : ps[k]? = some (a, false)) : risE ps (k + 1) = risE ps k := by simp [risE, h]
theorem risE_length (ps : List (EdgeV × Bool)) : ∀ k, (risE ps k).length ≤ k
  | 0 => Nat.le_refl _
  | k + 1 => by
    have := risE_length ps k
    simp only [risE]
    split
    · simp; omega
    · omega
theorem risE_nums (ps : List (EdgeV × Bool)) (p : EdgeV → Bool) (hp : ∀ x, p x = true) : ∀ k, k ≤ ps.length → (risE ps k).map (·.1) = numsOf p (ps.take k)
  | 0, _ => by simp [risE, numsOf, numsFrom]
  | k + 1, h => by
    have ih := risE_nums ps p hp k (by omega)
    obtain ⟨a, b, hk⟩ := at_of_lt (ps := ps) (i := k) (by omega)
    refine rising_ext linN ?_ (rising_numsOf _ _) (fun e => ?_)
    · cases b with
      | false => rw [risE_out hk, ih]; exact rising_numsOf _ _
      | true =>
        rw [risE_in hk, List.map_append, ih]
        refine List.pairwise_append.2 ⟨rising_numsOf _ _, List.pairwise_singleton _ _, fun x hx y hy => ?_⟩
        obtain ⟨j, z, hj, -, rfl⟩ := mem_numsOf.1 hx
        simp at hy
        subst hy
        have hjl := (List.getElem?_eq_some_iff.1 hj).1
        rw [List.length_take] at hjl
        simp [ltN]; omega
    · rw [mem_numsOf]
      cases b with
      | false =>
        rw [risE_out hk, ih, mem_numsOf]
        constructor
        · rintro ⟨j, x, hj, h1, h2⟩
          have hjl := (List.getElem?_eq_some_iff.1 hj).1
          rw [List.length_take] at hjl
          exact ⟨j, x, by rw [List.getElem?_take_of_lt (by omega)] at hj ⊢; exact hj, h1, h2⟩
        · rintro ⟨j, x, hj, h1, h2⟩
          have hjl := (List.getElem?_eq_some_iff.1 hj).1
          rw [List.length_take] at hjl
          rw [List.getElem?_take_of_lt (by omega)] at hj
          have : j ≠ k := fun e => by subst e; rw [hk] at hj; cases hj
          exact ⟨j, x, by rw [List.getElem?_take_of_lt (by omega)]; exact hj, h1, h2⟩
      | true =>
        rw [risE_in hk, List.map_append, List.mem_append, ih, mem_numsOf]
        constructor
        · rintro (⟨j, x, hj, h1, h2⟩ | h)
          · have hjl := (List.getElem?_eq_some_iff.1 hj).1
            rw [List.length_take] at hjl
            exact ⟨j, x, by rw [List.getElem?_take_of_lt (by omega)] at hj ⊢; exact hj, h1, h2⟩
          · simp at h
            exact ⟨k, a, by rw [List.getElem?_take_of_lt (by omega)]; exact hk, hp a, h⟩
        · rintro ⟨j, x, hj, h1, h2⟩
          have hjl := (List.getElem?_eq_some_iff.1 hj).1
          rw [List.length_take] at hjl
          rw [List.getElem?_take_of_lt (by omega)] at hj
          by_cases e : j = k
          · subst e; exact .inr (by simp; exact h2)
          · exact .inl ⟨j, x, by rw [List.getElem?_take_of_lt (by omega)]; exact hj, h1, h2⟩

/-- The blocks X stay. -/
def KX (X : Nat → Prop) (w w' : World) : Prop := ∀ b, X b → w'.heap[b]? = w.heap[b]?
theorem KX.refl (X : Nat → Prop) (w : World) : KX X w w := fun _ _ => rfl
theorem KX.trans {X : Nat → Prop} {w1 w2 w3 : World} (h : KX X w1 w2) (k : KX X w2 w3) : KX X w1 w3 := fun b hb => (k b hb).trans (h b hb)
/-- The iterator's blocks. -/
def YB (bx : Nat) (v : Value) (b : Nat) : Prop := b = bx ∨ v.ownBlock = some b

attribute [local go_sem] Oper.semAt_some

set_option maxRecDepth 100000 in
set_option maxHeartbeats 2000000 in
theorem all1_in (n : Nat) (hn : 1 ≤ n) (l bx : Nat) (v : Value) (ps : List (EdgeV × Bool)) (hn6 : ps.length ≤ 65536) (J Jx : List (Int × EdgeV) → World → Prop) (W : World) (hJ : AbidesFrom W.heap.size J)
    (hY : ∀ pre (x : Int × EdgeV) W1, J pre W1 → pre.length < ps.length → YieldAt Fence.wide (n - 1) Tryz.prog l #[.int .i64 x.1, .agg #[.int .i64 x.2.1, .int .i64 x.2.2.1, .int .i64 x.2.2.2.1, .int .u32 x.2.2.2.2]] W1 fun e W' =>
      (e = .returned (.bool true) ∧ J (pre ++ [x]) W' ∧ KX (YB bx v) W1 W') ∨ (e = .returned (.bool false) ∧ Jx (pre ++ [x]) W'))
    (hBs : W.cell? ⟨bx, 0, none⟩ = some v) (hrow : W.ownsRow 0 172 5 v ps.length (encE ps)) (h0 : J [] W) :
    CallsIn Fence.wide n Tryz.prog 113 #[.func (.yield l) #[] #[], .pointer (some ⟨bx, 0, none⟩)] W fun e W' => (∃ v, e = .returned v) ∧
      ((∃ ys, ys = risE ps ps.length ∧ J ys W') ∨ (∃ pre, (∃ k, k ≤ ps.length ∧ pre = risE ps k) ∧ Jx pre W')) := by
  have hcx : ∀ wr (k : Nat) a x, KX (YB bx v) W wr → ps[k]? = some (a, x) → ∃ g c, v = .slice (some ⟨g, 0, none⟩) ps.length c ∧ wr.cell? ⟨g, k * 5, none⟩ = some (.int .i64 a.1) ∧ wr.cell? ⟨g, k * 5 + 1, none⟩ = some (.int .i64 a.2.1) ∧ wr.cell? ⟨g, k * 5 + 2, none⟩ = some (.int .i64 a.2.2.1) ∧ wr.cell? ⟨g, k * 5 + 3, none⟩ = some (.int .u32 a.2.2.2) ∧ wr.cell? ⟨g, k * 5 + 4, none⟩ = some (.bool x) := fun wr k a x hk hp => by
    have hr : wr.ownsRow 0 172 5 v ps.length (encE ps) := row_kept5 hrow (fun b hb => hk b (.inr hb))
    rcases hr.2 with ⟨-, h3⟩ | ⟨g, cap, cur, rfl, -⟩
    · have := lt_of_at hp; omega
    · have add : ∀ j, (⟨g, 0, none⟩ : Addr).add j = ⟨g, j, none⟩ := fun j => by unfold Addr.add; split <;> simp_all
      have hcl := hr.cells (g := g) rfl
      obtain ⟨e1, e2, e3, e4, e5⟩ := encE_at ps k a x hp
      have f1 := hcl _ _ e1
      have f2 := hcl _ _ e2
      have f3 := hcl _ _ e3
      have f4 := hcl _ _ e4
      have f5 := hcl _ _ e5
      rw [add] at f1 f2 f3 f4 f5
      exact ⟨g, cap, rfl, f1, f2, f3, f4, f5⟩
  obtain ⟨a, c, rfl⟩ : ∃ a c, v = .slice a ps.length c := by
    rcases hrow.2 with ⟨rfl, h3⟩ | ⟨g, cap, cur, rfl, -⟩
    · exact ⟨none, 0, by rw [h3]⟩
    · exact ⟨_, _, rfl⟩
  have hal : ∀ s (u : World) (o : Obj), J s u → J s (u.alloc o) := fun s u o hs => hJ s u _ none hs (World.grownBy_alloc u o none) (fun r e => by cases e)
  have hka : ∀ (u : World) (o : Obj), KX (YB bx (.slice a ps.length c)) W u → KX (YB bx (.slice a ps.length c)) u (u.alloc o) := fun u o hk b hb => by
    have h1 : b < W.heap.size := by
      rcases hb with rfl | hb
      · exact World.block_lt_of_cell? _ _ hBs
      · exact (hrow.lt b hb).2
    have h2 := hk b hb
    rw [Array.getElem?_eq_getElem h1] at h2
    exact ((Below.refl u.heap.size u).alloc (Nat.le_refl _) o).block b (Array.getElem?_eq_some_iff.1 h2).1
  refine callsIn_of_wp Tryz.func113 rfl trivial ?_ rfl
  simp only [Tryz.ntmps113, List.size_toArray, List.length_cons, List.length_nil, Nat.reduceAdd, Nat.reduceSub, Array.replicate_succ, Array.replicate_zero, List.push_toArray, List.append_toArray, List.nil_append, List.cons_append]
  gi_wp2
  gi_loopw [7] (fun i wr => ∃ k : Nat, k ≤ ps.length ∧ i = .int .i64 k ∧ J (risE ps k) wr ∧ KX (YB bx (.slice a ps.length c)) W wr) (fun i _ => ps.length - (intOf i).toNat)
  case atStart => exact ⟨0, Nat.zero_le _, rfl, h0, KX.refl _ _⟩
  case round =>
    obtain ⟨k, hk, rfl, hJs, hnx⟩ := hrel
    by_cases hlt : k < ps.length
    · have hltz : (k : Int) < (ps.length : Int) := by omega
      have hk6 : (k : Int) < 65536 := by omega
      obtain ⟨x, b, hp⟩ := at_of_lt hlt
      obtain ⟨g, c', e1, f1, f2, f3, f4, f5⟩ := hcx wr k x b hnx hp
      simp only [Value.slice.injEq, true_and] at e1
      obtain ⟨rfl, rfl⟩ := e1
      cases b with
      | true =>
        obtain ⟨fn, tmps, assign, body, hy, hR⟩ := hY (risE ps k) ((k : Int) + 1, x) (wr.alloc (.cells #[.int .i64 x.1, .int .i64 x.2.1, .int .i64 x.2.2.1, .int .u32 x.2.2.2, .bool true] 172)) (hal _ _ _ hJs) (by have := risE_length ps k; omega)
        dsimp only at hy
        have hkk := hide (hka wr (.cells #[.int .i64 x.1, .int .i64 x.2.1, .int .i64 x.2.2.1, .int .u32 x.2.2.2, .bool true] 172) hnx)
        have HNX := hide hnx
        have HP := hide hp
        clear hY hal hka hcx hJ hJs hnx hp
        gi_wp2
        refine hR.mono ?_
        rintro e W3 (⟨rfl, hJ3, hk3⟩ | ⟨rfl, hJx3⟩)
        · gi_wp2
          go_roundw
          case rel => exact ⟨k + 1, by omega, by simp, by rw [risE_in (unhide HP)]; exact hJ3, ((unhide HNX).trans (unhide hkk)).trans hk3⟩
          case measure => simp [intOf]; omega
        · gi_wp2
          refine bodyPost_ret (results_none rfl _ _ _) rfl ?_
          exact ⟨⟨_, rfl⟩, .inr ⟨_, ⟨k + 1, by omega, (risE_in (unhide HP)).symm⟩, hJx3⟩⟩
      | false =>
        have hkk := hka wr (.cells #[.int .i64 x.1, .int .i64 x.2.1, .int .i64 x.2.2.1, .int .u32 x.2.2.2, .bool false] 172) hnx
        have hJ2 := hide (hal (risE ps k) wr (.cells #[.int .i64 x.1, .int .i64 x.2.1, .int .i64 x.2.2.1, .int .u32 x.2.2.2, .bool false] 172) hJs)
        have HNX := hide (hnx.trans hkk)
        have HP := hide hp
        clear hY hal hka hcx hJ hJs hnx hp hkk
        refine wpIn_wide.2 ?_
        go_wp2_with fail
        go_roundw
        case rel => exact ⟨k + 1, by omega, by simp, by rw [risE_out (unhide HP)]; exact unhide hJ2, unhide HNX⟩
        case measure => simp [intOf]; omega
    · obtain rfl : k = ps.length := by omega
      gi_wp2
      go_end0
      exact ⟨⟨_, rfl⟩, .inl ⟨_, rfl, hJs⟩⟩

theorem all_stops (n : Nat) (hn : 1 ≤ n) (bx : Nat) (v : Value) (ps : List (EdgeV × Bool)) (hn6 : ps.length ≤ 65536) (w : World) (hBs : w.cell? ⟨bx, 0, none⟩ = some v) (hrow : w.ownsRow 0 172 5 v ps.length (encE ps)) :
    SeqStopsK Fence.wide n Tryz.prog 113 #[.pointer (some ⟨bx, 0, none⟩)] (fun x : Int × EdgeV => #[Value.int .i64 x.1, .agg #[.int .i64 x.2.1, .int .i64 x.2.2.1, .int .i64 x.2.2.2.1, .int .u32 x.2.2.2.2]]) (KX (YB bx v)) (fun ys => ys = risE ps ps.length) (fun pre => ∃ k, k ≤ ps.length ∧ pre = risE ps k) ps.length w := fun l J Jx W hW hJ _ hY h0 =>
  all1_in n hn l bx v ps hn6 J Jx W hJ hY ((hW.cell (p := ⟨bx, 0, none⟩) (World.block_lt_of_cell? _ _ hBs)).trans hBs) (row_kept5 hrow (fun b hb => hW.block b (hrow.lt b hb).2)) h0
theorem kx_put {bx : Nat} {v : Value} {w : World} (h : ∀ b, YB bx v b → b < w.heap.size) (W : World) (l : Nat) (o o' : Obj) (hl : w.heap.size ≤ l) (_ : W.heap[l]? = some o) (_ : o.isCells = false) (_ : o.isWalk = false) : KX (YB bx v) W (W.putObj l o') := fun b hb =>
  World.putObj_heap_other (by have := h b hb; omega)
end Go.Proofs.YtagibmgbjhemkaaGreat

/- All over bytes, and what its iterator gives. -/
import Derived.Test.YtdalghfhpekcfaaHerd2U
import Derived.RangeFuncNested
import Derived.RangeFuncBound
import Derived.RangeFuncCalls
import Derived.RangeFuncLeaves
import Derived.RangeFuncFrom
import Derived.OwnWalkIn
import Derived.TacticsInMore
import Derived.LoopNIn
import Derived.LoopIn
namespace Go.Proofs.Ytdalghfhpekcfaa
open Go.RowKit Go.Shelf

/-- The blocks of X are as they were. -/
def KX (X : Nat → Prop) (w w' : World) : Prop := ∀ b, X b → w'.heap[b]? = w.heap[b]?
theorem KX.refl (X : Nat → Prop) (w : World) : KX X w w := fun _ _ => rfl
theorem KX.trans {X : Nat → Prop} {a b c : World} (h : KX X a b) (k : KX X b c) : KX X a c := fun i hi => (k i hi).trans (h i hi)

theorem row_kept2 {w w' : World} {e : TypeId} {v : Value} {L : Nat} {xs : List Value} (h : w.ownsRow 0 e 2 v L xs) (hk : ∀ k, v.ownBlock = some k → w'.heap[k]? = w.heap[k]?) : w'.ownsRow 0 e 2 v L xs := by
  refine ⟨h.1, ?_⟩
  rcases h.2 with hn | ⟨g, cap, cur, rfl, hb, hgg, rest⟩
  · exact .inl hn
  · exact .inr ⟨g, cap, cur, rfl, hb, (hk g rfl).trans hgg, rest⟩

/-- The iterator's blocks. -/
def YB (bx : Nat) (v : Value) (b : Nat) : Prop := b = bx ∨ v.ownBlock = some b

theorem valuesU {a : Option Addr} {m c : Nat} (w : World) : Calls Try.prog 65 #[.slice a m c] w fun e w' => e = .returned (.func (.func 90) #[] #[.pointer (some ⟨w.heap.size, 0, none⟩)]) ∧ w' = w.alloc (.cells #[.slice a m c] 30) := by
  go_enter Try.func65, Try.ntmps65
  go_wp2_with fail
  go_ret
  exact ⟨rfl, rfl⟩

set_option maxHeartbeats 1000000 in
set_option maxRecDepth 100000 in
theorem HerdU.all {B : Nat} {w0 w : World} {F : Nat → Option (List (Int × Int))} {G : Nat → Option Obj} {p : Nat} {rs : List (Int × Int)} (h : HerdU B w0 F G w) (hp : F p = some rs) (hn : rs.length ≤ 1000000) :
    Calls Try.prog 23 #[.pointer (some ⟨p, 0, none⟩)] w fun e w' => ∃ (bx : Nat) (v : Value), e = .returned (.func (.func 90) #[] #[.pointer (some ⟨bx, 0, none⟩)]) ∧ Hid (w'.heap[bx]? = some (.cells #[v] 30 (0, 0)) ∧ w'.ownsRow w.heap.size 33 2 v rs.length (enc .u8 rs) ∧ v.ownBlock ≠ some bx ∧ w.heap.size ≤ bx ∧ Below w.heap.size w w') := by
  have CC := hide (h.runs hp (by omega))
  clear h hn hp
  generalize rs.length = L at *
  go_enter Try.func23, Try.ntmps23
  go_wp2_with fail
  refine (unhide CC).mono ?_
  rintro e u ⟨v', rfl, hh⟩
  obtain ⟨a3, c3, hv3⟩ : ∃ a3 c3, v' = .slice a3 L c3 := by
    rcases (unhide hh).1.2 with ⟨rfl, h3⟩ | ⟨g, cap, cur, rfl, -⟩
    · exact ⟨none, 0, by rw [h3]⟩
    · exact ⟨_, _, rfl⟩
  have HE : Hid ((u.alloc (.cells #[v'] 30)).heap[u.heap.size]? = some (.cells #[v'] 30 (0, 0)) ∧ (u.alloc (.cells #[v'] 30)).ownsRow w.heap.size 33 2 v' L (enc .u8 rs) ∧ v'.ownBlock ≠ some u.heap.size ∧ w.heap.size ≤ u.heap.size ∧ Below w.heap.size w (u.alloc (.cells #[v'] 30))) := by
    obtain ⟨r1, b1⟩ := unhide hh
    exact ⟨heap_alloc_new u _, r1.alloc _, fun e => by have := (r1.lt _ e).2; omega, b1.size, b1.alloc b1.size _⟩
  clear CC hh
  subst hv3
  have CV := hide (valuesU (a := a3) (m := L) (c := c3) u)
  go_wp2_with fail
  refine (unhide CV).mono ?_
  rintro e u2 ⟨rfl, rfl⟩
  go_wp2_with fail
  go_ret
  exact ⟨u.heap.size, _, rfl, HE⟩

attribute [local go_sem] Oper.semAt_some

set_option maxRecDepth 100000 in
set_option maxHeartbeats 2000000 in
theorem values1_in (n : Nat) (hn : 1 ≤ n) (l bx : Nat) (v : Value) (rs : List (Int × Int)) (hn6 : rs.length ≤ 65536) (J Jx : List (Int × Int) → World → Prop) (W : World) (hJ : AbidesFrom W.heap.size J)
    (hY : ∀ pre (x : Int × Int) W1, J pre W1 → pre.length < rs.length → YieldAt Fence.wide (n - 1) Try.prog l #[.agg #[.int .u8 x.1, .int .u8 x.2]] W1 fun e W' =>
      (e = .returned (.bool true) ∧ J (pre ++ [x]) W' ∧ KX (YB bx v) W1 W') ∨ (e = .returned (.bool false) ∧ Jx (pre ++ [x]) W'))
    (hBs : W.cell? ⟨bx, 0, none⟩ = some v) (hrow : W.ownsRow 0 33 2 v rs.length (enc .u8 rs)) (h0 : J [] W) :
    CallsIn Fence.wide n Try.prog 90 #[.func (.yield l) #[] #[], .pointer (some ⟨bx, 0, none⟩)] W fun e W' => (∃ v, e = .returned v) ∧
      ((∃ ys, ys = rs ∧ J ys W') ∨ (∃ pre, (∃ k, k ≤ rs.length ∧ pre = rs.take k) ∧ Jx pre W')) := by
  have hcx : ∀ wr (k : Nat), KX (YB bx v) W wr → k < rs.length → ∃ g c, v = .slice (some ⟨g, 0, none⟩) rs.length c ∧ wr.cell? ⟨g, k * 2, none⟩ = some (.int .u8 (lo rs k)) ∧ wr.cell? ⟨g, k * 2 + 1, none⟩ = some (.int .u8 (hi rs k)) := fun wr k hk hp => by
    have hr : wr.ownsRow 0 33 2 v rs.length (enc .u8 rs) := row_kept2 hrow (fun b hb => hk b (.inr hb))
    rcases hr.2 with ⟨-, h3⟩ | ⟨g, cap, cur, rfl, -⟩
    · omega
    · exact ⟨g, cap, rfl, owns_cells hr k hp⟩
  obtain ⟨a, c, rfl⟩ : ∃ a c, v = .slice a rs.length c := by
    rcases hrow.2 with ⟨rfl, h3⟩ | ⟨g, cap, cur, rfl, -⟩
    · exact ⟨none, 0, by rw [h3]⟩
    · exact ⟨_, _, rfl⟩
  have hal : ∀ s (u : World) (o : Obj), J s u → J s (u.alloc o) := fun s u o hs => hJ s u _ none hs (World.grownBy_alloc u o none) (fun r e => by cases e)
  have hka : ∀ (u : World) (o : Obj), KX (YB bx (.slice a rs.length c)) W u → KX (YB bx (.slice a rs.length c)) u (u.alloc o) := fun u o hk b hb => by
    have h1 : b < W.heap.size := by
      rcases hb with rfl | hb
      · exact World.block_lt_of_cell? _ _ hBs
      · exact (hrow.lt b hb).2
    have h2 := hk b hb
    rw [Array.getElem?_eq_getElem h1] at h2
    exact ((Below.refl u.heap.size u).alloc (Nat.le_refl _) o).block b (Array.getElem?_eq_some_iff.1 h2).1
  refine callsIn_of_wp Try.func90 rfl trivial ?_ rfl
  simp only [Try.ntmps90, List.size_toArray, List.length_cons, List.length_nil, Nat.reduceAdd, Nat.reduceSub, Array.replicate_succ, Array.replicate_zero, List.push_toArray, List.append_toArray, List.nil_append, List.cons_append]
  gi_wp2
  gi_loopw [7] (fun i wr => ∃ k : Nat, k ≤ rs.length ∧ i = .int .i64 k ∧ J (rs.take k) wr ∧ KX (YB bx (.slice a rs.length c)) W wr) (fun i _ => rs.length - (intOf i).toNat)
  case atStart => exact ⟨0, Nat.zero_le _, rfl, by rw [List.take_zero]; exact h0, KX.refl _ _⟩
  case round =>
    obtain ⟨k, hk, rfl, hJs, hnx⟩ := hrel
    by_cases hlt : k < rs.length
    · have hltz : (k : Int) < (rs.length : Int) := by omega
      have hk6 : (k : Int) < 65536 := by omega
      obtain ⟨g, c', e1, f1, f2⟩ := hcx wr k hnx hlt
      simp only [Value.slice.injEq, true_and] at e1
      obtain ⟨rfl, rfl⟩ := e1
      obtain ⟨fn, tmps, assign, body, hy, hR⟩ := hY (rs.take k) (lo rs k, hi rs k) (wr.alloc (.cells #[.int .u8 (lo rs k), .int .u8 (hi rs k)] 33)) (hal _ _ _ hJs) (by rw [List.length_take]; omega)
      rw [← take_next hlt] at hR
      dsimp only at hy
      have hkk := hide (hka wr (.cells #[.int .u8 (lo rs k), .int .u8 (hi rs k)] 33) hnx)
      have HNX := hide hnx
      generalize lo rs k = x at *
      generalize hi rs k = y at *
      clear hY hal hka hcx hJ hJs hnx
      gi_wp2
      refine hR.mono ?_
      rintro e W3 (⟨rfl, hJ3, hk3⟩ | ⟨rfl, hJx3⟩)
      · gi_wp2
        go_roundw
        case rel => exact ⟨k + 1, by omega, by simp, hJ3, ((unhide HNX).trans (unhide hkk)).trans hk3⟩
        case measure => simp [intOf]; omega
      · gi_wp2
        refine bodyPost_ret (results_none rfl _ _ _) rfl ?_
        exact ⟨⟨_, rfl⟩, .inr ⟨_, ⟨k + 1, by omega, rfl⟩, hJx3⟩⟩
    · obtain rfl : k = rs.length := by omega
      rw [List.take_length] at hJs
      gi_wp2
      go_end0
      exact ⟨⟨_, rfl⟩, .inl ⟨_, rfl, hJs⟩⟩

theorem values_stops (n : Nat) (hn : 1 ≤ n) (bx : Nat) (v : Value) (rs : List (Int × Int)) (hn6 : rs.length ≤ 65536) (w : World) (hBs : w.cell? ⟨bx, 0, none⟩ = some v) (hrow : w.ownsRow 0 33 2 v rs.length (enc .u8 rs)) :
    SeqStopsK Fence.wide n Try.prog 90 #[.pointer (some ⟨bx, 0, none⟩)] (fun x : Int × Int => #[Value.agg #[.int .u8 x.1, .int .u8 x.2]]) (KX (YB bx v)) (fun ys => ys = rs) (fun pre => ∃ k, k ≤ rs.length ∧ pre = rs.take k) rs.length w := fun l J Jx W hW hJ _ hY h0 =>
  values1_in n hn l bx v rs hn6 J Jx W hJ hY ((hW.cell (p := ⟨bx, 0, none⟩) (World.block_lt_of_cell? _ _ hBs)).trans hBs) (row_kept2 hrow (fun b hb => hW.block b (hrow.lt b hb).2)) h0

theorem kx_put {bx : Nat} {v : Value} {w : World} (h : ∀ b, YB bx v b → b < w.heap.size) (W : World) (l : Nat) (o o' : Obj) (hl : w.heap.size ≤ l) (_ : W.heap[l]? = some o) (_ : o.isCells = false) (_ : o.isWalk = false) : KX (YB bx v) W (W.putObj l o') := fun b hb =>
  World.putObj_heap_other (by have := h b hb; omega)
end Go.Proofs.Ytdalghfhpekcfaa

/- All, and what its iterator gives. -/
import Derived.Test.YtkdlhnfagghppaaRising
import Derived.Test.YtkdlhnfagghppaaDuo
import Derived.Lib.SliceRun
import Derived.RangeFuncNested
import Derived.RangeFuncBound
import Derived.RangeFuncCalls
import Derived.RangeFuncLeaves
import Derived.RangeFuncFrom
import Derived.OwnWalkIn
import Derived.TacticsInMore
import Derived.LoopNIn
import Derived.LoopIn
namespace Go.Proofs.Ytkdlhnfagghppaa
open Go.RowKit Go.Maps

set_option maxHeartbeats 1000000 in
set_option maxRecDepth 100000 in
theorem cloneN {v : Value} {ps : List (Int × Bool)} (w : World) (h : w.ownsRow 0 67 2 v ps.length (encN ps)) (hn : ps.length ≤ 65536) :
    Calls Try.prog 44 #[v] w fun e w' => ∃ v', e = .returned v' ∧ Hid (w'.ownsRow w.heap.size 67 2 v' ps.length (encN ps) ∧ Below w.heap.size w w') := by
  have q56 : ∀ (w : World) (a : Option Addr) (n c n' c' : Nat), (binOp .eql 56 (.slice a n c) (.slice none n' c')).run Try.prog w = .ok (.bool a.isNone) w := fun w a n c n' c' => Lib.run_eql_slice_nil w _ _ a n c n' c' Try.underlying56
  rcases h.2 with ⟨rfl, h0⟩ | ⟨g, cap, cur, rfl, -, hg, -⟩
  · have HE : Hid (w.ownsRow w.heap.size 67 2 (.slice none 0 0) ps.length (encN ps) ∧ Below w.heap.size w w) := ⟨⟨h.1, .inl ⟨rfl, h0⟩⟩, Below.refl _ _⟩
    clear h hn h0
    go_enter Try.func44, Try.ntmps44
    go_wp2_with fail
    go_ret
    exact ⟨_, rfl, unhide HE⟩
  · obtain ⟨i0, hi0, hz0, hzs, hzb⟩ := info_parts infoPN
    have hmade : (w.alloc (.cells #[] 67)).ownsRow w.heap.size 67 2 (.slice (some ⟨w.heap.size, 0, none⟩) 0 0) 0 [] := World.ownsRow_made w #[] 0 (Nat.le_refl _) (by unfold maxLen; omega) rfl
    have hc := @World.ownsRow.cells _ _ _ _ _ _ _ h
    obtain ⟨v1, w2, hr1, hown1, hgr1, -⟩ := run_append_own (P := Try.prog) (w.alloc (.cells #[] 67)) w.heap.size 56 56 67 i0 _ 2 16 Try.underlying56 hi0 hz0 hzs hzb rfl (by omega) _ 0 [] hmade ⟨g, 0, none⟩ ps.length cap (encN ps) (by unfold encN; rw [encP_length])
      (fun j u hj => by
        have := hc rfl j u hj
        exact (((Below.refl w.heap.size w).alloc (Nat.le_refl _) (.cells #[] 67)).cell (World.block_lt_of_cell? _ _ this)).trans this) (encP_one _ (fun _ => rfl) _) (by unfold maxLen; omega) (by omega) (by simp)
    rw [Nat.zero_add, List.nil_append] at hown1
    have HE : Hid (w2.ownsRow w.heap.size 67 2 v1 ps.length (encN ps) ∧ Below w.heap.size w w2) := ⟨hown1, ((Below.refl w.heap.size w).alloc (Nat.le_refl _) (.cells #[] 67)).grown hgr1 (by simp) (fun j hj => by simp [Value.ownBlock] at hj; omega)⟩
    have HR1 := hide hr1
    generalize ps.length = L at *
    clear h hn hg hc hr1 hown1 hgr1 hmade hi0
    go_enter Try.func44, Try.ntmps44
    go_wp2_with (at_builtin; refine Lib.wpList_append_run _ rfl _ _ 56 56 rfl (.slice (some ⟨w.heap.size, 0, none⟩) 0 0) (.slice (some ⟨g, 0, none⟩) L cap) rfl rfl _ _ HR1.out ?_)
    go_ret
    exact ⟨_, rfl, unhide HE⟩

set_option maxHeartbeats 1000000 in
set_option maxRecDepth 100000 in
theorem allN [Inhabited EntI] {B : Nat} {w0 w : World} {t n : Nat} {most : Int} {ps : List (Int × Bool)} (h : LiveN B w0 t most ps n w) :
    Calls Try.prog 18 #[.pointer (some ⟨t, 0, none⟩)] w fun e w' => ∃ (bx : Nat) (v : Value), e = .returned (.func (.func 45) #[] #[.pointer (some ⟨bx, 0, none⟩)]) ∧ Hid (w'.cell? ⟨bx, 0, none⟩ = some v ∧ w'.ownsRow w.heap.size 67 2 v ps.length (encN ps) ∧ w.heap.size ≤ bx ∧ bx < w'.heap.size ∧ Below w.heap.size w w') := by
  obtain ⟨hp, v, ms, G, h1, -⟩ := h.on
  have hl := h.fits
  have c1 := h1.cells.2.1
  have CC := hide (cloneN w h1.row (by omega))
  obtain ⟨a, c, rfl⟩ := h1.shape
  generalize ps.length = L at *
  clear h h1 hl
  go_enter Try.func18, Try.ntmps18
  go_wp2_with fail
  refine (unhide CC).mono ?_
  rintro e u ⟨v', rfl, hh⟩
  obtain ⟨a3, c3, hv3⟩ : ∃ a3 c3, v' = .slice a3 L c3 := by
    rcases (unhide hh).1.2 with ⟨rfl, h3⟩ | ⟨g, cap, cur, rfl, -⟩
    · exact ⟨none, 0, by rw [h3]⟩
    · exact ⟨_, _, rfl⟩
  have HE : Hid ((u.alloc (.cells #[v'] 56)).cell? ⟨u.heap.size, 0, none⟩ = some v' ∧ (u.alloc (.cells #[v'] 56)).ownsRow w.heap.size 67 2 v' L (encN ps) ∧ w.heap.size ≤ u.heap.size ∧ u.heap.size < (u.alloc (.cells #[v'] 56)).heap.size ∧ Below w.heap.size w (u.alloc (.cells #[v'] 56))) := by
    obtain ⟨r1, b1⟩ := unhide hh
    have ba : Below u.heap.size u (u.alloc (.cells #[v'] 56)) := (Below.refl _ _).alloc (Nat.le_refl _) _
    refine ⟨?_, ⟨r1.1, ?_⟩, b1.size, by simp, b1.trans (ba.mono b1.size)⟩
    · rw [World.cell?_alloc_at _ _ _ _ (by simp)]; rfl
    · rcases r1.2 with hn | ⟨g, cap, cur, rfl, hb, hgg, rest⟩
      · exact .inl hn
      · exact .inr ⟨g, cap, cur, rfl, hb, (ba.block g (Array.getElem?_eq_some_iff.1 hgg).1).trans hgg, rest⟩
  clear CC hh
  subst hv3
  go_wp2_with fail
  go_ret
  exact ⟨u.heap.size, _, rfl, unhide HE⟩

/-- The iterator's blocks. -/
def YB (bx : Nat) (v : Value) (b : Nat) : Prop := b = bx ∨ v.ownBlock = some b

attribute [local go_sem] Oper.semAt_some

set_option maxRecDepth 100000 in
set_option maxHeartbeats 2000000 in
theorem all1_in (n : Nat) (hn : 1 ≤ n) (l bx : Nat) (v : Value) (ps : List (Int × Bool)) (hn6 : ps.length ≤ 65536) (J Jx : List (Int × Int) → World → Prop) (W : World) (hJ : AbidesFrom W.heap.size J)
    (hY : ∀ pre (x : Int × Int) W1, J pre W1 → pre.length < ps.length → YieldAt Fence.wide (n - 1) Try.prog l #[.int .i64 x.1, .int .i64 x.2] W1 fun e W' =>
      (e = .returned (.bool true) ∧ J (pre ++ [x]) W' ∧ KX (YB bx v) W1 W') ∨ (e = .returned (.bool false) ∧ Jx (pre ++ [x]) W'))
    (hBs : W.cell? ⟨bx, 0, none⟩ = some v) (hrow : W.ownsRow 0 67 2 v ps.length (encN ps)) (h0 : J [] W) :
    CallsIn Fence.wide n Try.prog 45 #[.func (.yield l) #[] #[], .pointer (some ⟨bx, 0, none⟩)] W fun e W' => (∃ v, e = .returned v) ∧
      ((∃ ys, ys = ris ps ps.length ∧ J ys W') ∨ (∃ pre, (∃ k, k ≤ ps.length ∧ pre = ris ps k) ∧ Jx pre W')) := by
  have hcx : ∀ wr (k : Nat) a x, KX (YB bx v) W wr → ps[k]? = some (a, x) → ∃ g c, v = .slice (some ⟨g, 0, none⟩) ps.length c ∧ wr.cell? ⟨g, k * 2, none⟩ = some (.int .i64 a) ∧ wr.cell? ⟨g, k * 2 + 1, none⟩ = some (.bool x) := fun wr k a x hk hp => by
    have hr : wr.ownsRow 0 67 2 v ps.length (encN ps) := row_kept2 hrow (fun b hb => hk b (.inr hb))
    rcases hr.2 with ⟨-, h3⟩ | ⟨g, cap, cur, rfl, -⟩
    · have := lt_of_at hp; omega
    · have add : ∀ j, (⟨g, 0, none⟩ : Addr).add j = ⟨g, j, none⟩ := fun j => by unfold Addr.add; split <;> simp_all
      have hcl := hr.cells (g := g) rfl
      obtain ⟨e1, e2⟩ := encP_at (fun a => .int .i64 a) ps k a x hp
      have f1 := hcl _ _ e1
      have f2 := hcl _ _ e2
      rw [add] at f1 f2
      exact ⟨g, cap, rfl, f1, f2⟩
  obtain ⟨a, c, rfl⟩ : ∃ a c, v = .slice a ps.length c := by
    rcases hrow.2 with ⟨rfl, h3⟩ | ⟨g, cap, cur, rfl, -⟩
    · exact ⟨none, 0, by rw [h3]⟩
    · exact ⟨_, _, rfl⟩
  have hal : ∀ s (u : World) (o : Obj), J s u → J s (u.alloc o) := fun s u o hs => hJ s u _ none hs (World.grownBy_alloc u o none) (fun r e => by cases e)
  have hka : ∀ (u : World) (o : Obj), KX (YB bx (.slice a ps.length c)) W u → KX (YB bx (.slice a ps.length c)) u (u.alloc o) := fun u o hk b hb => by
    have h1 : b < W.heap.size := by
      rcases hb with rfl | hb
      · exact World.block_lt_of_cell? _ _ hBs
      · exact (hrow.lt b hb).2
    have h2 := hk b hb
    rw [Array.getElem?_eq_getElem h1] at h2
    exact ((Below.refl u.heap.size u).alloc (Nat.le_refl _) o).block b (Array.getElem?_eq_some_iff.1 h2).1
  refine callsIn_of_wp Try.func45 rfl trivial ?_ rfl
  simp only [Try.ntmps45, List.size_toArray, List.length_cons, List.length_nil, Nat.reduceAdd, Nat.reduceSub, Array.replicate_succ, Array.replicate_zero, List.push_toArray, List.append_toArray, List.nil_append, List.cons_append]
  gi_wp2
  gi_loopw [7] (fun i wr => ∃ k : Nat, k ≤ ps.length ∧ i = .int .i64 k ∧ J (ris ps k) wr ∧ KX (YB bx (.slice a ps.length c)) W wr) (fun i _ => ps.length - (intOf i).toNat)
  case atStart => exact ⟨0, Nat.zero_le _, rfl, h0, KX.refl _ _⟩
  case round =>
    obtain ⟨k, hk, rfl, hJs, hnx⟩ := hrel
    by_cases hlt : k < ps.length
    · have hltz : (k : Int) < (ps.length : Int) := by omega
      have hk6 : (k : Int) < 65536 := by omega
      obtain ⟨x, b, hp⟩ := at_of_lt hlt
      obtain ⟨g, c', e1, f1, f2⟩ := hcx wr k x b hnx hp
      simp only [Value.slice.injEq, true_and] at e1
      obtain ⟨rfl, rfl⟩ := e1
      cases b with
      | true =>
        obtain ⟨fn, tmps, assign, body, hy, hR⟩ := hY (ris ps k) ((k : Int) + 1, x) (wr.alloc (.cells #[.int .i64 x, .bool true] 67)) (hal _ _ _ hJs) (by have := ris_length ps k; omega)
        dsimp only at hy
        have hkk := hide (hka wr (.cells #[.int .i64 x, .bool true] 67) hnx)
        have HNX := hide hnx
        have HP := hide hp
        clear hY hal hka hcx hJ hJs hnx hp
        gi_wp2
        refine hR.mono ?_
        rintro e W3 (⟨rfl, hJ3, hk3⟩ | ⟨rfl, hJx3⟩)
        · gi_wp2
          go_roundw
          case rel => exact ⟨k + 1, by omega, by simp, by rw [ris_in (unhide HP)]; exact hJ3, ((unhide HNX).trans (unhide hkk)).trans hk3⟩
          case measure => simp [intOf]; omega
        · gi_wp2
          refine bodyPost_ret (results_none rfl _ _ _) rfl ?_
          exact ⟨⟨_, rfl⟩, .inr ⟨_, ⟨k + 1, by omega, (ris_in (unhide HP)).symm⟩, hJx3⟩⟩
      | false =>
        have hkk := hka wr (.cells #[.int .i64 x, .bool false] 67) hnx
        have hJ2 := hide (hal (ris ps k) wr (.cells #[.int .i64 x, .bool false] 67) hJs)
        have HNX := hide (hnx.trans hkk)
        have HP := hide hp
        clear hY hal hka hcx hJ hJs hnx hp hkk
        refine wpIn_wide.2 ?_
        go_wp2_with fail
        go_roundw
        case rel => exact ⟨k + 1, by omega, by simp, by rw [ris_out (fun a e => by rw [unhide HP] at e; cases e)]; exact unhide hJ2, unhide HNX⟩
        case measure => simp [intOf]; omega
    · obtain rfl : k = ps.length := by omega
      gi_wp2
      go_end0
      exact ⟨⟨_, rfl⟩, .inl ⟨_, rfl, hJs⟩⟩
end Go.Proofs.Ytkdlhnfagghppaa

/- Tells: the lists and the gauge of the store are the reference's. -/
import Derived.Test.YtagibmgbjhemkaaGreatStDropV
import Derived.Test.YtagibmgbjhemkaaGreatIter
import Derived.OwnWalkIn
import Derived.TacticsInMore
import Derived.Lib.SliceRun
import Derived.RangeFuncBox
import Derived.RangeFuncNested
import Derived.RangeFuncBound
import Derived.RangeFuncCalls
import Derived.RangeFuncLeaves
import Derived.RangeFuncFrom
import Derived.LoopNIn
import Derived.LoopIn
import Derived.Test.YtagibmgbjhemkaaGreatGame72
import Derived.Test.YtagibmgbjhemkaaGreatStOut
namespace Go.Proofs.YtagibmgbjhemkaaGreat

section
open Go.RowKit Go.Maps Go.Sort Go.Shelf
theorem sortsP (m : Nat) : AnyZI.SortsIn Tryz.prog Tryz.sortedP_ren Fence.wide m :=
  ⟨fun blk off cap ss W hH hblk hsz => callsIn_wide.2 (Any.slices_Sort_int Tryz.lays189 blk off cap ss W hH hblk hsz),
   fun p cap W => callsIn_wide.2 (Any.slices_Sort_int_none Tryz.lays189 p cap W)⟩
theorem keys_of {w : World} {m N : Nat} {f : Int → Option Nat} {D : DataW Unit} (h1 : w.ownsMap Tryz.prog 3 ptrElem m N D) (h4 : ∀ k, okN k → D.atKey (klN k) (dat none) = dat (f k) ∧ Maps.has D (klN k) = (f k).isSome) (hok : ∀ k, f k ≠ none → okN k) :
    (intKeys D).Nodup ∧ ∀ k, k ∈ intKeys D ↔ f k ≠ none := by
  obtain ⟨es, hD, hpw, -⟩ := h1.entries kitN.law; obtain ⟨es', hD', hko⟩ := h1.keysOf; obtain rfl : es = es' := by rw [hD] at hD'; simpa using hD'
  have hk : ∀ p ∈ es, ∃ x, p.1 = .int .i64 x ∧ (Lit.int .i64 x).wf = true := fun p hp => by
    obtain ⟨v, hv⟩ := hko p hp; obtain ⟨x, -, hx, hw⟩ := Maps.keyOf_i64 Tryz.underlying3 hv; exact ⟨x, hx, hw⟩
  subst hD; have hm : ∀ x, x ∈ intKeys (.map es : DataW Unit) ↔ ∃ d, (Lit.int .i64 x, d) ∈ es := fun x => by
    show x ∈ es.map (fun p => Go.intOf p.1) ↔ _
    rw [List.mem_map]; constructor
    · rintro ⟨p, hp, rfl⟩
      obtain ⟨a, ha, -⟩ := hk p hp; refine ⟨p.2, ?_⟩; rw [ha]; show (Lit.int .i64 a, p.2) ∈ es; rw [← ha]; exact hp
    · rintro ⟨d, hd⟩
      exact ⟨_, hd, rfl⟩
  refine ⟨?_, fun k => ?_⟩
  · show (es.map fun p => Go.intOf p.1).Nodup
    refine List.pairwise_map.2 (hpw.imp_of_mem fun {p q} hp' hq' hne e => hne ?_)
    obtain ⟨a, ha, -⟩ := hk p hp'; obtain ⟨b, hb, -⟩ := hk q hq'; rw [ha, hb] at e ⊢; exact congrArg _ e
  · have hh : (∃ d, (Lit.int .i64 k, d) ∈ es) ↔ Maps.has (.map es : DataW Unit) (.int .i64 k) = true := by
      rw [has_eq, List.any_eq_true]; constructor
      · rintro ⟨d, hd⟩; exact ⟨_, hd, by simp [Lit.sameKey]⟩
      · rintro ⟨p, hp, hs⟩
        obtain ⟨a, ha, -⟩ := hk p hp; rw [ha] at hs; have : a = k := by simpa [Lit.sameKey] using hs
        subst this; exact ⟨p.2, by rw [← ha]; exact hp⟩
    rw [hm, hh]
    by_cases hw : okN k
    · rw [show Maps.has (.map es : DataW Unit) (.int .i64 k) = (f k).isSome from (h4 k hw).2]
      cases f k <;> simp
    · constructor
      · intro h; obtain ⟨d, hd⟩ := hh.2 h; obtain ⟨x, hx, hxw⟩ := hk _ hd; injection hx with hx1 hx2
        subst hx2; exact absurd hxw hw
      · intro h; exact absurd (hok k h) hw
section
variable [Inhabited EntI] {w w' : World} {X X' : Sto}
set_option maxHeartbeats 1000000 in
set_option maxRecDepth 100000 in
theorem vertsS (h : StAt w X) : Calls Tryz.prog 54 #[.pointer (some ⟨X.s, 0, none⟩)] w fun e w' => ∃ (v : Value) (vs : List Int), e = .returned v ∧ Hid (BRow w.heap.size w' v vs ∧ Rising ltN vs ∧ (∀ k, k ∈ vs ↔ X.f k ≠ none) ∧ vs.length = X.N ∧ Below w.heap.size w w') := by
  obtain ⟨-, c1, -, -, -⟩ := h.cells; obtain ⟨D, hown, -, hsz, h4⟩ := h.mem.map; have hN : X.N ≤ 256 := h.size; have hK := keys_of hown h4 (fun k hk => by
    cases e : X.f k with
    | none => exact absurd e hk
    | some q => exact h.ok e)
  have hbl := hown.lt; have HFIN : Hid (∀ ss : List Int, ss.Perm (intKeys D) → Rising ltN (ss.mergeSort (fun x y => decide (x ≤ y))) ∧ (∀ k, k ∈ ss.mergeSort (fun x y => decide (x ≤ y)) ↔ X.f k ≠ none) ∧ (ss.mergeSort (fun x y => decide (x ≤ y))).length = X.N ∧ ss.length = (ss.mergeSort (fun x y => decide (x ≤ y))).length) := fun ss hp => by
    have hpm : (ss.mergeSort fun x y => decide (x ≤ y)).Perm ss := List.mergeSort_perm _ _
    have h1 : (ss.mergeSort fun x y => decide (x ≤ y)).Pairwise (fun x y => decide (x ≤ y) = true) := List.pairwise_mergeSort (fun a b c h1 h2 => by simp at *; omega) (fun a b => by simp; omega) _
    have h2 : (ss.mergeSort fun x y => decide (x ≤ y)).Nodup := (hpm.trans hp).nodup_iff.2 hK.1
    refine ⟨(h1.and h2).imp (fun {a b} hab => by simp [ltN] at *; omega), fun k => by rw [(hpm.trans hp).mem_iff]; exact hK.2 k, ?_, hpm.length_eq.symm⟩
    rw [(hpm.trans hp).length_eq, ← hsz]; obtain ⟨es, rfl, -, -⟩ := hown.entries kitN.law; show (es.map fun p => Go.intOf p.1).length = _
    rw [List.length_map]; rfl
  refine (callsIn_wide (n := 6)).1 ?_; have hseq : SeqGives Fence.wide 2 Tryz.prog 111 #[.pointer (some ⟨w.heap.size, 0, none⟩)] encZ (fun ss => ss.Perm (intKeys D)) (Maps.size D) (w.alloc (.cells #[.map (some X.m)] 79)) :=
    AnyZI.keys_gives (ρ := Tryz.keysP_ren) { Tryz.keysP with } Fence.wide _ trivial rfl (by omega) w.heap.size X.m X.N D _ (by simp) (by simp) (by
      obtain ⟨es, clock, hb, Ft, hs, hD⟩ := hown; exact ⟨es, clock, (Below.heap_alloc _ _ X.m hbl).trans hb, Ft, hs, hD⟩)
  have cK : ∀ mb W, CallsIn Fence.wide 5 Tryz.prog 92 #[.map mb] W fun e w' => e = .returned (.func (.func 111) #[] #[.pointer (some ⟨W.heap.size, 0, none⟩)]) ∧ w' = W.alloc (.cells #[.map mb] 79) := fun mb W => AnyZI.keys_in Tryz.keysP Fence.wide 5 trivial rfl mb W
  have cS := AnyZI.sorted_in Tryz.sortedP Fence.wide 5 trivial trivial trivial trivial rfl (by omega) (sortsP _) (enters_of Tryz.func110 (by kernel_rfl) rfl) 111 #[.pointer (some ⟨w.heap.size, 0, none⟩)] trivial (enters_of Tryz.func111 (by kernel_rfl) rfl) _ _ (by unfold maxLen; omega) (by omega) _ hseq
  change CallsIn _ _ Tryz.prog 91 _ _ _ at cS; have hfK : Fence.wide.fn 92 := trivial; have hfS : Fence.wide.fn 91 := trivial; generalize X.s = s at *; generalize X.m = m at *; generalize X.N = N at *; clear h h4 hK hown hsz; refine callsIn_of_wp Tryz.func54 rfl trivial ?_ rfl; simp only [Tryz.ntmps54, List.size_toArray, List.length_cons, List.length_nil, Nat.reduceAdd, Nat.reduceSub, Array.replicate_succ, Array.replicate_zero, List.push_toArray, List.append_toArray, List.nil_append, List.cons_append]
  gi_wp2_with (first
    | (gi_at_call 92; refine (cK _ _).mono ?_; rintro e w' ⟨rfl, rfl⟩)
    | (gi_at_call 91; refine cS.mono ?_; rintro e w' ⟨v, ss, rfl, hS, hrow, hnil, hb⟩))
  go_ret
  obtain ⟨r1, r2, r3, r4⟩ := unhide HFIN ss hS; have hrow2 : w'.ownsRow w.heap.size 3 1 v ss.length ((ss.mergeSort (fun x y => decide (x ≤ y))).map encZ) := ownsRow_base_a hrow (by simp)
  rw [r4] at hrow2; exact ⟨v, _, rfl, hrow2, r1, r2, r3, ((Below.refl _ w).alloc (Nat.le_refl _) _).trans (hb.mono (by simp))⟩
end
end

section
open Go.RowKit Go.Maps
set_option maxHeartbeats 1000000 in
set_option maxRecDepth 100000 in
theorem cloneE {v : Value} {ps : List (EdgeV × Bool)} (w : World) (h : w.ownsRow 0 172 5 v ps.length (encE ps)) (hn : ps.length ≤ 65536) :
    Calls Tryz.prog 112 #[v] w fun e w' => ∃ v', e = .returned v' ∧ Hid (w'.ownsRow w.heap.size 172 5 v' ps.length (encE ps) ∧ Below w.heap.size w w') := by
  have qPL : ∀ (w : World) (a : Option Addr) (n c n' c' : Nat), (binOp .eql 164 (.slice a n c) (.slice none n' c')).run Tryz.prog w = .ok (.bool a.isNone) w := fun w a n c n' c' => Lib.run_eql_slice_nil w _ _ a n c n' c' Tryz.underlying164
  rcases h.2 with ⟨rfl, h0⟩ | ⟨g, cap, cur, rfl, -, hg, -⟩
  · have HE : Hid (w.ownsRow w.heap.size 172 5 (.slice none 0 0) ps.length (encE ps) ∧ Below w.heap.size w w) := ⟨⟨h.1, .inl ⟨rfl, h0⟩⟩, Below.refl _ _⟩; clear h hn h0
    go_enter Tryz.func112, Tryz.ntmps112
    go_wp2_with fail
    go_ret
    exact ⟨_, rfl, unhide HE⟩
  · obtain ⟨i0, hi0, hz0, hzs, hzb⟩ := info_parts infoPE; have hmade : (w.alloc (.cells #[] 172)).ownsRow w.heap.size 172 5 (.slice (some ⟨w.heap.size, 0, none⟩) 0 0) 0 [] := World.ownsRow_made w #[] 0 (Nat.le_refl _) (by unfold maxLen; omega) rfl
    have hc := @World.ownsRow.cells _ _ _ _ _ _ _ h; obtain ⟨v1, w2, hr1, hown1, hgr1, -⟩ := run_append_own (P := Tryz.prog) (w.alloc (.cells #[] 172)) w.heap.size 164 164 172 i0 _ 5 40 Tryz.underlying164 hi0 hz0 hzs hzb rfl (by omega) _ 0 [] hmade ⟨g, 0, none⟩ ps.length cap (encE ps) (encE_length ps)
      (fun j u hj => by
        have := hc rfl j u hj; exact (((Below.refl w.heap.size w).alloc (Nat.le_refl _) (.cells #[] 172)).cell (World.block_lt_of_cell? _ _ this)).trans this) (encE_one ps) (by unfold maxLen; omega) (by omega) (by simp)
    rw [Nat.zero_add, List.nil_append] at hown1; have HE : Hid (w2.ownsRow w.heap.size 172 5 v1 ps.length (encE ps) ∧ Below w.heap.size w w2) := ⟨hown1, ((Below.refl w.heap.size w).alloc (Nat.le_refl _) (.cells #[] 172)).grown hgr1 (by simp) (fun j hj => by simp [Value.ownBlock] at hj; omega)⟩
    have HR1 := hide hr1; generalize ps.length = L at *; clear h hn hg hc hr1 hown1 hgr1 hmade hi0
    go_enter Tryz.func112, Tryz.ntmps112
    go_wp2_with (at_builtin; refine Lib.wpList_append_run _ rfl _ _ 164 164 rfl (.slice (some ⟨w.heap.size, 0, none⟩) 0 0) (.slice (some ⟨g, 0, none⟩) L cap) rfl rfl _ _ HR1.out ?_)
    go_ret
    exact ⟨_, rfl, unhide HE⟩
section
variable [Inhabited EntI] {w w' : World} {t hp : Nat} {v : Value} {most : Int} {ps : List (EdgeV × Bool)} {ms : List EntI} {n : Nat} {G : Nat → Prop}
set_option maxHeartbeats 1000000 in
set_option maxRecDepth 100000 in
theorem allE (h : TAtE w t hp v most ps ms n G) :
    Calls Tryz.prog 93 #[.pointer (some ⟨t, 0, none⟩)] w fun e w' => ∃ (bx : Nat) (v : Value), e = .returned (.func (.func 113) #[] #[.pointer (some ⟨bx, 0, none⟩)]) ∧ Hid (w'.cell? ⟨bx, 0, none⟩ = some v ∧ w'.ownsRow w.heap.size 172 5 v ps.length (encE ps) ∧ w.heap.size ≤ bx ∧ bx < w'.heap.size ∧ Below w.heap.size w w') := by
  have hl := h.len; have ht := h.top; have c1 := h.cells.2.1; have CC := hide (cloneE w h.row (by omega))
  obtain ⟨a, c, hv⟩ : ∃ a c, v = .slice a ps.length c := by
    rcases h.row.2 with ⟨rfl, h3⟩ | ⟨g, cap, cur, rfl, -⟩
    · exact ⟨none, 0, by rw [h3]⟩
    · exact ⟨_, _, rfl⟩
  subst hv; generalize ps.length = L at *; clear h hl ht
  go_enter Tryz.func93, Tryz.ntmps93
  go_wp2_with fail
  refine (unhide CC).mono ?_
  rintro e u ⟨v', rfl, hh⟩
  obtain ⟨a3, c3, hv3⟩ : ∃ a3 c3, v' = .slice a3 L c3 := by
    rcases (unhide hh).1.2 with ⟨rfl, h3⟩ | ⟨g, cap, cur, rfl, -⟩
    · exact ⟨none, 0, by rw [h3]⟩
    · exact ⟨_, _, rfl⟩
  have HE : Hid ((u.alloc (.cells #[v'] 164)).cell? ⟨u.heap.size, 0, none⟩ = some v' ∧ (u.alloc (.cells #[v'] 164)).ownsRow w.heap.size 172 5 v' L (encE ps) ∧ w.heap.size ≤ u.heap.size ∧ u.heap.size < (u.alloc (.cells #[v'] 164)).heap.size ∧ Below w.heap.size w (u.alloc (.cells #[v'] 164))) := by
    obtain ⟨r1, b1⟩ := unhide hh; have ba : Below u.heap.size u (u.alloc (.cells #[v'] 164)) := (Below.refl _ _).alloc (Nat.le_refl _) _; refine ⟨?_, ⟨r1.1, ?_⟩, b1.size, by simp, b1.trans (ba.mono b1.size)⟩
    · rw [World.cell?_alloc_at _ _ _ _ (by simp)]; rfl
    · rcases r1.2 with hn | ⟨g, cap, cur, rfl, hb, hgg, rest⟩
      · exact .inl hn
      · exact .inr ⟨g, cap, cur, rfl, hb, (ba.block g (Array.getElem?_eq_some_iff.1 hgg).1).trans hgg, rest⟩
  clear CC hh; subst hv3
  go_wp2_with fail
  go_ret
  exact ⟨u.heap.size, _, rfl, unhide HE⟩
end
def risE (ps : List (EdgeV × Bool)) : Nat → List (Int × EdgeV)
  | 0 => []
  | k + 1 => match ps[k]? with
    | some (a, true) => risE ps k ++ [((k : Int) + 1, a)]
    | _ => risE ps k
theorem risE_in {ps : List (EdgeV × Bool)} {k : Nat} {a : EdgeV} (h : ps[k]? = some (a, true)) : risE ps (k + 1) = risE ps k ++ [((k : Int) + 1, a)] := by simp [risE, h]
theorem risE_out {ps : List (EdgeV × Bool)} {k : Nat} {a : EdgeV} (h : ps[k]? = some (a, false)) : risE ps (k + 1) = risE ps k := by simp [risE, h]
theorem risE_length (ps : List (EdgeV × Bool)) : ∀ k, (risE ps k).length ≤ k
  | 0 => Nat.le_refl _
  | k + 1 => by
    have := risE_length ps k; simp only [risE]; split
    · simp; omega
    · omega
theorem risE_nums (ps : List (EdgeV × Bool)) (p : EdgeV → Bool) (hp : ∀ x, p x = true) : ∀ k, k ≤ ps.length → (risE ps k).map (·.1) = numsOf p (ps.take k)
  | 0, _ => by simp [risE, numsOf, numsFrom]
  | k + 1, h => by
    have ih := risE_nums ps p hp k (by omega)
    obtain ⟨a, b, hk⟩ := at_of_lt (ps := ps) (i := k) (by omega)
    refine rising_ext linN ?_ (rising_numsOf _ _) (fun e => ?_)
    · cases b with
      | false => rw [risE_out hk, ih]; exact rising_numsOf _ _
      | true =>
        rw [risE_in hk, List.map_append, ih]; refine List.pairwise_append.2 ⟨rising_numsOf _ _, List.pairwise_singleton _ _, fun x hx y hy => ?_⟩
        obtain ⟨j, z, hj, -, rfl⟩ := mem_numsOf.1 hx; simp at hy; subst hy; have hjl := (List.getElem?_eq_some_iff.1 hj).1; rw [List.length_take] at hjl; simp [ltN]; omega
    · rw [mem_numsOf]
      cases b with
      | false =>
        rw [risE_out hk, ih, mem_numsOf]; constructor
        · rintro ⟨j, x, hj, h1, h2⟩
          have hjl := (List.getElem?_eq_some_iff.1 hj).1; rw [List.length_take] at hjl; exact ⟨j, x, by rw [List.getElem?_take_of_lt (by omega)] at hj ⊢; exact hj, h1, h2⟩
        · rintro ⟨j, x, hj, h1, h2⟩
          have hjl := (List.getElem?_eq_some_iff.1 hj).1; rw [List.length_take] at hjl; rw [List.getElem?_take_of_lt (by omega)] at hj
          have : j ≠ k := fun e => by subst e; rw [hk] at hj; cases hj
          exact ⟨j, x, by rw [List.getElem?_take_of_lt (by omega)]; exact hj, h1, h2⟩
      | true =>
        rw [risE_in hk, List.map_append, List.mem_append, ih, mem_numsOf]; constructor
        · rintro (⟨j, x, hj, h1, h2⟩ | h)
          · have hjl := (List.getElem?_eq_some_iff.1 hj).1; rw [List.length_take] at hjl; exact ⟨j, x, by rw [List.getElem?_take_of_lt (by omega)] at hj ⊢; exact hj, h1, h2⟩
          · simp at h; exact ⟨k, a, by rw [List.getElem?_take_of_lt (by omega)]; exact hk, hp a, h⟩
        · rintro ⟨j, x, hj, h1, h2⟩
          have hjl := (List.getElem?_eq_some_iff.1 hj).1; rw [List.length_take] at hjl; rw [List.getElem?_take_of_lt (by omega)] at hj
          by_cases e : j = k
          · subst e; exact .inr (by simp; exact h2)
          · exact .inl ⟨j, x, by rw [List.getElem?_take_of_lt (by omega)]; exact hj, h1, h2⟩
def KX (X : Nat → Prop) (w w' : World) : Prop := ∀ b, X b → w'.heap[b]? = w.heap[b]?
theorem KX.refl (X : Nat → Prop) (w : World) : KX X w w := fun _ _ => rfl
theorem KX.trans {X : Nat → Prop} {w1 w2 w3 : World} (h : KX X w1 w2) (k : KX X w2 w3) : KX X w1 w3 := fun b hb => (k b hb).trans (h b hb)
def YB (bx : Nat) (v : Value) (b : Nat) : Prop := b = bx ∨ v.ownBlock = some b
attribute [local go_sem] Oper.semAt_some
set_option maxRecDepth 100000 in
set_option maxHeartbeats 2000000 in
theorem all1_in (n : Nat) (hn : 1 ≤ n) (l bx : Nat) (v : Value) (ps : List (EdgeV × Bool)) (hn6 : ps.length ≤ 65536) (J Jx : List (Int × EdgeV) → World → Prop) (W : World) (hJ : AbidesFrom W.heap.size J)
    (hY : ∀ pre (x : Int × EdgeV) W1, J pre W1 → pre.length < ps.length → YieldAt Fence.wide (n - 1) Tryz.prog l #[.int .i64 x.1, .agg #[.int .i64 x.2.1, .int .i64 x.2.2.1, .int .i64 x.2.2.2.1, .int .u32 x.2.2.2.2]] W1 fun e W' =>
      (e = .returned (.bool true) ∧ J (pre ++ [x]) W' ∧ KX (YB bx v) W1 W') ∨ (e = .returned (.bool false) ∧ Jx (pre ++ [x]) W'))
    (hBs : W.cell? ⟨bx, 0, none⟩ = some v) (hrow : W.ownsRow 0 172 5 v ps.length (encE ps)) (h0 : J [] W) :
    CallsIn Fence.wide n Tryz.prog 113 #[.func (.yield l) #[] #[], .pointer (some ⟨bx, 0, none⟩)] W fun e W' => (∃ v, e = .returned v) ∧
      ((∃ ys, ys = risE ps ps.length ∧ J ys W') ∨ (∃ pre, (∃ k, k ≤ ps.length ∧ pre = risE ps k) ∧ Jx pre W')) := by
  have hcx : ∀ wr (k : Nat) a x, KX (YB bx v) W wr → ps[k]? = some (a, x) → ∃ g c, v = .slice (some ⟨g, 0, none⟩) ps.length c ∧ wr.cell? ⟨g, k * 5, none⟩ = some (.int .i64 a.1) ∧ wr.cell? ⟨g, k * 5 + 1, none⟩ = some (.int .i64 a.2.1) ∧ wr.cell? ⟨g, k * 5 + 2, none⟩ = some (.int .i64 a.2.2.1) ∧ wr.cell? ⟨g, k * 5 + 3, none⟩ = some (.int .u32 a.2.2.2) ∧ wr.cell? ⟨g, k * 5 + 4, none⟩ = some (.bool x) := fun wr k a x hk hp => by
    have hr : wr.ownsRow 0 172 5 v ps.length (encE ps) := row_kept5 hrow (fun b hb => hk b (.inr hb))
    rcases hr.2 with ⟨-, h3⟩ | ⟨g, cap, cur, rfl, -⟩
    · have := lt_of_at hp; omega
    · have add : ∀ j, (⟨g, 0, none⟩ : Addr).add j = ⟨g, j, none⟩ := fun j => by unfold Addr.add; split <;> simp_all
      have hcl := hr.cells (g := g) rfl; obtain ⟨e1, e2, e3, e4, e5⟩ := encE_at ps k a x hp; have f1 := hcl _ _ e1; have f2 := hcl _ _ e2; have f3 := hcl _ _ e3; have f4 := hcl _ _ e4; have f5 := hcl _ _ e5; rw [add] at f1 f2 f3 f4 f5; exact ⟨g, cap, rfl, f1, f2, f3, f4, f5⟩
  obtain ⟨a, c, rfl⟩ : ∃ a c, v = .slice a ps.length c := by
    rcases hrow.2 with ⟨rfl, h3⟩ | ⟨g, cap, cur, rfl, -⟩
    · exact ⟨none, 0, by rw [h3]⟩
    · exact ⟨_, _, rfl⟩
  have hal : ∀ s (u : World) (o : Obj), J s u → J s (u.alloc o) := fun s u o hs => hJ s u _ none hs (World.grownBy_alloc u o none) (fun r e => by cases e)
  have hka : ∀ (u : World) (o : Obj), KX (YB bx (.slice a ps.length c)) W u → KX (YB bx (.slice a ps.length c)) u (u.alloc o) := fun u o hk b hb => by
    have h1 : b < W.heap.size := by
      rcases hb with rfl | hb
      · exact World.block_lt_of_cell? _ _ hBs
      · exact (hrow.lt b hb).2
    have h2 := hk b hb; rw [Array.getElem?_eq_getElem h1] at h2; exact ((Below.refl u.heap.size u).alloc (Nat.le_refl _) o).block b (Array.getElem?_eq_some_iff.1 h2).1
  refine callsIn_of_wp Tryz.func113 rfl trivial ?_ rfl; simp only [Tryz.ntmps113, List.size_toArray, List.length_cons, List.length_nil, Nat.reduceAdd, Nat.reduceSub, Array.replicate_succ, Array.replicate_zero, List.push_toArray, List.append_toArray, List.nil_append, List.cons_append]
  gi_wp2
  gi_loopw [7] (fun i wr => ∃ k : Nat, k ≤ ps.length ∧ i = .int .i64 k ∧ J (risE ps k) wr ∧ KX (YB bx (.slice a ps.length c)) W wr) (fun i _ => ps.length - (intOf i).toNat)
  case atStart => exact ⟨0, Nat.zero_le _, rfl, h0, KX.refl _ _⟩
  case round =>
    obtain ⟨k, hk, rfl, hJs, hnx⟩ := hrel
    by_cases hlt : k < ps.length
    · have hltz : (k : Int) < (ps.length : Int) := by omega
      have hk6 : (k : Int) < 65536 := by omega
      obtain ⟨x, b, hp⟩ := at_of_lt hlt; obtain ⟨g, c', e1, f1, f2, f3, f4, f5⟩ := hcx wr k x b hnx hp; simp only [Value.slice.injEq, true_and] at e1; obtain ⟨rfl, rfl⟩ := e1
      cases b with
      | true =>
        obtain ⟨fn, tmps, assign, body, hy, hR⟩ := hY (risE ps k) ((k : Int) + 1, x) (wr.alloc (.cells #[.int .i64 x.1, .int .i64 x.2.1, .int .i64 x.2.2.1, .int .u32 x.2.2.2, .bool true] 172)) (hal _ _ _ hJs) (by have := risE_length ps k; omega)
        dsimp only at hy; have hkk := hide (hka wr (.cells #[.int .i64 x.1, .int .i64 x.2.1, .int .i64 x.2.2.1, .int .u32 x.2.2.2, .bool true] 172) hnx); have HNX := hide hnx; have HP := hide hp; clear hY hal hka hcx hJ hJs hnx hp
        gi_wp2
        refine hR.mono ?_
        rintro e W3 (⟨rfl, hJ3, hk3⟩ | ⟨rfl, hJx3⟩)
        · gi_wp2
          go_roundw
          case rel => exact ⟨k + 1, by omega, by simp, by rw [risE_in (unhide HP)]; exact hJ3, ((unhide HNX).trans (unhide hkk)).trans hk3⟩
          case measure => simp [intOf]; omega
        · gi_wp2
          refine bodyPost_ret (results_none rfl _ _ _) rfl ?_; exact ⟨⟨_, rfl⟩, .inr ⟨_, ⟨k + 1, by omega, (risE_in (unhide HP)).symm⟩, hJx3⟩⟩
      | false =>
        have hkk := hka wr (.cells #[.int .i64 x.1, .int .i64 x.2.1, .int .i64 x.2.2.1, .int .u32 x.2.2.2, .bool false] 172) hnx; have hJ2 := hide (hal (risE ps k) wr (.cells #[.int .i64 x.1, .int .i64 x.2.1, .int .i64 x.2.2.1, .int .u32 x.2.2.2, .bool false] 172) hJs); have HNX := hide (hnx.trans hkk); have HP := hide hp; clear hY hal hka hcx hJ hJs hnx hp hkk; refine wpIn_wide.2 ?_
        go_wp2_with fail
        go_roundw
        case rel => exact ⟨k + 1, by omega, by simp, by rw [risE_out (unhide HP)]; exact unhide hJ2, unhide HNX⟩
        case measure => simp [intOf]; omega
    · obtain rfl : k = ps.length := by omega
      gi_wp2
      go_end0
      exact ⟨⟨_, rfl⟩, .inl ⟨_, rfl, hJs⟩⟩
theorem all_stops (n : Nat) (hn : 1 ≤ n) (bx : Nat) (v : Value) (ps : List (EdgeV × Bool)) (hn6 : ps.length ≤ 65536) (w : World) (hBs : w.cell? ⟨bx, 0, none⟩ = some v) (hrow : w.ownsRow 0 172 5 v ps.length (encE ps)) :
    SeqStopsK Fence.wide n Tryz.prog 113 #[.pointer (some ⟨bx, 0, none⟩)] (fun x : Int × EdgeV => #[Value.int .i64 x.1, .agg #[.int .i64 x.2.1, .int .i64 x.2.2.1, .int .i64 x.2.2.2.1, .int .u32 x.2.2.2.2]]) (KX (YB bx v)) (fun ys => ys = risE ps ps.length) (fun pre => ∃ k, k ≤ ps.length ∧ pre = risE ps k) ps.length w := fun l J Jx W hW hJ _ hY h0 =>
  all1_in n hn l bx v ps hn6 J Jx W hJ hY ((hW.cell (p := ⟨bx, 0, none⟩) (World.block_lt_of_cell? _ _ hBs)).trans hBs) (row_kept5 hrow (fun b hb => hW.block b (hrow.lt b hb).2)) h0
theorem kx_put {bx : Nat} {v : Value} {w : World} (h : ∀ b, YB bx v b → b < w.heap.size) (W : World) (l : Nat) (o o' : Obj) (hl : w.heap.size ≤ l) (_ : W.heap[l]? = some o) (_ : o.isCells = false) (_ : o.isWalk = false) : KX (YB bx v) W (W.putObj l o') := fun b hb =>
  World.putObj_heap_other (by have := h b hb; omega)
end

section
open Go.RowKit Go.Maps
attribute [local go_sem] Oper.semAt_some
def ek (pre : List (Int × EdgeV)) : List Int := pre.map (·.1)
theorem ek_snoc (pre : List (Int × EdgeV)) (x : Int × EdgeV) : ek (pre ++ [x]) = ek pre ++ [x.1] := by simp [ek]
theorem ek_len (pre : List (Int × EdgeV)) : (ek pre).length = pre.length := by simp [ek]
section
variable [Inhabited EntI] {w w' : World} {X X' : Sto}
set_option maxHeartbeats 2000000 in
set_option maxRecDepth 100000 in
theorem edgesS (h : StAt w X) : Calls Tryz.prog 55 #[.pointer (some ⟨X.s, 0, none⟩)] w fun e w' => ∃ v, e = .returned v ∧ Hid (BRow w.heap.size w' v (numsOf (fun _ => true) X.ps) ∧ Below w.heap.size w w') := by
  have hb0 : Below w.heap.size w (w.alloc (.cells #[.slice none 0 0] 25)) := (Below.refl _ _).alloc (Nat.le_refl _) _; have H0 := h.below hb0; obtain ⟨c0, -, -, -, -⟩ := H0.cells; have CA := hide (allE H0.tab); have hn6 : X.ps.length ≤ 65536 := by have := h.tab.len; omega
  have HE : Hid ((risE X.ps X.ps.length).map (·.1) = numsOf (fun _ => true) X.ps) := by
    have := risE_nums X.ps (fun _ => true) (fun _ => rfl) X.ps.length (Nat.le_refl _)
    rw [List.take_length] at this; exact this
  have HN6 := hide hn6; have bO := Boxed.new w 25 (.slice none 0 0); have hsz : (w.alloc (.cells #[.slice none 0 0] 25)).heap.size = w.heap.size + 1 := by simp
  have HB0 := hide (And.intro bO (And.intro hb0 hsz)); generalize X.s = s at *; generalize X.t = t at *; generalize X.ps = ps at *; clear h H0 hn6 bO hb0 hsz; refine (callsIn_wide (n := 5)).1 ?_; refine callsIn_of_wp_marks Tryz.func55 rfl trivial ?_ rfl; simp only [Tryz.ntmps55, List.size_toArray, List.length_cons, List.length_nil, Nat.reduceAdd, Nat.reduceSub, Array.replicate_succ, Array.replicate_zero, List.push_toArray, List.append_toArray, List.nil_append, List.cons_append]; refine wpIn_wide.2 ?_
  go_upto_region 2 with fail
  generalize w.alloc (.cells #[.slice none 0 0] 25) = w1 at *; obtain ⟨b0, hb0⟩ : ∃ b0, b0 = w.heap.size := ⟨_, rfl⟩; rw [← hb0] at HB0 ⊢; have HBE := hide hb0; clear hb0
  go_wp2_with fail
  refine (unhide CA).mono ?_
  rintro e u4 ⟨bx, pv, rfl, h4⟩
  clear CA c0
  go_wp2_with fail
  obtain ⟨bO, hb1, hsz⟩ := unhide HB0; obtain ⟨g1, g2, g3, g4, g5⟩ := unhide h4; rw [hsz] at g2 g3 g5; have hs4 : b0 + 1 ≤ u4.heap.size := by have := g5.size; omega
  have hb0e : b0 ≤ w.heap.size := by have := unhide HBE; omega
  have hB4 : Below b0 w u4 := hb1.trans (g5.mono (by omega))
  have bU : Boxed u4 b0 25 (.slice none 0 0) := (g5.block b0 (by omega)).trans bO
  have hYB : ∀ b, YB bx pv b → b0 + 1 ≤ b ∧ b < u4.heap.size := fun b hb => by
    rcases hb with rfl | hb
    · exact ⟨g3, g4⟩
    · exact g2.lt b hb
  have hseq := all_stops 4 (by omega) bx pv ps (unhide HN6) u4 g1 (row_kept5 (w := u4) ⟨g2.1, g2.2.imp id (fun ⟨g, cap, cur, e, _, rest⟩ => ⟨g, cap, cur, e, Nat.zero_le _, rest⟩)⟩ (fun _ _ => rfl))
  clear h4 HB0 bO hb1 hsz g1 g2 g3 g4 g5; generalize hR : risE ps ps.length = R at *; obtain ⟨i0, hi, hz0, hz1, hz2⟩ := info_parts info3; refine (wpIn_wide (n := 5)).1 ?_; refine wpIn_rangeFunc_ownG (F := Fence.wide) (n := 5) rfl (by omega) (gf := 113) (lb := #[.pointer (some ⟨bx, 0, none⟩)]) rfl trivial (enters_of Tryz.func113 (by kernel_rfl) rfl) hseq KX.trans (kx_put (w := u4) (fun b hb => (hYB b hb).2)) (Below.refl _ _) (fun _ => rfl)
    (fun pre W => ((∃ v, Boxed W b0 25 v ∧ W.ownsRow u4.heap.size 3 1 v (ek pre).length ((ek pre).map (Value.int .i64)) ∧ True) ∧ Below b0 w W) ∧ u4.heap.size ≤ W.heap.size)
    (fun _ _ _ => False)
    (OwnFrom.and (OwnFrom.and (Own.from (holdsRow_own u4.heap.size b0 25 3 1 (fun pre => (ek pre).length) (fun pre => (ek pre).map (Value.int .i64)) (fun _ _ => True)) _) (ownFrom_below hb0e (by omega))) (Own.from (fun _ _ _ _ hs hg _ => Nat.le_trans hs hg.size) _))
    (fun _ _ _ _ _ hs _ _ => hs)
    ⟨⟨⟨_, bU, World.ownsRow_nil _ _ _ _, trivial⟩, hB4⟩, Nat.le_refl _⟩
    (fun x => { tmps := #[.pointer (some ⟨s, 0, none⟩), undef, .slice none 0 0, .pointer (some ⟨b0, 0, none⟩), .int .i64 x.1, .pointer (some ⟨s, 0, none⟩), .pointer (some ⟨s, 0, none⟩), .pointer (some ⟨s, 0, none⟩), .pointer (some ⟨t, 0, none⟩), .func (.func 113) #[] #[.pointer (some ⟨bx, 0, none⟩)], .int .i64 x.1, .agg #[.int .i64 x.2.1, .int .i64 x.2.2.1, .int .i64 x.2.2.2.1, .int .u32 x.2.2.2.2], undef, undef, undef, undef, undef], defers := [] }) ?assign ?body ?done ?stop
  case assign =>
    intro l x W K hK
    gi_wp2
    exact hK
  case body =>
    rintro l pre x W ⟨⟨⟨v, hv, hrow, -⟩, hB⟩, hWu⟩ hlt
    have hc := hv.cell; have hps := unhide HN6; have hlow : ∀ {W' : World} {v' : Value} {k : Nat} {xs : List Value}, W'.ownsRow u4.heap.size 3 1 v' k xs → W'.ownsRow b0 3 1 v' k xs := fun h => ⟨h.1, h.2.imp id (fun ⟨g, cap, cur, e, hb, r⟩ => ⟨g, cap, cur, e, by omega, r⟩)⟩
    have hWs : b0 + 1 ≤ W.heap.size := hv.lt; clear hseq
    gi_wp2_with (gi_at_builtin; refine wpListIn_append_own _ rfl _ _ 25 rfl u4.heap.size 3 i0 (.int .i64 0) 1 8 Tryz.underlying25 hi hz0 hz1 hz2 rfl (by decide) _ _ _ rfl (hrow.alloc _) ⟨W.heap.size, 0, none⟩ 1 1 [.int .i64 x.1] rfl rfl (cell_one_new _ _ _) (by simp [Value.oneCell']) (by have := ek_len pre; unfold maxLen; omega) (by have := ek_len pre; omega) (by simp; omega) ?_; intro v' w1 hown' hgrow _; obtain ⟨g', cap', rfl⟩ := ownsRow_succ hown'; obtain ⟨hv1, hv2, hr2, hk2, hb2⟩ := hv.appended (n₀ := b0) (by decide) (hlow hrow) (by omega) (Nat.le_refl _) (hlow hown') hgrow; have hc1 := hv1.cell; have hf1 := hv1.frozen)
    have hrow' := hown'.kept (grownBy_setCell' w1 b0 (.slice (some ⟨g', 0, none⟩) ((ek pre).length + 1) cap')) (.inr (hv1.not_row (by decide) hown').symm)
    refine ⟨hk2.from _, fun b hb => ?_, ⟨⟨_, hv2, by rw [ek_snoc]; simpa using hrow', trivial⟩, hB.trans hb2⟩, ?_⟩
    · obtain ⟨y1, y2⟩ := hYB b hb; refine (heap_setCell_other _ _ _ _ (by show b ≠ b0; omega)).trans ((hgrow.block b (by simp; omega) (fun e => ?_)).trans (heap_alloc_old _ _ (by omega)))
      have := (hrow.lt b e.symm).1; omega
    · have h1 := hgrow.size; simp at h1 ⊢; omega
  case done =>
    rintro D ys W hD hys ⟨⟨⟨v, hv, hrow, -⟩, hB⟩, hWu⟩ hK
    have hc := hv.cell; obtain ⟨a5, n5, c5, e5⟩ : ∃ a n c, v = .slice a n c := by
      rcases hrow.2 with ⟨e, -⟩ | ⟨g, cap, cur, e, -⟩
      · exact ⟨_, _, _, e⟩
      · exact ⟨_, _, _, e⟩
    subst e5; clear hseq; have HEND : Hid (BRow w.heap.size (W.putObj D (.deferred none)) (.slice a5 n5 c5) (numsOf (fun _ => true) ps) ∧ Below w.heap.size w (W.putObj D (.deferred none))) := by
      rw [← unhide HE, ← unhide HBE]; have e1 : ek ys = R.map (·.1) := by rw [hys]; rfl
      rw [e1] at hrow; have h1 := ownsRow_putObj hrow (.deferred none) hK rfl; exact ⟨⟨h1.1, h1.2.imp id (fun ⟨g, cap, cur, e, hb, r⟩ => ⟨g, cap, cur, e, by omega, r⟩)⟩, hB.trans (belowK_b (w := u4) (by omega) W D _ _ hD hK rfl rfl)⟩
    have HK := hide hK; clear hK hrow hB hv hys
    go_wp2_with fail
    refine ⟨by simp, .inl ⟨_, _, rfl, run_takeDeferred (unhide HK), ?_⟩⟩
    exact ⟨_, results_tmp rfl _ _ _, _, rfl, by exact unhide HEND⟩
  case stop =>
    rintro D c pre W _ _ h _
    exact h.elim
end
end

section
open Go.RowKit Go.Maps
def TFit (w0 : World) (bb : Nat) (vv ev : Value) (rd wr : Int) (rw : Value) (ks0 : List Int) (W : World) : Prop := W.heap[bb]? = some (oG vv ev rd wr) ∧ Below w0.heap.size w0 W ∧ w0.heap.size ≤ bb ∧ NRow W rw ks0
theorem TFit.step {w0 W W' : World} {bb : Nat} {vv ev : Value} {rd wr : Int} {rw : Value} {ks0 : List Int} (h : TFit w0 bb vv ev rd wr rw ks0 W) (hb : Below W.heap.size W W') : TFit w0 bb vv ev rd wr rw ks0 W' :=
  ⟨(hb.block _ (Array.getElem?_eq_some_iff.1 h.1).1).trans h.1, h.2.1.trans (hb.mono h.2.1.size), h.2.2.1, nrow_below h.2.2.2 hb⟩
theorem TFit.cells {w0 W : World} {bb : Nat} {vv ev : Value} {rd wr : Int} {rw : Value} {ks0 : List Int} (h : TFit w0 bb vv ev rd wr rw ks0 W) : W.cell? ⟨bb, 0, none⟩ = some vv ∧ W.cell? ⟨bb, 1, none⟩ = some ev ∧ W.cell? ⟨bb, 2, none⟩ = some (.int .i64 rd) ∧ W.cell? ⟨bb, 3, none⟩ = some (.int .i64 wr) :=
  ⟨(cellsG h.1).1, (cellsG h.1).2.1, (cellsG h.1).2.2.1, (cellsG h.1).2.2.2.1⟩
theorem like_below {w w' : World} (h : Like w w') : Below w.heap.size w w' := h.below _
theorem tSame {w W : World} {bb : Nat} {vv ev rw : Value} {ks0 : List Int} {g : Gr} {v1 v2 : Value} {ks : List Int} (hT : TFit w bb vv ev g.rd g.wr rw ks0 W) (h1 : NRow W v1 ks) (h2 : NRow W v2 ks) (hl : ks.length ≤ 1000000) :
    Calls Tryz.prog 23 #[v1, v2] W fun e w' => e = .returned (.bool true) ∧ TFit w bb vv ev g.rd g.wr rw ks0 w' := by
  refine (refSame h1 h2 hl).mono ?_
  rintro e w' ⟨rfl, hh⟩
  exact ⟨by rw [decide_eq_true rfl], hT.step (like_below (unhide hh))⟩
theorem tSlice {W : World} {B : Nat} {v : Value} {ks : List Int} (h : BRow B W v ks) : ∃ a m k, v = .slice a m k := by
  obtain ⟨a, k, e, -⟩ := brow_shape h; exact ⟨a, _, k, e⟩
section
variable [Inhabited EntI] {n : Nat} {w : World} {X : Sto} {g : Gr} {vv ev : Value} {vs : List Int} {es : List EdgeV} {bb : Nat} {W : World} {rw : Value} {ks0 : List Int}
theorem tVerts (h : Game n X g vv ev vs es w) (hT : TFit w bb vv ev g.rd g.wr rw ks0 W) :
    Calls Tryz.prog 54 #[.pointer (some ⟨X.s, 0, none⟩)] W fun e w' => ∃ a m k, e = .returned (.slice a m k) ∧ NRow w' (.slice a m k) vs ∧ TFit w bb vv ev g.rd g.wr rw ks0 w' := by
  refine (vertsS (h.st.below hT.2.1)).mono ?_
  rintro e w' ⟨v, us, rfl, hh⟩
  obtain ⟨r1, r2, r3, -, r5⟩ := unhide hh; have hu : us = vs := rising_ext linN r2 h.rel.rv (fun k => by
    rw [r3, ← h.rel.V]
    cases e : g.V k with
    | true => simp [h.sh.some_ e]
    | false => simp [h.sh.none_ e])
  subst hu; obtain ⟨a, m, k, e⟩ := tSlice r1; subst e; exact ⟨a, m, k, rfl, brow_at0 r1, hT.step r5⟩
theorem tEdges (h : Game n X g vv ev vs es w) (hT : TFit w bb vv ev g.rd g.wr rw ks0 W) :
    Calls Tryz.prog 55 #[.pointer (some ⟨X.s, 0, none⟩)] W fun e w' => ∃ a m k, e = .returned (.slice a m k) ∧ NRow w' (.slice a m k) (eAll es) ∧ TFit w bb vv ev g.rd g.wr rw ks0 w' := by
  refine (edgesS (h.st.below hT.2.1)).mono ?_
  rintro e w' ⟨v, rfl, hh⟩
  obtain ⟨r1, r5⟩ := unhide hh; rw [h.sh.ps, ← h.rel.all] at r1; obtain ⟨a, m, k, e⟩ := tSlice r1; subst e; exact ⟨a, m, k, rfl, brow_at0 r1, hT.step r5⟩
theorem tREdges (h : Game n X g vv ev vs es w) (hT : TFit w bb vv ev g.rd g.wr rw ks0 W) {v1 : Value} {ks : List Int} (h1 : NRow W v1 ks) :
    Calls Tryz.prog 56 #[.agg #[vv, ev, .int .i64 g.rd, .int .i64 g.wr]] W fun e w' => ∃ a m k, e = .returned (.slice a m k) ∧ NRow w' (.slice a m k) (eAll es) ∧ NRow w' v1 ks ∧ TFit w bb vv ev g.rd g.wr rw ks0 w' := by
  refine (refEdges (grow_below h.erow hT.2.1) (by have := h.elen; omega)).mono ?_
  rintro e w' ⟨v, rfl, hh⟩
  obtain ⟨r1, r5⟩ := unhide hh; obtain ⟨a, m, k, e⟩ := tSlice r1; subst e; exact ⟨a, m, k, rfl, r1, nrow_below h1 r5, hT.step r5⟩
theorem tFree (h : Game n X g vv ev vs es w) : ∃ r : Int, (∀ rw ks0 W, TFit w bb vv ev g.rd g.wr rw ks0 W → Calls Tryz.prog 57 #[.pointer (some ⟨X.s, 0, none⟩)] W fun e w' => e = .returned (.int .i64 r) ∧ TFit w bb vv ev g.rd g.wr rw ks0 w') ∧ ∀ rw ks0 W, TFit w bb vv ev g.rd g.wr rw ks0 W → Calls Tryz.prog 58 #[.agg #[vv, ev, .int .i64 g.rd, .int .i64 g.wr]] W fun e w' => e = .returned (.int .i64 r) ∧ TFit w bb vv ev g.rd g.wr rw ks0 w' := by
  obtain ⟨r, hr⟩ : ∃ r : Int, ∀ r', (FreeIs g.ps 1024 r' → r' = r) ∧ (RFree es r' → r' = r) := by
    by_cases hf : ∀ j : Nat, j < 1024 → HasNo es ((j : Int) + 1)
    · refine ⟨0, fun r' => ⟨fun hF => free_none (fun j hj => (h.rel.noN j).1 (hf j hj)) h.plen hF, fun hF => ?_⟩⟩
      rcases hF with ⟨j, hj, -, -, hn⟩ | ⟨e, -⟩
      · exact absurd (hf j hj) hn
      · exact e
    · obtain ⟨i, hi, hL⟩ := h.least hf; refine ⟨(i : Int) + 1, fun r' => ⟨fun hF => free_of hL hi h.plen hF, fun hF => ?_⟩⟩
      rcases hF with ⟨j, hj, e, h1, hn⟩ | ⟨-, h1⟩
      · have : Least g.ps j := ⟨fun m hm => (h.rel.noN m).1 (h1 m hm), fun a ha => hn ((h.rel.noN j).2 ⟨a, ha⟩)⟩
        rw [e, this.one hL]
      · obtain ⟨a, ha⟩ := (h.rel.noN i).1 (h1 i hi); exact absurd ha (hL.2 a)
  refine ⟨r, fun rw ks0 W hT => ?_, fun rw ks0 W hT => ?_⟩
  · refine (freeS (h.st.below hT.2.1)).mono ?_
    rintro e w' ⟨r', rfl, hh⟩
    obtain ⟨r1, q, rfl⟩ := unhide hh; rw [h.sh.ps] at r1; exact ⟨by rw [(hr r').1 r1], hT.step (below_drewN (Below.refl _ _) q)⟩
  · refine (refFree (grow_below h.erow hT.2.1) (by have := h.elen; omega) (tSlice h.vrow)).mono ?_
    rintro e w' ⟨r', rfl, hh⟩
    obtain ⟨r1, r2⟩ := unhide hh; exact ⟨by rw [(hr r').2 r1], hT.step r2⟩
theorem tHas (h : Game n X g vv ev vs es w) (hT : TFit w bb vv ev g.rd g.wr rw ks0 W) (k : Int) (hk : okN k) :
    Calls Tryz.prog 18 #[.pointer (some ⟨X.s, 0, none⟩), .int .i64 k] W fun e w' => e = .returned (.bool (g.V k)) ∧ TFit w bb vv ev g.rd g.wr rw ks0 w' := by
  refine (hasS k (h.st.below hT.2.1) hk).mono ?_
  rintro e w' ⟨rfl, rfl⟩
  exact ⟨by rw [h.sh.V], hT⟩
theorem tRHas (h : Game n X g vv ev vs es w) (hT : TFit w bb vv ev g.rd g.wr rw ks0 W) (k : Int) :
    Calls Tryz.prog 19 #[.agg #[vv, ev, .int .i64 g.rd, .int .i64 g.wr], .int .i64 k] W fun e w' => e = .returned (.bool (g.V k)) ∧ TFit w bb vv ev g.rd g.wr rw ks0 w' := by
  refine (refHas k (nrow_below h.vrow hT.2.1) (by have := h.vlen; omega)).mono ?_
  rintro e w' ⟨rfl, hb⟩
  exact ⟨by rw [h.rel.has], hT.step hb⟩
theorem tOut (h : Game n X g vv ev vs es w) (hT : TFit w bb vv ev g.rd g.wr rw ks0 W) (k : Int) (hk : okN k) :
    Calls Tryz.prog 59 #[.pointer (some ⟨X.s, 0, none⟩), .int .i64 k] W fun e w' => ∃ a m k', e = .returned (.slice a m k') ∧ NRow w' (.slice a m k') (eOut es k) ∧ TFit w bb vv ev g.rd g.wr rw ks0 w' := by
  rw [h.rel.out]
  cases hv : g.V k with
  | false =>
    refine (outNo k (h.st.below hT.2.1) hk (h.sh.none_ hv)).mono ?_
    rintro e w' ⟨rfl, rfl⟩
    exact ⟨none, 0, 0, rfl, by rw [(h.rel.outs_no hv).1]; exact ⟨rfl, .inl ⟨rfl, rfl⟩⟩, hT⟩
  | true =>
    refine (outS (h.st.below hT.2.1) (h.sh.some_ hv)).mono ?_
    rintro e w' ⟨v, rfl, hh⟩
    obtain ⟨r1, r5⟩ := unhide hh; rw [h.sh.ps] at r1; obtain ⟨a, m, k, e⟩ := tSlice r1; subst e; exact ⟨a, m, k, rfl, brow_at0 r1, hT.step r5⟩
theorem tIn (h : Game n X g vv ev vs es w) (hT : TFit w bb vv ev g.rd g.wr rw ks0 W) (k : Int) (hk : okN k) :
    Calls Tryz.prog 60 #[.pointer (some ⟨X.s, 0, none⟩), .int .i64 k] W fun e w' => ∃ a m k', e = .returned (.slice a m k') ∧ NRow w' (.slice a m k') (eIn es k) ∧ TFit w bb vv ev g.rd g.wr rw ks0 w' := by
  rw [h.rel.inn]
  cases hv : g.V k with
  | false =>
    refine (innNo k (h.st.below hT.2.1) hk (h.sh.none_ hv)).mono ?_
    rintro e w' ⟨rfl, rfl⟩
    exact ⟨none, 0, 0, rfl, by rw [(h.rel.outs_no hv).2]; exact ⟨rfl, .inl ⟨rfl, rfl⟩⟩, hT⟩
  | true =>
    refine (innS (h.st.below hT.2.1) (h.sh.some_ hv)).mono ?_
    rintro e w' ⟨v, rfl, hh⟩
    obtain ⟨r1, r5⟩ := unhide hh; rw [h.sh.ps] at r1; obtain ⟨a, m, k, e⟩ := tSlice r1; subst e; exact ⟨a, m, k, rfl, brow_at0 r1, hT.step r5⟩
theorem tROut (h : Game n X g vv ev vs es w) (hT : TFit w bb vv ev g.rd g.wr rw ks0 W) (k : Int) {v1 : Value} {ks : List Int} (h1 : NRow W v1 ks) :
    Calls Tryz.prog 37 #[.agg #[vv, ev, .int .i64 g.rd, .int .i64 g.wr], .int .i64 k] W fun e w' => ∃ a m k', e = .returned (.slice a m k') ∧ NRow w' (.slice a m k') (eOut es k) ∧ NRow w' v1 ks ∧ TFit w bb vv ev g.rd g.wr rw ks0 w' := by
  refine (refOut k (grow_below h.erow hT.2.1) (by have := h.elen; omega)).mono ?_
  rintro e w' ⟨v, rfl, hh⟩
  obtain ⟨r1, r5⟩ := unhide hh; obtain ⟨a, m, k, e⟩ := tSlice r1; subst e; exact ⟨a, m, k, rfl, r1, nrow_below h1 r5, hT.step r5⟩
theorem tRIn (h : Game n X g vv ev vs es w) (hT : TFit w bb vv ev g.rd g.wr rw ks0 W) (k : Int) {v1 : Value} {ks : List Int} (h1 : NRow W v1 ks) :
    Calls Tryz.prog 61 #[.agg #[vv, ev, .int .i64 g.rd, .int .i64 g.wr], .int .i64 k] W fun e w' => ∃ a m k', e = .returned (.slice a m k') ∧ NRow w' (.slice a m k') (eIn es k) ∧ NRow w' v1 ks ∧ TFit w bb vv ev g.rd g.wr rw ks0 w' := by
  refine (refIn k (grow_below h.erow hT.2.1) (by have := h.elen; omega)).mono ?_
  rintro e w' ⟨v, rfl, hh⟩
  obtain ⟨r1, r5⟩ := unhide hh; obtain ⟨a, m, k, e⟩ := tSlice r1; subst e; exact ⟨a, m, k, rfl, r1, nrow_below h1 r5, hT.step r5⟩
end
end

end Go.Proofs.YtagibmgbjhemkaaGreat

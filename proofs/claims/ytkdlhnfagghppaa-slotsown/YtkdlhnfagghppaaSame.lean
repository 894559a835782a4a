/- same: the iterator gives what the reference says. -/
import Derived.Test.YtkdlhnfagghppaaIter
namespace Go.Proofs.Ytkdlhnfagghppaa
open Go.RowKit Go.Maps

theorem ris_prefix (ps : List (Int × Bool)) : ∀ m k, k ≤ m → ris ps k <+: ris ps m
  | 0, k, h => by rw [show k = 0 by omega]; exact List.prefix_refl _
  | m + 1, k, h => by
    rcases Nat.lt_or_ge m k with h1 | h1
    · rw [show k = m + 1 by omega]; exact List.prefix_refl _
    · refine (ris_prefix ps m k h1).trans ?_
      simp only [ris]
      split
      · exact List.prefix_append _ _
      · exact List.prefix_refl _
theorem ris_tk (ps : List (Int × Bool)) : ∀ k, k ≤ ps.length → (ris ps k).length = tk (ps.take k)
  | 0, _ => by simp [ris, tk]
  | k + 1, h => by
    obtain ⟨a, b, hp⟩ := at_of_lt (ps := ps) (i := k) (by omega)
    have ih := ris_tk ps k (by omega)
    have ht : ps.take (k + 1) = ps.take k ++ [(a, b)] := by rw [List.take_add_one, hp]; rfl
    rw [ht]
    cases b with
    | true => rw [ris_in hp]; simp [tk] at ih ⊢; omega
    | false => rw [ris_out (fun a e => by rw [hp] at e; cases e)]; simp [tk] at ih ⊢; omega
theorem ris_tk_all (ps : List (Int × Bool)) : (ris ps ps.length).length = tk ps := by
  rw [ris_tk ps _ (Nat.le_refl _), List.take_length]

theorem all_stops (n : Nat) (hn : 1 ≤ n) (bx : Nat) (v : Value) (ps : List (Int × Bool)) (hn6 : ps.length ≤ 65536) (w : World) (hBs : w.cell? ⟨bx, 0, none⟩ = some v) (hrow : w.ownsRow 0 67 2 v ps.length (encN ps)) :
    SeqStopsK Fence.wide n Try.prog 45 #[.pointer (some ⟨bx, 0, none⟩)] (fun x : Int × Int => #[Value.int .i64 x.1, Value.int .i64 x.2]) (KX (YB bx v)) (fun ys => ys = ris ps ps.length) (fun pre => ∃ k, k ≤ ps.length ∧ pre = ris ps k) ps.length w := fun l J Jx W hW hJ _ hY h0 =>
  all1_in n hn l bx v ps hn6 J Jx W hJ hY ((hW.cell (p := ⟨bx, 0, none⟩) (World.block_lt_of_cell? _ _ hBs)).trans hBs) (row_kept2 hrow (fun b hb => hW.block b (hrow.lt b hb).2)) h0

theorem prefix_snoc {α : Type} {l r : List α} {x : α} (h : l <+: r) (hx : r[l.length]? = some x) : l ++ [x] <+: r := by
  obtain ⟨t, rfl⟩ := h
  cases t with
  | nil => simp at hx
  | cons y t =>
    simp at hx
    subst hx
    exact ⟨t, by simp⟩
theorem snoc_prefix {α : Type} {l r : List α} {x : α} (h : l ++ [x] <+: r) : r[l.length]? = some x := by
  obtain ⟨t, rfl⟩ := h
  simp

theorem kx_put {bx : Nat} {v : Value} {w : World} (h : ∀ b, YB bx v b → b < w.heap.size) (W : World) (l : Nat) (o o' : Obj) (hl : w.heap.size ≤ l) (_ : W.heap[l]? = some o) (_ : o.isCells = false) (_ : o.isWalk = false) : KX (YB bx v) W (W.putObj l o') := fun b hb =>
  World.putObj_heap_other (by have := h b hb; omega)

attribute [local go_sem] Oper.semAt_some

set_option maxHeartbeats 4000000 in
set_option maxRecDepth 100000 in
theorem same_any [Inhabited EntI] {B : Nat} {w0 w : World} {t n : Nat} {most : Int} {ps : List (Int × Bool)} {v : Value} {its : List (Int × Int)} (h : LiveN B w0 t most ps n w) (hrow : w.ownsRow 0 47 2 v its.length (enc .i64 its)) (hrel : Rel ps its) (hL : its.length ≤ 1000000) :
    Calls Try.prog 12 #[.pointer (some ⟨t, 0, none⟩), .agg #[.int .i64 most, v]] w fun e w' => e = .returned (.bool true) ∧ Below w.heap.size w w' := by
  have hp6 : ps.length ≤ 65536 := by have := h.fits; omega
  have CR : Hid (∀ u, Below w.heap.size w u → Calls Try.prog 19 #[.agg #[.int .i64 most, v]] u fun e w' => ∃ v', e = .returned v' ∧ Hid (w'.ownsRow u.heap.size 47 2 v' (ris ps ps.length).length (enc .i64 (ris ps ps.length)) ∧ Below u.heap.size u w')) := fun u hu => refRising most u (items_below hrow hu) hL hrel hp6
  have CA : Hid (∀ u, Below w.heap.size w u → Calls Try.prog 18 #[.pointer (some ⟨t, 0, none⟩)] u fun e w' => ∃ (bx : Nat) (pv : Value), e = .returned (.func (.func 45) #[] #[.pointer (some ⟨bx, 0, none⟩)]) ∧ Hid (w'.cell? ⟨bx, 0, none⟩ = some pv ∧ w'.ownsRow u.heap.size 67 2 pv ps.length (encN ps) ∧ u.heap.size ≤ bx ∧ bx < w'.heap.size ∧ Below u.heap.size u w')) := fun u hu => allN (h.step hu)
  have CL : Hid (∀ u, Below w.heap.size w u → Calls Try.prog 11 #[.pointer (some ⟨t, 0, none⟩)] u fun e w' => e = .returned (.int .i64 (ris ps ps.length).length) ∧ ∃ q, w' = u.drewN q) := fun u hu => by rw [ris_tk_all]; exact lenLN (h.step hu)
  have HP6 := hide hp6
  have hR6 : (ris ps ps.length).length ≤ 65536 := Nat.le_trans (ris_length ps _) hp6
  have hb2 : Below w.heap.size w ((w.alloc (.cells #[.int .i64 most, v] 27)).alloc (.cells #[.bool false] 4)) := ((Below.refl _ _).alloc (Nat.le_refl _) _).alloc (by simp) _
  have a0 : ((w.alloc (.cells #[.int .i64 most, v] 27)).alloc (.cells #[.bool false] 4)).cell? ⟨w.heap.size, 0, none⟩ = some (.int .i64 most) := cell_made _ (box2 w (.int .i64 most) v 27).1
  have a1 : ((w.alloc (.cells #[.int .i64 most, v] 27)).alloc (.cells #[.bool false] 4)).cell? ⟨w.heap.size, 1, none⟩ = some v := cell_made _ (box2 w (.int .i64 most) v 27).2.1
  have hres : ((w.alloc (.cells #[.int .i64 most, v] 27)).alloc (.cells #[.bool false] 4)).heap[w.heap.size + 1]? = some (.cells #[.bool false] 4 (0, 0)) := heap_alloc2_new _ _ _
  have HB2 := hide hb2
  have HRES := hide hres
  obtain ⟨a, c, rfl⟩ := item_shape hrow
  generalize hLL : its.length = L at *
  clear h hrow hrel hL hp6 hb2 hres hLL
  refine (callsIn_wide (n := 5)).1 ?_
  refine callsIn_of_wp_marks Try.func12 rfl trivial ?_ rfl
  simp only [Try.ntmps12, List.size_toArray, List.length_cons, List.length_nil, Nat.reduceAdd, Nat.reduceSub, Array.replicate_succ, Array.replicate_zero, List.push_toArray, List.append_toArray, List.nil_append, List.cons_append]
  refine wpIn_wide.2 ?_
  go_upto_region 1 with fail
  generalize ((w.alloc (.cells #[.int .i64 most, .slice a L c] 27)).alloc (.cells #[.bool false] 4)) = W2 at *
  have C1 := hide (unhide CR W2 (unhide HB2))
  clear CR
  go_wp2_with fail
  refine (unhide C1).mono ?_
  rintro e u1 ⟨v1, rfl, h1⟩
  obtain ⟨R1, b1⟩ := unhide h1
  obtain ⟨a1', c1', rfl⟩ := item_shape (items_kept R1 (fun _ _ => rfl))
  have hbU : Below w.heap.size w ((u1.alloc (.cells #[.slice a1' (ris ps ps.length).length c1'] 25)).alloc (.cells #[.int .i64 0] 3)) := ((unhide HB2).trans (b1.mono (unhide HB2).size)).trans ((((Below.refl u1.heap.size u1).alloc (Nat.le_refl _) _).alloc (by simp) _).mono (Nat.le_trans (unhide HB2).size b1.size))
  have C2 := hide (unhide CA _ hbU)
  have HBU := hide hbU
  have HR1 := hide R1
  have Hb1 := hide b1
  clear C1 h1 CA R1 b1 hbU
  go_wp2_with fail
  refine (unhide C2).mono ?_
  rintro e u4 ⟨bx, pv, rfl, h4⟩
  clear C2
  go_wp2_with fail
  obtain ⟨hbx, hprow, hbx1, hbx2, hb4⟩ := unhide h4
  have hsU : ((u1.alloc (.cells #[.slice a1' (ris ps ps.length).length c1'] 25)).alloc (.cells #[.int .i64 0] 3)).heap.size = u1.heap.size + 2 := by simp
  rw [hsU] at hprow hbx1 hb4
  have hs5 : w.heap.size + 2 ≤ u1.heap.size := by
    have h5 := (unhide Hb1).size
    have h6 := (Array.getElem?_eq_some_iff.1 (unhide HRES)).1
    omega
  have e5 := heap_alloc2_old u1 (.cells #[.slice a1' (ris ps ps.length).length c1'] 25) (.cells #[.int .i64 0] 3)
  have e6 := heap_alloc2_new u1 (.cells #[.slice a1' (ris ps ps.length).length c1'] 25) (.cells #[.int .i64 0] 3)
  have f5 := (hb4.block u1.heap.size (by omega)).trans e5
  have f6 := (hb4.block (u1.heap.size + 1) (by omega)).trans e6
  have f1 : u4.heap[w.heap.size + 1]? = some (.cells #[.bool false] 4 (0, 0)) := by
    rw [hb4.block (w.heap.size + 1) (by omega), heap_alloc_old _ _ (by simp; omega), heap_alloc_old _ _ (by omega), (unhide Hb1).block _ (Array.getElem?_eq_some_iff.1 (unhide HRES)).1]
    exact unhide HRES
  have r0 : u4.cell? ⟨w.heap.size + 1, 0, none⟩ = some (.bool false) := by rw [cell_of_row _ _ _ _ _ _ f1]; rfl
  have rf : u4.frozen? ⟨w.heap.size + 1, 0, none⟩ = false := frozen_of_row _ _ _ _ _ f1
  have l0 : u4.cell? ⟨u1.heap.size, 0, none⟩ = some (.slice a1' (ris ps ps.length).length c1') := by rw [cell_of_row _ _ _ _ _ _ f5]; rfl
  have n0 : u4.cell? ⟨u1.heap.size + 1, 0, none⟩ = some (.int .i64 0) := by rw [cell_of_row _ _ _ _ _ _ f6]; rfl
  have nf : u4.frozen? ⟨u1.heap.size + 1, 0, none⟩ = false := frozen_of_row _ _ _ _ _ f6
  have hB4 : Below w.heap.size w u4 := (unhide HBU).trans (hb4.mono (by omega))
  have hsz4 := hb4.size
  rw [hsU] at hsz4
  have HCW : Hid (∃ g1, (∀ (j : Nat) (k x : Int), (ris ps ps.length)[j]? = some (k, x) → a1' = some ⟨g1, 0, none⟩ ∧ u4.cell? ⟨g1, j * 2, none⟩ = some (.int .i64 k) ∧ u4.cell? ⟨g1, j * 2 + 1, none⟩ = some (.int .i64 x)) ∧ g1 < u1.heap.size + 1) := by
    rcases (unhide HR1).2 with ⟨-, h3⟩ | ⟨g, cap, cur, e, -, hgg, -⟩
    · refine ⟨0, fun j k x hj => ?_, by omega⟩
      have := lt_of_at hj; omega
    · have hgl := (Array.getElem?_eq_some_iff.1 hgg).1
      refine ⟨g, fun j k x hj => ?_, by omega⟩
      simp only [Value.slice.injEq, true_and] at e
      obtain ⟨rfl, rfl⟩ := e
      obtain ⟨j1, j2, j3⟩ := at_item hj
      have hoc := owns_cells (unhide HR1) j j1
      rw [j2, j3] at hoc
      have kp : ∀ o, u4.cell? ⟨g, o, none⟩ = u1.cell? ⟨g, o, none⟩ := fun o => cell_of_heap (x := ⟨g, o, none⟩) (by
        show u4.heap[g]? = u1.heap[g]?
        rw [hb4.block g (by omega), heap_alloc_old _ _ (by simp; omega), heap_alloc_old _ _ (by omega)])
      exact ⟨rfl, (kp _).trans hoc.1, (kp _).trans hoc.2⟩
  obtain ⟨g1, hcw, hg1⟩ := unhide HCW
  have hYB : ∀ b, YB bx pv b → u1.heap.size + 2 ≤ b ∧ b < u4.heap.size := fun b hb => by
    rcases hb with rfl | hb
    · exact ⟨hbx1, hbx2⟩
    · exact hprow.lt b hb
  have hseq := all_stops 4 (by omega) bx pv ps (unhide HP6) u4 hbx (row_kept2 (w := u4) ⟨hprow.1, hprow.2.imp id (fun ⟨g, cap, cur, e, _, rest⟩ => ⟨g, cap, cur, e, Nat.zero_le _, rest⟩)⟩ (fun _ _ => rfl))
  clear h4 hbx hprow hbx1 hbx2 hb4 e5 e6 f5 f6 f1 HCW HR1 Hb1 HBU HRES HB2 hsU a0 a1
  have HRP : Hid (∀ k, k ≤ ps.length → ris ps k <+: ris ps ps.length) := fun k hk => ris_prefix ps _ _ hk
  generalize ris ps ps.length = R at *
  generalize u1.heap.size = b5 at *
  refine (wpIn_wide (n := 5)).1 ?_
  refine wpIn_rangeFunc_ownF (F := Fence.wide) (n := 5) rfl (by omega) (gf := 45) (lb := #[.pointer (some ⟨bx, 0, none⟩)]) rfl trivial (enters_of Try.func45 (by kernel_rfl) rfl) hseq KX.trans (kx_put (w := u4) (fun b hb => (hYB b hb).2)) (Below.refl _ _) (fun _ => rfl)
    (fun pre W => ((W.cell? ⟨w.heap.size + 1, 0, none⟩ = some (.bool false) ∧ W.frozen? ⟨w.heap.size + 1, 0, none⟩ = false) ∧ W.cell? ⟨b5, 0, none⟩ = some (.slice a1' R.length c1') ∧ (W.cell? ⟨b5 + 1, 0, none⟩ = some (.int .i64 pre.length) ∧ W.frozen? ⟨b5 + 1, 0, none⟩ = false) ∧ (∀ (j : Nat) (k x : Int), R[j]? = some (k, x) → a1' = some ⟨g1, 0, none⟩ ∧ W.cell? ⟨g1, j * 2, none⟩ = some (.int .i64 k) ∧ W.cell? ⟨g1, j * 2 + 1, none⟩ = some (.int .i64 x)) ∧ pre <+: R) ∧ Below w.heap.size w W)
    (fun _ pre _ => ¬ pre <+: R)
    (OwnFrom.and (Own.from (fun s A B row hs hg hr => ⟨⟨cell_kept hs.1.1 hg hr, (frozen_kept hs.1.1 hg hr).trans hs.1.2⟩, cell_kept hs.2.1 hg hr, ⟨cell_kept hs.2.2.1.1 hg hr, (frozen_kept hs.2.2.1.1 hg hr).trans hs.2.2.1.2⟩, fun j k x hj => ⟨(hs.2.2.2.1 j k x hj).1, cell_kept (hs.2.2.2.1 j k x hj).2.1 hg hr, cell_kept (hs.2.2.2.1 j k x hj).2.2 hg hr⟩, hs.2.2.2.2⟩) _) (ownFrom_below (Nat.le_refl _) hB4.size))
    (fun _ _ _ _ _ hs _ _ => hs)
    ⟨⟨⟨r0, rf⟩, l0, ⟨n0, nf⟩, hcw, List.nil_prefix⟩, hB4⟩
    (fun x => { tmps := #[.pointer (some ⟨t, 0, none⟩), .agg #[.int .i64 most, .slice a L c], undef, .pointer (some ⟨w.heap.size, 0, none⟩), .pointer (some ⟨w.heap.size + 1, 0, none⟩), .pointer (some ⟨b5, 0, none⟩), .pointer (some ⟨b5 + 1, 0, none⟩), .int .i64 x.1, .int .i64 x.2, .agg #[.int .i64 most, .slice a L c], .slice a1' R.length c1', .pointer (some ⟨t, 0, none⟩), .func (.func 45) #[] #[.pointer (some ⟨bx, 0, none⟩)], .int .i64 x.1, .int .i64 x.2, undef, undef, undef, undef, undef, undef, undef, undef, undef, undef, undef, undef, undef, undef, undef, undef, undef, undef, undef, undef, undef, undef, undef, undef, undef, undef, undef, undef, undef, undef, undef, undef, undef, undef], defers := [] }) ?assign ?body ?done ?stop
  case assign =>
    intro l x W K hK
    gi_wp2
    exact hK
  case body =>
    rintro l pre ⟨xi, xx⟩ W ⟨⟨⟨r0, rf⟩, l0, ⟨n0, nf⟩, hc, hpre⟩, hB⟩ _
    have HC := hide hc
    have HPRE := hide hpre
    have HB := hide hB
    have hRz : (R.length : Int) ≤ 65536 := by omega
    clear hc hpre hB hcw hseq CL
    by_cases hlen : pre.length < R.length
    · have hz : ¬ (R.length : Int) ≤ (pre.length : Int) := by omega
      have hz2 : (pre.length : Int) < (R.length : Int) := by omega
      obtain ⟨k0, x0, hR0⟩ : ∃ k0 x0, R[pre.length]? = some (k0, x0) := ⟨R[pre.length].1, R[pre.length].2, by rw [List.getElem?_eq_getElem hlen]⟩
      obtain ⟨rfl, c0, c1⟩ := unhide HC _ _ _ hR0
      have HR0 := hide hR0
      clear hR0
      by_cases e1 : k0 = xi
      · by_cases e2 : x0 = xx
        · subst e1 e2
          have gb1 : ¬ b5 + 1 = w.heap.size + 1 := by omega
          have gb2 : ¬ b5 + 1 = b5 := by omega
          have gb3 : ¬ b5 + 1 = g1 := by omega
          gi_wp2
          refine ⟨KeepsOthers.setCell _ _ _, fun b hb => heap_setCell_other _ _ _ _ (by have := (hYB b hb).1; show b ≠ b5 + 1; omega), ⟨⟨(World.cell?_setCell_other _ _ _ _ (by first | (simp; omega) | simp)).trans r0, (World.frozen?_setCell _ _ _ _).trans rf⟩, (World.cell?_setCell_other _ _ _ _ (by simp)).trans l0, ⟨?_, (World.frozen?_setCell _ _ _ _).trans nf⟩, fun j k x hj => ⟨(World.cell?_setCell_other _ _ _ _ (by first | (simp; omega) | simp)).trans (unhide HC j k x hj).2.1, (World.cell?_setCell_other _ _ _ _ (by first | (simp; omega) | simp)).trans (unhide HC j k x hj).2.2⟩, ?_⟩, (unhide HB).setCell (p := ⟨b5 + 1, 0, none⟩) (by show w.heap.size ≤ b5 + 1; omega) _⟩
          · rw [World.cell?_setCell_same _ _ _ n0]; simp
          · exact prefix_snoc (unhide HPRE) (unhide HR0)
        · have e3 : (x0 == xx) = false := by simpa using e2
          have HN : Hid (¬ pre ++ [(k0, xx)] <+: R) := fun hp => e2 (by have := snoc_prefix hp; rw [unhide HR0] at this; simpa using this)
          subst e1
          gi_wp2
          exact ⟨KeepsOthers.setCell _ _ _, unhide HN⟩
      · have e3 : (k0 == xi) = false := by simpa using e1
        have HN : Hid (¬ pre ++ [(xi, xx)] <+: R) := fun hp => e1 (by have := snoc_prefix hp; rw [unhide HR0] at this; simp at this; exact this.1)
        gi_wp2
        exact ⟨KeepsOthers.setCell _ _ _, unhide HN⟩
    · have hz : (R.length : Int) ≤ (pre.length : Int) := by omega
      have HN : Hid (¬ pre ++ [(xi, xx)] <+: R) := fun hp => by have := hp.length_le; simp at this; omega
      gi_wp2
      exact ⟨KeepsOthers.setCell _ _ _, unhide HN⟩
  case done =>
    rintro D xs W hD hxs ⟨⟨⟨r0, rf⟩, l0, ⟨n0, nf⟩, -, -⟩, hB⟩ hK
    rw [hxs] at n0
    have C : Hid (∀ z, Calls Try.prog 11 #[.pointer (some ⟨t, 0, none⟩)] (W.drewN z) fun e w' => e = .returned (.int .i64 R.length) ∧ (w'.cell? ⟨b5 + 1, 0, none⟩ = some (.int .i64 R.length) ∧ w'.cell? ⟨b5, 0, none⟩ = some (.slice a1' R.length c1')) ∧ (w'.cell? ⟨w.heap.size + 1, 0, none⟩ = some (.bool false) ∧ ∀ o, o = 0 → w'.frozen? ⟨w.heap.size + 1, o, none⟩ = false) ∧ Hid (Below w.heap.size w w' ∧ w'.heap[D]? = some (.deferred (some [])))) := fun z => by
      refine (unhide CL _ (below_drewN hB z)).mono ?_
      rintro e w' ⟨he, q, rfl⟩
      exact ⟨he, ⟨n0, l0⟩, ⟨r0, fun o ho => by subst ho; exact rf⟩, below_drewN (below_drewN hB z) q, hK⟩
    have hDs : D ≠ w.heap.size + 1 := by omega
    have gq1 : ¬ b5 = w.heap.size + 1 := by omega
    have gq2 : ¬ b5 = w.heap.size := by omega
    have gq3 : ¬ w.heap.size + 1 = b5 := by omega
    have gq4 : ¬ w.heap.size = b5 := by omega
    have rf2 : ∀ o, o = 0 → W.frozen? ⟨w.heap.size + 1, o, none⟩ = false := fun o ho => by subst ho; exact rf
    have HD := hide hDs
    clear hB hK CL hcw hseq hDs
    go_upto_region 9 with fail
    go_region_held3 (fun u => u.cell? ⟨b5 + 1, 0, none⟩ = some (.int .i64 R.length) ∧ u.cell? ⟨b5, 0, none⟩ = some (.slice a1' R.length c1')) (first | exact ⟨dd0, dd1⟩ | exact ⟨n0, l0⟩ | exact ⟨(World.cell?_setCell_other _ _ _ _ (by simp; omega)).trans dd0, (World.cell?_setCell_other _ _ _ _ (by simp; omega)).trans dd1⟩ | (go_keep; done) | ((try dsimp only); (repeat' apply And.intro) <;> first | go_keep | assumption)) ((go_at_call 11; refine (unhide C _).mono ?_; rintro e w' ⟨rfl, ⟨dd0, dd1⟩, ⟨r0, rf2⟩, hE⟩; have rf := rf2 0 rfl))
    have HK : Hid ((w'.setCell ⟨w.heap.size + 1, 0, none⟩ (.bool true)).heap[D]? = some (.deferred (some [])) ∧ Below w.heap.size w (w'.setCell ⟨w.heap.size + 1, 0, none⟩ (.bool true)) ∧ (w'.setCell ⟨w.heap.size + 1, 0, none⟩ (.bool true)).cell? ⟨w.heap.size + 1, 0, none⟩ = some (.bool true)) :=
      ⟨(heap_setCell_other _ _ _ _ (unhide HD)).trans (unhide hE).2, (unhide hE).1.setCell (p := ⟨w.heap.size + 1, 0, none⟩) (by show w.heap.size ≤ w.heap.size + 1; omega) _, World.cell?_setCell_same _ _ _ r0⟩
    generalize (w'.setCell ⟨w.heap.size + 1, 0, none⟩ (.bool true)) = wz at *
    go_wp2_with fail
    obtain ⟨k1, k2, k3⟩ := unhide HK
    refine ⟨by simp, .inl ⟨_, _, rfl, run_takeDeferred k1, ?_⟩⟩
    have hc5 := cell_kept k3 (grownBy_putObj' _ D (.deferred none)) (fun r e => by cases e; exact ⟨_, k1, rfl⟩)
    refine ⟨.bool true, ?_, rfl, k2.trans (belowK_b (w := u4) hB4.size _ D _ _ hD k1 rfl rfl)⟩
    simp [results, Try.f12, go_sem, hc5]
  case stop =>
    rintro D c pre W _ ⟨k, hk, rfl⟩ h _
    exact absurd (unhide HRP k hk) h
end Go.Proofs.Ytkdlhnfagghppaa

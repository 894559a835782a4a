/- Heads: the walk. -/
import Derived.Test.YtfhidghjmookhaaHeadsN
namespace Go.Proofs.Ytfhidghjmookhaa
open Go.RowKit Go.Maps

/-- A thing is laid behind a row of one's own. -/
theorem appendN {w : World} {B n : Nat} {v : Value} {xs : List Value} (k : Int) (h : w.ownsRow B 3 1 v n xs) (hB : B ≤ w.heap.size) (hn : n < 1099511627776) :
    ∃ a' c' w', (Builtin.append_ #[37, 37] 37 #[v, .slice (some ⟨w.heap.size, 0, none⟩) 1 1]).run Try.prog (w.alloc (.cells #[(Value.int .i64) k] 3)) = .ok (.slice a' (n + 1) c') w' ∧ w'.ownsRow B 3 1 (.slice a' (n + 1) c') (n + 1) (xs ++ [(Value.int .i64) k]) ∧ w.grownBy w' v.ownBlock ∧
      (∀ b, (Value.slice a' (n + 1) c').ownBlock = some b → v.ownBlock = some b ∨ w.heap.size ≤ b) := by
  obtain ⟨i0, hi0, hz0, hzs, hzb⟩ := info_parts info3N
  have hb : Below w.heap.size w (w.alloc (.cells #[(Value.int .i64) k] 3)) := (Below.refl _ _).alloc (Nat.le_refl _) _
  obtain ⟨v', w', hr, hown', hgr, -, hloc⟩ := run_append_own_at (P := Try.prog) (w.alloc (.cells #[(Value.int .i64) k] 3)) B 37 37 3 i0 _ 1 8 Try.underlying37 hi0 hz0 hzs hzb rfl (by omega) v n xs (h.alloc _) ⟨w.heap.size, 0, none⟩ 1 1 [(Value.int .i64) k] rfl
    (fun j u hj => by
      have h1 : j < 1 := by
        have := (List.getElem?_eq_some_iff.1 hj).1
        simpa using this
      obtain rfl : j = 0 := by omega
      rw [show (⟨w.heap.size, 0, none⟩ : Addr).add 0 = ⟨w.heap.size, 0, none⟩ by unfold Addr.add; split <;> simp_all, World.cell?_alloc_at _ _ _ _ (by simp)]
      simpa using hj) (by intro u hu; simp at hu; subst hu; rfl) (by unfold maxLen; omega) (by omega) (Nat.le_trans hB hb.size)
  obtain ⟨a', c', rfl⟩ : ∃ a' c', v' = .slice a' (n + 1) c' := by
    rcases hown'.2 with ⟨-, h3⟩ | ⟨g, cap, cur, rfl, -⟩
    · omega
    · exact ⟨_, _, rfl⟩
  refine ⟨a', c', w', hr, hown', ⟨hgr.os, hgr.tape, hgr.output, Nat.le_trans hb.size hgr.size, fun j hj hne => (hgr.block j (Nat.lt_of_lt_of_le hj hb.size) hne).trans (hb.block j hj)⟩, fun b hb' => ?_⟩
  rcases hloc with e | e
  · exact .inl (e ▸ hb')
  · rw [e] at hb'
    injection hb' with hb'
    exact .inr (by have := hb.size; omega)

set_option maxHeartbeats 2000000 in
set_option maxRecDepth 100000 in
theorem headsN {p m : Nat} {S : List (Part Int)} (w : World) (h : PAtN w p m S) (hn : tot S < 1099511627776) : Calls Try.prog 14 #[.pointer (some ⟨p, 0, none⟩)] w fun e w' => ∃ v ys, e = .returned v ∧
    Hid (Rising ltN ys ∧ (∀ k, k ∈ ys ↔ ∃ x ∈ S, x.ks.headD (0 : Int) = k) ∧ w'.ownsRow w.heap.size 3 1 v ys.length (ys.map (Value.int .i64)) ∧ Below w.heap.size w w') := by
  have c1 := h.cell
  obtain ⟨D, hown, -, hsz, hat⟩ := h.map
  obtain ⟨w1, hr1, g1, g2, g3⟩ := hown.range kitN.law (t := 55) (e := 65) Try.underlying55
  have HM0 : Hid (∃ hs left c, hs.length = 0 ∧ hs.length + c ≤ tot S ∧ (∀ l, left l = true → Maps.has D l = true) ∧ HMidN w m w.heap.size (tot S) D S hs (.slice none 0 0) left c w1) := by
    refine ⟨[], Maps.has D, Maps.size D, rfl, by simp [hsz], fun l hl => hl, g1, ⟨g2.os, g2.tape, g2.output, g2.size, fun k hk => g2.block k hk (by simp)⟩, Nat.le_refl _, by omega, World.ownsRow_nil _ _ _ _, List.Pairwise.nil, fun k hk => ?_, fun k hk => by simp at hk⟩
    constructor
    · intro hk; simp at hk
    · rintro ⟨⟨x, hx, rfl⟩, hl⟩
      have hm := head_memN h.fam hx
      rw [(hat _ hk).2, fOf_some h.fam hx hm] at hl
      cases hl
  have HST : Hid (∀ hs v left c wr, (∀ l, left l = true → Maps.has D l = true) → HMidN w m w.heap.size (tot S) D S hs v left c wr → _) := fun hs v left c wr h1 h2 => HMidN.step h hat h1 h2 0
  have HP := hide h
  have HN := hide hn
  clear h hown hsz hat g1 g2 g3 hn
  go_enter Try.func14, Try.ntmps14
  go_wp2_with fail
  go_loopw [3] (fun s3 wr => ∃ (L : Nat) (a : Option Addr) (c0 : Nat), s3 = .slice a L c0 ∧ Hid (∃ hs left c, hs.length = L ∧ hs.length + c ≤ tot S ∧ (∀ l, left l = true → Maps.has D l = true) ∧ HMidN w m w.heap.size (tot S) D S hs (.slice a L c0) left c wr)) (fun _ wr => wr.rangeLeft m w.heap.size)
  case atStart => exact ⟨0, none, 0, rfl, unhide HM0⟩
  case round =>
    obtain ⟨L, a, c0, rfl, HM⟩ := hrel
    obtain ⟨hs, left, c, hL, hLc, hsub, hM⟩ := unhide HM
    clear HM
    rcases unhide HST hs _ left c wr hsub hM with ⟨rfl, hall, hrun⟩ | ⟨k, x, w', c', hx, hk, hok, hl, hrun, hen, hlt, hrg, hb, hsz, hrow⟩
    · have CS : Hid (Calls Try.prog 38 #[.slice a L c0] wr fun e w' => e = .returned (.tuple #[]) ∧ Hid (∃ ys : List Int, Rising ltN ys ∧ (∀ k, k ∈ ys ↔ ∃ x ∈ S, x.ks.headD (0 : Int) = k) ∧ w'.ownsRow w.heap.size 3 1 (.slice a L c0) ys.length (ys.map (Value.int .i64)) ∧ Below w.heap.size w w')) := by
        have hmem : ∀ k, k ∈ hs ↔ ∃ x ∈ S, x.ks.headD (0 : Int) = k := fun k => by
          constructor
          · exact hM.sub k
          · rintro ⟨x, hx, rfl⟩
            exact (hM.mem _ ((unhide HP).fam.keys x hx _ (head_memN (unhide HP).fam hx))).2 ⟨⟨x, hx, rfl⟩, hall _⟩
        subst hL
        by_cases h0 : hs = []
        · subst h0
          exact (sortNoneN a c0 wr).mono fun e w' hh => ⟨hh.1, [], List.Pairwise.nil, hmem, by rw [hh.2]; exact hM.row, by rw [hh.2]; exact hM.below⟩
        · have hrow := hM.row
          obtain ⟨g, rfl⟩ : ∃ g, a = some ⟨g, 0, none⟩ := by
            rcases hM.row.2 with ⟨-, h3⟩ | ⟨g, cap, cur, e, -⟩
            · exact absurd (List.eq_nil_of_length_eq_zero h3) h0
            · simp only [Value.slice.injEq] at e
              exact ⟨g, e.1⟩
          refine (sortN w.heap.size g c0 hs wr (by have := unhide HN; omega) hM.nodup hM.row).mono fun e w' hh => ⟨hh.1, ?_⟩
          obtain ⟨ys, y1, y2, y3, y4⟩ := unhide hh.2
          refine ⟨ys, y2, fun k => (y1.mem_iff).trans (hmem k), by rw [y1.length_eq]; exact y3, hM.below.grown y4 hM.room (fun j hj => ?_)⟩
          injection hj with hj
          exact (hM.row.lt j (by rw [← hj]; rfl)).1
      clear hL hLc hsub hM hall HST HN HP HM0
      go_wp2_with fail
      refine (unhide CS).mono ?_
      rintro e w' ⟨rfl, hF⟩
      clear CS
      go_wp2_with fail
      go_ret
      obtain ⟨ys, y1⟩ := unhide hF
      exact ⟨_, ys, rfl, y1⟩
    · obtain ⟨g, cx, ev, -, -, -, -, hc⟩ := ((unhide HP).rows x hx).some_ ((unhide HP).fam.some_ x hx)
      have hpos : 0 < x.ks.length := List.length_pos_iff.2 ((unhide HP).fam.some_ x hx)
      have c2 := ((unhide HP).rows x hx).cell.1
      have c3 := hc 0 hpos
      rw [show x.ks.getD 0 (0 : Int) = x.ks.headD (0 : Int) by cases x.ks <;> rfl] at c3
      have d2 : w'.cell? ⟨x.q, 0, none⟩ = some x.v := (hb.cell (by exact World.block_lt_of_cell? _ _ c2)).trans c2
      have d3 := (hb.cell (p := ⟨g, 0, none⟩) (by exact World.block_lt_of_cell? _ _ c3)).trans c3
      rw [ev] at d2
      have hz : (0 : Int) < (x.ks.length : Int) := by omega
      have hcm : wr.rangeLeft m w.heap.size = c := hM.rng.left_eq
      by_cases e : k = x.ks.headD (0 : Int)
      · obtain ⟨a6, c6, w6, hr6, hown6, hg6, hv6⟩ := appendN k hrow (by rw [hsz]; exact hM.room) (by have := unhide HN; omega)
        have hM6 := hM.push (unhide HP) hx hk hok hl e hrg hb hsz (by rw [List.length_append, List.map_append]; exact hown6) hg6 (fun b hb' => (hrow.lt b hb').1) (row_ne_iter hM.row hM.rng)
        have HM6 : Hid (∃ hs left c, hs.length = L + 1 ∧ hs.length + c ≤ tot S ∧ (∀ l, left l = true → Maps.has D l = true) ∧ HMidN w m w.heap.size (tot S) D S hs (.slice a6 (L + 1) c6) left c w6) := by
          refine ⟨hs ++ [k], fun l => left l && !l.sameKey (klN k), c', by rw [List.length_append, hL]; rfl, by rw [List.length_append, List.length_singleton]; omega, fun l hl' => hsub l (by simp at hl'; exact hl'.1), ?_⟩
          have := hM6
          rwa [hL] at this
        have HCM : Hid (w6.rangeLeft m w.heap.size < wr.rangeLeft m w.heap.size) := by show _ < _; rw [hM6.rng.left_eq, hcm]; exact hlt
        rw [hL] at hr6
        have HR6 := hide hr6
        rw [← e] at d3
        clear e
        generalize x.ks.length = Lx at *
        generalize x.q = q at *
        clear hM hM6 hrow hr6 hown6 hg6 hv6 hrg hb hsz hlt hsub hL hLc hcm HST hc c2 c3 ev hpos hl
        go_wp2_with (at_builtin; refine Lib.wpList_append_run _ rfl _ _ 37 37 rfl (.slice a L c0) (.slice (some ⟨w'.heap.size, 0, none⟩) 1 1) rfl rfl _ _ HR6.out ?_)
        go_roundw
        case rel => exact ⟨L + 1, a6, c6, rfl, unhide HM6⟩
        case measure => exact unhide HCM
      · have hM6 := hM.pass (unhide HP) hx hk e hrg hb hsz hrow
        have HM6 : Hid (∃ hs left c, hs.length = L ∧ hs.length + c ≤ tot S ∧ (∀ l, left l = true → Maps.has D l = true) ∧ HMidN w m w.heap.size (tot S) D S hs (.slice a L c0) left c w') :=
          ⟨hs, fun l => left l && !l.sameKey (klN k), c', hL, by omega, fun l hl' => hsub l (by simp at hl'; exact hl'.1), hM6⟩
        have HCM : Hid (w'.rangeLeft m w.heap.size < wr.rangeLeft m w.heap.size) := by show _ < _; rw [hM6.rng.left_eq, hcm]; exact hlt
        have hbq := beqN _ _ e
        have hbq2 : (k == x.ks.headD (0 : Int)) = false := by simpa using e
        generalize x.ks.headD (0 : Int) = hd at *
        generalize x.ks.length = Lx at *
        generalize x.q = q at *
        clear hM hM6 hrow hrg hb hsz hlt hsub hL hLc hcm HST hc c2 c3 ev hpos hl
        go_wp2_with fail
        go_roundw
        case rel => exact ⟨L, a, c0, rfl, unhide HM6⟩
        case measure => exact unhide HCM
end Go.Proofs.Ytfhidghjmookhaa

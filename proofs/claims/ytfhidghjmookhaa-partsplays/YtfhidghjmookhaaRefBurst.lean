/- The reference's Burst. -/
import Derived.Test.YtfhidghjmookhaaRefJoin2
namespace Go.Proofs.Ytfhidghjmookhaa
open Go.RowKit Go.Maps

/-- How many of the first n bear the mark. -/
def cntM (m : Int) (its : List (Int × Int)) : Nat → Nat
  | 0 => 0
  | n + 1 => if hi its n = m then cntM m its n + 1 else cntM m its n
/-- Those of the first n that bear the mark get new ones, from nx on. -/
def bmark (m nx : Int) (its : List (Int × Int)) : Nat → List (Int × Int)
  | 0 => its
  | n + 1 => if hi its n = m then (bmark m nx its n).set n (lo its n, nx + cntM m its n) else bmark m nx its n

theorem bmark_length (m nx : Int) (its : List (Int × Int)) : ∀ n, (bmark m nx its n).length = its.length
  | 0 => rfl
  | n + 1 => by
    unfold bmark
    split
    · rw [List.length_set, bmark_length]
    · exact bmark_length m nx its n
theorem cntM_le (m : Int) (its : List (Int × Int)) : ∀ n, cntM m its n ≤ n
  | 0 => Nat.le_refl _
  | n + 1 => by
    unfold cntM
    have := cntM_le m its n
    split <;> omega
theorem lo_set {l : List (Int × Int)} {i j : Nat} {x : Int × Int} (h : i < l.length) : lo (l.set i x) j = (if i = j then x.1 else lo l j) ∧ hi (l.set i x) j = if i = j then x.2 else hi l j := by
  unfold lo hi List.getD
  rw [List.getElem?_set]
  by_cases e : i = j
  · subst e
    simp [h]
  · simp [e]
theorem bmark_at (m nx : Int) (its : List (Int × Int)) : ∀ n, n ≤ its.length → ∀ j, lo (bmark m nx its n) j = lo its j ∧ hi (bmark m nx its n) j = if j < n ∧ hi its j = m then nx + cntM m its j else hi its j
  | 0, _, j => ⟨rfl, by rw [if_neg (by omega)]; rfl⟩
  | n + 1, hn, j => by
    obtain ⟨h1, h2⟩ := bmark_at m nx its n (by omega) j
    unfold bmark
    by_cases hm : hi its n = m
    · rw [if_pos hm]
      obtain ⟨g1, g2⟩ := lo_set (l := bmark m nx its n) (i := n) (j := j) (x := (lo its n, nx + cntM m its n)) (by rw [bmark_length]; omega)
      rw [g1, g2, h1, h2]
      by_cases e : n = j
      · subst e
        rw [if_pos rfl, if_pos rfl, if_pos ⟨by omega, hm⟩]
        exact ⟨rfl, rfl⟩
      · rw [if_neg e, if_neg e]
        refine ⟨rfl, ?_⟩
        by_cases hj : j < n
        · by_cases hjm : hi its j = m
          · rw [if_pos ⟨hj, hjm⟩, if_pos ⟨by omega, hjm⟩]
          · rw [if_neg (fun h => hjm h.2), if_neg (fun h => hjm h.2)]
        · rw [if_neg (fun h => hj h.1), if_neg (by omega)]
    · rw [if_neg hm, h1, h2]
      refine ⟨rfl, ?_⟩
      by_cases hj : j < n
      · by_cases hjm : hi its j = m
        · rw [if_pos ⟨hj, hjm⟩, if_pos ⟨by omega, hjm⟩]
        · rw [if_neg (fun h => hjm h.2), if_neg (fun h => hjm h.2)]
      · rw [if_neg (fun h => hj h.1)]
        by_cases hjm : hi its j = m
        · have : ¬ j < n + 1 := fun h => hm (by rw [show n = j by omega]; exact hjm)
          rw [if_neg (fun h => this h.1)]
        · rw [if_neg (fun h => hjm h.2)]
theorem bmark_in {m nx : Int} {its : List (Int × Int)} {n : Nat} (h : n < its.length) (hm : hi its n = m) : enc .i64 (bmark m nx its (n + 1)) = (enc .i64 (bmark m nx its n)).set (n * 2 + 1) (.int .i64 (nx + cntM m its n)) := by
  have e : bmark m nx its (n + 1) = (bmark m nx its n).set n (lo its n, nx + cntM m its n) := by
    show (if hi its n = m then _ else _) = _
    rw [if_pos hm]
  rw [e, ← enc_set_hi .i64 (by rw [bmark_length]; exact h), (bmark_at m nx its n (by omega) n).1]
theorem bmark_out {m nx : Int} {its : List (Int × Int)} {n : Nat} (hm : (hi its n == m) = false) : bmark m nx its (n + 1) = bmark m nx its n ∧ cntM m its (n + 1) = cntM m its n := by
  have hm' : hi its n ≠ m := by simpa using hm
  constructor
  · show (if hi its n = m then _ else _) = _
    rw [if_neg hm']
  · show (if hi its n = m then _ else _) = _
    rw [if_neg hm']
theorem cntM_in {m : Int} {its : List (Int × Int)} {n : Nat} (hm : hi its n = m) : cntM m its (n + 1) = cntM m its n + 1 := by
  show (if hi its n = m then _ else _) = _
  rw [if_pos hm]

theorem Boxes.far {w u : World} {x y x' y' : Value} (h : Boxes w u x y x' y') {b : Nat} (hb : w.heap.size + 2 ≤ b) (o : Nat) (z : Value) : Boxes w (u.setCell ⟨b, o, none⟩ z) x y x' y' := by
  obtain ⟨⟨h1, h2⟩, ⟨h3, h4⟩, h5, h6⟩ := h
  have n1 : w.heap.size ≠ b := by omega
  have n2 : w.heap.size + 1 ≠ b := by omega
  have c : ∀ (p : Addr), p.block ≠ b → (u.setCell ⟨b, o, none⟩ z).cell? p = u.cell? p := fun p hp => cell_of_heap (heap_setCell_other u ⟨b, o, none⟩ p.block z hp)
  exact ⟨⟨(c _ n1).trans h1, (c _ n1).trans h2⟩, ⟨(c _ n2).trans h3, (c _ n2).trans h4⟩, fun o' => (World.frozen?_setCell _ _ _ _).trans (h5 o'), fun o' => (World.frozen?_setCell _ _ _ _).trans (h6 o')⟩
theorem Boxes.next {w u : World} {x y x' y' : Value} (h : Boxes w u x y x' y') (z : Value) : Boxes w (u.setCell ⟨w.heap.size, 1, none⟩ z) x z x' y' := by
  obtain ⟨⟨h1, h2⟩, ⟨h3, h4⟩, h5, h6⟩ := h
  exact ⟨⟨(World.cell?_setCell_other _ _ _ _ (by simp)).trans h1, World.cell?_setCell_same _ _ _ h2⟩, ⟨(World.cell?_setCell_other _ _ _ _ (by simp)).trans h3, (World.cell?_setCell_other _ _ _ _ (by simp)).trans h4⟩, fun o' => (World.frozen?_setCell _ _ _ _).trans (h5 o'), fun o' => (World.frozen?_setCell _ _ _ _).trans (h6 o')⟩

set_option maxHeartbeats 1000000 in
set_option maxRecDepth 100000 in
theorem refBurstNo {v : Value} {its : List (Int × Int)} (nx k : Int) (w : World) (h : w.ownsRow 0 35 2 v its.length (enc .i64 its)) (hn : its.length ≤ 1000000) (hi : Out its k) :
    Calls Try.prog 34 #[.agg #[v, .int .i64 nx], .int .i64 k] w fun e w' => e = .returned (.tuple #[.agg #[v, .int .i64 nx], .bool false]) ∧ Hid (Below w.heap.size w w') := by
  obtain ⟨hbx, hsz, hb⟩ := two_at w v nx
  have CF := hide (refFind nx k _ (items_below h hb) hn)
  obtain ⟨a, c, rfl⟩ := item_shape h
  have HI := hide hi
  have HB := hide hb
  have HSZ := hide hsz
  have HBX := hide hbx
  generalize hL : its.length = L at *
  obtain ⟨⟨a0, a1⟩, ⟨r0, r1⟩, fa, fr⟩ := hbx
  clear h hn hi hb hsz hL
  go_enter Try.func34, Try.ntmps34
  go_upto_region 1 with fail
  unfold two at *
  generalize ((w.alloc (.cells #[.slice a L c, .int .i64 nx] 28)).alloc (.cells #[.slice none 0 0, .int .i64 0] 28)) = W at *
  go_wp2_with fail
  refine (unhide CF).mono ?_
  rintro e w3 ⟨r, rfl, h3⟩
  obtain ⟨ha, hb3⟩ := unhide h3
  have hr : r < 0 := by
    rcases Int.lt_or_le r 0 with e | e
    · exact e
    · exact absurd (unhide HI) (in_of ha (by omega))
  obtain ⟨⟨d0, d1⟩, ⟨e0, e1⟩, -, ef⟩ := (unhide HBX).kept (unhide HSZ) hb3
  have HR := hide (stored2 e0 e1 (.slice a L c) (.int .i64 nx))
  have HBR := hide (below2 ((unhide HB).trans (hb3.mono (unhide HB).size)) (by omega : w.heap.size ≤ w.heap.size + 1) (.slice a L c) (.int .i64 nx))
  clear CF h3 ha hb3 HB HSZ HBX a0 a1 r0 r1 fa fr
  go_wp2_with fail
  (try simp only [Exit.inBlock, Exit.then])
  refine bodyPost_ret (res2 rfl _ _ (w.heap.size + 1) _ _ rfl (unhide HR).1 (unhide HR).2) rfl ?_
  exact ⟨rfl, unhide HBR⟩

set_option maxHeartbeats 2000000 in
set_option maxRecDepth 100000 in
theorem refBurstYes {g cap : Nat} {its : List (Int × Int)} (nx k : Int) (i : Nat) (w : World) (h : w.ownsRow 0 35 2 (.slice (some ⟨g, 0, none⟩) its.length cap) its.length (enc .i64 its)) (hn : its.length ≤ 1000000) (hi1 : i < its.length) (hat : AtIs its k i) (hnx : 0 ≤ nx ∧ nx ≤ 1000000000) :
    Calls Try.prog 34 #[.agg #[(.slice (some ⟨g, 0, none⟩) its.length cap), .int .i64 nx], .int .i64 k] w fun e w' => ∃ v', e = .returned (.tuple #[.agg #[v', .int .i64 (nx + cntM (hi its i) its its.length)], .bool true]) ∧ Hid (w'.ownsRow w.heap.size 35 2 v' its.length (enc .i64 (bmark (hi its i) nx its its.length)) ∧ Below w.heap.size w w') := by
  obtain ⟨hbx, hsz, hb⟩ := two_at w (.slice (some ⟨g, 0, none⟩) its.length cap) nx
  have h2 := items_below h hb
  have CF := hide (refFind nx k _ h2 hn)
  have HJ : Hid (∀ r, AtIs its k r → r = (i : Int)) := fun r hr => at_uniq hr hat
  obtain ⟨mk, hmk⟩ : ∃ m, hi its i = m := ⟨_, rfl⟩
  have HQ : Hid (∀ w3, Below (two w (.slice (some ⟨g, 0, none⟩) its.length cap) nx).heap.size (two w (.slice (some ⟨g, 0, none⟩) its.length cap) nx) w3 → w3.cell? ⟨g, i * 2 + 1, none⟩ = some (.int .i64 mk) ∧ ∃ g5 c5 w6, Hid ((Builtin.append_ #[26, 26] 26 #[.slice (some ⟨w3.heap.size, 0, none⟩) 0 0, (.slice (some ⟨g, 0, none⟩) its.length cap)]).run Try.prog (w3.alloc (.cells #[] 35)) = .ok (.slice (some ⟨g5, 0, none⟩) its.length c5) w6) ∧ Hid (w.heap.size + 2 ≤ w3.heap.size ∧ w3.heap.size ≤ g5 ∧ w6.ownsRow w3.heap.size 35 2 (.slice (some ⟨g5, 0, none⟩) its.length c5) its.length (enc .i64 its) ∧ Boxes w w6 (.slice (some ⟨g, 0, none⟩) its.length cap) (.int .i64 nx) (.slice none 0 0) (.int .i64 0) ∧ Below w.heap.size w w6)) := fun w3 hb3 => by
    have hrow3 := items_below h2 hb3
    obtain ⟨a1, c1, w6, p1, p2, p3, -⟩ := copyRow hrow3 hn
    obtain ⟨g5, c5, e5⟩ := item_block (row_low p2 (Nat.zero_le _) (fun _ _ => rfl)) (by omega)
    rw [e5] at p1 p2
    have hb6 := hb3.trans (p3.mono hb3.size)
    exact ⟨by rw [← hmk]; exact (owns_cells hrow3 i hi1).2, g5, c5, w6, p1, by have := hb3.size; omega, (p2.lt g5 rfl).1, p2, hbx.kept hsz hb6, hb.trans (hb6.mono hb.size)⟩
  rw [hmk]
  have hiz : (i : Int) < (its.length : Int) := by omega
  have hi0 : ¬ (i : Int) < 0 := by omega
  have HSZ := hide hsz
  have HBX := hide hbx
  have HN := hide hn
  have HNX := hide hnx
  generalize hL : its.length = L at *
  have HL := hide hL
  obtain ⟨⟨a0, a1⟩, ⟨r0, r1⟩, fa, fr⟩ := hbx
  clear h hn hb hsz hL h2 hat hi1 hmk hnx
  go_enter Try.func34, Try.ntmps34
  go_upto_region 1 with fail
  unfold two at *
  generalize ((w.alloc (.cells #[.slice (some ⟨g, 0, none⟩) L cap, .int .i64 nx] 28)).alloc (.cells #[.slice none 0 0, .int .i64 0] 28)) = W at *
  go_wp2_with fail
  refine (unhide CF).mono ?_
  rintro e w3 ⟨r, rfl, h3⟩
  obtain ⟨ha, hb3⟩ := unhide h3
  obtain rfl := unhide HJ r ha
  obtain ⟨⟨d0, d1⟩, ⟨e0, e1⟩, df, ef⟩ := (unhide HBX).kept (unhide HSZ) hb3
  obtain ⟨m1, g5, c5, w6, HR1, H6⟩ := unhide HQ w3 hb3
  have d2 := cell_made (.cells #[] 35) d0
  clear CF h3 ha hb3 HQ HJ HBX HSZ a0 a1 r0 r1 fa fr
  go_wp2_with (at_builtin; refine Lib.wpList_append_run _ rfl _ _ 26 26 rfl (.slice (some ⟨w3.heap.size, 0, none⟩) 0 0) (.slice (some ⟨g, 0, none⟩) L cap) rfl rfl _ _ HR1.out ?_)
  clear d0 d1 d2 e0 e1 df ef m1
  go_loopw [9] (fun s9 wr => ∃ (n : Nat) (x : Int), n ≤ L ∧ s9 = .int .i64 n ∧ (wr.cell? ⟨w.heap.size, 1, none⟩ = some (.int .i64 x) ∧ (∀ o, wr.frozen? ⟨w.heap.size, o, none⟩ = false) ∧ IntKind.i64.wrap (x + 1) = x + 1) ∧ Hid (x = nx + cntM mk its n ∧ wr.ownsRow w3.heap.size 35 2 (.slice (some ⟨g5, 0, none⟩) L c5) L (enc .i64 (bmark mk nx its n)) ∧ Boxes w wr (.slice (some ⟨g, 0, none⟩) L cap) (.int .i64 x) (.slice none 0 0) (.int .i64 0) ∧ Below w.heap.size w wr)) (fun s9 _ => L - (intOf s9).toNat)
  case atStart =>
    obtain ⟨x1, x2, x3, x4, x5⟩ := unhide H6
    exact ⟨0, nx, Nat.zero_le _, rfl, ⟨x4.1.2, x4.2.2.1, by have := unhide HNX; rw [IntKind.wrap_i64]; omega⟩, by simp [cntM], x3, x4, x5⟩
  case round =>
    obtain ⟨n, x, hnL, rfl, ⟨cx, cf, hwx⟩, HR⟩ := hrel
    rename World => wo
    obtain ⟨k0, k1, k2, k3⟩ := unhide HR
    by_cases hlt : n < L
    · have hnz : (n : Int) < (L : Int) := by omega
      have hnb : IntKind.i64.wrap ((n : Int) + 1) = ((n + 1 : Nat) : Int) := by have := unhide HN; rw [IntKind.wrap_i64]; omega
      have hnl : n < its.length := by rw [unhide HL]; exact hlt
      have q1 := (owns_cells (row_low k1 (Nat.zero_le _) (fun _ _ => rfl)) n hlt).2
      rw [(bmark_at mk nx its n (by omega) n).2, if_neg (by omega)] at q1
      have qf := k1.frozenAt (n * 2 + 1)
      by_cases hm : hi its n = mk
      · rw [hm] at q1
        obtain ⟨x1, x2, -⟩ := unhide H6
        have hst := (k1.stored (n * 2 + 1) (.int .i64 x)).1
        rw [k0, ← bmark_in hnl hm, ← k0] at hst
        have b1 := k2.far (b := g5) (by omega) (n * 2 + 1) (.int .i64 x)
        have b2 := b1.next (.int .i64 (x + 1))
        have hne : ¬ g5 = w.heap.size := by omega
        have row2 : ((wo.setCell ⟨g5, n * 2 + 1, none⟩ (.int .i64 x)).setCell ⟨w.heap.size, 1, none⟩ (.int .i64 (x + 1))).ownsRow w3.heap.size 35 2 (.slice (some ⟨g5, 0, none⟩) L c5) L (enc .i64 (bmark mk nx its (n + 1))) := ownsRow_setCell_other hst (by show some g5 ≠ some w.heap.size; simpa using hne) _
        have HE : Hid (x + 1 = nx + cntM mk its (n + 1) ∧ ((wo.setCell ⟨g5, n * 2 + 1, none⟩ (.int .i64 x)).setCell ⟨w.heap.size, 1, none⟩ (.int .i64 (x + 1))).ownsRow w3.heap.size 35 2 (.slice (some ⟨g5, 0, none⟩) L c5) L (enc .i64 (bmark mk nx its (n + 1))) ∧ Boxes w ((wo.setCell ⟨g5, n * 2 + 1, none⟩ (.int .i64 x)).setCell ⟨w.heap.size, 1, none⟩ (.int .i64 (x + 1))) (.slice (some ⟨g, 0, none⟩) L cap) (.int .i64 (x + 1)) (.slice none 0 0) (.int .i64 0) ∧ Below w.heap.size w ((wo.setCell ⟨g5, n * 2 + 1, none⟩ (.int .i64 x)).setCell ⟨w.heap.size, 1, none⟩ (.int .i64 (x + 1)))) :=
          ⟨by rw [cntM_in hm, k0]; omega, row2, b2, (k3.setCell (p := ⟨g5, n * 2 + 1, none⟩) (by show w.heap.size ≤ g5; omega) _).setCell (p := ⟨w.heap.size, 1, none⟩) (Nat.le_refl _) _⟩
        have HWX : Hid (IntKind.i64.wrap (x + 1 + 1) = x + 1 + 1) := by
          have e1 := unhide HNX
          have e2 := unhide HN
          have e3 := cntM_le mk its n
          show IntKind.i64.wrap (x + 1 + 1) = x + 1 + 1
          rw [IntKind.wrap_i64]
          omega
        have c1 := b1.1.2
        have f1 := b1.2.2.1
        have HC2 := hide (And.intro b2.1.2 b2.2.2.1)
        clear HR k0 k1 k2 k3 hst hm b1 b2 row2 x1 x2
        go_wp2_with fail
        go_roundw
        case rel => exact ⟨n + 1, x + 1, by omega, by first | rfl | go_num, ⟨(unhide HC2).1, (unhide HC2).2, unhide HWX⟩, unhide HE⟩
        case measure => simp [intOf]; omega
      · have hmb : (hi its n == mk) = false := by simpa using hm
        have HE : Hid (x = nx + cntM mk its (n + 1) ∧ wo.ownsRow w3.heap.size 35 2 (.slice (some ⟨g5, 0, none⟩) L c5) L (enc .i64 (bmark mk nx its (n + 1))) ∧ Boxes w wo (.slice (some ⟨g, 0, none⟩) L cap) (.int .i64 x) (.slice none 0 0) (.int .i64 0) ∧ Below w.heap.size w wo) := by
          rw [(bmark_out (nx := nx) hmb).1, (bmark_out (nx := nx) hmb).2]
          exact ⟨k0, k1, k2, k3⟩
        clear HR k0 k1 k2 k3 hm
        generalize hi its n = hn2 at *
        go_wp2_with fail
        go_roundw
        case rel => exact ⟨n + 1, x, by omega, by first | rfl | go_num, ⟨cx, cf, hwx⟩, unhide HE⟩
        case measure => simp [intOf]; omega
    · have hnz : ¬ (n : Int) < (L : Int) := by omega
      obtain rfl : n = L := by omega
      have HE := hide (res_end (x := .int .i64 x) (unhide H6).1 k1 k3 ⟨_, k2.2.1.1⟩ ⟨_, k2.2.1.2⟩)
      obtain ⟨-, ⟨e0, e1⟩, -, ef⟩ := k2
      have HK := hide k0
      clear HR k0 k1 k3
      go_wp2_with fail
      (try simp only [Exit.inBlock, Exit.then])
      refine bodyPost_ret (res2 rfl _ _ (w.heap.size + 1) _ _ rfl (unhide HE).1.1 (unhide HE).1.2) rfl ?_
      have e3 := unhide HK
      subst e3
      exact ⟨_, rfl, (unhide HE).2⟩
end Go.Proofs.Ytfhidghjmookhaa

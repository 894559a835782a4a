/- fault, whole. -/
import Derived.Test.YtbmcibofecigeaaGreatLvI14
import Derived.Laws.EntriesVeiled
namespace Go.Proofs.YtbmcibofecigeaaGreat

section
open Go.RowKit Go.Maps
theorem below_of_grown {w w0 w' : World} {g : Option Nat} (hb : Below w0.heap.size w0 w) (hg : w.grownBy w' g) (hn : ∀ b, g = some b → w0.heap.size ≤ b) : Below w0.heap.size w0 w' :=
  ⟨hg.os.trans hb.os, hg.tape.trans hb.tape, hg.output.trans hb.output, Nat.le_trans hb.size hg.size, fun b hbl => (hg.block b (Nat.lt_of_lt_of_le hbl hb.size) (fun e => by have := hn b e.symm; omega)).trans (hb.block b hbl)⟩
def RisenAns (w : World) (ks : List Int) (v : Value) (w' : World) : Prop := ∃ ys, ys.Perm ks ∧ ys.Pairwise (· ≤ ·) ∧ BRow w.heap.size w' v ys ∧ Below w.heap.size w w'
theorem risenS {w : World} {v : Value} {ks : List Int} (h : NRow w v ks) (hl : ks.length ≤ 1000000) :
    Calls Tryz.prog 37 #[v] w fun e w' => ∃ a n c, e = .returned (.slice a n c) ∧ Hid (RisenAns w ks (.slice a n c) w') := by
  have C1 := hide (cloneI w h hl)
  have HL := hide hl
  obtain ⟨a0, c0, rfl, -⟩ := brow_shape h
  clear h hl
  go_enter Tryz.func37, Tryz.ntmps37
  go_wp2_with fail
  refine (unhide C1).mono ?_
  rintro e w1 ⟨v1, rfl, H1⟩
  obtain ⟨a1, c1, e1, -⟩ := brow_shape (unhide H1).1
  obtain ⟨n1, hn1⟩ : ∃ n1, v1 = .slice a1 n1 c1 := ⟨_, e1⟩
  clear e1
  subst hn1
  have C2 := hide (sortN w.heap.size _ ks w1 (by have := unhide HL; omega) (unhide H1).1)
  clear C1
  go_wp2_with fail
  refine (unhide C2).mono ?_
  rintro e w2 ⟨rfl, H2⟩
  have HE : Hid (RisenAns w ks (.slice a1 n1 c1) w2) := by
    obtain ⟨ys, q1, q2, q3, q4⟩ := unhide H2
    exact ⟨ys, q1, q2, q3, below_of_grown (unhide H1).2 q4 (fun b e => ((unhide H1).1.lt b e).1)⟩
  clear C2 H2 H1
  go_wp2_with fail
  go_ret
  exact ⟨_, _, _, rfl, HE⟩
theorem strict_of {ys : List Int} (h : ∀ j : Nat, 1 ≤ j → j < ys.length → ys[j]? ≠ ys[j - 1]?) (hs : ys.Pairwise (· ≤ ·)) : ys.Pairwise (· < ·) := by
  rw [List.pairwise_iff_getElem] at hs ⊢
  intro i j hi hj hij
  have h1 := h (i + 1) (by omega) (by omega)
  rw [Nat.add_sub_cancel, List.getElem?_eq_getElem (show i + 1 < ys.length by omega), List.getElem?_eq_getElem hi] at h1
  have h2 := hs i (i + 1) hi (by omega) (by omega)
  have h4 : ys[i + 1] ≠ ys[i] := fun e => h1 (by rw [e])
  rcases Nat.lt_or_ge (i + 1) j with q | q
  · have h3 := hs (i + 1) j (by omega) hj q
    omega
  · have e : j = i + 1 := by omega
    subst e
    omega
set_option maxHeartbeats 1000000 in
set_option maxRecDepth 100000 in
theorem repeatsS {w : World} {v : Value} {ys : List Int} (h : NRow w v ys) (hl : ys.length ≤ 1000000) (hs : ys.Pairwise (· ≤ ·)) :
    Calls Tryz.prog 67 #[v] w fun e w' => e = .returned (.bool (!decide ys.Nodup)) ∧ ∃ q, w' = w.drewN q := by
  obtain ⟨a, c, rfl, -⟩ := brow_shape h
  obtain ⟨n, hn⟩ : ∃ n, n = ys.length := ⟨_, rfl⟩
  rw [← hn] at h
  rw [← hn]
  obtain ⟨r, hr⟩ : ∃ r, r = !decide ys.Nodup := ⟨_, rfl⟩
  rw [← hr]
  have H := hide h
  have HN : Hid (n = ys.length ∧ n ≤ 1000000 ∧ ys.Pairwise (· ≤ ·) ∧ r = !decide ys.Nodup) := ⟨hn, by omega, hs, hr⟩
  clear h hn hs hr hl
  go_enter Tryz.func67, Tryz.ntmps67
  go_wp2_with fail
  go_loopw [3] (fun s3 wr => ∃ (i q : Nat), s3 = .int .i64 i ∧ wr = w.drewN q ∧ Hid (1 ≤ i ∧ (i ≤ n ∨ i = 1) ∧ ∀ j : Nat, 1 ≤ j → j < i → ys[j]? ≠ ys[j - 1]?)) (fun s3 _ => (n + 1 - (intOf s3).toNat))
  case atStart => exact ⟨1, 0, rfl, rfl, Nat.le_refl _, .inr rfl, fun j h1 h2 => by omega⟩
  case round =>
    obtain ⟨i, q, rfl, rfl, HI⟩ := hrel
    obtain ⟨i1, i2, i3⟩ := unhide HI
    obtain ⟨n1, n2, n3, n4⟩ := unhide HN
    by_cases hlt : i < n
    · obtain ⟨x, hx⟩ : ∃ x, ys[i]? = some x := ⟨_, List.getElem?_eq_getElem (by omega)⟩
      obtain ⟨y, hy⟩ : ∃ y, ys[i - 1]? = some y := ⟨_, List.getElem?_eq_getElem (by omega)⟩
      obtain ⟨g, rfl⟩ := brow_some (unhide H) (by omega)
      have d1 : w.cell? ⟨g, i, none⟩ = some (.int .i64 x) := brow_at (unhide H) hx
      obtain ⟨k, hk⟩ : ∃ k, k = i - 1 := ⟨_, rfl⟩
      rw [← hk] at hy
      have d2 : w.cell? ⟨g, k, none⟩ = some (.int .i64 y) := brow_at (unhide H) hy
      have z1 : (i : Int) < (n : Int) := by omega
      have z2 : IntKind.i64.wrap ((i : Int) - 1) = (k : Int) := by rw [IntKind.wrap_i64]; omega
      have z3 : (k : Int) < (n : Int) := by clear z2; omega
      by_cases hxy : x = y
      · subst hxy
        have HE : Hid (r = true) := by
          show r = true
          rw [n4]
          have : ¬ ys.Nodup := fun hh => by
            rw [List.Nodup, List.pairwise_iff_getElem] at hh
            have := hh k i (by omega) (by omega) (by omega)
            rw [(List.getElem?_eq_some_iff.1 hx).2, (List.getElem?_eq_some_iff.1 hy).2] at this
            exact this rfl
          rw [decide_eq_false this]; rfl
        clear HI i1 i2 i3 n1 n2 n3 n4 hlt hx hy hk
        go_wp2_with fail
        go_quiet (fail)
        go_wp2_with fail
        go_ret
        exact ⟨by rw [unhide HE]; rfl, _, World.drewN_drewN _ _ _⟩
      · have z4 : (x == y) = false := by simpa using hxy
        obtain ⟨j, hj⟩ : ∃ j, j = i + 1 := ⟨_, rfl⟩
        have zw : Hid (wrap64 ((i : Int) + 1) = (j : Int)) := by show wrap64 ((i : Int) + 1) = (j : Int); unfold wrap64; clear z2; omega
        have HJ : Hid (j = i + 1 ∧ n + 1 - j < n + 1 - i) := ⟨hj, by clear z2; omega⟩
        have HJ2 : Hid (1 ≤ j ∧ (j ≤ n ∨ j = 1) ∧ ∀ m : Nat, 1 ≤ m → m < j → ys[m]? ≠ ys[m - 1]?) := by
          clear z2
          refine ⟨by omega, .inl (by omega), fun m h1 h2 => ?_⟩
          rcases Nat.lt_or_ge m i with q | q
          · exact i3 m h1 q
          · obtain rfl : m = i := by omega
            rw [← hk, hx, hy]; exact fun e => hxy (Option.some.inj e)
        clear HI i1 i2 i3 n1 n2 n3 n4 hlt hx hy hk hj hxy
        go_wp2_with fail
        go_quiet (fail)
        go_wp2_with fail
        (try rw [unhide zw])
        exact ⟨⟨j, _, by first | rfl | (rw [(unhide HJ).1]; rfl), (by first | rfl | exact World.drewN_drewN _ _ _), HJ2⟩, by have := unhide HJ; simp [intOf]; omega⟩
    · have z1 : ¬ (i : Int) < (n : Int) := by omega
      have HE : Hid (r = false) := by
        show r = false
        rw [n4]
        have : ys.Nodup := (strict_of (fun j h1 h2 => i3 j h1 (by omega)) n3).imp (fun {a b} hh => by omega)
        rw [decide_eq_true this]; rfl
      clear HI i1 i2 i3 n1 n2 n3 n4 hlt
      go_wp2_with fail
      go_ret
      exact ⟨by rw [unhide HE]; rfl, q, rfl⟩
theorem amongS {w : World} {v : Value} {ys : List Int} (x : Int) (h : NRow w v ys) (hl : ys.length ≤ 1000000) (hs : ys.Pairwise (· ≤ ·)) :
    Calls Tryz.prog 66 #[v, .int .i64 x] w fun e w' => e = .returned (.bool (decide (x ∈ ys))) ∧ ∃ q, w' = w.drewN q := by
  have C1 := hide (findB v ys x w h hl hs)
  generalize decide (x ∈ ys) = r at *
  obtain ⟨a, c, rfl, -⟩ := brow_shape h
  clear h hl hs
  go_enter Tryz.func66, Tryz.ntmps66
  go_wp2_with fail
  refine (unhide C1).mono ?_
  rintro e w1 ⟨rfl, q, rfl⟩
  clear C1
  go_wp2_with fail
  go_ret
  exact ⟨rfl, q, rfl⟩
def oEd (x : EdV) : Obj := .cells #[.int .i64 x.1, .int .i64 x.2.1, .int .i64 x.2.2.1, .int .u32 x.2.2.2] 51
theorem cellsEd {w : World} {b : Nat} {x : EdV} (h : w.heap[b]? = some (oEd x)) : w.cell? ⟨b, 0, none⟩ = some (.int .i64 x.1) ∧ w.cell? ⟨b, 1, none⟩ = some (.int .i64 x.2.1) ∧ w.cell? ⟨b, 2, none⟩ = some (.int .i64 x.2.2.1) ∧ w.cell? ⟨b, 3, none⟩ = some (.int .u32 x.2.2.2) :=
  ⟨(cell_of_row _ _ 0 _ _ (0, 0) h).trans rfl, (cell_of_row _ _ 1 _ _ (0, 0) h).trans rfl, (cell_of_row _ _ 2 _ _ (0, 0) h).trans rfl, (cell_of_row _ _ 3 _ _ (0, 0) h).trans rfl⟩
set_option maxHeartbeats 1000000 in
set_option maxRecDepth 100000 in
theorem numbersS {w : World} {v : Value} {es : List EdV} (h : ERow 0 w v es) (hl : es.length ≤ 1000) :
    Calls Tryz.prog 68 #[v] w fun e w' => ∃ a n c, e = .returned (.slice a n c) ∧ Hid (RisenAns w (es.map (·.1)) (.slice a n c) w') := by
  obtain ⟨a, c, rfl⟩ := rrow_shape h
  obtain ⟨n, hn⟩ : ∃ n, n = es.length := ⟨_, rfl⟩
  rw [← hn] at h
  rw [← hn]
  have H := hide h
  have HN : Hid (n = es.length ∧ n ≤ 1000) := ⟨hn, by omega⟩
  clear h hn hl
  go_enter Tryz.func68, Tryz.ntmps68
  go_wp2_with fail
  go_loopw [8, 3] (fun s8 s3 wr => ∃ (i : Nat) (y : Option Addr) (yn yc : Nat), s8 = .int .i64 i ∧ s3 = .slice y yn yc ∧ Hid (i ≤ n ∧ BRow w.heap.size wr (.slice y yn yc) ((es.take i).map (·.1)) ∧ Below w.heap.size w wr)) (fun s8 _ _ => n - (intOf s8).toNat)
  case atStart => exact ⟨0, none, 0, 0, rfl, rfl, Nat.zero_le _, ⟨rfl, .inl ⟨rfl, rfl⟩⟩, Below.refl _ _⟩
  case round =>
    obtain ⟨i, y, yn, yc, rfl, rfl, HI⟩ := hrel
    obtain ⟨i1, i2, i3⟩ := unhide HI
    obtain ⟨n1, n2⟩ := unhide HN
    by_cases hlt : i < n
    · obtain ⟨x, hx⟩ : ∃ x, es[i]? = some x := ⟨_, List.getElem?_eq_getElem (by omega)⟩
      have hrow := rrow_below (unhide H) i3
      obtain ⟨g, rfl⟩ := rrow_some hrow (by omega)
      obtain ⟨d0, d1, d2, d3⟩ := erow_at hrow hx
      have hb := below_new wr (oEd x)
      obtain ⟨c0, -, -, -⟩ := cellsEd (heap_alloc_new wr (oEd x))
      obtain ⟨a', n', c', w', r, g1, g2, -⟩ := run_app8 x.1 (brow_kept i2 (fun b e => hb.block b (i2.lt b e).2)) (Nat.le_trans i3.size hb.size) (by rw [List.length_map, List.length_take]; omega)
      have HR := hide r
      have hsz : (wr.alloc (oEd x)).heap.size = wr.heap.size + 1 := by simp
      obtain ⟨j, hj⟩ : ∃ j, j = i + 1 := ⟨_, rfl⟩
      have zw : Hid (wrap64 ((i : Int) + 1) = (j : Int)) := by show wrap64 ((i : Int) + 1) = (j : Int); unfold wrap64; omega
      have HJ : Hid (j = i + 1 ∧ n - j < n - i) := ⟨hj, by omega⟩
      have HJ2 : Hid (j ≤ n ∧ BRow w.heap.size w' (.slice a' n' c') ((es.take j).map (·.1)) ∧ Below w.heap.size w w') := by
        refine ⟨by omega, ?_, ?_⟩
        · rw [hj, List.take_add_one, hx, List.map_append]; exact g1
        · have hb2 : Below w.heap.size w (wr.alloc (oEd x)) := i3.trans (hb.mono i3.size)
          exact hb2.trans (g2.below hb2.size (fun b e => (i2.lt b e).1))
      have z1 : (i : Int) < (n : Int) := by omega
      rw [hsz] at HR
      clear hrow hx hb i1 i2 i3 n1 n2 HI g1 g2 r hj hlt hsz
      unfold oEd at *
      go_wp2_with (at_builtin; refine Lib.wpList_append_run _ rfl _ _ 24 24 rfl _ _ rfl rfl _ _ (unhide HR _) ?_)
      (try rw [unhide zw])
      exact ⟨⟨j, a', n', c', by first | rfl | (rw [(unhide HJ).1]; rfl), rfl, HJ2⟩, by have := unhide HJ; simp [intOf]; omega⟩
    · have z1 : ¬ (i : Int) < (n : Int) := by omega
      have hti : es.take i = es := List.take_of_length_le (by omega)
      rw [hti] at i2
      have C1 := hide (risenS (brow_low i2 (Nat.zero_le _)) (by rw [List.length_map]; omega))
      have HB := hide i3
      clear HI i1 i2 i3 n1 n2 hlt hti
      go_wp2_with fail
      refine (unhide C1).mono ?_
      rintro e w1 ⟨a1, n1, c1, rfl, H1⟩
      have HE : Hid (RisenAns w (es.map (·.1)) (.slice a1 n1 c1) w1) := by
        obtain ⟨ys, q1, q2, q3, q4⟩ := unhide H1
        exact ⟨ys, q1, q2, brow_low q3 (unhide HB).size, (unhide HB).trans (q4.mono (unhide HB).size)⟩
      clear C1 H1 HB
      go_wp2_with fail
      go_ret
      exact ⟨_, _, _, rfl, HE⟩
def IdxAns (w : World) (es : List EdV) (p : EdV → Bool) (r : Int) (w' : World) : Prop := (0 ≤ r ↔ es.any p = true) ∧ Below w.heap.size w w'
/-- A question that is asked of an edge: it answers p, and leaves all there was. -/
def Asks (w : World) (g : Nat) (cb : Array Value) (p : EdV → Bool) : Prop := ∀ (x : EdV) (W : World), Below w.heap.size w W → Calls Tryz.prog g (#[.agg #[.int .i64 x.1, .int .i64 x.2.1, .int .i64 x.2.2.1, .int .u32 x.2.2.2]] ++ cb) W fun e w' => e = .returned (.bool (p x)) ∧ Hid (Below W.heap.size W w')
set_option maxHeartbeats 1000000 in
set_option maxRecDepth 100000 in
theorem indexFS {w : World} {v : Value} {es : List EdV} {g : Nat} {cb : Array Value} {p : EdV → Bool} (h : ERow 0 w v es) (hl : es.length ≤ 1000) (eg : ∀ args w, (callFunc g args).run Tryz.prog w = .ok (.enter g args) w) (hp : Asks w g cb p) :
    Calls Tryz.prog 101 #[v, .func (.func g) #[] cb] w fun e w' => ∃ r : Int, e = .returned (.int .i64 r) ∧ Hid (IdxAns w es p r w') := by
  obtain ⟨a, c, rfl⟩ := rrow_shape h
  obtain ⟨n, hn⟩ : ∃ n, n = es.length := ⟨_, rfl⟩
  rw [← hn] at h
  rw [← hn]
  have H := hide h
  have HN : Hid (n = es.length ∧ n ≤ 1000) := ⟨hn, by omega⟩
  have HP := hide hp
  clear h hn hl hp
  go_enter Tryz.func101, Tryz.ntmps101
  go_wp2_with fail
  go_loopw [8] (fun s8 wr => ∃ (i : Nat), s8 = .int .i64 i ∧ Hid (i ≤ n ∧ (∀ x ∈ es.take i, p x = false) ∧ Below w.heap.size w wr)) (fun s8 _ => n - (intOf s8).toNat)
  case atStart => exact ⟨0, rfl, Nat.zero_le _, fun x hx => (by simp at hx), Below.refl _ _⟩
  case round =>
    obtain ⟨i, rfl, HI⟩ := hrel
    obtain ⟨i1, i2, i3⟩ := unhide HI
    obtain ⟨n1, n2⟩ := unhide HN
    by_cases hlt : i < n
    · obtain ⟨x, hx⟩ : ∃ x, es[i]? = some x := ⟨_, List.getElem?_eq_getElem (by omega)⟩
      have hrow := rrow_below (unhide H) i3
      obtain ⟨gg, rfl⟩ := rrow_some hrow (by omega)
      obtain ⟨d0, d1, d2, d3⟩ := erow_at hrow hx
      have C1 := hide (unhide HP x wr i3)
      have z1 : (i : Int) < (n : Int) := by omega
      have HB := hide i3
      cases hpx : p x with
      | true =>
        rw [hpx] at C1
        have HA : Hid (es.any p = true) := List.any_eq_true.2 ⟨x, List.mem_of_getElem? hx, hpx⟩
        clear hrow hx hpx i1 i2 i3 n1 n2 HI hlt
        go_wp2_with fail
        refine (unhide C1).mono ?_
        rintro e w1 ⟨rfl, hb1⟩
        have HE : Hid (IdxAns w es p (i : Int) w1) := ⟨⟨fun _ => unhide HA, fun _ => by omega⟩, (unhide HB).trans ((unhide hb1).mono (unhide HB).size)⟩
        clear C1 hb1 HB HA d0 d1 d2 d3
        go_wp2_with fail
        go_ret
        exact ⟨_, rfl, HE⟩
      | false =>
        rw [hpx] at C1
        obtain ⟨j, hj⟩ : ∃ j, j = i + 1 := ⟨_, rfl⟩
        have zw : Hid (wrap64 ((i : Int) + 1) = (j : Int)) := by show wrap64 ((i : Int) + 1) = (j : Int); unfold wrap64; omega
        have HJ : Hid (j = i + 1 ∧ n - j < n - i ∧ j ≤ n ∧ ∀ x ∈ es.take j, p x = false) := ⟨hj, by omega, by omega, fun z hz => by
          rw [hj, List.take_add_one, hx] at hz
          rcases List.mem_append.1 hz with q | q
          · exact i2 z q
          · rw [show z = x by simpa using q]; exact hpx⟩
        clear hrow hx hpx i1 i2 i3 n1 n2 HI hlt hj
        go_wp2_with fail
        refine (unhide C1).mono ?_
        rintro e w1 ⟨rfl, hb1⟩
        have HB1 : Hid (Below w.heap.size w w1) := (unhide HB).trans ((unhide hb1).mono (unhide HB).size)
        clear C1 hb1 HB d0 d1 d2 d3
        go_wp2_with fail
        (try rw [unhide zw])
        exact ⟨⟨j, by first | rfl | (rw [(unhide HJ).1]; rfl), (unhide HJ).2.2.1, (unhide HJ).2.2.2, unhide HB1⟩, by have := unhide HJ; simp [intOf]; omega⟩
    · have z1 : ¬ (i : Int) < (n : Int) := by omega
      have hti : es.take i = es := List.take_of_length_le (by omega)
      rw [hti] at i2
      have HE : Hid (IdxAns w es p (-1) wr) := ⟨⟨fun q => by omega, fun q => by
        obtain ⟨x, h1, h2⟩ := List.any_eq_true.1 q
        rw [i2 x h1] at h2; cases h2⟩, i3⟩
      clear HI i1 i2 i3 n1 n2 hlt hti
      go_wp2_with fail
      go_ret
      exact ⟨_, rfl, HE⟩
theorem contFS {w : World} {v : Value} {es : List EdV} {g : Nat} {cb : Array Value} {p : EdV → Bool} (h : ERow 0 w v es) (hl : es.length ≤ 1000) (eg : ∀ args w, (callFunc g args).run Tryz.prog w = .ok (.enter g args) w) (hp : Asks w g cb p) :
    Calls Tryz.prog 69 #[v, .func (.func g) #[] cb] w fun e w' => e = .returned (.bool (es.any p)) ∧ Hid (Below w.heap.size w w') := by
  have C1 := hide (indexFS h hl eg hp)
  obtain ⟨a, c, rfl⟩ := rrow_shape h
  obtain ⟨r0, hr0⟩ : ∃ r0, r0 = es.any p := ⟨_, rfl⟩
  rw [← hr0]
  have HR0 := hide hr0
  clear h hl hp eg hr0
  go_enter Tryz.func69, Tryz.ntmps69
  go_wp2_with fail
  refine (unhide C1).mono ?_
  rintro e w1 ⟨r, rfl, H1⟩
  have HB := hide (unhide H1).2
  cases r0 with
  | true =>
    have z1 : (0 : Int) ≤ r := (unhide H1).1.2 (unhide HR0).symm
    clear C1 H1 HR0
    go_wp2_with fail
    go_ret
    exact ⟨by first | rfl | simp [z1], HB⟩
  | false =>
    have z1 : ¬ (0 : Int) ≤ r := fun q => by have := (unhide H1).1.1 q; rw [← unhide HR0] at this; cases this
    clear C1 H1 HR0
    go_wp2_with fail
    go_ret
    exact ⟨by first | rfl | simp [z1], HB⟩
end

section
open Go.RowKit Go.Maps
def lowB (x : EdV) : Bool := decide (x.1 < 1)
def awayB (ys : List Int) (x : EdV) : Bool := !decide (x.2.1 ∈ ys) || !decide (x.2.2.1 ∈ ys)
def badB (x : EdV) : Bool := (kept x.2.2.2).isNone
/-- What is wrong with a graph's lists. -/
def faultC (ys : List Int) (es : List EdV) (s : Int) : Int :=
  if (!decide ys.Nodup || !decide (es.map (·.1)).Nodup) = true then 2 else if es.any lowB = true then 1 else if (!decide (s ∈ ys) || es.any (awayB ys)) = true then 5 else if es.any badB = true then 7 else 0
theorem lowS (w : World) : Asks w 70 #[] lowB := fun x W _ => by
  have HB := hide (below_new W (oEd x))
  obtain ⟨c0, -, -, -⟩ := cellsEd (heap_alloc_new W (oEd x))
  unfold lowB
  obtain ⟨a, b, c, d⟩ := x
  (try dsimp only at c0)
  unfold oEd at *
  show Calls _ _ #[_] _ _
  by_cases h : a < 1
  · rw [decide_eq_true h]
    go_enter Tryz.func70, Tryz.ntmps70
    go_wp2_with fail
    go_ret
    exact ⟨by first | rfl | simp [h], HB⟩
  · rw [decide_eq_false h]
    go_enter Tryz.func70, Tryz.ntmps70
    go_wp2_with fail
    go_ret
    exact ⟨by first | rfl | simp [h], HB⟩
theorem badS (w : World) : Asks w 72 #[] badB := fun x W _ => by
  have HB := hide (below_new W (oEd x))
  obtain ⟨-, -, -, c3⟩ := cellsEd (heap_alloc_new W (oEd x))
  have C1 := hide (admitS x.2.2.2)
  unfold badB
  unfold ansAd at C1
  obtain ⟨a, b, c, d⟩ := x
  (try dsimp only at c3 C1)
  unfold oEd at *
  show Calls _ _ #[_] _ _
  cases hk : kept d with
  | none =>
    rw [hk] at C1
    (try dsimp only at C1)
    go_enter Tryz.func72, Tryz.ntmps72
    go_wp2_with fail
    refine (unhide C1 _).mono ?_
    rintro e w1 ⟨rfl, rfl⟩
    clear C1
    go_wp2_with fail
    go_ret
    exact ⟨by simp, HB⟩
  | some z =>
    rw [hk] at C1
    (try dsimp only at C1)
    go_enter Tryz.func72, Tryz.ntmps72
    go_wp2_with fail
    refine (unhide C1 _).mono ?_
    rintro e w1 ⟨rfl, rfl⟩
    clear C1
    go_wp2_with fail
    go_ret
    exact ⟨by simp, HB⟩
/-- The closure that asks whether a number is no vertex: the box of the list is vb. -/
theorem noneS {w : World} {vb : Nat} {vv : Value} {ys : List Int} (hb : w.cell? ⟨vb, 0, none⟩ = some vv) (h : NRow w vv ys) (hl : ys.length ≤ 1000000) (hs : ys.Pairwise (· ≤ ·)) (x : Int) :
    Calls Tryz.prog 65 #[.int .i64 x, .pointer (some ⟨vb, 0, none⟩)] w fun e w' => e = .returned (.bool (!decide (x ∈ ys))) ∧ ∃ q, w' = w.drewN q := by
  have C1 := hide (amongS x h hl hs)
  obtain ⟨a, c, rfl, -⟩ := brow_shape h
  generalize decide (x ∈ ys) = r at *
  clear h hl hs
  go_enter Tryz.func65, Tryz.ntmps65
  go_wp2_with fail
  refine (unhide C1).mono ?_
  rintro e w1 ⟨rfl, q, rfl⟩
  clear C1
  go_wp2_with fail
  go_ret
  exact ⟨rfl, q, rfl⟩
theorem cell_lt13 {w : World} {b o : Nat} {v : Value} (h : w.cell? ⟨b, o, none⟩ = some v) : b < w.heap.size := by
  rcases Nat.lt_or_ge b w.heap.size with q | q
  · exact q
  · unfold World.cell? at h
    rw [Array.getElem?_eq_none q] at h; cases h
set_option maxHeartbeats 1000000 in
set_option maxRecDepth 100000 in
theorem awayS {w : World} {vb fb : Nat} {vv : Value} {ys : List Int} (hf : w.cell? ⟨fb, 0, none⟩ = some (.func (.func 65) #[] #[.pointer (some ⟨vb, 0, none⟩)])) (hb : w.cell? ⟨vb, 0, none⟩ = some vv) (h : NRow w vv ys) (hl : ys.length ≤ 1000000) (hs : ys.Pairwise (· ≤ ·)) :
    Asks w 71 #[.pointer (some ⟨fb, 0, none⟩)] (awayB ys) := fun x W hW => by
  have hB := hW.trans ((below_new W (oEd x)).mono hW.size)
  have HB := hide (below_new W (oEd x))
  obtain ⟨-, c1, c2, -⟩ := cellsEd (heap_alloc_new W (oEd x))
  have HC : Hid (∀ (z : Int) (q : Nat), Calls Tryz.prog 65 #[.int .i64 z, .pointer (some ⟨vb, 0, none⟩)] ((W.alloc (oEd x)).drewN q) fun e w' => e = .returned (.bool (!decide (z ∈ ys))) ∧ ∃ q, w' = (W.alloc (oEd x)).drewN q) := fun z q => by
    have hB2 := below_drewN hB q
    refine (noneS ((hB2.cell (p := ⟨vb, 0, none⟩) (cell_lt13 hb)).trans hb) (nrow_below h hB2) hl hs z).mono ?_
    rintro e w' ⟨rfl, q', rfl⟩
    exact ⟨rfl, q + q', World.drewN_drewN _ _ _⟩
  have hF : (W.alloc (oEd x)).cell? ⟨fb, 0, none⟩ = some (.func (.func 65) #[] #[.pointer (some ⟨vb, 0, none⟩)]) := (hB.cell (p := ⟨fb, 0, none⟩) (cell_lt13 hf)).trans hf
  have eg : ∀ args w, (callFunc 65 args).run Tryz.prog w = .ok (.enter 65 args) w := enters_of Tryz.func65 (by kernel_rfl) rfl
  unfold awayB
  obtain ⟨a, u, v, d⟩ := x
  (try dsimp only at c1 c2)
  have C1 := hide (unhide HC u)
  have C2 := hide (unhide HC v)
  show Calls _ _ #[_, _] _ _
  (try dsimp only)
  generalize decide (u ∈ ys) = r1 at *
  generalize decide (v ∈ ys) = r2 at *
  clear HC hB hW h hl hs hf hb
  unfold oEd at *
  have C0 := hide (unhide C1 0)
  rw [World.drewN_zero] at C0
  cases r1 with
  | true =>
    go_enter Tryz.func71, Tryz.ntmps71
    go_wp2_with fail
    refine (unhide C0).mono ?_
    rintro e w1 ⟨rfl, q, rfl⟩
    go_wp2_with fail
    refine (unhide C2 _).mono ?_
    rintro e w2 ⟨rfl, q2, rfl⟩
    clear C0 C1 C2
    go_wp2_with fail
    go_ret
    exact ⟨by first | rfl | simp, below_drewN (unhide HB) _⟩
  | false =>
    go_enter Tryz.func71, Tryz.ntmps71
    go_wp2_with fail
    refine (unhide C0).mono ?_
    rintro e w1 ⟨rfl, q, rfl⟩
    clear C0 C1 C2
    go_wp2_with fail
    go_ret
    exact ⟨by first | rfl | simp, below_drewN (unhide HB) _⟩
end

section
open Go.RowKit Go.Maps
def oV (v : Value) : Obj := .cells #[v] 24
def oFn (vb : Nat) : Obj := .cells #[.func (.func 65) #[] #[.pointer (some ⟨vb, 0, none⟩)]] 59
set_option maxHeartbeats 2000000 in
set_option maxRecDepth 100000 in
theorem faultS {w : World} {vv ev : Value} {ys : List Int} {es : List EdV} {s : Int} (hv : NRow w vv ys) (hs : ys.Pairwise (· ≤ ·)) (he : ERow 0 w ev es) (hl1 : ys.length ≤ 1000) (hl2 : es.length ≤ 1000) :
    Calls Tryz.prog 38 #[vv, ev, .int .i64 s] w fun e w' => e = .returned (.int .i64 (faultC ys es s)) ∧ Hid (Below w.heap.size w w') := by
  obtain ⟨a1, c1, e1, -⟩ := brow_shape hv
  obtain ⟨n1, hn1⟩ : ∃ n1, vv = .slice a1 n1 c1 := ⟨_, e1⟩
  clear e1
  subst hn1
  obtain ⟨a2, c2, e2⟩ := rrow_shape he
  obtain ⟨n2, hn2⟩ : ∃ n2, ev = .slice a2 n2 c2 := ⟨_, e2⟩
  clear e2
  subst hn2
  obtain ⟨r, hr⟩ : ∃ r, r = faultC ys es s := ⟨_, rfl⟩
  rw [← hr]
  unfold faultC at hr
  have HR := hide hr
  have HH : Hid (NRow w (.slice a1 n1 c1) ys ∧ ys.Pairwise (· ≤ ·) ∧ ERow 0 w (.slice a2 n2 c2) es ∧ ys.length ≤ 1000 ∧ es.length ≤ 1000) := ⟨hv, hs, he, hl1, hl2⟩
  clear hv hs he hl1 hl2 hr
  go_enter Tryz.func38, Tryz.ntmps38
  go_upto_region 2 with fail
  have hb1 := below_new w (oV (.slice a1 n1 c1))
  have hb2 := below_new (w.alloc (oV (.slice a1 n1 c1))) (oFn w.heap.size)
  have hsz : (w.alloc (oV (.slice a1 n1 c1))).heap.size = w.heap.size + 1 := by simp
  have hB : Below w.heap.size w ((w.alloc (oV (.slice a1 n1 c1))).alloc (oFn w.heap.size)) := hb1.trans (hb2.mono hb1.size)
  have cV : ((w.alloc (oV (.slice a1 n1 c1))).alloc (oFn w.heap.size)).cell? ⟨w.heap.size, 0, none⟩ = some (.slice a1 n1 c1) := (cell_of_row _ _ 0 _ _ (0, 0) ((hb2.block _ (by omega)).trans (heap_alloc_new w (oV (.slice a1 n1 c1))))).trans rfl
  have cF : ((w.alloc (oV (.slice a1 n1 c1))).alloc (oFn w.heap.size)).cell? ⟨w.heap.size + 1, 0, none⟩ = some (.func (.func 65) #[] #[.pointer (some ⟨w.heap.size, 0, none⟩)]) := by
    have := (cell_of_row _ _ 0 _ _ (0, 0) (heap_alloc_new (w.alloc (oV (.slice a1 n1 c1))) (oFn w.heap.size))).trans rfl
    rwa [hsz] at this
  change Code.wp _ _ _ _ ((w.alloc (oV (.slice a1 n1 c1))).alloc (oFn w.heap.size))
  generalize (w.alloc (oV (.slice a1 n1 c1))).alloc (oFn w.heap.size) = W at *
  obtain ⟨vb, hvb⟩ : ∃ vb, vb = w.heap.size := ⟨_, rfl⟩
  obtain ⟨fb, hfb⟩ : ∃ fb, fb = w.heap.size + 1 := ⟨_, rfl⟩
  rw [← hfb, ← hvb] at cF
  rw [← hvb] at cV
  rw [← hfb, ← hvb]
  have HB := hide hB
  have HV := hide cV
  have HF := hide cF
  clear hb1 hb2 hsz hB hvb hfb
  have hW : Hid (∀ W', Below W.heap.size W W' → NRow W' (.slice a1 n1 c1) ys ∧ ERow 0 W' (.slice a2 n2 c2) es ∧ W'.cell? ⟨vb, 0, none⟩ = some (.slice a1 n1 c1) ∧ W'.cell? ⟨fb, 0, none⟩ = some (.func (.func 65) #[] #[.pointer (some ⟨vb, 0, none⟩)]) ∧ Below w.heap.size w W') := fun W' hb => by
    have hx := (unhide HB).trans (hb.mono (unhide HB).size)
    exact ⟨nrow_below (unhide HH).1 hx, rrow_below (unhide HH).2.2.1 hx, (hb.cell (p := ⟨vb, 0, none⟩) (cell_lt13 (unhide HV))).trans (unhide HV), (hb.cell (p := ⟨fb, 0, none⟩) (cell_lt13 (unhide HF))).trans (unhide HF), hx⟩
  have C1 := hide (repeatsS (unhide hW W (Below.refl _ _)).1 (by have := (unhide HH).2.2.2.1; omega) (unhide HH).2.1)
  obtain ⟨r1, hr1⟩ : ∃ r1, r1 = !decide ys.Nodup := ⟨_, rfl⟩
  have HR1 := hide hr1
  rw [← hr1] at C1
  clear hr1 HV HF
  cases r1 with
  | true =>
    go_wp2_with fail
    refine (unhide C1).mono ?_
    rintro e w1 ⟨rfl, q, hw1⟩
    have HE : Hid (r = 2 ∧ Below w.heap.size w w1) := ⟨by rw [unhide HR, if_pos (by rw [← unhide HR1]; rfl)], by rw [hw1]; exact below_drewN (unhide HB) q⟩
    clear C1 hw1 HB HR HR1 HH hW cV cF
    go_wp2_with fail
    go_ret
    exact ⟨by rw [(unhide HE).1]; rfl, (unhide HE).2⟩
  | false =>
    go_wp2_with fail
    refine (unhide C1).mono ?_
    rintro e w1 ⟨rfl, q1, hw1⟩
    have B1 : Hid (Below W.heap.size W w1) := by rw [hw1]; exact below_drewN (Below.refl _ _) q1
    have C2 := hide (numbersS (unhide hW w1 (unhide B1)).2.1 (unhide HH).2.2.2.2)
    clear C1 hw1
    go_wp2_with fail
    refine (unhide C2).mono ?_
    rintro e w2 ⟨a3, n3, c3, rfl, H2⟩
    obtain ⟨zs, z1, z2, z3, z4⟩ := unhide H2
    have B2 : Hid (Below W.heap.size W w2) := (unhide B1).trans (z4.mono (unhide B1).size)
    have C3 := hide (repeatsS (brow_low z3 (Nat.zero_le _)) (by rw [z1.length_eq, List.length_map]; have := (unhide HH).2.2.2.2; omega) z2)
    obtain ⟨r2, hr2⟩ : ∃ r2, r2 = !decide (es.map (·.1)).Nodup := ⟨_, rfl⟩
    have e2 : (!decide zs.Nodup) = r2 := by rw [hr2, decide_eq_decide.2 z1.nodup_iff]
    rw [e2] at C3
    have HR2 := hide hr2
    clear C2 H2 z1 z2 z3 z4 e2 hr2 B1
    go_wp2_with fail
    refine (unhide C3).mono ?_
    rintro e w3 ⟨rfl, q3, hw3⟩
    have B3 : Hid (Below W.heap.size W w3) := by rw [hw3]; exact below_drewN (unhide B2) q3
    clear C3 hw3 B2
    cases r2 with
    | true =>
      have HE : Hid (r = 2 ∧ Below w.heap.size w w3) := ⟨by rw [unhide HR, if_pos (by rw [← unhide HR1, ← unhide HR2]; rfl)], (unhide hW w3 (unhide B3)).2.2.2.2⟩
      clear HB HR HR1 HR2 HH hW B3 cV cF
      go_wp2_with fail
      go_ret
      exact ⟨by rw [(unhide HE).1]; rfl, (unhide HE).2⟩
    | false =>
      have C4 := hide (contFS (unhide hW w3 (unhide B3)).2.1 (unhide HH).2.2.2.2 (enters_of Tryz.func70 (by kernel_rfl) rfl) (lowS w3))
      obtain ⟨r3, hr3⟩ : ∃ r3, r3 = es.any lowB := ⟨_, rfl⟩
      rw [← hr3] at C4
      have HR' : Hid (r = if r3 = true then 1 else if (!decide (s ∈ ys) || es.any (awayB ys)) = true then 5 else if es.any badB = true then 7 else 0) := by
        show r = _
        rw [unhide HR, if_neg (by rw [← unhide HR1, ← unhide HR2]; simp), hr3]
      clear HR HR1 HR2 hr3
      go_wp2_with fail
      refine (unhide C4).mono ?_
      rintro e w4 ⟨rfl, hb4⟩
      have B4 : Hid (Below W.heap.size W w4) := (unhide B3).trans ((unhide hb4).mono (unhide B3).size)
      clear C4 hb4 B3
      cases r3 with
      | true =>
        have HE : Hid (r = 1 ∧ Below w.heap.size w w4) := ⟨unhide HR', (unhide hW w4 (unhide B4)).2.2.2.2⟩
        clear HB HR' HH hW B4 cV cF
        go_wp2_with fail
        go_ret
        exact ⟨by rw [(unhide HE).1]; rfl, (unhide HE).2⟩
      | false =>
        obtain ⟨k1, k2, k3, k4, -⟩ := unhide hW w4 (unhide B4)
        have C5 := hide (noneS k3 k1 (by have := (unhide HH).2.2.2.1; omega) (unhide HH).2.1 s)
        have eg : ∀ args w, (callFunc 65 args).run Tryz.prog w = .ok (.enter 65 args) w := enters_of Tryz.func65 (by kernel_rfl) rfl
        obtain ⟨r4, hr4⟩ : ∃ r4, r4 = !decide (s ∈ ys) := ⟨_, rfl⟩
        rw [← hr4] at C5
        have HR4 : Hid (r = if (r4 || es.any (awayB ys)) = true then 5 else if es.any badB = true then 7 else 0) := by
          show r = _
          rw [unhide HR', if_neg (by simp), hr4]
        clear HR' hr4 k1 k2 cV cF
        cases r4 with
        | true =>
          go_wp2_with fail
          refine (unhide C5).mono ?_
          rintro e w5 ⟨rfl, q5, hw5⟩
          have HE : Hid (r = 5 ∧ Below w.heap.size w w5) := ⟨by rw [unhide HR4]; rfl, by rw [hw5]; exact below_drewN (unhide hW w4 (unhide B4)).2.2.2.2 q5⟩
          clear C5 hw5 HB HR4 HH hW B4 k3 k4
          go_wp2_with fail
          go_ret
          exact ⟨by rw [(unhide HE).1]; rfl, (unhide HE).2⟩
        | false =>
          go_wp2_with fail
          refine (unhide C5).mono ?_
          rintro e w5 ⟨rfl, q5, hw5⟩
          have B5 : Hid (Below W.heap.size W w5) := by rw [hw5]; exact below_drewN (unhide B4) q5
          obtain ⟨k1, k2, m3, m4, -⟩ := unhide hW w5 (unhide B5)
          have C6 := hide (contFS k2 (unhide HH).2.2.2.2 (enters_of Tryz.func71 (by kernel_rfl) rfl) (awayS m4 m3 k1 (by have := (unhide HH).2.2.2.1; omega) (unhide HH).2.1))
          obtain ⟨r5, hr5⟩ : ∃ r5, r5 = es.any (awayB ys) := ⟨_, rfl⟩
          rw [← hr5] at C6
          have HR5 : Hid (r = if r5 = true then 5 else if es.any badB = true then 7 else 0) := by
            show r = _
            rw [unhide HR4, hr5, Bool.false_or]
          clear C5 hw5 HR4 hr5 k1 k2 m3 m4 k3 k4 B4
          go_wp2_with fail
          refine (unhide C6).mono ?_
          rintro e w6 ⟨rfl, hb6⟩
          have B6 : Hid (Below W.heap.size W w6) := (unhide B5).trans ((unhide hb6).mono (unhide B5).size)
          clear C6 hb6 B5
          cases r5 with
          | true =>
            have HE : Hid (r = 5 ∧ Below w.heap.size w w6) := ⟨unhide HR5, (unhide hW w6 (unhide B6)).2.2.2.2⟩
            clear HB HR5 HH hW B6
            go_wp2_with fail
            go_ret
            exact ⟨by rw [(unhide HE).1]; rfl, (unhide HE).2⟩
          | false =>
            have C7 := hide (contFS (unhide hW w6 (unhide B6)).2.1 (unhide HH).2.2.2.2 (enters_of Tryz.func72 (by kernel_rfl) rfl) (badS w6))
            obtain ⟨r6, hr6⟩ : ∃ r6, r6 = es.any badB := ⟨_, rfl⟩
            rw [← hr6] at C7
            have HR6 : Hid (r = if r6 = true then 7 else 0) := by
              show r = _
              rw [unhide HR5, if_neg (by simp), hr6]
            clear HR5 hr6
            go_wp2_with fail
            refine (unhide C7).mono ?_
            rintro e w7 ⟨rfl, hb7⟩
            have HE : Hid (Below w.heap.size w w7) := (unhide hW w7 ((unhide B6).trans ((unhide hb7).mono (unhide B6).size))).2.2.2.2
            clear C7 hb7 B6 hW HB HH
            cases r6 with
            | true =>
              go_wp2_with fail
              go_ret
              exact ⟨by rw [unhide HR6]; rfl, HE⟩
            | false =>
              go_wp2_with fail
              go_ret
              exact ⟨by rw [unhide HR6]; rfl, HE⟩
end

end Go.Proofs.YtbmcibofecigeaaGreat

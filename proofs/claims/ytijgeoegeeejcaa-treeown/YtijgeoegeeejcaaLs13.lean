/- A graph's lists: risen, numbers, repeats, among, ContainsFunc, fault. -/
import Derived.Test.YtijgeoegeeejcaaKit13
namespace Go.Proofs.Ytijgeoegeeejcaa
open Go.RowKit Go.Maps
theorem below_of_grown {w w0 w' : World} {g : Option Nat} (hb : Below w0.heap.size w0 w) (hg : w.grownBy w' g) (hn : ∀ b, g = some b → w0.heap.size ≤ b) : Below w0.heap.size w0 w' :=
  ⟨hg.os.trans hb.os, hg.tape.trans hb.tape, hg.output.trans hb.output, Nat.le_trans hb.size hg.size, fun b hbl => (hg.block b (Nat.lt_of_lt_of_le hbl hb.size) (fun e => by have := hn b e.symm; omega)).trans (hb.block b hbl)⟩
def RisenAns (w : World) (ks : List Int) (v : Value) (w' : World) : Prop := ∃ ys, ys.Perm ks ∧ ys.Pairwise (· ≤ ·) ∧ BRow w.heap.size w' v ys ∧ Below w.heap.size w w'
theorem risenS {w : World} {v : Value} {ks : List Int} (h : NRow w v ks) (hl : ks.length ≤ 1000000) :
    Calls Try.prog 23 #[v] w fun e w' => ∃ a n c, e = .returned (.slice a n c) ∧ Hid (RisenAns w ks (.slice a n c) w') := by
  have C1 := hide (cloneI w h hl)
  have HL := hide hl
  obtain ⟨a0, c0, rfl, -⟩ := brow_shape h
  clear h hl
  go_enter Try.func23, Try.ntmps23
  go_wp2_with fail
  refine (unhide C1).mono ?_
  rintro e w1 ⟨v1, rfl, H1⟩
  obtain ⟨a1, c1, e1, -⟩ := brow_shape (unhide H1).1
  obtain ⟨n1, hn1⟩ : ∃ n1, v1 = .slice a1 n1 c1 := ⟨_, e1⟩
  clear e1
  subst hn1
  have C2 := hide (sortN w.heap.size _ ks w1 (by have := unhide HL; omega) (unhide H1).1)
  clear C1
  go_wp2_with fail
  refine (unhide C2).mono ?_
  rintro e w2 ⟨rfl, H2⟩
  have HE : Hid (RisenAns w ks (.slice a1 n1 c1) w2) := by
    obtain ⟨ys, q1, q2, q3, q4⟩ := unhide H2
    exact ⟨ys, q1, q2, q3, below_of_grown (unhide H1).2 q4 (fun b e => ((unhide H1).1.lt b e).1)⟩
  clear C2 H2 H1
  go_wp2_with fail
  go_ret
  exact ⟨_, _, _, rfl, HE⟩
theorem strict_of {ys : List Int} (h : ∀ j : Nat, 1 ≤ j → j < ys.length → ys[j]? ≠ ys[j - 1]?) (hs : ys.Pairwise (· ≤ ·)) : ys.Pairwise (· < ·) := by
  rw [List.pairwise_iff_getElem] at hs ⊢
  intro i j hi hj hij
  have h1 := h (i + 1) (by omega) (by omega)
  rw [Nat.add_sub_cancel, List.getElem?_eq_getElem (show i + 1 < ys.length by omega), List.getElem?_eq_getElem hi] at h1
  have h2 := hs i (i + 1) hi (by omega) (by omega)
  have h4 : ys[i + 1] ≠ ys[i] := fun e => h1 (by rw [e])
  rcases Nat.lt_or_ge (i + 1) j with q | q
  · have h3 := hs (i + 1) j (by omega) hj q
    omega
  · have e : j = i + 1 := by omega
    subst e
    omega
set_option maxHeartbeats 1000000 in
set_option maxRecDepth 100000 in
theorem repeatsS {w : World} {v : Value} {ys : List Int} (h : NRow w v ys) (hl : ys.length ≤ 1000000) (hs : ys.Pairwise (· ≤ ·)) :
    Calls Try.prog 44 #[v] w fun e w' => e = .returned (.bool (!decide ys.Nodup)) ∧ ∃ q, w' = w.drewN q := by
  obtain ⟨a, c, rfl, -⟩ := brow_shape h
  obtain ⟨n, hn⟩ : ∃ n, n = ys.length := ⟨_, rfl⟩
  rw [← hn] at h
  rw [← hn]
  obtain ⟨r, hr⟩ : ∃ r, r = !decide ys.Nodup := ⟨_, rfl⟩
  rw [← hr]
  have H := hide h
  have HN : Hid (n = ys.length ∧ n ≤ 1000000 ∧ ys.Pairwise (· ≤ ·) ∧ r = !decide ys.Nodup) := ⟨hn, by omega, hs, hr⟩
  clear h hn hs hr hl
  go_enter Try.func44, Try.ntmps44
  go_wp2_with fail
  go_loopw [3] (fun s3 wr => ∃ (i q : Nat), s3 = .int .i64 i ∧ wr = w.drewN q ∧ Hid (1 ≤ i ∧ (i ≤ n ∨ i = 1) ∧ ∀ j : Nat, 1 ≤ j → j < i → ys[j]? ≠ ys[j - 1]?)) (fun s3 _ => (n + 1 - (intOf s3).toNat))
  case atStart => exact ⟨1, 0, rfl, rfl, Nat.le_refl _, .inr rfl, fun j h1 h2 => by omega⟩
  case round =>
    obtain ⟨i, q, rfl, rfl, HI⟩ := hrel
    obtain ⟨i1, i2, i3⟩ := unhide HI
    obtain ⟨n1, n2, n3, n4⟩ := unhide HN
    by_cases hlt : i < n
    · obtain ⟨x, hx⟩ : ∃ x, ys[i]? = some x := ⟨_, List.getElem?_eq_getElem (by omega)⟩
      obtain ⟨y, hy⟩ : ∃ y, ys[i - 1]? = some y := ⟨_, List.getElem?_eq_getElem (by omega)⟩
      obtain ⟨g, rfl⟩ := brow_some (unhide H) (by omega)
      have d1 : w.cell? ⟨g, i, none⟩ = some (.int .i64 x) := brow_at (unhide H) hx
      obtain ⟨k, hk⟩ : ∃ k, k = i - 1 := ⟨_, rfl⟩
      rw [← hk] at hy
      have d2 : w.cell? ⟨g, k, none⟩ = some (.int .i64 y) := brow_at (unhide H) hy
      have z1 : (i : Int) < (n : Int) := by omega
      have z2 : IntKind.i64.wrap ((i : Int) - 1) = (k : Int) := by rw [IntKind.wrap_i64]; omega
      have z3 : (k : Int) < (n : Int) := by clear z2; omega
      by_cases hxy : x = y
      · subst hxy
        have HE : Hid (r = true) := by
          show r = true
          rw [n4]
          have : ¬ ys.Nodup := fun hh => by
            rw [List.Nodup, List.pairwise_iff_getElem] at hh
            have := hh k i (by omega) (by omega) (by omega)
            rw [(List.getElem?_eq_some_iff.1 hx).2, (List.getElem?_eq_some_iff.1 hy).2] at this
            exact this rfl
          rw [decide_eq_false this]; rfl
        clear HI i1 i2 i3 n1 n2 n3 n4 hlt hx hy hk
        go_wp2_with fail
        go_quiet (fail)
        go_wp2_with fail
        go_ret
        exact ⟨by rw [unhide HE]; rfl, _, World.drewN_drewN _ _ _⟩
      · have z4 : (x == y) = false := by simpa using hxy
        obtain ⟨j, hj⟩ : ∃ j, j = i + 1 := ⟨_, rfl⟩
        have zw : Hid (wrap64 ((i : Int) + 1) = (j : Int)) := by show wrap64 ((i : Int) + 1) = (j : Int); unfold wrap64; clear z2; omega
        have HJ : Hid (j = i + 1 ∧ n + 1 - j < n + 1 - i) := ⟨hj, by clear z2; omega⟩
        have HJ2 : Hid (1 ≤ j ∧ (j ≤ n ∨ j = 1) ∧ ∀ m : Nat, 1 ≤ m → m < j → ys[m]? ≠ ys[m - 1]?) := by
          clear z2
          refine ⟨by omega, .inl (by omega), fun m h1 h2 => ?_⟩
          rcases Nat.lt_or_ge m i with q | q
          · exact i3 m h1 q
          · obtain rfl : m = i := by omega
            rw [← hk, hx, hy]; exact fun e => hxy (Option.some.inj e)
        clear HI i1 i2 i3 n1 n2 n3 n4 hlt hx hy hk hj hxy
        go_wp2_with fail
        go_quiet (fail)
        go_wp2_with fail
        (try rw [unhide zw])
        exact ⟨⟨j, _, by first | rfl | (rw [(unhide HJ).1]; rfl), (by first | rfl | exact World.drewN_drewN _ _ _), HJ2⟩, by have := unhide HJ; simp [intOf]; omega⟩
    · have z1 : ¬ (i : Int) < (n : Int) := by omega
      have HE : Hid (r = false) := by
        show r = false
        rw [n4]
        have : ys.Nodup := (strict_of (fun j h1 h2 => i3 j h1 (by omega)) n3).imp (fun {a b} hh => by omega)
        rw [decide_eq_true this]; rfl
      clear HI i1 i2 i3 n1 n2 n3 n4 hlt
      go_wp2_with fail
      go_ret
      exact ⟨by rw [unhide HE]; rfl, q, rfl⟩
theorem amongS {w : World} {v : Value} {ys : List Int} (x : Int) (h : NRow w v ys) (hl : ys.length ≤ 1000000) (hs : ys.Pairwise (· ≤ ·)) :
    Calls Try.prog 43 #[v, .int .i64 x] w fun e w' => e = .returned (.bool (decide (x ∈ ys))) ∧ ∃ q, w' = w.drewN q := by
  have C1 := hide (findB v ys x w h hl hs)
  generalize decide (x ∈ ys) = r at *
  obtain ⟨a, c, rfl, -⟩ := brow_shape h
  clear h hl hs
  go_enter Try.func43, Try.ntmps43
  go_wp2_with fail
  refine (unhide C1).mono ?_
  rintro e w1 ⟨rfl, q, rfl⟩
  clear C1
  go_wp2_with fail
  go_ret
  exact ⟨rfl, q, rfl⟩
def oEd (x : EdV) : Obj := .cells #[.int .i64 x.1, .int .i64 x.2.1, .int .i64 x.2.2.1, .int .u32 x.2.2.2] 42
theorem cellsEd {w : World} {b : Nat} {x : EdV} (h : w.heap[b]? = some (oEd x)) : w.cell? ⟨b, 0, none⟩ = some (.int .i64 x.1) ∧ w.cell? ⟨b, 1, none⟩ = some (.int .i64 x.2.1) ∧ w.cell? ⟨b, 2, none⟩ = some (.int .i64 x.2.2.1) ∧ w.cell? ⟨b, 3, none⟩ = some (.int .u32 x.2.2.2) :=
  ⟨(cell_of_row _ _ 0 _ _ (0, 0) h).trans rfl, (cell_of_row _ _ 1 _ _ (0, 0) h).trans rfl, (cell_of_row _ _ 2 _ _ (0, 0) h).trans rfl, (cell_of_row _ _ 3 _ _ (0, 0) h).trans rfl⟩
set_option maxHeartbeats 1000000 in
set_option maxRecDepth 100000 in
theorem numbersS {w : World} {v : Value} {es : List EdV} (h : ERow 0 w v es) (hl : es.length ≤ 1000) :
    Calls Try.prog 45 #[v] w fun e w' => ∃ a n c, e = .returned (.slice a n c) ∧ Hid (RisenAns w (es.map (·.1)) (.slice a n c) w') := by
  obtain ⟨a, c, rfl⟩ := rrow_shape h
  obtain ⟨n, hn⟩ : ∃ n, n = es.length := ⟨_, rfl⟩
  rw [← hn] at h
  rw [← hn]
  have H := hide h
  have HN : Hid (n = es.length ∧ n ≤ 1000) := ⟨hn, by omega⟩
  clear h hn hl
  go_enter Try.func45, Try.ntmps45
  go_wp2_with fail
  go_loopw [8, 3] (fun s8 s3 wr => ∃ (i : Nat) (y : Option Addr) (yn yc : Nat), s8 = .int .i64 i ∧ s3 = .slice y yn yc ∧ Hid (i ≤ n ∧ BRow w.heap.size wr (.slice y yn yc) ((es.take i).map (·.1)) ∧ Below w.heap.size w wr)) (fun s8 _ _ => n - (intOf s8).toNat)
  case atStart => exact ⟨0, none, 0, 0, rfl, rfl, Nat.zero_le _, ⟨rfl, .inl ⟨rfl, rfl⟩⟩, Below.refl _ _⟩
  case round =>
    obtain ⟨i, y, yn, yc, rfl, rfl, HI⟩ := hrel
    obtain ⟨i1, i2, i3⟩ := unhide HI
    obtain ⟨n1, n2⟩ := unhide HN
    by_cases hlt : i < n
    · obtain ⟨x, hx⟩ : ∃ x, es[i]? = some x := ⟨_, List.getElem?_eq_getElem (by omega)⟩
      have hrow := rrow_below (unhide H) i3
      obtain ⟨g, rfl⟩ := rrow_some hrow (by omega)
      obtain ⟨d0, d1, d2, d3⟩ := erow_at hrow hx
      have hb := below_new wr (oEd x)
      obtain ⟨c0, -, -, -⟩ := cellsEd (heap_alloc_new wr (oEd x))
      obtain ⟨a', n', c', w', r, g1, g2, -⟩ := run_app8 x.1 (brow_kept i2 (fun b e => hb.block b (i2.lt b e).2)) (Nat.le_trans i3.size hb.size) (by rw [List.length_map, List.length_take]; omega)
      have HR := hide r
      have hsz : (wr.alloc (oEd x)).heap.size = wr.heap.size + 1 := by simp
      obtain ⟨j, hj⟩ : ∃ j, j = i + 1 := ⟨_, rfl⟩
      have zw : Hid (wrap64 ((i : Int) + 1) = (j : Int)) := by show wrap64 ((i : Int) + 1) = (j : Int); unfold wrap64; omega
      have HJ : Hid (j = i + 1 ∧ n - j < n - i) := ⟨hj, by omega⟩
      have HJ2 : Hid (j ≤ n ∧ BRow w.heap.size w' (.slice a' n' c') ((es.take j).map (·.1)) ∧ Below w.heap.size w w') := by
        refine ⟨by omega, ?_, ?_⟩
        · rw [hj, List.take_add_one, hx, List.map_append]; exact g1
        · have hb2 : Below w.heap.size w (wr.alloc (oEd x)) := i3.trans (hb.mono i3.size)
          exact hb2.trans (g2.below hb2.size (fun b e => (i2.lt b e).1))
      have z1 : (i : Int) < (n : Int) := by omega
      rw [hsz] at HR
      clear hrow hx hb i1 i2 i3 n1 n2 HI g1 g2 r hj hlt hsz
      unfold oEd at *
      go_wp2_with (at_builtin; refine Lib.wpList_append_run _ rfl _ _ 22 22 rfl _ _ rfl rfl _ _ (unhide HR _) ?_)
      (try rw [unhide zw])
      exact ⟨⟨j, a', n', c', by first | rfl | (rw [(unhide HJ).1]; rfl), rfl, HJ2⟩, by have := unhide HJ; simp [intOf]; omega⟩
    · have z1 : ¬ (i : Int) < (n : Int) := by omega
      have hti : es.take i = es := List.take_of_length_le (by omega)
      rw [hti] at i2
      have C1 := hide (risenS (brow_low i2 (Nat.zero_le _)) (by rw [List.length_map]; omega))
      have HB := hide i3
      clear HI i1 i2 i3 n1 n2 hlt hti
      go_wp2_with fail
      refine (unhide C1).mono ?_
      rintro e w1 ⟨a1, n1, c1, rfl, H1⟩
      have HE : Hid (RisenAns w (es.map (·.1)) (.slice a1 n1 c1) w1) := by
        obtain ⟨ys, q1, q2, q3, q4⟩ := unhide H1
        exact ⟨ys, q1, q2, brow_low q3 (unhide HB).size, (unhide HB).trans (q4.mono (unhide HB).size)⟩
      clear C1 H1 HB
      go_wp2_with fail
      go_ret
      exact ⟨_, _, _, rfl, HE⟩
def IdxAns (w : World) (es : List EdV) (p : EdV → Bool) (r : Int) (w' : World) : Prop := (0 ≤ r ↔ es.any p = true) ∧ Below w.heap.size w w'
/-- A question that is asked of an edge: it answers p, and leaves all there was. -/
def Asks (w : World) (g : Nat) (cb : Array Value) (p : EdV → Bool) : Prop := ∀ (x : EdV) (W : World), Below w.heap.size w W → Calls Try.prog g (#[.agg #[.int .i64 x.1, .int .i64 x.2.1, .int .i64 x.2.2.1, .int .u32 x.2.2.2]] ++ cb) W fun e w' => e = .returned (.bool (p x)) ∧ Hid (Below W.heap.size W w')
set_option maxHeartbeats 1000000 in
set_option maxRecDepth 100000 in
theorem indexFS {w : World} {v : Value} {es : List EdV} {g : Nat} {cb : Array Value} {p : EdV → Bool} (h : ERow 0 w v es) (hl : es.length ≤ 1000) (eg : ∀ args w, (callFunc g args).run Try.prog w = .ok (.enter g args) w) (hp : Asks w g cb p) :
    Calls Try.prog 68 #[v, .func (.func g) #[] cb] w fun e w' => ∃ r : Int, e = .returned (.int .i64 r) ∧ Hid (IdxAns w es p r w') := by
  obtain ⟨a, c, rfl⟩ := rrow_shape h
  obtain ⟨n, hn⟩ : ∃ n, n = es.length := ⟨_, rfl⟩
  rw [← hn] at h
  rw [← hn]
  have H := hide h
  have HN : Hid (n = es.length ∧ n ≤ 1000) := ⟨hn, by omega⟩
  have HP := hide hp
  clear h hn hl hp
  go_enter Try.func68, Try.ntmps68
  go_wp2_with fail
  go_loopw [8] (fun s8 wr => ∃ (i : Nat), s8 = .int .i64 i ∧ Hid (i ≤ n ∧ (∀ x ∈ es.take i, p x = false) ∧ Below w.heap.size w wr)) (fun s8 _ => n - (intOf s8).toNat)
  case atStart => exact ⟨0, rfl, Nat.zero_le _, fun x hx => (by simp at hx), Below.refl _ _⟩
  case round =>
    obtain ⟨i, rfl, HI⟩ := hrel
    obtain ⟨i1, i2, i3⟩ := unhide HI
    obtain ⟨n1, n2⟩ := unhide HN
    by_cases hlt : i < n
    · obtain ⟨x, hx⟩ : ∃ x, es[i]? = some x := ⟨_, List.getElem?_eq_getElem (by omega)⟩
      have hrow := rrow_below (unhide H) i3
      obtain ⟨gg, rfl⟩ := rrow_some hrow (by omega)
      obtain ⟨d0, d1, d2, d3⟩ := erow_at hrow hx
      have C1 := hide (unhide HP x wr i3)
      have z1 : (i : Int) < (n : Int) := by omega
      have HB := hide i3
      cases hpx : p x with
      | true =>
        rw [hpx] at C1
        have HA : Hid (es.any p = true) := List.any_eq_true.2 ⟨x, List.mem_of_getElem? hx, hpx⟩
        clear hrow hx hpx i1 i2 i3 n1 n2 HI hlt
        go_wp2_with fail
        refine (unhide C1).mono ?_
        rintro e w1 ⟨rfl, hb1⟩
        have HE : Hid (IdxAns w es p (i : Int) w1) := ⟨⟨fun _ => unhide HA, fun _ => by omega⟩, (unhide HB).trans ((unhide hb1).mono (unhide HB).size)⟩
        clear C1 hb1 HB HA d0 d1 d2 d3
        go_wp2_with fail
        go_ret
        exact ⟨_, rfl, HE⟩
      | false =>
        rw [hpx] at C1
        obtain ⟨j, hj⟩ : ∃ j, j = i + 1 := ⟨_, rfl⟩
        have zw : Hid (wrap64 ((i : Int) + 1) = (j : Int)) := by show wrap64 ((i : Int) + 1) = (j : Int); unfold wrap64; omega
        have HJ : Hid (j = i + 1 ∧ n - j < n - i ∧ j ≤ n ∧ ∀ x ∈ es.take j, p x = false) := ⟨hj, by omega, by omega, fun z hz => by
          rw [hj, List.take_add_one, hx] at hz
          rcases List.mem_append.1 hz with q | q
          · exact i2 z q
          · rw [show z = x by simpa using q]; exact hpx⟩
        clear hrow hx hpx i1 i2 i3 n1 n2 HI hlt hj
        go_wp2_with fail
        refine (unhide C1).mono ?_
        rintro e w1 ⟨rfl, hb1⟩
        have HB1 : Hid (Below w.heap.size w w1) := (unhide HB).trans ((unhide hb1).mono (unhide HB).size)
        clear C1 hb1 HB d0 d1 d2 d3
        go_wp2_with fail
        (try rw [unhide zw])
        exact ⟨⟨j, by first | rfl | (rw [(unhide HJ).1]; rfl), (unhide HJ).2.2.1, (unhide HJ).2.2.2, unhide HB1⟩, by have := unhide HJ; simp [intOf]; omega⟩
    · have z1 : ¬ (i : Int) < (n : Int) := by omega
      have hti : es.take i = es := List.take_of_length_le (by omega)
      rw [hti] at i2
      have HE : Hid (IdxAns w es p (-1) wr) := ⟨⟨fun q => by omega, fun q => by
        obtain ⟨x, h1, h2⟩ := List.any_eq_true.1 q
        rw [i2 x h1] at h2; cases h2⟩, i3⟩
      clear HI i1 i2 i3 n1 n2 hlt hti
      go_wp2_with fail
      go_ret
      exact ⟨_, rfl, HE⟩
theorem contFS {w : World} {v : Value} {es : List EdV} {g : Nat} {cb : Array Value} {p : EdV → Bool} (h : ERow 0 w v es) (hl : es.length ≤ 1000) (eg : ∀ args w, (callFunc g args).run Try.prog w = .ok (.enter g args) w) (hp : Asks w g cb p) :
    Calls Try.prog 46 #[v, .func (.func g) #[] cb] w fun e w' => e = .returned (.bool (es.any p)) ∧ Hid (Below w.heap.size w w') := by
  have C1 := hide (indexFS h hl eg hp)
  obtain ⟨a, c, rfl⟩ := rrow_shape h
  obtain ⟨r0, hr0⟩ : ∃ r0, r0 = es.any p := ⟨_, rfl⟩
  rw [← hr0]
  have HR0 := hide hr0
  clear h hl hp eg hr0
  go_enter Try.func46, Try.ntmps46
  go_wp2_with fail
  refine (unhide C1).mono ?_
  rintro e w1 ⟨r, rfl, H1⟩
  have HB := hide (unhide H1).2
  cases r0 with
  | true =>
    have z1 : (0 : Int) ≤ r := (unhide H1).1.2 (unhide HR0).symm
    clear C1 H1 HR0
    go_wp2_with fail
    go_ret
    exact ⟨by first | rfl | simp [z1], HB⟩
  | false =>
    have z1 : ¬ (0 : Int) ≤ r := fun q => by have := (unhide H1).1.1 q; rw [← unhide HR0] at this; cases this
    clear C1 H1 HR0
    go_wp2_with fail
    go_ret
    exact ⟨by first | rfl | simp [z1], HB⟩
end Go.Proofs.Ytijgeoegeeejcaa

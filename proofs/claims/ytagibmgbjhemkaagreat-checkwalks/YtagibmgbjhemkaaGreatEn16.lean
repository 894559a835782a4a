/- Encode. -/
import Derived.Test.YtagibmgbjhemkaaGreatMt16
import Derived.Test.YtagibmgbjhemkaaGreatHo17
namespace Go.Proofs.YtagibmgbjhemkaaGreat

namespace W16
open Go.RowKit Go.Maps
def Grows (B : Nat) (w : World) (v : Value) (w' : World) (v' : Value) (bs : List Nat) : Prop :=
  ByRow B w' v' bs ∧ Turned (fun b => v.ownBlock = some b) w w' ∧ ∀ b, v'.ownBlock = some b → v.ownBlock = some b ∨ w.heap.size ≤ b
theorem Grows.trans {B : Nat} {w w1 w2 : World} {v v1 v2 : Value} {b1 b2 : List Nat} (h : Grows B w v w1 v1 b1) (k : Grows B w1 v1 w2 v2 b2) : Grows B w v w2 v2 b2 :=
  ⟨k.1, ⟨k.2.1.os.trans h.2.1.os, k.2.1.tape.trans h.2.1.tape, k.2.1.output.trans h.2.1.output, Nat.le_trans h.2.1.size k.2.1.size,
    fun i hi hn => (k.2.1.block i (Nat.lt_of_lt_of_le hi h.2.1.size) (fun e => (h.2.2 i e).elim (fun q => hn q) (fun q => by omega))).trans (h.2.1.block i hi hn)⟩,
   fun b e => (k.2.2 b e).elim (fun q => h.2.2 b q) (fun q => .inr (Nat.le_trans h.2.1.size q))⟩
theorem Grows.refl {B : Nat} {w : World} {v : Value} {bs : List Nat} (h : ByRow B w v bs) : Grows B w v w v bs := ⟨h, Turned.refl _ _, fun _ e => .inl e⟩
set_option maxHeartbeats 2000000 in
set_option maxRecDepth 100000 in
theorem appendNumberS {B : Nat} {w : World} {v : Value} {xs : List Nat} {n : Nat} (h : ByRow B w v xs) (hB : B ≤ w.heap.size) (hl : xs.length ≤ 900000) (hn : n < 34359738368) :
    Calls Tryz.prog 48 #[v, .int .i64 (n : Nat)] w fun e w' => ∃ v', e = .returned v' ∧ Hid (Grows B w v w' v' (xs ++ nb n)) := by
  obtain ⟨a0, c0, rfl⟩ := rrow_shape h; have h5 := nb_len 4 n (by simpa using hn)
  have HN : Hid (n < 34359738368 ∧ (nb n).length ≤ 5 ∧ xs.length ≤ 900000 ∧ B ≤ w.heap.size) := ⟨hn, h5, hl, hB⟩; have H := hide h; generalize hn0 : xs.length = n0 at *; have HN0 := hide hn0; clear h hB hl hn h5 hn0
  go_enter Tryz.func48, Tryz.ntmps48
  go_wp2_with fail
  go_loopw [0, 1] (fun s0 s1 wr => ∃ (m a' n' c' : _) (ys : List Nat), s0 = .slice a' n' c' ∧ s1 = .int .i64 (m : Nat) ∧ Hid (nb n = ys ++ nb m ∧ m ≤ n ∧ Grows B w (.slice a0 n0 c0) wr (.slice a' n' c') (xs ++ ys))) (fun _ s1 _ => (intOf s1).toNat)
  case atStart => exact ⟨n, a0, n0, c0, [], rfl, rfl, rfl, Nat.le_refl _, Grows.refl (by rw [List.append_nil]; exact unhide H)⟩
  case round =>
    obtain ⟨m, a', n', c', ys, rfl, rfl, HI⟩ := hrel; obtain ⟨i1, i2, i3⟩ := unhide HI; obtain ⟨n1, n2, n3, n4⟩ := unhide HN; have hy : ys.length + (nb m).length ≤ 5 := by rw [← List.length_append, ← i1]; exact n2
    have hby : B ≤ wr.heap.size := Nat.le_trans n4 i3.2.1.size; have hyl : (xs ++ ys).length < 1000000 := by have := unhide HN0; simp; omega
    by_cases hlt : m < 128
    · obtain ⟨a2, m2, c2, w2, hr, g1, g2, g3⟩ := run_app1B m i3.1 hby hyl; have HR := hide hr; have HG : Hid (Grows B w (.slice a0 n0 c0) w2 (.slice a2 m2 c2) (xs ++ nb n)) := by
        have : Grows B wr (.slice a' n' c') w2 (.slice a2 m2 c2) (xs ++ nb n) := ⟨by rw [i1, nb_lt hlt, ← List.append_assoc]; exact g1, g2, g3⟩
        exact i3.trans this
      have z1 : ¬ (m : Int) ≥ 128 := by omega
      have z2 : IntKind.wrap .u8 (m : Int) = (m : Int) := by unfold IntKind.wrap; simp [IntKind.signed, IntKind.bits]; omega
      clear HI i1 i2 i3 n1 n2 n3 n4 hy hby hyl hlt hr g1 g2 g3
      go_wp2_with (at_builtin; refine Lib.wpList_append_run _ rfl _ _ 23 23 rfl _ _ rfl rfl _ _ (unhide HR _) ?_)
      go_ret
      exact ⟨_, rfl, HG⟩
    · obtain ⟨d, hd⟩ : ∃ d, d = m % 128 + 128 := ⟨_, rfl⟩; obtain ⟨q, hq⟩ : ∃ q, q = m / 128 := ⟨_, rfl⟩; obtain ⟨a2, m2, c2, w2, hr, g1, g2, g3⟩ := run_app1B d i3.1 hby hyl; have HR := hide hr; have HG : Hid (nb n = (ys ++ [d]) ++ nb q ∧ q ≤ n ∧ q < m ∧ Grows B w (.slice a0 n0 c0) w2 (.slice a2 m2 c2) (xs ++ (ys ++ [d]))) := by
        have : Grows B wr (.slice a' n' c') w2 (.slice a2 m2 c2) (xs ++ (ys ++ [d])) := ⟨by rw [← List.append_assoc]; exact g1, g2, g3⟩
        exact ⟨by rw [i1, nb_ge hlt, hd, hq, List.append_assoc]; rfl, by omega, by omega, i3.trans this⟩
      have z1 : (m : Int) ≥ 128 := by omega
      have ed : ((d : Nat) : Int) = (m : Int) % 128 + 128 := by omega
      have eq' : ((q : Nat) : Int) = (m : Int) / 128 := by omega
      rw [ed] at HR; have HQ := hide eq'; clear HI i1 i2 i3 n1 n2 n3 n4 hy hby hyl hlt hr g1 g2 g3 hd ed eq' hq
      go_wp2_with (at_builtin; refine Lib.wpList_append_run _ rfl _ _ 23 23 rfl _ _ rfl rfl _ _ (unhide HR _) ?_)
      exact ⟨⟨q, a2, m2, c2, ys ++ [d], rfl, by rw [unhide HQ], (unhide HG).1, (unhide HG).2.1, (unhide HG).2.2.2⟩, by have h1 := unhide HQ; have h2 := (unhide HG).2.2.1; simp only [intOf]; omega⟩
end W16

namespace W16
open Go.RowKit Go.Maps
set_option maxHeartbeats 2000000 in
set_option maxRecDepth 100000 in
theorem appendBitsS {B : Nat} {w : World} {v : Value} {xs : List Nat} {u : Nat} (h : ByRow B w v xs) (hB : B ≤ w.heap.size) (hl : xs.length ≤ 900000) (hu : u < 4294967296) :
    Calls Tryz.prog 49 #[v, .int .u32 (u : Nat)] w fun e w' => ∃ v', e = .returned v' ∧ Hid (Grows B w v w' v' (xs ++ bb u)) := by
  obtain ⟨a0, c0, rfl⟩ := rrow_shape h; have HN : Hid (xs.length ≤ 900000 ∧ B ≤ w.heap.size ∧ u < 4294967296) := ⟨hl, hB, hu⟩; have H := hide h; generalize hn0 : xs.length = n0 at *; have HN0 := hide hn0; clear h hB hl hu hn0
  go_enter Tryz.func49, Tryz.ntmps49
  go_wp2_with fail
  go_loopw [0, 5] (fun s0 s5 wr => ∃ (k a' n' c' : _) , s0 = .slice a' n' c' ∧ s5 = .int .i64 ((8 * k : Nat) : Int) ∧ Hid (k ≤ 4 ∧ Grows B w (.slice a0 n0 c0) wr (.slice a' n' c') (xs ++ (bb u).take k))) (fun _ s5 _ => 40 - (intOf s5).toNat)
  case atStart => exact ⟨0, a0, n0, c0, rfl, rfl, Nat.zero_le _, Grows.refl (by rw [List.take_zero, List.append_nil]; exact unhide H)⟩
  case round =>
    obtain ⟨k, a', n', c', rfl, rfl, HI⟩ := hrel; obtain ⟨i1, i2⟩ := unhide HI; obtain ⟨l1, l2, l3⟩ := unhide HN; have hby : B ≤ wr.heap.size := Nat.le_trans l2 i2.2.1.size; have hyl : (xs ++ (bb u).take k).length < 1000000 := by have := unhide HN0; simp [bb]; omega
    by_cases h4 : k = 4
    · subst h4; have HG : Hid (Grows B w (.slice a0 n0 c0) wr (.slice a' n' c') (xs ++ bb u)) := i2; clear HI i1 i2 l1 l2 l3 hby hyl
      go_wp2_with fail
      go_ret
      exact ⟨_, rfl, HG⟩
    · have step : ∀ (d : Nat), (bb u)[k]? = some d → ∃ a2 m2 c2 w2, Hid (∀ ty, (Builtin.append_ #[23, 23] ty #[.slice a' n' c', .slice (some ⟨wr.heap.size, 0, none⟩) 1 1]).run Tryz.prog (wr.alloc (.cells #[.int .u8 (d : Nat)] 5)) = .ok (.slice a2 m2 c2) w2) ∧ Hid (Grows B w (.slice a0 n0 c0) w2 (.slice a2 m2 c2) (xs ++ (bb u).take (k + 1))) := fun d hd => by
        obtain ⟨a2, m2, c2, w2, hr, g1, g2, g3⟩ := run_app1B d i2.1 hby hyl; have e : (bb u).take (k + 1) = (bb u).take k ++ [d] := by rw [List.take_add_one, hd]; rfl
        have : Grows B wr (.slice a' n' c') w2 (.slice a2 m2 c2) (xs ++ (bb u).take (k + 1)) := ⟨by rw [e, ← List.append_assoc]; exact g1, g2, g3⟩
        exact ⟨a2, m2, c2, w2, hr, i2.trans this⟩
      have hk : k = 0 ∨ k = 1 ∨ k = 2 ∨ k = 3 := by omega
      rcases hk with rfl | rfl | rfl | rfl
      all_goals obtain ⟨a2, m2, c2, w2, HR, HG⟩ := step _ rfl
      all_goals clear step HI i1 i2 l1 l2 hby hyl h4
      · have ed : ((u % 256 : Nat) : Int) = (u : Int) % 256 := by omega
        rw [ed] at HR; clear l3 ed
        go_wp2_with (at_builtin; refine Lib.wpList_append_run _ rfl _ _ 23 23 rfl _ _ rfl rfl _ _ (unhide HR _) ?_)
        exact ⟨⟨1, a2, m2, c2, rfl, rfl, by omega, HG⟩, by simp [intOf]⟩
      · have ed : ((u / 256 % 256 : Nat) : Int) = (u : Int) / 256 % 256 := by omega
        rw [ed] at HR; clear l3 ed
        go_wp2_with (at_builtin; refine Lib.wpList_append_run _ rfl _ _ 23 23 rfl _ _ rfl rfl _ _ (unhide HR _) ?_)
        exact ⟨⟨2, a2, m2, c2, rfl, rfl, by omega, HG⟩, by simp [intOf]⟩
      · have ed : ((u / 65536 % 256 : Nat) : Int) = (u : Int) / 65536 % 256 := by omega
        rw [ed] at HR; clear l3 ed
        go_wp2_with (at_builtin; refine Lib.wpList_append_run _ rfl _ _ 23 23 rfl _ _ rfl rfl _ _ (unhide HR _) ?_)
        exact ⟨⟨3, a2, m2, c2, rfl, rfl, by omega, HG⟩, by simp [intOf]⟩
      · have ed : ((u / 16777216 % 256 : Nat) : Int) = (u : Int) / 16777216 % 256 := by omega
        rw [ed] at HR; clear l3 ed
        go_wp2_with (at_builtin; refine Lib.wpList_append_run _ rfl _ _ 23 23 rfl _ _ rfl rfl _ _ (unhide HR _) ?_)
        exact ⟨⟨4, a2, m2, c2, rfl, rfl, by omega, HG⟩, by simp [intOf]⟩
end W16

namespace W16
open Go.RowKit Go.Maps
def vertexB (x : Int) : Bool := decide (0 ≤ x ∧ x ≤ 2147483647)
def edgeB (x : Int) : Bool := decide (1 ≤ x ∧ x ≤ 1024)
set_option maxHeartbeats 400000 in
theorem notVertexS (x : Int) (w : World) : Calls Tryz.prog 45 #[.int .i64 x] w fun e w' => e = .returned (.bool (!vertexB x)) ∧ w' = w := by
  unfold vertexB
  by_cases h1 : x < 0
  · have hd : decide (x < 0) = true := by simpa using h1
    rw [show decide (0 ≤ x ∧ x ≤ 2147483647) = false by simp; omega]
    go_enter Tryz.func45, Tryz.ntmps45
    go_wp2
    go_ret
    exact ⟨by simp_all, rfl⟩
  · have hd : decide (x < 0) = false := by simpa using h1
    by_cases h2 : x > 2147483647
    · rw [show decide (0 ≤ x ∧ x ≤ 2147483647) = false by simp; omega]
      go_enter Tryz.func45, Tryz.ntmps45
      go_wp2
      go_ret
      exact ⟨by simp_all, rfl⟩
    · rw [show decide (0 ≤ x ∧ x ≤ 2147483647) = true by simp; omega]
      go_enter Tryz.func45, Tryz.ntmps45
      go_wp2
      go_ret
      exact ⟨by simp_all, rfl⟩
set_option maxHeartbeats 400000 in
theorem notEdgeS (x : Int) (w : World) : Calls Tryz.prog 47 #[.int .i64 x] w fun e w' => e = .returned (.bool (!edgeB x)) ∧ w' = w := by
  unfold edgeB
  by_cases h1 : x < 1
  · have hd : decide (x < 1) = true := by simpa using h1
    rw [show decide (1 ≤ x ∧ x ≤ 1024) = false by simp; omega]
    go_enter Tryz.func47, Tryz.ntmps47
    go_wp2
    go_ret
    exact ⟨by simp_all, rfl⟩
  · have hd : decide (x < 1) = false := by simpa using h1
    by_cases h2 : x > 1024
    · rw [show decide (1 ≤ x ∧ x ≤ 1024) = false by simp; omega]
      go_enter Tryz.func47, Tryz.ntmps47
      go_wp2
      go_ret
      exact ⟨by simp_all, rfl⟩
    · rw [show decide (1 ≤ x ∧ x ≤ 1024) = true by simp; omega]
      go_enter Tryz.func47, Tryz.ntmps47
      go_wp2
      go_ret
      exact ⟨by simp_all, rfl⟩
def AllE (es : List Int) (b : Bool) : Prop := es.all edgeB = b
def IdxAns (b : Bool) (r : Int) : Prop := (b = true → r < 0) ∧ (b = false → 0 ≤ r)
set_option maxHeartbeats 2000000 in
set_option maxRecDepth 100000 in
theorem indexFS {w : World} {v : Value} {es : List Int} (h : Lies i64v w v es) (hl : es.length ≤ 1024) :
    Calls Tryz.prog 82 #[v, .func (.func 47) #[] #[]] w fun e w' => ∃ r : Int, e = .returned (.int .i64 r) ∧ w' = w ∧ IdxAns (es.all edgeB) r := by
  obtain ⟨a, c, rfl⟩ := lies_shape h; obtain ⟨n, hn⟩ : ∃ n, n = es.length := ⟨_, rfl⟩; have CE : Hid (∀ (x : Int) (W : World), Calls Tryz.prog 47 #[.int .i64 x] W fun e w' => e = .returned (.bool (!edgeB x)) ∧ w' = W) := fun x W => notEdgeS x W
  rw [← hn]; have HN : Hid (n = es.length ∧ n ≤ 1024) := ⟨hn, by omega⟩
  have H := hide h; obtain ⟨ab, hab⟩ : ∃ ab, AllE es ab := ⟨_, rfl⟩; rw [show es.all edgeB = ab from hab]
  rw [← hn] at H; clear h hl hn
  go_enter Tryz.func82, Tryz.ntmps82
  go_wp2_with fail
  go_loopw [8] (fun s8 wr => ∃ i : Nat, s8 = .int .i64 (i : Nat) ∧ wr = w ∧ Hid (i ≤ n ∧ AllE (es.take i) true)) (fun s8 _ => n - (intOf s8).toNat)
  case atStart => exact ⟨0, rfl, rfl, Nat.zero_le _, rfl⟩
  case round =>
    obtain ⟨i, rfl, rfl, HI⟩ := hrel; obtain ⟨i1, i2⟩ := unhide HI; obtain ⟨l1, l2⟩ := unhide HN
    by_cases hlt : i < n
    · obtain ⟨x, hx⟩ : ∃ x, es[i]? = some x := ⟨_, List.getElem?_eq_getElem (by omega)⟩
      obtain ⟨b, off, rfl, k0⟩ := lies_at (unhide H) hx; have z1 : (i : Int) < (n : Int) := by omega
      obtain ⟨j, hj⟩ : ∃ j, j = i + 1 := ⟨_, rfl⟩; have zw : Hid (wrap64 ((i : Int) + 1) = (j : Int)) := by show wrap64 ((i : Int) + 1) = (j : Int); unfold wrap64; omega
      have hx2 : es.take j = es.take i ++ [x] := by rw [hj, List.take_add_one, hx]; rfl
      have hm : x ∈ es := List.mem_of_getElem? hx; have HX : Hid ((edgeB x = false → IdxAns ab (i : Int)) ∧ (edgeB x = true → AllE (es.take j) true) ∧ j ≤ n ∧ n - j < n - i ∧ j = i + 1) := by
        refine ⟨fun e1 => ⟨fun e2 => ?_, fun _ => by omega⟩, fun e => ?_, by omega, by omega, hj⟩
        · have e3 : es.all edgeB = true := hab.trans e2; rw [List.all_eq_true.1 e3 x hm] at e1; cases e1
        · show (es.take j).all edgeB = true; have i2' : (es.take i).all edgeB = true := i2; rw [hx2, List.all_append, i2']; simpa using e
      unfold i64v at k0; have C1 := hide (unhide CE x wr); clear HI i1 i2 l1 l2 hlt hx hx2 hm hj CE hab
      cases hex : edgeB x with
      | false =>
        rw [hex] at C1; have HX1 := (unhide HX).1 hex; clear HX hex
        go_wp2_with fail
        refine (unhide C1).mono ?_
        rintro e w1 ⟨rfl, rfl⟩
        go_wp2_with fail
        go_ret
        exact ⟨i, rfl, rfl, HX1⟩
      | true =>
        rw [hex] at C1; have HX1 : Hid (AllE (es.take j) true ∧ j ≤ n ∧ n - j < n - i ∧ j = i + 1) := ⟨(unhide HX).2.1 hex, (unhide HX).2.2⟩; clear HX hex
        go_wp2_with fail
        refine (unhide C1).mono ?_
        rintro e w1 ⟨rfl, rfl⟩
        go_wp2_with fail
        (try rw [unhide zw])
        exact ⟨⟨j, by first | rfl | (rw [(unhide HX1).2.2.2]; rfl), trivial, (unhide HX1).2.1, (unhide HX1).1⟩, by have := unhide HX1; simp [intOf]; omega⟩
    · have z1 : ¬ (i : Int) < (n : Int) := by omega
      have HG : Hid (IdxAns ab (-1)) := by
        rw [List.take_of_length_le (by omega)] at i2
        have e : ab = true := hab.symm.trans i2; exact ⟨fun _ => by omega, fun h => by rw [e] at h; cases h⟩
      clear HI i1 i2 l1 l2 hlt hab
      go_wp2_with fail
      go_ret
      exact ⟨-1, rfl, rfl, HG⟩
set_option maxHeartbeats 2000000 in
theorem containsFS {w : World} {v : Value} {es : List Int} (h : Lies i64v w v es) (hl : es.length ≤ 1024) :
    Calls Tryz.prog 46 #[v, .func (.func 47) #[] #[]] w fun e w' => e = .returned (.bool (!es.all edgeB)) ∧ w' = w := by
  have CI := hide (indexFS h hl); obtain ⟨a, c, rfl⟩ := lies_shape h; generalize es.all edgeB = ab at *; generalize es.length = n at *; clear h hl
  go_enter Tryz.func46, Tryz.ntmps46
  go_wp2_with fail
  refine (unhide CI).mono ?_
  rintro e w1 ⟨r, rfl, rfl, HR⟩
  go_wp2_with fail
  go_ret
  refine ⟨?_, rfl⟩
  cases ab with
  | true => have := HR.1 rfl; simp; omega
  | false => have := HR.2 rfl; simp; omega
end W16

namespace W16
open Go.RowKit Go.Maps
def oV (F T : Int) (u : Nat) (ev : Value) : Obj := .cells #[.int .i64 F, .int .i64 T, .int .u32 (u : Nat), ev] 35
theorem oV_cells {w : World} {b : Nat} {F T : Int} {u : Nat} {ev : Value} (h : w.heap[b]? = some (oV F T u ev)) :
    w.cell? ⟨b, 0, none⟩ = some (.int .i64 F) ∧ w.cell? ⟨b, 1, none⟩ = some (.int .i64 T) ∧ w.cell? ⟨b, 2, none⟩ = some (.int .u32 (u : Nat)) ∧ w.cell? ⟨b, 3, none⟩ = some ev :=
  ⟨(cell_of_row _ _ 0 _ _ (0, 0) h).trans rfl, (cell_of_row _ _ 1 _ _ (0, 0) h).trans rfl, (cell_of_row _ _ 2 _ _ (0, 0) h).trans rfl, (cell_of_row _ _ 3 _ _ (0, 0) h).trans rfl⟩
theorem rangeB_eq (x : WtV) : rangeB x = ((vertexB x.1 && vertexB x.2.1) && x.2.2.2.all edgeB) := rfl
def encV (x : WtV) : List Nat := if errC x = 0 then encWt x else []
def EncAns (w : World) (x : WtV) (e : Ending) (w' : World) : Prop :=
  ∃ bv, e = .returned (.tuple #[bv, .int .i64 (errC x)]) ∧ ByRow w.heap.size w' bv (encV x) ∧ Below w.heap.size w w'
def EncP (w0 : World) (F T : Int) (u : Nat) (ev : Value) (es : List Int) (w : World) (v : Value) (bs : List Nat) : Prop :=
  ByRow (w0.heap.size + 1) w v bs ∧ w.heap[w0.heap.size]? = some (oV F T u ev) ∧ Lies i64v w ev es ∧ Below w0.heap.size w0 w
theorem EncP.grow {w0 w w' : World} {F T : Int} {u : Nat} {ev v v' : Value} {es : List Int} {bs bs' : List Nat} (h : EncP w0 F T u ev es w v bs) (g : Grows (w0.heap.size + 1) w v w' v' bs') (he : Lies i64v w0 ev es) : EncP w0 F T u ev es w' v' bs' := by
  obtain ⟨h1, h2, h3, h4⟩ := h; have hb : Below w0.heap.size w0 w' := h4.trans (g.2.1.below h4.size (fun k e => by have := (h1.lt k e).1; omega))
  exact ⟨g.1, (g.2.1.block _ (heap_lt h2) (fun e => by have := (h1.lt _ e).1; omega)).trans h2, lies_below he hb, hb⟩
theorem encP_start {w0 : World} {F T : Int} {u : Nat} {ev : Value} {es : List Int} (he : Lies i64v w0 ev es) :
    EncP w0 F T u ev es ((w0.alloc (oV F T u ev)).alloc (.cells #[.int .u8 183] 5)) (.slice (some ⟨w0.heap.size + 1, 0, none⟩) 1 1) [183] := by
  have s1 : (w0.alloc (oV F T u ev)).heap.size = w0.heap.size + 1 := by simp
  have b1 := below_new w0 (oV F T u ev); have b2 := below_new (w0.alloc (oV F T u ev)) (.cells #[.int .u8 183] 5); have hb := b1.trans (b2.mono (by omega))
  have hn := heap_alloc_new (w0.alloc (oV F T u ev)) (.cells #[.int .u8 183] 5); rw [s1] at hn; exact ⟨⟨rfl, .inr ⟨w0.heap.size + 1, 1, _, rfl, Nat.le_refl _, hn, Nat.le_refl _, by unfold maxLen; omega, rfl, rfl⟩⟩, (b2.block _ (by omega)).trans (heap_alloc_new _ _), lies_below he hb, hb⟩
theorem encAns_err {w w' : World} {x : WtV} {c : Int} (hc : errC x = c) (h0 : c ≠ 0) (hb : Below w.heap.size w w') : EncAns w x (.returned (.tuple #[.slice none 0 0, .int .i64 c])) w' := by
  subst hc; refine ⟨_, rfl, ?_, hb⟩; unfold encV; rw [if_neg h0]; exact ⟨rfl, .inl ⟨rfl, rfl⟩⟩
theorem EncP.room {w0 w : World} {F T : Int} {u : Nat} {ev v : Value} {es : List Int} {bs : List Nat} (h : EncP w0 F T u ev es w v bs) : w0.heap.size + 1 ≤ w.heap.size := by
  have := heap_lt h.2.1; omega
theorem enc_end {f t u n : Nat} {es : List Int} (h : errC ((f : Nat), (t : Nat), u, es) = 0) (hn : n = es.length) : encV ((f : Nat), (t : Nat), u, es) = (((([183] ++ nb f) ++ nb t) ++ bb u) ++ nb n) ++ encEs es := by
  unfold encV; rw [if_pos h]; simp [encWt, hn]
set_option maxHeartbeats 4000000 in
set_option maxRecDepth 100000 in
theorem encodeS {w : World} {ev : Value} (F T : Int) (u : Nat) {es : List Int} (h : Lies i64v w ev es) (hu : u < 4294967296) :
    Calls Tryz.prog 22 #[.agg #[.int .i64 F, .int .i64 T, .int .u32 (u : Nat), ev]] w fun e w' => Hid (EncAns w (F, T, u, es) e w') := by
  obtain ⟨a, c, hv⟩ := lies_shape h; obtain ⟨n, hn⟩ : ∃ n, n = es.length := ⟨_, rfl⟩; rw [← hn] at hv; subst hv; have hb := below_new w (oV F T u (.slice a n c)); obtain ⟨c0, c1, c2, c3⟩ := oV_cells (heap_alloc_new w (oV F T u (.slice a n c))); have HE : Hid (∀ k : Int, errC (F, T, u, es) = k → k ≠ 0 → EncAns w (F, T, u, es) (.returned (.tuple #[.slice none 0 0, .int .i64 k])) (w.alloc (oV F T u (.slice a n c)))) := fun k h1 h2 => encAns_err h1 h2 hb
  by_cases hlen : 1024 < n
  · have HA := hide (unhide HE 3 (by unfold errC; rw [if_pos (by rw [← hn]; exact hlen)]) (by omega))
    have z1 : (n : Int) > 1024 := by omega
    clear h hb hu hn hlen HE; unfold oV at *
    go_enter Tryz.func22, Tryz.ntmps22
    go_wp2_with fail
    go_ret2
    exact HA
  · have z1 : ¬ (n : Int) > 1024 := by omega
    have CV : ∀ (x : Int) (b : Bool), vertexB x = b → Hid (∀ (W : World), Calls Tryz.prog 45 #[.int .i64 x] W fun e w' => e = .returned (.bool (!b)) ∧ w' = W) := fun x b hb W => by rw [← hb]; exact notVertexS x W
    have hE : errC (F, T, u, es) = if ((vertexB F && vertexB T) && es.all edgeB) = true then 0 else 1 := by
      unfold errC; rw [if_neg (by rw [← hn]; exact hlen), rangeB_eq]
    cases hF : vertexB F with
    | false =>
      have CF := CV F _ hF; rw [hF, Bool.false_and, Bool.false_and, if_neg (by simp)] at hE
      have HA := hide (unhide HE 1 hE (by omega))
      clear h hb hu hn hlen HE hE CV hF; unfold oV at *
      go_enter Tryz.func22, Tryz.ntmps22
      go_wp2_with fail
      refine (unhide CF _).mono ?_
      rintro e w1 ⟨rfl, rfl⟩
      go_wp2_with fail
      go_ret2
      exact HA
    | true =>
      have CF := CV F _ hF; rw [hF, Bool.true_and] at hE
      cases hT : vertexB T with
      | false =>
        have CT := CV T _ hT; rw [hT, Bool.false_and, if_neg (by simp)] at hE
        have HA := hide (unhide HE 1 hE (by omega))
        clear h hb hu hn hlen HE hE CV hF hT; unfold oV at *
        go_enter Tryz.func22, Tryz.ntmps22
        go_wp2_with fail
        refine (unhide CF _).mono ?_
        rintro e w1 ⟨rfl, rfl⟩
        go_wp2_with fail
        refine (unhide CT _).mono ?_
        rintro e w1 ⟨rfl, rfl⟩
        go_wp2_with fail
        go_ret2
        exact HA
      | true =>
        have CT := CV T _ hT; rw [hT, Bool.true_and] at hE
        cases hA : es.all edgeB with
        | false =>
          have CE := hide (containsFS (lies_below h hb) (by omega))
          rw [hA] at CE hE; rw [if_neg (by simp)] at hE
          have HA := hide (unhide HE 1 hE (by omega))
          clear h hb hu hn hlen HE hE CV hF hT hA; unfold oV at *
          go_enter Tryz.func22, Tryz.ntmps22
          go_wp2_with fail
          refine (unhide CF _).mono ?_
          rintro e w1 ⟨rfl, rfl⟩
          go_wp2_with fail
          refine (unhide CT _).mono ?_
          rintro e w1 ⟨rfl, rfl⟩
          go_wp2_with fail
          refine (unhide CE).mono ?_
          rintro e w1 ⟨rfl, rfl⟩
          go_wp2_with fail
          go_ret2
          exact HA
        | true =>
          have CE := hide (containsFS (lies_below h hb) (by omega))
          rw [hA] at CE hE; rw [if_pos rfl] at hE; have hF' : 0 ≤ F ∧ F ≤ 2147483647 := by simpa [vertexB] using hF
          have hT' : 0 ≤ T ∧ T ≤ 2147483647 := by simpa [vertexB] using hT
          have hA' : ∀ x ∈ es, 1 ≤ x ∧ x ≤ 1024 := fun x hx => by have := List.all_eq_true.1 hA x hx; simpa [edgeB] using this
          obtain ⟨f, rfl⟩ := Int.eq_ofNat_of_zero_le hF'.1; obtain ⟨t, rfl⟩ := Int.eq_ofNat_of_zero_le hT'.1; have HG : Hid ((f ≤ 2147483647 ∧ t ≤ 2147483647 ∧ u < 4294967296 ∧ n ≤ 1024 ∧ n = es.length) ∧ (∀ x ∈ es, 1 ≤ x ∧ x ≤ 1024) ∧ Lies i64v w (.slice a n c) es ∧ errC ((f : Nat), (t : Nat), u, es) = 0) := ⟨⟨by omega, by omega, hu, by omega, hn⟩, hA', h, hE⟩
          have HP := hide (encP_start (F := (f : Nat)) (T := (t : Nat)) (u := u) h); obtain ⟨b1, hb1⟩ : ∃ b1, b1 = w.heap.size := ⟨_, rfl⟩; have HB1 := hide hb1; clear h hb hu hn hlen HE hE CV hF hT hA hF' hT' hA' hb1; unfold oV at *
          go_enter Tryz.func22, Tryz.ntmps22
          go_wp2_with fail
          refine (unhide CF _).mono ?_
          rintro e w1 ⟨rfl, rfl⟩
          go_wp2_with fail
          refine (unhide CT _).mono ?_
          rintro e w1 ⟨rfl, rfl⟩
          go_wp2_with fail
          refine (unhide CE).mono ?_
          rintro e w1 ⟨rfl, rfl⟩
          clear c0 c1 c2 c3 CF CT CE z1
          go_upto_region 6 with fail
          have e1 : (Value.slice (some ⟨w.heap.size + 1, 0, none⟩) 1 1) = (Value.slice (some ⟨w.heap.size + 1, 0, none⟩) 1 1) := rfl; generalize ((w.alloc (Obj.cells #[Value.int .i64 (f : Nat), Value.int .i64 (t : Nat), Value.int .u32 (u : Nat), Value.slice a n c] 35)).alloc (Obj.cells #[Value.int .u8 183] 5)) = wa at *; generalize (Value.slice (some ⟨w.heap.size + 1, 0, none⟩) 1 1) = v0 at *; clear e1 HB1 b1; have hG := (unhide HG).1; have L0 : Hid (([183] : List Nat).length ≤ 1) := by show _ ≤ 1; simp
          have Lf : Hid ((nb f).length ≤ 5) := nb_len 4 f (by omega)
          have Lt : Hid ((nb t).length ≤ 5) := nb_len 4 t (by omega)
          have Ln : Hid ((nb n).length ≤ 2) := nb_len 1 n (by omega)
          clear hG; have hP := unhide HP; obtain ⟨c0, c1, c2, c3⟩ := oV_cells hP.2.1; have CA := hide (appendNumberS (n := f) hP.1 hP.room (by simp) (by have := (unhide HG).1; omega))
          have HP0 := hide hP; clear hP HP
          go_wp2_with fail
          refine (unhide CA).mono ?_
          rintro e w1 ⟨v1, rfl, HG1⟩
          have HP := hide ((unhide HP0).grow (unhide HG1) (unhide HG).2.2.1); obtain ⟨d0, d1, d2, d3⟩ := oV_cells (unhide HP).2.1; clear CA HG1 HP0 c0 c1 c2 c3
          go_upto_region 7 with fail
          clear d0 d1 d2 d3; have hP := unhide HP; obtain ⟨c0, c1, c2, c3⟩ := oV_cells hP.2.1; have CA := hide (appendNumberS (n := t) hP.1 hP.room (by have := unhide Lf; simp; omega) (by have := (unhide HG).1; omega))
          have HP0 := hide hP; clear hP HP
          go_wp2_with fail
          refine (unhide CA).mono ?_
          rintro e w2 ⟨v2, rfl, HG1⟩
          have HP := hide ((unhide HP0).grow (unhide HG1) (unhide HG).2.2.1); obtain ⟨d0, d1, d2, d3⟩ := oV_cells (unhide HP).2.1; clear CA HG1 HP0 c0 c1 c2 c3
          go_upto_region 8 with fail
          clear d0 d1 d2 d3; have hP := unhide HP; obtain ⟨c0, c1, c2, c3⟩ := oV_cells hP.2.1; have CA := hide (appendBitsS (u := u) hP.1 hP.room (by have := unhide Lf; have := unhide Lt; simp; omega) (unhide HG).1.2.2.1)
          have HP0 := hide hP; clear hP HP
          go_wp2_with fail
          refine (unhide CA).mono ?_
          rintro e w3 ⟨v3, rfl, HG1⟩
          have HP := hide ((unhide HP0).grow (unhide HG1) (unhide HG).2.2.1); obtain ⟨d0, d1, d2, d3⟩ := oV_cells (unhide HP).2.1; clear CA HG1 HP0 c0 c1 c2 c3
          go_upto_region 9 with fail
          clear d0 d1 d2 d3; have hP := unhide HP; obtain ⟨c0, c1, c2, c3⟩ := oV_cells hP.2.1; have CA := hide (appendNumberS (n := n) hP.1 hP.room (by have := unhide Lf; have := unhide Lt; simp [bb]; omega) (by have := (unhide HG).1; omega))
          have HP0 := hide hP; clear hP HP
          go_wp2_with fail
          refine (unhide CA).mono ?_
          rintro e w4 ⟨v4, rfl, HG1⟩
          have HP := hide ((unhide HP0).grow (unhide HG1) (unhide HG).2.2.1); obtain ⟨d0, d1, d2, d3⟩ := oV_cells (unhide HP).2.1; clear CA HG1 HP0 c0 c1 c2 c3
          go_upto_region 10 with fail
          clear d0 d1 d2 d3; obtain ⟨c0, c1, c2, c3⟩ := oV_cells (unhide HP).2.1; have HL : Hid ((((([183] ++ nb f) ++ nb t) ++ bb u) ++ nb n).length ≤ 100) := by
            show _ ≤ 100; have := unhide Lf; have := unhide Lt; have := unhide Ln; simp [bb]; omega
          have HZ : Hid (∀ W V, EncP w (f : Nat) (t : Nat) u (.slice a n c) es W V ((((([183] ++ nb f) ++ nb t) ++ bb u) ++ nb n) ++ encEs es) → EncAns w ((f : Nat), (t : Nat), u, es) (.returned (.tuple #[V, .int .i64 0])) W) := fun W V h => by
            have h0 := (unhide HG).2.2.2; refine ⟨V, by rw [h0], ?_, h.2.2.2⟩
            rw [enc_end h0 (unhide HG).1.2.2.2.2]; exact rrow_low h.1 (by omega)
          generalize ((((([183] : List Nat) ++ nb f) ++ nb t) ++ bb u) ++ nb n) = base at *
          go_wp2_with fail
          go_loopw [4, 45] (fun s4 s45 wr => ∃ (i : Nat) (a' n' c' : _), s4 = .slice a' n' c' ∧ s45 = .int .i64 (i : Nat) ∧ Hid (i ≤ n ∧ EncP w (f : Nat) (t : Nat) u (.slice a n c) es wr (.slice a' n' c') (base ++ encEs (es.take i)))) (fun _ s45 _ => n - (intOf s45).toNat)
          case atStart =>
            obtain ⟨a4, c4, e4⟩ := rrow_shape (unhide HP).1; exact ⟨0, a4, _, c4, e4, rfl, Nat.zero_le _, by rw [List.take_zero]; show EncP _ _ _ _ _ _ _ _ (base ++ []); rw [List.append_nil, ← e4]; exact unhide HP⟩
          case round =>
            obtain ⟨i, a', n', c', rfl, rfl, HI⟩ := hrel; obtain ⟨i1, i2⟩ := unhide HI; obtain ⟨⟨g1, g2, g3, g4, g5⟩, g6, g7, g8⟩ := unhide HG; have hl0 := unhide HL
            by_cases hlt : i < n
            · obtain ⟨x, hx⟩ : ∃ x, es[i]? = some x := ⟨_, List.getElem?_eq_getElem (by omega)⟩
              have hx2 := g6 x (List.mem_of_getElem? hx); obtain ⟨m, rfl⟩ := Int.eq_ofNat_of_zero_le (show 0 ≤ x by omega)
              obtain ⟨bq, off, rfl, k0⟩ := lies_at i2.2.2.1 hx; have z1 : (i : Int) < (n : Int) := by omega
              obtain ⟨j, hj⟩ : ∃ j, j = i + 1 := ⟨_, rfl⟩; have zw : Hid (wrap64 ((i : Int) + 1) = (j : Int)) := by show wrap64 ((i : Int) + 1) = (j : Int); unfold wrap64; omega
              have hll : (encEs (es.take i)).length ≤ i * 2 := by
                have := encEs_len (es.take i) (fun y hy => g6 y (List.mem_of_mem_take hy))
                rw [List.length_take] at this; omega
              have CA := hide (appendNumberS (n := m) i2.1 i2.room (by rw [List.length_append]; omega) (by omega))
              have HJ : Hid (∀ W V', Grows (w.heap.size + 1) wr (.slice a' n' c') W V' ((base ++ encEs (es.take i)) ++ nb m) → j ≤ n ∧ EncP w (f : Nat) (t : Nat) u (.slice (some ⟨bq, off, none⟩) n c) es W V' (base ++ encEs (es.take j))) := fun W V' hg => by
                have h1 := i2.grow hg g7; have e : es.take j = es.take i ++ [(m : Int)] := by rw [hj, List.take_add_one, hx]; rfl
                rw [e, encEs_append, ← List.append_assoc]; refine ⟨by omega, ?_⟩
                have e2 : encEs [(m : Int)] = nb m := by simp [encEs]
                rw [e2]; exact h1
              have HM : Hid (n - j < n - i) := by show n - j < n - i; omega
              unfold i64v at k0; clear HI i1 i2 g1 g2 g3 g4 g5 g6 g7 g8 hl0 hlt hx hx2 hj hll
              go_wp2_with fail
              refine (unhide CA).mono ?_
              rintro e w7 ⟨v7, rfl, HG7⟩
              go_wp2_with fail
              obtain ⟨u1, u2⟩ := unhide HJ _ _ (unhide HG7); obtain ⟨a7, c7, e7⟩ := rrow_shape u2.1; exact ⟨⟨j, a7, _, c7, e7, by rw [unhide zw], u1, by rw [← e7]; exact u2⟩, by rw [unhide zw]; exact unhide HM⟩
            · have z1 : ¬ (i : Int) < (n : Int) := by omega
              have HA := hide (unhide HZ _ _ (by rw [List.take_of_length_le (by omega)] at i2; exact i2))
              clear HI i1 i2 g1 g2 g3 g4 g5 g6 g7 g8 hl0 hlt
              go_wp2_with fail
              go_ret2
              exact HA
end W16

end Go.Proofs.YtagibmgbjhemkaaGreat

/- The small calls: notVertex, notEdge, ContainsFunc over edges. -/
import Derived.Test.YtagibmgbjhemkaaGreatFd16
import Derived.Test.YtagibmgbjhemkaaGreatMt16
namespace Go.Proofs.YtagibmgbjhemkaaGreat.W16
open Go.RowKit Go.Maps
def vertexB (x : Int) : Bool := decide (0 ≤ x ∧ x ≤ 2147483647)
def edgeB (x : Int) : Bool := decide (1 ≤ x ∧ x ≤ 1024)
set_option maxHeartbeats 400000 in
theorem notVertexS (x : Int) (w : World) : Calls Tryz.prog 45 #[.int .i64 x] w fun e w' => e = .returned (.bool (!vertexB x)) ∧ w' = w := by
  unfold vertexB
  by_cases h1 : x < 0
  · have hd : decide (x < 0) = true := by simpa using h1
    rw [show decide (0 ≤ x ∧ x ≤ 2147483647) = false by simp; omega]
    go_enter Tryz.func45, Tryz.ntmps45
    go_wp2
    go_ret
    exact ⟨by simp_all, rfl⟩
  · have hd : decide (x < 0) = false := by simpa using h1
    by_cases h2 : x > 2147483647
    · rw [show decide (0 ≤ x ∧ x ≤ 2147483647) = false by simp; omega]
      go_enter Tryz.func45, Tryz.ntmps45
      go_wp2
      go_ret
      exact ⟨by simp_all, rfl⟩
    · rw [show decide (0 ≤ x ∧ x ≤ 2147483647) = true by simp; omega]
      go_enter Tryz.func45, Tryz.ntmps45
      go_wp2
      go_ret
      exact ⟨by simp_all, rfl⟩
set_option maxHeartbeats 400000 in
theorem notEdgeS (x : Int) (w : World) : Calls Tryz.prog 47 #[.int .i64 x] w fun e w' => e = .returned (.bool (!edgeB x)) ∧ w' = w := by
  unfold edgeB
  by_cases h1 : x < 1
  · have hd : decide (x < 1) = true := by simpa using h1
    rw [show decide (1 ≤ x ∧ x ≤ 1024) = false by simp; omega]
    go_enter Tryz.func47, Tryz.ntmps47
    go_wp2
    go_ret
    exact ⟨by simp_all, rfl⟩
  · have hd : decide (x < 1) = false := by simpa using h1
    by_cases h2 : x > 1024
    · rw [show decide (1 ≤ x ∧ x ≤ 1024) = false by simp; omega]
      go_enter Tryz.func47, Tryz.ntmps47
      go_wp2
      go_ret
      exact ⟨by simp_all, rfl⟩
    · rw [show decide (1 ≤ x ∧ x ≤ 1024) = true by simp; omega]
      go_enter Tryz.func47, Tryz.ntmps47
      go_wp2
      go_ret
      exact ⟨by simp_all, rfl⟩
def AllE (es : List Int) (b : Bool) : Prop := es.all edgeB = b
def IdxAns (b : Bool) (r : Int) : Prop := (b = true → r < 0) ∧ (b = false → 0 ≤ r)
set_option maxHeartbeats 2000000 in
set_option maxRecDepth 100000 in
theorem indexFS {w : World} {v : Value} {es : List Int} (h : Lies i64v w v es) (hl : es.length ≤ 1024) :
    Calls Tryz.prog 82 #[v, .func (.func 47) #[] #[]] w fun e w' => ∃ r : Int, e = .returned (.int .i64 r) ∧ w' = w ∧ IdxAns (es.all edgeB) r := by
  obtain ⟨a, c, rfl⟩ := lies_shape h
  obtain ⟨n, hn⟩ : ∃ n, n = es.length := ⟨_, rfl⟩
  have CE : Hid (∀ (x : Int) (W : World), Calls Tryz.prog 47 #[.int .i64 x] W fun e w' => e = .returned (.bool (!edgeB x)) ∧ w' = W) := fun x W => notEdgeS x W
  rw [← hn]
  have HN : Hid (n = es.length ∧ n ≤ 1024) := ⟨hn, by omega⟩
  have H := hide h
  obtain ⟨ab, hab⟩ : ∃ ab, AllE es ab := ⟨_, rfl⟩
  rw [show es.all edgeB = ab from hab]
  rw [← hn] at H
  clear h hl hn
  go_enter Tryz.func82, Tryz.ntmps82
  go_wp2_with fail
  go_loopw [8] (fun s8 wr => ∃ i : Nat, s8 = .int .i64 (i : Nat) ∧ wr = w ∧ Hid (i ≤ n ∧ AllE (es.take i) true)) (fun s8 _ => n - (intOf s8).toNat)
  case atStart => exact ⟨0, rfl, rfl, Nat.zero_le _, rfl⟩
  case round =>
    obtain ⟨i, rfl, rfl, HI⟩ := hrel
    obtain ⟨i1, i2⟩ := unhide HI
    obtain ⟨l1, l2⟩ := unhide HN
    by_cases hlt : i < n
    · obtain ⟨x, hx⟩ : ∃ x, es[i]? = some x := ⟨_, List.getElem?_eq_getElem (by omega)⟩
      obtain ⟨b, off, rfl, k0⟩ := lies_at (unhide H) hx
      have z1 : (i : Int) < (n : Int) := by omega
      obtain ⟨j, hj⟩ : ∃ j, j = i + 1 := ⟨_, rfl⟩
      have zw : Hid (wrap64 ((i : Int) + 1) = (j : Int)) := by show wrap64 ((i : Int) + 1) = (j : Int); unfold wrap64; omega
      have hx2 : es.take j = es.take i ++ [x] := by rw [hj, List.take_add_one, hx]; rfl
      have hm : x ∈ es := List.mem_of_getElem? hx
      have HX : Hid ((edgeB x = false → IdxAns ab (i : Int)) ∧ (edgeB x = true → AllE (es.take j) true) ∧ j ≤ n ∧ n - j < n - i ∧ j = i + 1) := by
        refine ⟨fun e1 => ⟨fun e2 => ?_, fun _ => by omega⟩, fun e => ?_, by omega, by omega, hj⟩
        · have e3 : es.all edgeB = true := hab.trans e2
          rw [List.all_eq_true.1 e3 x hm] at e1; cases e1
        · show (es.take j).all edgeB = true
          have i2' : (es.take i).all edgeB = true := i2
          rw [hx2, List.all_append, i2']; simpa using e
      unfold i64v at k0
      have C1 := hide (unhide CE x wr)
      clear HI i1 i2 l1 l2 hlt hx hx2 hm hj CE hab
      cases hex : edgeB x with
      | false =>
        rw [hex] at C1
        have HX1 := (unhide HX).1 hex
        clear HX hex
        go_wp2_with fail
        refine (unhide C1).mono ?_
        rintro e w1 ⟨rfl, rfl⟩
        go_wp2_with fail
        go_ret
        exact ⟨i, rfl, rfl, HX1⟩
      | true =>
        rw [hex] at C1
        have HX1 : Hid (AllE (es.take j) true ∧ j ≤ n ∧ n - j < n - i ∧ j = i + 1) := ⟨(unhide HX).2.1 hex, (unhide HX).2.2⟩
        clear HX hex
        go_wp2_with fail
        refine (unhide C1).mono ?_
        rintro e w1 ⟨rfl, rfl⟩
        go_wp2_with fail
        (try rw [unhide zw])
        exact ⟨⟨j, by first | rfl | (rw [(unhide HX1).2.2.2]; rfl), trivial, (unhide HX1).2.1, (unhide HX1).1⟩, by have := unhide HX1; simp [intOf]; omega⟩
    · have z1 : ¬ (i : Int) < (n : Int) := by omega
      have HG : Hid (IdxAns ab (-1)) := by
        rw [List.take_of_length_le (by omega)] at i2
        have e : ab = true := hab.symm.trans i2
        exact ⟨fun _ => by omega, fun h => by rw [e] at h; cases h⟩
      clear HI i1 i2 l1 l2 hlt hab
      go_wp2_with fail
      go_ret
      exact ⟨-1, rfl, rfl, HG⟩
set_option maxHeartbeats 2000000 in
theorem containsFS {w : World} {v : Value} {es : List Int} (h : Lies i64v w v es) (hl : es.length ≤ 1024) :
    Calls Tryz.prog 46 #[v, .func (.func 47) #[] #[]] w fun e w' => e = .returned (.bool (!es.all edgeB)) ∧ w' = w := by
  have CI := hide (indexFS h hl)
  obtain ⟨a, c, rfl⟩ := lies_shape h
  generalize es.all edgeB = ab at *
  generalize es.length = n at *
  clear h hl
  go_enter Tryz.func46, Tryz.ntmps46
  go_wp2_with fail
  refine (unhide CI).mono ?_
  rintro e w1 ⟨r, rfl, rfl, HR⟩
  go_wp2_with fail
  go_ret
  refine ⟨?_, rfl⟩
  cases ab with
  | true => have := HR.1 rfl; simp; omega
  | false => have := HR.2 rfl; simp; omega
end Go.Proofs.YtagibmgbjhemkaaGreat.W16

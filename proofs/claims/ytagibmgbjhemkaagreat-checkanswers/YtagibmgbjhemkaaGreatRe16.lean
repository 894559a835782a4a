/- The reference's Error. -/
import Derived.Test.YtagibmgbjhemkaaGreatEn16
namespace Go.Proofs.YtagibmgbjhemkaaGreat.W16
open Go.RowKit Go.Maps
set_option maxHeartbeats 4000000 in
set_option maxRecDepth 100000 in
theorem errorR {w : World} {ev : Value} (F T : Int) (u : Nat) {es : List Int} (h : Lies i64v w ev es) :
    Calls Tryz.prog 35 #[.agg #[.int .i64 F, .int .i64 T, .int .u32 (u : Nat), ev]] w fun e w' => e = .returned (.int .i64 (errC (F, T, u, es))) ∧ Hid (Below w.heap.size w w') := by
  obtain ⟨a, c, hv⟩ := lies_shape h
  obtain ⟨n, hn⟩ : ∃ n, n = es.length := ⟨_, rfl⟩
  rw [← hn] at hv
  subst hv
  have hb := below_new w (oV F T u (.slice a n c))
  obtain ⟨c0, c1, c2, c3⟩ := oV_cells (heap_alloc_new w (oV F T u (.slice a n c)))
  have h1 := lies_below h hb
  have HB := hide hb
  by_cases hlen : 1024 < n
  · have hE : errC (F, T, u, es) = 3 := by unfold errC; rw [if_pos (by rw [← hn]; exact hlen)]
    rw [hE]
    have z1 : (n : Int) > 1024 := by omega
    clear h h1 hb hn hlen hE
    unfold oV at *
    go_enter Tryz.func35, Tryz.ntmps35
    go_wp2_with fail
    go_ret
    exact ⟨rfl, HB⟩
  · have z1 : ¬ (n : Int) > 1024 := by omega
    have hE : errC (F, T, u, es) = if ((vertexB F && vertexB T) && es.all edgeB) = true then 0 else 1 := by
      unfold errC; rw [if_neg (by rw [← hn]; exact hlen), rangeB_eq]
    generalize hr : errC (F, T, u, es) = r at *
    clear hr
    by_cases q1 : F < 0
    · have e1 : vertexB F = false := by unfold vertexB; simp; omega
      rw [e1] at hE
      obtain rfl : r = 1 := by simpa using hE
      clear h h1 hb hn hlen hE e1
      unfold oV at *
      go_enter Tryz.func35, Tryz.ntmps35
      go_wp2_with fail
      go_ret
      exact ⟨rfl, HB⟩
    · by_cases q2 : F > 2147483647
      · have e1 : vertexB F = false := by unfold vertexB; simp; omega
        rw [e1] at hE
        obtain rfl : r = 1 := by simpa using hE
        clear h h1 hb hn hlen hE e1
        unfold oV at *
        go_enter Tryz.func35, Tryz.ntmps35
        go_wp2_with fail
        go_ret
        exact ⟨rfl, HB⟩
      · have e1 : vertexB F = true := by unfold vertexB; simp; omega
        rw [e1, Bool.true_and] at hE
        by_cases q3 : T < 0
        · have e2 : vertexB T = false := by unfold vertexB; simp; omega
          rw [e2] at hE
          obtain rfl : r = 1 := by simpa using hE
          clear h h1 hb hn hlen hE e1 e2
          unfold oV at *
          go_enter Tryz.func35, Tryz.ntmps35
          go_wp2_with fail
          go_ret
          exact ⟨rfl, HB⟩
        · by_cases q4 : T > 2147483647
          · have e2 : vertexB T = false := by unfold vertexB; simp; omega
            rw [e2] at hE
            obtain rfl : r = 1 := by simpa using hE
            clear h h1 hb hn hlen hE e1 e2
            unfold oV at *
            go_enter Tryz.func35, Tryz.ntmps35
            go_wp2_with fail
            go_ret
            exact ⟨rfl, HB⟩
          · have e2 : vertexB T = true := by unfold vertexB; simp; omega
            rw [e2, Bool.true_and] at hE
            have HE : Hid (AllE es true → r = 0) := fun h => by rw [hE, show es.all edgeB = true from h, if_pos rfl]
            have HE1 : Hid (AllE es false → r = 1) := fun h => by rw [hE, show es.all edgeB = false from h, if_neg (by simp)]
            have HN : Hid (n = es.length ∧ n ≤ 1024) := ⟨hn, by omega⟩
            have H1 := hide h1
            clear h h1 hb hn hlen hE e1 e2
            unfold oV at *
            go_enter Tryz.func35, Tryz.ntmps35
            go_wp2_with fail
            generalize w.alloc (Obj.cells #[Value.int .i64 F, Value.int .i64 T, Value.int .u32 (u : Nat), Value.slice a n c] 35) = wa at *
            go_loopw [3] (fun s3 wr => ∃ i : Nat, s3 = .int .i64 (i : Nat) ∧ wr = wa ∧ Hid (i ≤ n ∧ AllE (es.take i) true)) (fun s3 _ => n - (intOf s3).toNat)
            case atStart => exact ⟨0, rfl, rfl, Nat.zero_le _, rfl⟩
            case round =>
              obtain ⟨i, rfl, rfl, HI⟩ := hrel
              obtain ⟨i1, i2⟩ := unhide HI
              obtain ⟨l1, l2⟩ := unhide HN
              by_cases hlt : i < n
              · obtain ⟨x, hx⟩ : ∃ x, es[i]? = some x := ⟨_, List.getElem?_eq_getElem (by omega)⟩
                obtain ⟨b, off, rfl, k0⟩ := lies_at (unhide H1) hx
                have z2 : (i : Int) < (n : Int) := by omega
                have hm : x ∈ es := List.mem_of_getElem? hx
                have hbad : edgeB x = false → r = 1 := fun e => unhide HE1 (by
                  cases q : es.all edgeB with
                  | false => exact q
                  | true => rw [List.all_eq_true.1 q x hm] at e; cases e)
                unfold i64v at k0
                by_cases p1 : x < 1
                · have HR := hide (hbad (by unfold edgeB; simp; omega))
                  clear HI i1 i2 l1 l2 hlt hx hm hbad
                  go_wp2_with fail
                  go_ret
                  exact ⟨by rw [unhide HR]; rfl, HB⟩
                · by_cases p2 : x > 1024
                  · have HR := hide (hbad (by unfold edgeB; simp; omega))
                    clear HI i1 i2 l1 l2 hlt hx hm hbad
                    go_wp2_with fail
                    go_ret
                    exact ⟨by rw [unhide HR]; rfl, HB⟩
                  · obtain ⟨j, hj⟩ : ∃ j, j = i + 1 := ⟨_, rfl⟩
                    have zw : Hid ((i : Int) + 1 = (j : Int)) := by show (i : Int) + 1 = (j : Int); omega
                    have HJ : Hid (j ≤ n ∧ AllE (es.take j) true ∧ n - j < n - i) := ⟨by omega, by
                      have e : es.take j = es.take i ++ [x] := by rw [hj, List.take_add_one, hx]; rfl
                      show (es.take j).all edgeB = true
                      have i2' : (es.take i).all edgeB = true := i2
                      rw [e, List.all_append, i2']; simp [edgeB]; omega, by omega⟩
                    clear HI i1 i2 l1 l2 hlt hx hm hbad hj
                    go_wp2_with fail
                    exact ⟨⟨j, by rw [unhide zw], trivial, (unhide HJ).1, (unhide HJ).2.1⟩, by rw [unhide zw]; exact (unhide HJ).2.2⟩
              · have z2 : ¬ (i : Int) < (n : Int) := by omega
                have HR : Hid (r = 0) := unhide HE (by rw [List.take_of_length_le (by omega)] at i2; exact i2)
                clear HI i1 i2 l1 l2 hlt
                go_wp2_with fail
                go_ret
                exact ⟨by rw [unhide HR]; rfl, HB⟩
end Go.Proofs.YtagibmgbjhemkaaGreat.W16

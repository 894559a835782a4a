/- Rows of numbers: slices.Insert, BinarySearch, Delete over them; with, without. -/
import Derived.Test.YtagibmgbjhemkaaGreatGrowE
import Derived.Test.YtagibmgbjhemkaaGreatAct2E
import Derived.Test.YtagibmgbjhemkaaGreatShelf
import Derived.Test.YtagibmgbjhemkaaGreatShelf2
import Derived.Lib.OwnBridge
namespace Go.Proofs.YtagibmgbjhemkaaGreat
open Go.RowKit Go.Maps Go.Sort
abbrev NRow (w : World) (v : Value) (ks : List Int) : Prop := w.ownsRow 0 3 1 v ks.length (ks.map (Value.int .i64))
theorem nrow_kept {w w' : World} {v : Value} {ks : List Int} (h : NRow w v ks) (hk : ∀ b, v.ownBlock = some b → w'.heap[b]? = w.heap[b]?) : NRow w' v ks := by
  refine ⟨h.1, ?_⟩; rcases h.2 with hn | ⟨g, cap, cur, e, hb, hgg, rest⟩
  · exact .inl hn
  · exact .inr ⟨g, cap, cur, e, hb, (hk g (by rw [e]; rfl)).trans hgg, rest⟩
theorem nrow_some {w : World} {g n c : Nat} {ks : List Int} (h : NRow w (.slice (some ⟨g, 0, none⟩) n c) ks) : n = ks.length ∧ n ≤ c ∧ c ≤ maxLen ∧ (∃ cur, w.heap[g]? = some (.cells cur 3 (0, 0)) ∧ cur.size = c ∧ cur.toList.take n = ks.map (Value.int .i64)) ∧ ∀ j, j < ks.length → w.cell? ⟨g, j, none⟩ = some (.int .i64 (ks.getD j 0)) := by
  rcases h.2 with ⟨e, -⟩ | ⟨g', cap, cur, e, -, hg, hc, hm, hs, ht⟩
  · cases e
  · injection e with e1 e2 e3
    injection e1 with e1
    injection e1 with e1
    subst e1 e2 e3; refine ⟨rfl, hc, hm, ⟨cur, hg, by simpa using hs, by simpa using ht⟩, fun j hj => ?_⟩
    have := h.cells (g := g) rfl j (.int .i64 (ks.getD j 0)) (by simp [List.getD, hj])
    rwa [show (⟨g, 0, none⟩ : Addr).add j = ⟨g, j, none⟩ by unfold Addr.add; split <;> simp_all] at this
theorem nrow_shape {w : World} {v : Value} {ks : List Int} (h : NRow w v ks) : (v = .slice none 0 0 ∧ ks = []) ∨ ∃ g c, v = .slice (some ⟨g, 0, none⟩) ks.length c := by
  rcases h.2 with ⟨e, h0⟩ | ⟨g', cap, cur, e, -⟩
  · exact .inl ⟨e, List.eq_nil_of_length_eq_zero h0⟩
  · exact .inr ⟨_, _, e⟩
/-! ### cells written one behind the other -/
def setM (cur : Array Value) : Nat → List Value → Array Value
  | _, [] => cur
  | o, v :: vs => setM (cur.setIfInBounds o v) (o + 1) vs
theorem setM_size : ∀ (vs : List Value) (o : Nat) (cur : Array Value), (setM cur o vs).size = cur.size
  | [], _, _ => rfl
  | v :: vs, o, cur => by unfold setM; rw [setM_size vs]; simp
theorem setM_list : ∀ (vs : List Value) (o : Nat) (cur : Array Value), o + vs.length ≤ cur.size → (setM cur o vs).toList = cur.toList.take o ++ vs ++ cur.toList.drop (o + vs.length)
  | [], o, cur, _ => by simp [setM]
  | v :: vs, o, cur, h => by
    have h' : o + 1 + vs.length ≤ (cur.setIfInBounds o v).size := by simp at h ⊢; omega
    have ho : o < cur.size := by simp at h; omega
    have e := setM_list vs (o + 1) (cur.setIfInBounds o v) h'; unfold setM; rw [e]; have e1 : (cur.setIfInBounds o v).toList = cur.toList.set o v := by simp
    rw [e1, List.drop_set, if_pos (by omega), List.length_cons, show o + (vs.length + 1) = o + 1 + vs.length by omega]
    congr 1; rw [show cur.toList.take o ++ v :: vs = (cur.toList.take o ++ [v]) ++ vs by simp]
    congr 1; apply List.ext_getElem?; intro k; rw [List.getElem?_take, List.getElem?_append, List.length_take, Array.length_toList, Nat.min_eq_left (by omega)]
    by_cases hk : k < o
    · rw [if_pos (by omega), if_pos hk, List.getElem?_set_ne (by omega), List.getElem?_take, if_pos hk]
    · rw [if_neg hk]
      by_cases hk2 : k = o
      · subst hk2; rw [if_pos (by omega), List.getElem?_set_self (by simpa using ho)]
        simp
      · rw [if_neg (by omega), List.getElem?_eq_none (by simp; omega)]
theorem setCells_heap {t : TypeId} (g : Nat) : ∀ (vs : List Value) (o : Nat) (w : World) (cur : Array Value), w.heap[g]? = some (.cells cur t (0, 0)) → (w.setCells g o vs).heap[g]? = some (.cells (setM cur o vs) t (0, 0))
  | [], _, _, _, h => h
  | v :: vs, o, w, cur, h => setCells_heap g vs (o + 1) (w.setCell ⟨g, o, none⟩ v) _ (heap_setCell_same w g o cur t v h)
theorem setCells_turned {S : Nat → Prop} (g : Nat) (hg : S g) : ∀ (vs : List Value) (o : Nat) (w : World), Turned S w (w.setCells g o vs)
  | [], _, _ => Turned.refl _ _
  | v :: vs, o, w => (turned_setCell w ⟨g, o, none⟩ v hg).trans (setCells_turned g hg vs (o + 1) _)
theorem turned_drew {S : Nat → Prop} (w : World) : Turned S w w.drew := ⟨rfl, rfl, rfl, Nat.le_refl _, fun _ _ _ => rfl⟩
theorem turned_alloc {S : Nat → Prop} (w : World) (o : Obj) : Turned S w (w.alloc o) := turned_of_below ((Below.refl _ _).alloc (Nat.le_refl _) _)
theorem two_a {α : Type} (l D : List α) (e : α) (i : Nat) (h : i + 1 ≤ l.length) :
    ((l.take (i + 1) ++ D ++ l.drop (i + 1 + D.length)).take i ++ [e] ++ (l.take (i + 1) ++ D ++ l.drop (i + 1 + D.length)).drop (i + 1)).take (i + 1 + D.length) = l.take i ++ [e] ++ D := by
  have l1 : (l.take (i + 1)).length = i + 1 := by simp; omega
  have l2 : (l.take i).length = i := by simp; omega
  have e1 : (l.take (i + 1) ++ D ++ l.drop (i + 1 + D.length)).take i = l.take i := by
    rw [List.append_assoc, List.take_append_of_le_length (by omega), List.take_take, Nat.min_eq_left (by omega)]
  have e2 : (l.take (i + 1) ++ D ++ l.drop (i + 1 + D.length)).drop (i + 1) = D ++ l.drop (i + 1 + D.length) := by
    rw [List.append_assoc, List.drop_append_of_le_length (by omega), List.drop_eq_nil_of_le (by omega), List.nil_append]
  rw [e1, e2, show l.take i ++ [e] ++ (D ++ l.drop (i + 1 + D.length)) = (l.take i ++ [e] ++ D) ++ l.drop (i + 1 + D.length) by simp]
  rw [List.take_append_of_le_length (by simp; omega)]
  exact List.take_of_length_le (by simp; omega)
theorem two_b {α : Type} (l D : List α) (e : α) (i : Nat) (h : i ≤ l.length) :
    ((l.take i ++ [e] ++ l.drop (i + 1)).take (i + 1) ++ D ++ (l.take i ++ [e] ++ l.drop (i + 1)).drop (i + 1 + D.length)).take (i + 1 + D.length) = l.take i ++ [e] ++ D := by
  have l2 : (l.take i ++ [e]).length = i + 1 := by simp; omega
  have e1 : (l.take i ++ [e] ++ l.drop (i + 1)).take (i + 1) = l.take i ++ [e] := by
    rw [List.take_append_of_le_length (by omega)]
    exact List.take_of_length_le (by omega)
  rw [e1, List.take_append_of_le_length (by rw [List.length_append, l2]; exact Nat.le_refl _)]
  exact List.take_of_length_le (by rw [List.length_append, l2]; exact Nat.le_refl _)
theorem ints_one (ks : List Int) : ∀ v ∈ ks.map (Value.int .i64), v.oneCell' = true := by
  intro v hv; obtain ⟨x, -, rfl⟩ := List.mem_map.1 hv; rfl
theorem zeroCells_size (n : Nat) : (Builtin.zeroCells (Value.int .i64 0).cells n).size = n := by
  have : (Value.int IntKind.i64 0).cells.size = 1 := rfl; simp [Builtin.zeroCells, this]
def Rows1 (w : World) (v : Value) (ks' : List Int) (v' : Value) (w' : World) : Prop :=
  NRow w' v' ks' ∧ Turned (fun b => v.ownBlock = some b) w w' ∧ ∀ b, v'.ownBlock = some b → v.ownBlock = some b ∨ w.heap.size ≤ b
theorem insN (ks : List Int) (i : Nat) (e : Int) (v : Value) (w : World) (h : NRow w v ks) (hi : i ≤ ks.length) (hlen : ks.length ≤ 1000000) (vb : Nat) (hvb : w.heap[vb]? = some (.cells #[.int .i64 e] 3 (0, 0))) (hne : v.ownBlock ≠ some vb) :
    Calls Tryz.prog 122 #[v, .int .i64 i, .slice (some ⟨vb, 0, none⟩) 1 1] w fun r w' => ∃ v', r = .returned v' ∧ Hid (Rows1 w v (ks.take i ++ [e] ++ ks.drop i) v' w') := by
  have hvs : ∀ j u, [Value.int .i64 e][j]? = some u → w.cell? ⟨vb, 0 + j, none⟩ = some u := fun j u hj => by
    have h1 : j < 1 := by have := (List.getElem?_eq_some_iff.1 hj).1; simpa using this
    obtain rfl : j = 0 := by omega
    rw [cell_of_row w vb _ _ _ _ hvb]; simpa using hj
  have h1v : ∀ u ∈ [Value.int .i64 e], u.oneCell' = true := by intro u hu; simp at hu; rw [hu]; rfl
  have hnl : (ks.take i ++ [e] ++ ks.drop i).length = ks.length + 1 := by simp; omega
  rcases nrow_shape h with ⟨rfl, rfl⟩ | ⟨g, c, rfl⟩
  · obtain rfl : i = 0 := by simpa using hi
    refine (Any2.slices_Insert_int_end_grow Tryz.laysIns none 0 0 vb 0 1 1 [] [.int .i64 e] w (by omega) (by omega) (by omega) (by omega) rfl rfl (fun _ => rfl) (fun _ h => by cases h) hvs h1v).mono ?_
    rintro r w' ⟨rfl, rfl⟩
    refine ⟨_, rfl, ⟨by simp, .inr ⟨w.heap.size, grownCap w (0 + 1) 0 3, _, rfl, Nat.zero_le _, heap_alloc_new _ _, grownCap_ge _ _ _ _, grownCap_le_maxLen _ _ _ _ (by unfold maxLen; omega), ?_, ?_⟩⟩, (turned_drew w).trans (turned_alloc _ _), fun b hb => .inr ?_⟩
    · have := grownCap_ge w (0 + 1) 0 3; simp only [Array.size_append, zeroCells_size, List.size_toArray, List.length_append, List.length_nil, List.length_cons]; show 0 + (0 + 1) + (grownCap w (0 + 1) 0 3 - (0 + 1)) = _; omega
    · simp
    · simp [Value.ownBlock] at hb; omega
  · obtain ⟨-, hc, hm, ⟨cur, hg, hcs, ht⟩, hcells⟩ := nrow_some h; have hgl : g < w.heap.size := (Array.getElem?_eq_some_iff.1 hg).1; have hgv : vb ≠ g := fun e => hne (by simp [Value.ownBlock, e])
    have hcur : ∀ j u, (ks.map (Value.int .i64))[j]? = some u → w.cell? ⟨g, 0 + j, none⟩ = some u := fun j u hj => by
      have hj' : j < ks.length := by have := (List.getElem?_eq_some_iff.1 hj).1; simpa using this
      rw [Nat.zero_add, hcells j hj']; simpa [List.getD, hj'] using hj
    have hsome : ∀ j, j < c → (w.cell? ⟨g, j, none⟩).isSome = true := fun j hj => by
      rw [cell_of_row w g _ _ _ _ hg]; simp; omega
    have hfz : ∀ o, w.frozen? ⟨g, o, none⟩ = false := fun o => frozen_of_row w g o _ _ hg
    have hmx : c ≤ 9223372036854775807 := by unfold maxLen at hm; omega
    have fin : ∀ (cur' : Array Value) (w' : World), w'.heap[g]? = some (.cells cur' 3 (0, 0)) → cur'.size = c → ks.length + 1 ≤ c → cur'.toList.take (ks.length + 1) = (ks.take i ++ [e] ++ ks.drop i).map (Value.int .i64) → Turned (fun b => b = g) w w' → Rows1 w (.slice (some ⟨g, 0, none⟩) ks.length c) (ks.take i ++ [e] ++ ks.drop i) (.slice (some ⟨g, 0, none⟩) (ks.length + 1) c) w' := fun cur' w' h1 h2 h3 h4 h5 =>
      ⟨⟨by simp, .inr ⟨g, c, cur', by rw [hnl], Nat.zero_le _, h1, by omega, hm, by simpa using h2, by rw [hnl]; simpa using h4⟩⟩, h5.mono (fun k _ hk => by simp [Value.ownBlock, hk]), fun b hb => .inl (by simpa [Value.ownBlock] using hb)⟩
    have finG : ∀ (cap : Nat) (cur' : Array Value) (w' : World), w'.heap[w.heap.size]? = some (.cells cur' 3 (0, 0)) → cur'.size = cap → ks.length + 1 ≤ cap → cap ≤ maxLen → cur'.toList.take (ks.length + 1) = (ks.take i ++ [e] ++ ks.drop i).map (Value.int .i64) → Turned (fun _ => False) w w' → Rows1 w (.slice (some ⟨g, 0, none⟩) ks.length c) (ks.take i ++ [e] ++ ks.drop i) (.slice (some ⟨w.heap.size, 0, none⟩) (ks.length + 1) cap) w' := fun cap cur' w' h1 h2 h3 h3' h4 h5 =>
      ⟨⟨by simp, .inr ⟨w.heap.size, cap, cur', by rw [hnl], Nat.zero_le _, h1, by omega, h3', by simpa using h2, by rw [hnl]; simpa using h4⟩⟩, h5.mono (fun k _ hk => hk.elim), fun b hb => .inr (by simp [Value.ownBlock] at hb; omega)⟩
    by_cases hie : i = ks.length
    · subst hie; have e0 : (ks.take ks.length ++ [e] ++ ks.drop ks.length).map (Value.int .i64) = ks.map (Value.int .i64) ++ [.int .i64 e] := by simp
      by_cases hr : ks.length + 1 ≤ c
      · refine (Any2.slices_Insert_int_end_room Tryz.laysIns g 0 ks.length c vb 0 1 1 [.int .i64 e] w (by omega) hr hmx rfl (fun j hj => hsome _ (by omega)) (fun j _ => hfz _) hvs h1v).mono ?_
        rintro r w' ⟨rfl, rfl⟩
        refine ⟨_, rfl, fin (setM cur (0 + ks.length) [.int .i64 e]) _ (setCells_heap g _ _ _ _ hg) (by rw [setM_size]; exact hcs) hr ?_ (setCells_turned (S := fun b => b = g) g rfl _ _ _)⟩
        rw [setM_list _ _ _ (by simp; omega), Nat.zero_add, ht, e0]
        rw [List.take_append_of_le_length (by simp)]
        exact List.take_of_length_le (by simp)
      · refine (Any2.slices_Insert_int_end_grow Tryz.laysIns (some ⟨g, 0, none⟩) ks.length c vb 0 1 1 (ks.map (Value.int .i64)) [.int .i64 e] w (by omega) hc (by omega) (by omega) (by simp) rfl (fun h => by cases h) (fun a ha j u hj => ?_) hvs h1v).mono ?_
        · cases ha
          rw [Addr.add_lit]; exact hcur j u hj
        · rintro r w' ⟨rfl, rfl⟩
          have hge := grownCap_ge w (ks.length + 1) c 3; refine ⟨_, rfl, finG (grownCap w (ks.length + 1) c 3) _ _ (heap_alloc_new _ _) ?_ hge (grownCap_le_maxLen _ _ _ _ (by unfold maxLen; omega)) ?_ ((turned_drew w).trans (turned_alloc _ _))⟩
          · simp only [Array.size_append, zeroCells_size, List.size_toArray, List.length_append, List.length_map, List.length_cons, List.length_nil]; show ks.length + (0 + 1) + (grownCap w (ks.length + 1) c 3 - (ks.length + 1)) = _; omega
          · rw [e0, Array.toList_append, List.take_append_of_le_length (by simp)]
            exact List.take_of_length_le (by simp)
    · have hin : i < ks.length := by omega
      have hdrop : (ks.map (Value.int .i64)).drop i = (ks.drop i).map (Value.int .i64) := by simp
      have e0 : (ks.take i ++ [e] ++ ks.drop i).map (Value.int .i64) = (ks.map (Value.int .i64)).take i ++ [.int .i64 e] ++ (ks.map (Value.int .i64)).drop i := by simp
      have lk : (ks.map (Value.int .i64)).length = ks.length := by simp
      by_cases hr : ks.length + 1 ≤ c
      · refine (Any2.slices_Insert_int_shift Tryz.laysIns g 0 ks.length c i vb 0 1 1 (ks.map (Value.int .i64)) [.int .i64 e] w hin (by omega) hr hmx hgv (by simp) rfl hcur (fun j hj => hsome _ (by omega)) (fun j _ => hfz _) hvs (ints_one ks) h1v 3 3 1 c (by simp [World.shape?, hvb]) (by simp [World.shape?, hg, hcs]) (by omega) (by simp [World.frozen?, hvb]) (by simp [World.frozen?, hvb])).mono ?_
        rintro r w' ⟨rfl, rfl⟩
        have hg1 : w.drew.heap[g]? = some (.cells cur 3 (0, 0)) := hg; refine ⟨_, rfl, fin (setM (setM cur (0 + (i + 1)) ((ks.map (Value.int .i64)).drop i)) (0 + i) [.int .i64 e]) _ (setCells_heap g _ _ _ _ (setCells_heap g _ _ _ _ hg1)) (by rw [setM_size, setM_size]; exact hcs) hr ?_ (((turned_drew w).trans (setCells_turned (S := fun b => b = g) g rfl _ _ _)).trans (setCells_turned (S := fun b => b = g) g rfl _ _ _))⟩
        have ld : ((ks.map (Value.int .i64)).drop i).length = ks.length - i := by simp
        have lcur : cur.toList.length = c := by simpa using hcs
        have ht2 : (ks.map (Value.int .i64)).take i = cur.toList.take i := by rw [← ht, List.take_take, Nat.min_eq_left (by omega)]
        rw [setM_list _ _ _ (by rw [setM_size]; simp; omega), setM_list _ _ _ (by rw [ld]; omega), e0, ht2, Nat.zero_add, Nat.zero_add]
        have := two_a cur.toList ((ks.map (Value.int .i64)).drop i) (.int .i64 e) i (by omega)
        rw [ld, show i + 1 + (ks.length - i) = ks.length + 1 by omega] at this
        simpa [ld, show i + 1 + (ks.length - i) = ks.length + 1 by omega] using this
      · refine (Any2.slices_Insert_int_grow Tryz.laysIns g 0 ks.length c i vb 0 1 1 (ks.map (Value.int .i64)) [.int .i64 e] w hin (by omega) hc (by omega) (by omega) (by simp) rfl hcur hvs (ints_one ks) h1v).mono ?_
        rintro r w' ⟨rfl, rfl⟩
        have hge : ks.length + 1 ≤ grownCap w (ks.length + 1) c 3 := grownCap_ge w (ks.length + 1) c 3; have hgm : grownCap w (ks.length + 1) c 3 ≤ maxLen := grownCap_le_maxLen _ _ _ _ (by unfold maxLen; omega)
        show ∃ v', Ending.returned (.slice (some ⟨w.heap.size, 0, none⟩) (ks.length + 1) (grownCap w (ks.length + 1) c 3)) = _ ∧ Hid (Rows1 w _ _ v' ((((w.alloc (.cells (((ks.map (Value.int .i64)).take i).toArray ++ Builtin.zeroCells (Value.int .i64 0).cells (ks.length + 1 - i) ++ Builtin.zeroCells (Value.int .i64 0).cells (grownCap w (ks.length + 1) c 3 - (ks.length + 1))) 3)).drew.setCells w.heap.size i [.int .i64 e]).drew).setCells w.heap.size (i + 1) ((ks.map (Value.int .i64)).drop i))); generalize grownCap w (ks.length + 1) c 3 = cap at *; have hz1 := zeroCells_size (ks.length + 1 - i); have hz2 := zeroCells_size (cap - (ks.length + 1)); generalize Builtin.zeroCells (Value.int .i64 0).cells (ks.length + 1 - i) = Z1 at *; generalize Builtin.zeroCells (Value.int .i64 0).cells (cap - (ks.length + 1)) = Z2 at *; have ld : ((ks.map (Value.int .i64)).drop i).length = ks.length - i := by simp
        have lt : ((ks.map (Value.int .i64)).take i).length = i := by simp; omega
        obtain ⟨A0, hA0⟩ : ∃ A0, A0 = ((ks.map (Value.int .i64)).take i).toArray ++ Z1 ++ Z2 := ⟨_, rfl⟩; have hA1 : A0.size = cap := by rw [hA0]; simp only [Array.size_append, List.size_toArray, lt, hz1, hz2]; omega
        have hA2 : A0.toList.take i = (ks.map (Value.int .i64)).take i := by
          rw [hA0, Array.toList_append, Array.toList_append, List.append_assoc, List.take_append_of_le_length (by rw [lt]; exact Nat.le_refl _)]
          exact List.take_of_length_le (by rw [lt]; exact Nat.le_refl _)
        rw [← hA0]; have hb0 : (w.alloc (.cells A0 3)).drew.heap[w.heap.size]? = some (.cells A0 3 (0, 0)) := heap_alloc_new _ _; have hb1 := setCells_heap w.heap.size [.int .i64 e] i _ _ hb0; have hb1' : ((w.alloc (.cells A0 3)).drew.setCells w.heap.size i [.int .i64 e]).drew.heap[w.heap.size]? = _ := hb1; have hb2 := setCells_heap w.heap.size ((ks.map (Value.int .i64)).drop i) (i + 1) _ _ hb1'; refine ⟨_, rfl, finG cap _ _ hb2 (by rw [setM_size, setM_size]; exact hA1) hge hgm ?_ ?_⟩
        · have lA : A0.toList.length = cap := by simpa using hA1
          rw [setM_list _ _ _ (by rw [setM_size, ld]; omega), setM_list _ _ _ (by simp; omega), e0, ← hA2]
          have := two_b A0.toList ((ks.map (Value.int .i64)).drop i) (.int .i64 e) i (by omega)
          rw [ld, show i + 1 + (ks.length - i) = ks.length + 1 by omega] at this
          simpa [ld, show i + 1 + (ks.length - i) = ks.length + 1 by omega] using this
        · have B0 : Below w.heap.size w (w.alloc (.cells A0 3)).drew := below_drewN ((Below.refl w.heap.size w).alloc (Nat.le_refl _) (.cells A0 3)) 1; have s0 := B0.size; have s1 := (setCells_turned (S := fun b => b = w.heap.size) w.heap.size rfl [Value.int .i64 e] i (w.alloc (.cells A0 3)).drew)
          have s2 := (setCells_turned (S := fun b => b = w.heap.size) w.heap.size rfl ((ks.map (Value.int .i64)).drop i) (i + 1) ((w.alloc (.cells A0 3)).drew.setCells w.heap.size i [.int .i64 e]).drew)
          have z1 := s1.size; exact ⟨s2.os.trans (s1.os.trans B0.os), s2.tape.trans (s1.tape.trans B0.tape), s2.output.trans (s1.output.trans B0.output), Nat.le_trans s0 (Nat.le_trans z1 s2.size), fun k hk _ => (s2.block k (Nat.lt_of_lt_of_le hk (Nat.le_trans s0 z1)) (by omega)).trans ((s1.block k (Nat.lt_of_lt_of_le hk s0) (by omega)).trans (B0.block k hk))⟩
theorem findN (v : Value) (ks : List Int) (k : Int) (w : World) (h : NRow w v ks) (hlen : ks.length ≤ 1000000) (hs : Rising ltN ks) :
    Calls Tryz.prog 107 #[v, .int .i64 k] w fun e w' => ∃ (f : Bool) (q : Nat), e = .returned (.tuple #[.int .i64 (cnt ltN ks k : Nat), .bool f]) ∧ w' = w.drewN q := by
  rcases nrow_shape h with ⟨rfl, rfl⟩ | ⟨g, c, rfl⟩
  · refine (Any.slices_BinarySearch_int_empty Tryz.laysNm225 none 0 k w).mono ?_
    rintro e w' ⟨rfl, rfl⟩
    exact ⟨false, 0, rfl, rfl⟩
  · obtain ⟨-, -, -, -, hc⟩ := nrow_some h; refine (Any.slices_BinarySearch_int Tryz.laysNm225 g 0 ks.length c ks k w (Nat.le_refl _) (by omega) (fun j hj => by rw [Nat.zero_add]; exact hc j hj) (by rw [List.take_length]; exact List.Pairwise.imp (fun {a b} hab => by simp [ltN] at hab; omega) hs)).mono ?_
    rintro e w' ⟨he, q, hq⟩
    rw [List.take_length] at he; exact ⟨_, q, he, hq⟩
set_option maxHeartbeats 1000000 in
set_option maxRecDepth 100000 in
theorem withN (v : Value) (ks : List Int) (x : Int) (w : World) (h : NRow w v ks) (hlen : ks.length ≤ 1000000) (hs : Rising ltN ks) :
    Calls Tryz.prog 104 #[v, .int .i64 x] w fun r w' => ∃ v', r = .returned v' ∧ Hid (Rows1 w v (ks.take (cnt ltN ks x) ++ [x] ++ ks.drop (cnt ltN ks x)) v' w') := by
  have CB := hide (findN v ks x w h hlen hs); have CI : Hid (∀ q, Calls Tryz.prog 122 #[v, .int .i64 (cnt ltN ks x : Nat), .slice (some ⟨w.heap.size, 0, none⟩) 1 1] ((w.drewN q).alloc (.cells #[.int .i64 x] 3)) fun r w' => ∃ v', r = .returned v' ∧ Hid (Rows1 w v (ks.take (cnt ltN ks x) ++ [x] ++ ks.drop (cnt ltN ks x)) v' w')) := fun q => by
    have hb : Below w.heap.size w ((w.drewN q).alloc (.cells #[.int .i64 x] 3)) := (below_drewN (Below.refl w.heap.size w) q).alloc (Nat.le_refl _) _; have h1 : NRow ((w.drewN q).alloc (.cells #[.int .i64 x] 3)) v ks := nrow_kept h (fun b hb' => hb.block b (h.lt b hb').2)
    refine (insN ks (cnt ltN ks x) x v _ h1 (cnt_le _ _) hlen w.heap.size (heap_alloc_new (w.drewN q) _) (fun e => by have := (h.lt _ e).2; omega)).mono ?_
    rintro r w' ⟨v', rfl, h2⟩
    obtain ⟨g1, g2, g3⟩ := unhide h2; exact ⟨v', rfl, g1, ⟨g2.os.trans hb.os, g2.tape.trans hb.tape, g2.output.trans hb.output, Nat.le_trans hb.size g2.size, fun k hk hn => (g2.block k (Nat.lt_of_lt_of_le hk hb.size) hn).trans (hb.block k hk)⟩, fun b hb' => (g3 b hb').imp id (fun e => Nat.le_trans hb.size e)⟩
  generalize ks.take (cnt ltN ks x) ++ [x] ++ ks.drop (cnt ltN ks x) = ks' at *; generalize cnt ltN ks x = i at *; obtain ⟨a, n, c, rfl⟩ : ∃ a n c, v = .slice a n c := by
    rcases nrow_shape h with ⟨rfl, -⟩ | ⟨g, c, rfl⟩
    · exact ⟨_, _, _, rfl⟩
    · exact ⟨_, _, _, rfl⟩
  clear h hlen hs
  go_enter Tryz.func104, Tryz.ntmps104
  go_wp2_with fail
  refine (unhide CB).mono ?_
  rintro e w' ⟨f, q, rfl, rfl⟩
  have CI' := hide (unhide CI q); clear CB CI
  go_wp2_with fail
  refine (unhide CI').mono ?_
  rintro e w' ⟨v', rfl, h2⟩
  clear CI'
  go_wp2_with fail
  go_ret
  exact ⟨v', rfl, unhide h2⟩
theorem delN (i : Nat) (g c : Nat) (ks : List Int) (w : World) (hi : i < ks.length) (h : NRow w (.slice (some ⟨g, 0, none⟩) ks.length c) ks) :
    Calls Tryz.prog 108 #[.slice (some ⟨g, 0, none⟩) ks.length c, .int .i64 i, .int .i64 ((i : Int) + 1)] w fun e w' => ∃ v', e = .returned v' ∧ Hid (Rows1 w (.slice (some ⟨g, 0, none⟩) ks.length c) (ks.take i ++ ks.drop (i + 1)) v' w') := by
  obtain ⟨g', c', e, -, -, hcap, hm, -, hH⟩ := Lib.holds_of_ownsRow h (by simp)
  injection e with e1 e2 e3
  injection e1 with e1
  injection e1 with e1
  subst e1 e3; have := Any.slices_Delete_int Tryz.laysNm223 g 0 c i (i + 1) ks w hH hcap (by unfold maxLen at hm; omega) (by omega) (by omega)
  rw [show (((i + 1 : Nat) : Int)) = (i : Int) + 1 by omega, show i + 1 - i = 1 by omega] at this
  refine this.mono ?_
  rintro e w' ⟨he, q, rfl⟩
  have hkl : (ks.take i ++ ks.drop (i + 1)).length = ks.length - 1 := by simp; omega
  refine ⟨_, he, ?_, ⟨rfl, rfl, rfl, by simp [putRow, mapBlock, Sort.ahead], fun k _ hk => ?_⟩, fun b hb => .inl (by simpa [Value.ownBlock] using hb)⟩
  · have hy := Lib.ownsRow_putRow (q := q) (k := ks.length - 1) (ys := ks.take i ++ ks.drop (i + 1) ++ List.replicate 1 0) h (by simp; omega) (by omega)
    have ht : (ks.take i ++ ks.drop (i + 1) ++ List.replicate 1 0).take (ks.length - 1) = ks.take i ++ ks.drop (i + 1) := by
      rw [List.take_append_of_le_length (by omega)]
      exact List.take_of_length_le (by omega)
    rw [ht] at hy; show World.ownsRow _ 0 3 1 _ _ _; rw [hkl]; exact hy
  · have hk' : g ≠ k := fun e => hk (by simp [Value.ownBlock, e])
    simp [putRow, mapBlock, Sort.ahead, Array.getElem?_modify, hk']
set_option maxHeartbeats 1000000 in
set_option maxRecDepth 100000 in
theorem withoutN (v : Value) (ks : List Int) (x : Int) (w : World) (h : NRow w v ks) (hlen : ks.length ≤ 1000000) (hs : Rising ltN ks) (hx : x ∈ ks) :
    Calls Tryz.prog 86 #[v, .int .i64 x] w fun r w' => ∃ v', r = .returned v' ∧ Hid (Rows1 w v (ks.take (cnt ltN ks x) ++ ks.drop (cnt ltN ks x + 1)) v' w') := by
  have CB := hide (findN v ks x w h hlen hs); have hcnt := (cut_one linN hs hx).2.2.2; obtain ⟨g, c, rfl⟩ : ∃ g c, v = .slice (some ⟨g, 0, none⟩) ks.length c := by
    rcases nrow_shape h with ⟨-, rfl⟩ | ⟨g, c, rfl⟩
    · cases hx
    · exact ⟨_, _, rfl⟩
  have CD : Hid (∀ q, Calls Tryz.prog 108 #[.slice (some ⟨g, 0, none⟩) ks.length c, .int .i64 (cnt ltN ks x : Nat), .int .i64 (((cnt ltN ks x : Nat) : Int) + 1)] (w.drewN q) fun e w' => ∃ v', e = .returned v' ∧ Hid (Rows1 w (.slice (some ⟨g, 0, none⟩) ks.length c) (ks.take (cnt ltN ks x) ++ ks.drop (cnt ltN ks x + 1)) v' w')) := fun q => by
    refine (delN (cnt ltN ks x) g c ks (w.drewN q) hcnt (nrow_kept h (fun _ _ => rfl))).mono ?_
    rintro e w' ⟨v', rfl, h2⟩
    obtain ⟨g1, g2, g3⟩ := unhide h2; exact ⟨v', rfl, g1, ⟨g2.os, g2.tape, g2.output, g2.size, g2.block⟩, g3⟩
  have hiw : IntKind.i64.wrap (((cnt ltN ks x : Nat) : Int) + 1) = ((cnt ltN ks x : Nat) : Int) + 1 := by rw [IntKind.wrap_i64]; omega
  generalize ks.take (cnt ltN ks x) ++ ks.drop (cnt ltN ks x + 1) = ks' at *; generalize cnt ltN ks x = i at *; generalize ks.length = L at *; clear h hlen hs hx hcnt
  go_enter Tryz.func86, Tryz.ntmps86
  go_wp2_with fail
  refine (unhide CB).mono ?_
  rintro e w' ⟨f, q, rfl, rfl⟩
  have CD' := hide (unhide CD q); clear CB CD
  go_wp2_with fail
  refine (unhide CD').mono ?_
  rintro e w' ⟨v', rfl, h2⟩
  clear CD'
  go_wp2_with fail
  go_ret
  exact ⟨v', rfl, unhide h2⟩
end Go.Proofs.YtagibmgbjhemkaaGreat

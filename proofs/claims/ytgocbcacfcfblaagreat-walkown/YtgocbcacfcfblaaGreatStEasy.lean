/- A store's calls that only read: Has, Free, Reads, Writes, admit; the weights. -/
import Derived.Test.YtgocbcacfcfblaaGreatAct2E
import Derived.Test.YtgocbcacfcfblaaGreatShelf
import Derived.Test.YtgocbcacfcfblaaGreatShelf2
import Derived.Lib.OwnBridge
import Derived.Lib.AppendZeros
import Derived.Sort.OwnSorted
import Derived.Sort.OwnSortedInts
import Derived.Sort.Walk0
import Derived.LaidEql
import Derived.Shelf.Abstract
import Derived.Maps.OwnSet
import Derived.Maps.OwnOps
import Ieee.Arith
import Derived.Laws.FloatBits
namespace Go.Proofs.YtgocbcacfcfblaaGreat

section
open Go.RowKit Go.Maps Go.Sort
/-- v is a slice of these numbers, its block its own. -/
abbrev NRow (w : World) (v : Value) (ks : List Int) : Prop := w.ownsRow 0 3 1 v ks.length (ks.map (Value.int .i64))

theorem nrow_kept {w w' : World} {v : Value} {ks : List Int} (h : NRow w v ks) (hk : ∀ b, v.ownBlock = some b → w'.heap[b]? = w.heap[b]?) : NRow w' v ks := by
  refine ⟨h.1, ?_⟩
  rcases h.2 with hn | ⟨g, cap, cur, e, hb, hgg, rest⟩
  · exact .inl hn
  · exact .inr ⟨g, cap, cur, e, hb, (hk g (by rw [e]; rfl)).trans hgg, rest⟩
theorem nrow_some {w : World} {g n c : Nat} {ks : List Int} (h : NRow w (.slice (some ⟨g, 0, none⟩) n c) ks) : n = ks.length ∧ n ≤ c ∧ c ≤ maxLen ∧ (∃ cur, w.heap[g]? = some (.cells cur 3 (0, 0)) ∧ cur.size = c ∧ cur.toList.take n = ks.map (Value.int .i64)) ∧ ∀ j, j < ks.length → w.cell? ⟨g, j, none⟩ = some (.int .i64 (ks.getD j 0)) := by
  rcases h.2 with ⟨e, -⟩ | ⟨g', cap, cur, e, -, hg, hc, hm, hs, ht⟩
  · cases e
  · injection e with e1 e2 e3
    injection e1 with e1
    injection e1 with e1
    subst e1 e2 e3
    refine ⟨rfl, hc, hm, ⟨cur, hg, by simpa using hs, by simpa using ht⟩, fun j hj => ?_⟩
    have := h.cells (g := g) rfl j (.int .i64 (ks.getD j 0)) (by simp [List.getD, hj])
    rwa [show (⟨g, 0, none⟩ : Addr).add j = ⟨g, j, none⟩ by unfold Addr.add; split <;> simp_all] at this
theorem nrow_shape {w : World} {v : Value} {ks : List Int} (h : NRow w v ks) : (v = .slice none 0 0 ∧ ks = []) ∨ ∃ g c, v = .slice (some ⟨g, 0, none⟩) ks.length c := by
  rcases h.2 with ⟨e, h0⟩ | ⟨g', cap, cur, e, -⟩
  · exact .inl ⟨e, List.eq_nil_of_length_eq_zero h0⟩
  · exact .inr ⟨_, _, e⟩

/-! ### cells written one behind the other -/
def setM (cur : Array Value) : Nat → List Value → Array Value
  | _, [] => cur
  | o, v :: vs => setM (cur.setIfInBounds o v) (o + 1) vs
theorem setM_size : ∀ (vs : List Value) (o : Nat) (cur : Array Value), (setM cur o vs).size = cur.size
  | [], _, _ => rfl
  | v :: vs, o, cur => by unfold setM; rw [setM_size vs]; simp
theorem setM_list : ∀ (vs : List Value) (o : Nat) (cur : Array Value), o + vs.length ≤ cur.size → (setM cur o vs).toList = cur.toList.take o ++ vs ++ cur.toList.drop (o + vs.length)
  | [], o, cur, _ => by simp [setM]
  | v :: vs, o, cur, h => by
    have h' : o + 1 + vs.length ≤ (cur.setIfInBounds o v).size := by simp at h ⊢; omega
    have ho : o < cur.size := by simp at h; omega
    have e := setM_list vs (o + 1) (cur.setIfInBounds o v) h'
    unfold setM
    rw [e]
    have e1 : (cur.setIfInBounds o v).toList = cur.toList.set o v := by simp
    rw [e1, List.drop_set, if_pos (by omega), List.length_cons, show o + (vs.length + 1) = o + 1 + vs.length by omega]
    congr 1
    rw [show cur.toList.take o ++ v :: vs = (cur.toList.take o ++ [v]) ++ vs by simp]
    congr 1
    apply List.ext_getElem?
    intro k
    rw [List.getElem?_take, List.getElem?_append, List.length_take, Array.length_toList, Nat.min_eq_left (by omega)]
    by_cases hk : k < o
    · rw [if_pos (by omega), if_pos hk, List.getElem?_set_ne (by omega), List.getElem?_take, if_pos hk]
    · rw [if_neg hk]
      by_cases hk2 : k = o
      · subst hk2
        rw [if_pos (by omega), List.getElem?_set_self (by simpa using ho)]
        simp
      · rw [if_neg (by omega), List.getElem?_eq_none (by simp; omega)]
theorem setCells_heap {t : TypeId} (g : Nat) : ∀ (vs : List Value) (o : Nat) (w : World) (cur : Array Value), w.heap[g]? = some (.cells cur t (0, 0)) → (w.setCells g o vs).heap[g]? = some (.cells (setM cur o vs) t (0, 0))
  | [], _, _, _, h => h
  | v :: vs, o, w, cur, h => setCells_heap g vs (o + 1) (w.setCell ⟨g, o, none⟩ v) _ (heap_setCell_same w g o cur t v h)
theorem setCells_turned {S : Nat → Prop} (g : Nat) (hg : S g) : ∀ (vs : List Value) (o : Nat) (w : World), Turned S w (w.setCells g o vs)
  | [], _, _ => Turned.refl _ _
  | v :: vs, o, w => (turned_setCell w ⟨g, o, none⟩ v hg).trans (setCells_turned g hg vs (o + 1) _)
theorem turned_drew {S : Nat → Prop} (w : World) : Turned S w w.drew := ⟨rfl, rfl, rfl, Nat.le_refl _, fun _ _ _ => rfl⟩
theorem turned_alloc {S : Nat → Prop} (w : World) (o : Obj) : Turned S w (w.alloc o) := turned_of_below ((Below.refl _ _).alloc (Nat.le_refl _) _)

theorem two_a {α : Type} (l D : List α) (e : α) (i : Nat) (h : i + 1 ≤ l.length) :
    ((l.take (i + 1) ++ D ++ l.drop (i + 1 + D.length)).take i ++ [e] ++ (l.take (i + 1) ++ D ++ l.drop (i + 1 + D.length)).drop (i + 1)).take (i + 1 + D.length) = l.take i ++ [e] ++ D := by
  have l1 : (l.take (i + 1)).length = i + 1 := by simp; omega
  have l2 : (l.take i).length = i := by simp; omega
  have e1 : (l.take (i + 1) ++ D ++ l.drop (i + 1 + D.length)).take i = l.take i := by
    rw [List.append_assoc, List.take_append_of_le_length (by omega), List.take_take, Nat.min_eq_left (by omega)]
  have e2 : (l.take (i + 1) ++ D ++ l.drop (i + 1 + D.length)).drop (i + 1) = D ++ l.drop (i + 1 + D.length) := by
    rw [List.append_assoc, List.drop_append_of_le_length (by omega), List.drop_eq_nil_of_le (by omega), List.nil_append]
  rw [e1, e2, show l.take i ++ [e] ++ (D ++ l.drop (i + 1 + D.length)) = (l.take i ++ [e] ++ D) ++ l.drop (i + 1 + D.length) by simp]
  rw [List.take_append_of_le_length (by simp; omega)]
  exact List.take_of_length_le (by simp; omega)
theorem two_b {α : Type} (l D : List α) (e : α) (i : Nat) (h : i ≤ l.length) :
    ((l.take i ++ [e] ++ l.drop (i + 1)).take (i + 1) ++ D ++ (l.take i ++ [e] ++ l.drop (i + 1)).drop (i + 1 + D.length)).take (i + 1 + D.length) = l.take i ++ [e] ++ D := by
  have l2 : (l.take i ++ [e]).length = i + 1 := by simp; omega
  have e1 : (l.take i ++ [e] ++ l.drop (i + 1)).take (i + 1) = l.take i ++ [e] := by
    rw [List.take_append_of_le_length (by omega)]
    exact List.take_of_length_le (by omega)
  rw [e1, List.take_append_of_le_length (by rw [List.length_append, l2]; exact Nat.le_refl _)]
  exact List.take_of_length_le (by rw [List.length_append, l2]; exact Nat.le_refl _)

theorem ints_one (ks : List Int) : ∀ v ∈ ks.map (Value.int .i64), v.oneCell' = true := by
  intro v hv; obtain ⟨x, -, rfl⟩ := List.mem_map.1 hv; rfl
theorem zeroCells_size (n : Nat) : (Builtin.zeroCells (Value.int .i64 0).cells n).size = n := by
  have : (Value.int IntKind.i64 0).cells.size = 1 := rfl
  simp [Builtin.zeroCells, this]

/-- What a call makes of a row. -/
def Rows1 (w : World) (v : Value) (ks' : List Int) (v' : Value) (w' : World) : Prop :=
  NRow w' v' ks' ∧ Turned (fun b => v.ownBlock = some b) w w' ∧ ∀ b, v'.ownBlock = some b → v.ownBlock = some b ∨ w.heap.size ≤ b

theorem insN (ks : List Int) (i : Nat) (e : Int) (v : Value) (w : World) (h : NRow w v ks) (hi : i ≤ ks.length) (hlen : ks.length ≤ 1000000) (vb : Nat) (hvb : w.heap[vb]? = some (.cells #[.int .i64 e] 3 (0, 0))) (hne : v.ownBlock ≠ some vb) :
    Calls Tryz.prog 105 #[v, .int .i64 i, .slice (some ⟨vb, 0, none⟩) 1 1] w fun r w' => ∃ v', r = .returned v' ∧ Hid (Rows1 w v (ks.take i ++ [e] ++ ks.drop i) v' w') := by
  have hvs : ∀ j u, [Value.int .i64 e][j]? = some u → w.cell? ⟨vb, 0 + j, none⟩ = some u := fun j u hj => by
    have h1 : j < 1 := by have := (List.getElem?_eq_some_iff.1 hj).1; simpa using this
    obtain rfl : j = 0 := by omega
    rw [cell_of_row w vb _ _ _ _ hvb]; simpa using hj
  have h1v : ∀ u ∈ [Value.int .i64 e], u.oneCell' = true := by intro u hu; simp at hu; rw [hu]; rfl
  have hnl : (ks.take i ++ [e] ++ ks.drop i).length = ks.length + 1 := by simp; omega
  rcases nrow_shape h with ⟨rfl, rfl⟩ | ⟨g, c, rfl⟩
  · obtain rfl : i = 0 := by simpa using hi
    refine (Any2.slices_Insert_int_end_grow Tryz.laysIns none 0 0 vb 0 1 1 [] [.int .i64 e] w (by omega) (by omega) (by omega) (by omega) rfl rfl (fun _ => rfl) (fun _ h => by cases h) hvs h1v).mono ?_
    rintro r w' ⟨rfl, rfl⟩
    refine ⟨_, rfl, ⟨by simp, .inr ⟨w.heap.size, grownCap w (0 + 1) 0 3, _, rfl, Nat.zero_le _, heap_alloc_new _ _, grownCap_ge _ _ _ _, grownCap_le_maxLen _ _ _ _ (by unfold maxLen; omega), ?_, ?_⟩⟩, (turned_drew w).trans (turned_alloc _ _), fun b hb => .inr ?_⟩
    · have := grownCap_ge w (0 + 1) 0 3
      simp only [Array.size_append, zeroCells_size, List.size_toArray, List.length_append, List.length_nil, List.length_cons]
      show 0 + (0 + 1) + (grownCap w (0 + 1) 0 3 - (0 + 1)) = _
      omega
    · simp
    · simp [Value.ownBlock] at hb; omega
  · obtain ⟨-, hc, hm, ⟨cur, hg, hcs, ht⟩, hcells⟩ := nrow_some h
    have hgl : g < w.heap.size := (Array.getElem?_eq_some_iff.1 hg).1
    have hgv : vb ≠ g := fun e => hne (by simp [Value.ownBlock, e])
    have hcur : ∀ j u, (ks.map (Value.int .i64))[j]? = some u → w.cell? ⟨g, 0 + j, none⟩ = some u := fun j u hj => by
      have hj' : j < ks.length := by have := (List.getElem?_eq_some_iff.1 hj).1; simpa using this
      rw [Nat.zero_add, hcells j hj']
      simpa [List.getD, hj'] using hj
    have hsome : ∀ j, j < c → (w.cell? ⟨g, j, none⟩).isSome = true := fun j hj => by
      rw [cell_of_row w g _ _ _ _ hg]; simp; omega
    have hfz : ∀ o, w.frozen? ⟨g, o, none⟩ = false := fun o => frozen_of_row w g o _ _ hg
    have hmx : c ≤ 9223372036854775807 := by unfold maxLen at hm; omega
    have fin : ∀ (cur' : Array Value) (w' : World), w'.heap[g]? = some (.cells cur' 3 (0, 0)) → cur'.size = c → ks.length + 1 ≤ c → cur'.toList.take (ks.length + 1) = (ks.take i ++ [e] ++ ks.drop i).map (Value.int .i64) → Turned (fun b => b = g) w w' → Rows1 w (.slice (some ⟨g, 0, none⟩) ks.length c) (ks.take i ++ [e] ++ ks.drop i) (.slice (some ⟨g, 0, none⟩) (ks.length + 1) c) w' := fun cur' w' h1 h2 h3 h4 h5 =>
      ⟨⟨by simp, .inr ⟨g, c, cur', by rw [hnl], Nat.zero_le _, h1, by omega, hm, by simpa using h2, by rw [hnl]; simpa using h4⟩⟩, h5.mono (fun k _ hk => by simp [Value.ownBlock, hk]), fun b hb => .inl (by simpa [Value.ownBlock] using hb)⟩
    have finG : ∀ (cap : Nat) (cur' : Array Value) (w' : World), w'.heap[w.heap.size]? = some (.cells cur' 3 (0, 0)) → cur'.size = cap → ks.length + 1 ≤ cap → cap ≤ maxLen → cur'.toList.take (ks.length + 1) = (ks.take i ++ [e] ++ ks.drop i).map (Value.int .i64) → Turned (fun _ => False) w w' → Rows1 w (.slice (some ⟨g, 0, none⟩) ks.length c) (ks.take i ++ [e] ++ ks.drop i) (.slice (some ⟨w.heap.size, 0, none⟩) (ks.length + 1) cap) w' := fun cap cur' w' h1 h2 h3 h3' h4 h5 =>
      ⟨⟨by simp, .inr ⟨w.heap.size, cap, cur', by rw [hnl], Nat.zero_le _, h1, by omega, h3', by simpa using h2, by rw [hnl]; simpa using h4⟩⟩, h5.mono (fun k _ hk => hk.elim), fun b hb => .inr (by simp [Value.ownBlock] at hb; omega)⟩
    by_cases hie : i = ks.length
    · subst hie
      have e0 : (ks.take ks.length ++ [e] ++ ks.drop ks.length).map (Value.int .i64) = ks.map (Value.int .i64) ++ [.int .i64 e] := by simp
      by_cases hr : ks.length + 1 ≤ c
      · refine (Any2.slices_Insert_int_end_room Tryz.laysIns g 0 ks.length c vb 0 1 1 [.int .i64 e] w (by omega) hr hmx rfl (fun j hj => hsome _ (by omega)) (fun j _ => hfz _) hvs h1v).mono ?_
        rintro r w' ⟨rfl, rfl⟩
        refine ⟨_, rfl, fin (setM cur (0 + ks.length) [.int .i64 e]) _ (setCells_heap g _ _ _ _ hg) (by rw [setM_size]; exact hcs) hr ?_ (setCells_turned (S := fun b => b = g) g rfl _ _ _)⟩
        rw [setM_list _ _ _ (by simp; omega), Nat.zero_add, ht, e0]
        rw [List.take_append_of_le_length (by simp)]
        exact List.take_of_length_le (by simp)
      · refine (Any2.slices_Insert_int_end_grow Tryz.laysIns (some ⟨g, 0, none⟩) ks.length c vb 0 1 1 (ks.map (Value.int .i64)) [.int .i64 e] w (by omega) hc (by omega) (by omega) (by simp) rfl (fun h => by cases h) (fun a ha j u hj => ?_) hvs h1v).mono ?_
        · cases ha
          rw [Addr.add_lit]; exact hcur j u hj
        · rintro r w' ⟨rfl, rfl⟩
          have hge := grownCap_ge w (ks.length + 1) c 3
          refine ⟨_, rfl, finG (grownCap w (ks.length + 1) c 3) _ _ (heap_alloc_new _ _) ?_ hge (grownCap_le_maxLen _ _ _ _ (by unfold maxLen; omega)) ?_ ((turned_drew w).trans (turned_alloc _ _))⟩
          · simp only [Array.size_append, zeroCells_size, List.size_toArray, List.length_append, List.length_map, List.length_cons, List.length_nil]
            show ks.length + (0 + 1) + (grownCap w (ks.length + 1) c 3 - (ks.length + 1)) = _
            omega
          · rw [e0, Array.toList_append, List.take_append_of_le_length (by simp)]
            exact List.take_of_length_le (by simp)
    · have hin : i < ks.length := by omega
      have hdrop : (ks.map (Value.int .i64)).drop i = (ks.drop i).map (Value.int .i64) := by simp
      have e0 : (ks.take i ++ [e] ++ ks.drop i).map (Value.int .i64) = (ks.map (Value.int .i64)).take i ++ [.int .i64 e] ++ (ks.map (Value.int .i64)).drop i := by simp
      have lk : (ks.map (Value.int .i64)).length = ks.length := by simp
      by_cases hr : ks.length + 1 ≤ c
      · refine (Any2.slices_Insert_int_shift Tryz.laysIns g 0 ks.length c i vb 0 1 1 (ks.map (Value.int .i64)) [.int .i64 e] w hin (by omega) hr hmx hgv (by simp) rfl hcur (fun j hj => hsome _ (by omega)) (fun j _ => hfz _) hvs (ints_one ks) h1v 3 3 1 c (by simp [World.shape?, hvb]) (by simp [World.shape?, hg, hcs]) (by omega) (by simp [World.frozen?, hvb]) (by simp [World.frozen?, hvb])).mono ?_
        rintro r w' ⟨rfl, rfl⟩
        have hg1 : w.drew.heap[g]? = some (.cells cur 3 (0, 0)) := hg
        refine ⟨_, rfl, fin (setM (setM cur (0 + (i + 1)) ((ks.map (Value.int .i64)).drop i)) (0 + i) [.int .i64 e]) _ (setCells_heap g _ _ _ _ (setCells_heap g _ _ _ _ hg1)) (by rw [setM_size, setM_size]; exact hcs) hr ?_ (((turned_drew w).trans (setCells_turned (S := fun b => b = g) g rfl _ _ _)).trans (setCells_turned (S := fun b => b = g) g rfl _ _ _))⟩
        have ld : ((ks.map (Value.int .i64)).drop i).length = ks.length - i := by simp
        have lcur : cur.toList.length = c := by simpa using hcs
        have ht2 : (ks.map (Value.int .i64)).take i = cur.toList.take i := by rw [← ht, List.take_take, Nat.min_eq_left (by omega)]
        rw [setM_list _ _ _ (by rw [setM_size]; simp; omega), setM_list _ _ _ (by rw [ld]; omega), e0, ht2, Nat.zero_add, Nat.zero_add]
        have := two_a cur.toList ((ks.map (Value.int .i64)).drop i) (.int .i64 e) i (by omega)
        rw [ld, show i + 1 + (ks.length - i) = ks.length + 1 by omega] at this
        simpa [ld, show i + 1 + (ks.length - i) = ks.length + 1 by omega] using this
      · refine (Any2.slices_Insert_int_grow Tryz.laysIns g 0 ks.length c i vb 0 1 1 (ks.map (Value.int .i64)) [.int .i64 e] w hin (by omega) hc (by omega) (by omega) (by simp) rfl hcur hvs (ints_one ks) h1v).mono ?_
        rintro r w' ⟨rfl, rfl⟩
        have hge : ks.length + 1 ≤ grownCap w (ks.length + 1) c 3 := grownCap_ge w (ks.length + 1) c 3
        have hgm : grownCap w (ks.length + 1) c 3 ≤ maxLen := grownCap_le_maxLen _ _ _ _ (by unfold maxLen; omega)
        show ∃ v', Ending.returned (.slice (some ⟨w.heap.size, 0, none⟩) (ks.length + 1) (grownCap w (ks.length + 1) c 3)) = _ ∧ Hid (Rows1 w _ _ v' ((((w.alloc (.cells (((ks.map (Value.int .i64)).take i).toArray ++ Builtin.zeroCells (Value.int .i64 0).cells (ks.length + 1 - i) ++ Builtin.zeroCells (Value.int .i64 0).cells (grownCap w (ks.length + 1) c 3 - (ks.length + 1))) 3)).drew.setCells w.heap.size i [.int .i64 e]).drew).setCells w.heap.size (i + 1) ((ks.map (Value.int .i64)).drop i)))
        generalize grownCap w (ks.length + 1) c 3 = cap at *
        have hz1 := zeroCells_size (ks.length + 1 - i)
        have hz2 := zeroCells_size (cap - (ks.length + 1))
        generalize Builtin.zeroCells (Value.int .i64 0).cells (ks.length + 1 - i) = Z1 at *
        generalize Builtin.zeroCells (Value.int .i64 0).cells (cap - (ks.length + 1)) = Z2 at *
        have ld : ((ks.map (Value.int .i64)).drop i).length = ks.length - i := by simp
        have lt : ((ks.map (Value.int .i64)).take i).length = i := by simp; omega
        obtain ⟨A0, hA0⟩ : ∃ A0, A0 = ((ks.map (Value.int .i64)).take i).toArray ++ Z1 ++ Z2 := ⟨_, rfl⟩
        have hA1 : A0.size = cap := by rw [hA0]; simp only [Array.size_append, List.size_toArray, lt, hz1, hz2]; omega
        have hA2 : A0.toList.take i = (ks.map (Value.int .i64)).take i := by
          rw [hA0, Array.toList_append, Array.toList_append, List.append_assoc, List.take_append_of_le_length (by rw [lt]; exact Nat.le_refl _)]
          exact List.take_of_length_le (by rw [lt]; exact Nat.le_refl _)
        rw [← hA0]
        have hb0 : (w.alloc (.cells A0 3)).drew.heap[w.heap.size]? = some (.cells A0 3 (0, 0)) := heap_alloc_new _ _
        have hb1 := setCells_heap w.heap.size [.int .i64 e] i _ _ hb0
        have hb1' : ((w.alloc (.cells A0 3)).drew.setCells w.heap.size i [.int .i64 e]).drew.heap[w.heap.size]? = _ := hb1
        have hb2 := setCells_heap w.heap.size ((ks.map (Value.int .i64)).drop i) (i + 1) _ _ hb1'
        refine ⟨_, rfl, finG cap _ _ hb2 (by rw [setM_size, setM_size]; exact hA1) hge hgm ?_ ?_⟩
        · have lA : A0.toList.length = cap := by simpa using hA1
          rw [setM_list _ _ _ (by rw [setM_size, ld]; omega), setM_list _ _ _ (by simp; omega), e0, ← hA2]
          have := two_b A0.toList ((ks.map (Value.int .i64)).drop i) (.int .i64 e) i (by omega)
          rw [ld, show i + 1 + (ks.length - i) = ks.length + 1 by omega] at this
          simpa [ld, show i + 1 + (ks.length - i) = ks.length + 1 by omega] using this
        · have B0 : Below w.heap.size w (w.alloc (.cells A0 3)).drew := below_drewN ((Below.refl w.heap.size w).alloc (Nat.le_refl _) (.cells A0 3)) 1
          have s0 := B0.size
          have s1 := (setCells_turned (S := fun b => b = w.heap.size) w.heap.size rfl [Value.int .i64 e] i (w.alloc (.cells A0 3)).drew)
          have s2 := (setCells_turned (S := fun b => b = w.heap.size) w.heap.size rfl ((ks.map (Value.int .i64)).drop i) (i + 1) ((w.alloc (.cells A0 3)).drew.setCells w.heap.size i [.int .i64 e]).drew)
          have z1 := s1.size
          exact ⟨s2.os.trans (s1.os.trans B0.os), s2.tape.trans (s1.tape.trans B0.tape), s2.output.trans (s1.output.trans B0.output), Nat.le_trans s0 (Nat.le_trans z1 s2.size), fun k hk _ => (s2.block k (Nat.lt_of_lt_of_le hk (Nat.le_trans s0 z1)) (by omega)).trans ((s1.block k (Nat.lt_of_lt_of_le hk s0) (by omega)).trans (B0.block k hk))⟩

theorem findN (v : Value) (ks : List Int) (k : Int) (w : World) (h : NRow w v ks) (hlen : ks.length ≤ 1000000) (hs : Rising ltN ks) :
    Calls Tryz.prog 90 #[v, .int .i64 k] w fun e w' => ∃ (f : Bool) (q : Nat), e = .returned (.tuple #[.int .i64 (cnt ltN ks k : Nat), .bool f]) ∧ w' = w.drewN q := by
  rcases nrow_shape h with ⟨rfl, rfl⟩ | ⟨g, c, rfl⟩
  · refine (Any.slices_BinarySearch_int_empty Tryz.laysNm225 none 0 k w).mono ?_
    rintro e w' ⟨rfl, rfl⟩
    exact ⟨false, 0, rfl, rfl⟩
  · obtain ⟨-, -, -, -, hc⟩ := nrow_some h
    refine (Any.slices_BinarySearch_int Tryz.laysNm225 g 0 ks.length c ks k w (Nat.le_refl _) (by omega) (fun j hj => by rw [Nat.zero_add]; exact hc j hj) (by rw [List.take_length]; exact List.Pairwise.imp (fun {a b} hab => by simp [ltN] at hab; omega) hs)).mono ?_
    rintro e w' ⟨he, q, hq⟩
    rw [List.take_length] at he
    exact ⟨_, q, he, hq⟩

set_option maxHeartbeats 1000000 in
set_option maxRecDepth 100000 in
theorem withN (v : Value) (ks : List Int) (x : Int) (w : World) (h : NRow w v ks) (hlen : ks.length ≤ 1000000) (hs : Rising ltN ks) :
    Calls Tryz.prog 87 #[v, .int .i64 x] w fun r w' => ∃ v', r = .returned v' ∧ Hid (Rows1 w v (ks.take (cnt ltN ks x) ++ [x] ++ ks.drop (cnt ltN ks x)) v' w') := by
  have CB := hide (findN v ks x w h hlen hs)
  have CI : Hid (∀ q, Calls Tryz.prog 105 #[v, .int .i64 (cnt ltN ks x : Nat), .slice (some ⟨w.heap.size, 0, none⟩) 1 1] ((w.drewN q).alloc (.cells #[.int .i64 x] 3)) fun r w' => ∃ v', r = .returned v' ∧ Hid (Rows1 w v (ks.take (cnt ltN ks x) ++ [x] ++ ks.drop (cnt ltN ks x)) v' w')) := fun q => by
    have hb : Below w.heap.size w ((w.drewN q).alloc (.cells #[.int .i64 x] 3)) := (below_drewN (Below.refl w.heap.size w) q).alloc (Nat.le_refl _) _
    have h1 : NRow ((w.drewN q).alloc (.cells #[.int .i64 x] 3)) v ks := nrow_kept h (fun b hb' => hb.block b (h.lt b hb').2)
    refine (insN ks (cnt ltN ks x) x v _ h1 (cnt_le _ _) hlen w.heap.size (heap_alloc_new (w.drewN q) _) (fun e => by have := (h.lt _ e).2; omega)).mono ?_
    rintro r w' ⟨v', rfl, h2⟩
    obtain ⟨g1, g2, g3⟩ := unhide h2
    exact ⟨v', rfl, g1, ⟨g2.os.trans hb.os, g2.tape.trans hb.tape, g2.output.trans hb.output, Nat.le_trans hb.size g2.size, fun k hk hn => (g2.block k (Nat.lt_of_lt_of_le hk hb.size) hn).trans (hb.block k hk)⟩, fun b hb' => (g3 b hb').imp id (fun e => Nat.le_trans hb.size e)⟩
  generalize ks.take (cnt ltN ks x) ++ [x] ++ ks.drop (cnt ltN ks x) = ks' at *
  generalize cnt ltN ks x = i at *
  obtain ⟨a, n, c, rfl⟩ : ∃ a n c, v = .slice a n c := by
    rcases nrow_shape h with ⟨rfl, -⟩ | ⟨g, c, rfl⟩
    · exact ⟨_, _, _, rfl⟩
    · exact ⟨_, _, _, rfl⟩
  clear h hlen hs
  go_enter Tryz.func87, Tryz.ntmps87
  go_wp2_with fail
  refine (unhide CB).mono ?_
  rintro e w' ⟨f, q, rfl, rfl⟩
  have CI' := hide (unhide CI q)
  clear CB CI
  go_wp2_with fail
  refine (unhide CI').mono ?_
  rintro e w' ⟨v', rfl, h2⟩
  clear CI'
  go_wp2_with fail
  go_ret
  exact ⟨v', rfl, unhide h2⟩

theorem delN (i : Nat) (g c : Nat) (ks : List Int) (w : World) (hi : i < ks.length) (h : NRow w (.slice (some ⟨g, 0, none⟩) ks.length c) ks) :
    Calls Tryz.prog 91 #[.slice (some ⟨g, 0, none⟩) ks.length c, .int .i64 i, .int .i64 ((i : Int) + 1)] w fun e w' => ∃ v', e = .returned v' ∧ Hid (Rows1 w (.slice (some ⟨g, 0, none⟩) ks.length c) (ks.take i ++ ks.drop (i + 1)) v' w') := by
  obtain ⟨g', c', e, -, -, hcap, hm, -, hH⟩ := Lib.holds_of_ownsRow h (by simp)
  injection e with e1 e2 e3
  injection e1 with e1
  injection e1 with e1
  subst e1 e3
  have := Any.slices_Delete_int Tryz.laysNm223 g 0 c i (i + 1) ks w hH hcap (by unfold maxLen at hm; omega) (by omega) (by omega)
  rw [show (((i + 1 : Nat) : Int)) = (i : Int) + 1 by omega, show i + 1 - i = 1 by omega] at this
  refine this.mono ?_
  rintro e w' ⟨he, q, rfl⟩
  have hkl : (ks.take i ++ ks.drop (i + 1)).length = ks.length - 1 := by simp; omega
  refine ⟨_, he, ?_, ⟨rfl, rfl, rfl, by simp [putRow, mapBlock, Sort.ahead], fun k _ hk => ?_⟩, fun b hb => .inl (by simpa [Value.ownBlock] using hb)⟩
  · have hy := Lib.ownsRow_putRow (q := q) (k := ks.length - 1) (ys := ks.take i ++ ks.drop (i + 1) ++ List.replicate 1 0) h (by simp; omega) (by omega)
    have ht : (ks.take i ++ ks.drop (i + 1) ++ List.replicate 1 0).take (ks.length - 1) = ks.take i ++ ks.drop (i + 1) := by
      rw [List.take_append_of_le_length (by omega)]
      exact List.take_of_length_le (by omega)
    rw [ht] at hy
    show World.ownsRow _ 0 3 1 _ _ _
    rw [hkl]
    exact hy
  · have hk' : g ≠ k := fun e => hk (by simp [Value.ownBlock, e])
    simp [putRow, mapBlock, Sort.ahead, Array.getElem?_modify, hk']

set_option maxHeartbeats 1000000 in
set_option maxRecDepth 100000 in
theorem withoutN (v : Value) (ks : List Int) (x : Int) (w : World) (h : NRow w v ks) (hlen : ks.length ≤ 1000000) (hs : Rising ltN ks) (hx : x ∈ ks) :
    Calls Tryz.prog 73 #[v, .int .i64 x] w fun r w' => ∃ v', r = .returned v' ∧ Hid (Rows1 w v (ks.take (cnt ltN ks x) ++ ks.drop (cnt ltN ks x + 1)) v' w') := by
  have CB := hide (findN v ks x w h hlen hs)
  have hcnt := (cut_one linN hs hx).2.2.2
  obtain ⟨g, c, rfl⟩ : ∃ g c, v = .slice (some ⟨g, 0, none⟩) ks.length c := by
    rcases nrow_shape h with ⟨-, rfl⟩ | ⟨g, c, rfl⟩
    · cases hx
    · exact ⟨_, _, rfl⟩
  have CD : Hid (∀ q, Calls Tryz.prog 91 #[.slice (some ⟨g, 0, none⟩) ks.length c, .int .i64 (cnt ltN ks x : Nat), .int .i64 (((cnt ltN ks x : Nat) : Int) + 1)] (w.drewN q) fun e w' => ∃ v', e = .returned v' ∧ Hid (Rows1 w (.slice (some ⟨g, 0, none⟩) ks.length c) (ks.take (cnt ltN ks x) ++ ks.drop (cnt ltN ks x + 1)) v' w')) := fun q => by
    refine (delN (cnt ltN ks x) g c ks (w.drewN q) hcnt (nrow_kept h (fun _ _ => rfl))).mono ?_
    rintro e w' ⟨v', rfl, h2⟩
    obtain ⟨g1, g2, g3⟩ := unhide h2
    exact ⟨v', rfl, g1, ⟨g2.os, g2.tape, g2.output, g2.size, g2.block⟩, g3⟩
  have hiw : IntKind.i64.wrap (((cnt ltN ks x : Nat) : Int) + 1) = ((cnt ltN ks x : Nat) : Int) + 1 := by rw [IntKind.wrap_i64]; omega
  generalize ks.take (cnt ltN ks x) ++ ks.drop (cnt ltN ks x + 1) = ks' at *
  generalize cnt ltN ks x = i at *
  generalize ks.length = L at *
  clear h hlen hs hx hcnt
  go_enter Tryz.func73, Tryz.ntmps73
  go_wp2_with fail
  refine (unhide CB).mono ?_
  rintro e w' ⟨f, q, rfl, rfl⟩
  have CD' := hide (unhide CD q)
  clear CB CD
  go_wp2_with fail
  refine (unhide CD').mono ?_
  rintro e w' ⟨v', rfl, h2⟩
  clear CD'
  go_wp2_with fail
  go_ret
  exact ⟨v', rfl, unhide h2⟩
end

section
open Go.RowKit Go.Maps Go.Sort
theorem info3 : (Tryz.prog.info? 3).map (fun i => (i.zero, i.size, i.bytes)) = some (some (.int .i64 0), 1, 8) := by kernel_rfl

/-- A row of one's own, from B on. -/
abbrev BRow (B : Nat) (w : World) (v : Value) (ks : List Int) : Prop := w.ownsRow B 3 1 v ks.length (ks.map (Value.int .i64))

theorem brow_shape {B : Nat} {w : World} {v : Value} {ks : List Int} (h : BRow B w v ks) : ∃ a c, v = .slice a ks.length c ∧ ks.length ≤ c := by
  rcases h.2 with ⟨e, h0⟩ | ⟨g', cap, cur, e, -, -, hc, -⟩
  · exact ⟨none, 0, by rw [e, h0], by omega⟩
  · exact ⟨_, _, e, hc⟩
theorem brow_kept {B : Nat} {w w' : World} {v : Value} {ks : List Int} (h : BRow B w v ks) (hk : ∀ b, v.ownBlock = some b → w'.heap[b]? = w.heap[b]?) : BRow B w' v ks := by
  refine ⟨h.1, ?_⟩
  rcases h.2 with hn | ⟨g, cap, cur, e, hb, hgg, rest⟩
  · exact .inl hn
  · exact .inr ⟨g, cap, cur, e, hb, (hk g (by rw [e]; rfl)).trans hgg, rest⟩

theorem run_append_nil (w : World) (base : Option Addr) (l c : Nat) (hlc : l ≤ c) (ty : TypeId) : (Builtin.append_ #[23, 23] ty #[.slice base l c, .slice none 0 0]).run Tryz.prog w = .ok (.slice base l c) w := by
  obtain ⟨i, hi, hz, hs, hb⟩ := info_parts info3
  cases base <;> simp [Builtin.append_, run_underlying Tryz.underlying23, sizeOf, typeInfo, hi, Builtin.lenOf, Builtin.firstCells, hlc, storeCells]

theorem run_appN {B : Nat} {w : World} (hB : B ≤ w.heap.size) {v v2 : Value} {a b : List Int} (h1 : BRow B w v a) (h2 : NRow w v2 b) (hl : a.length + b.length ≤ 4000000) :
    ∃ v' w', (∀ ty, (Builtin.append_ #[23, 23] ty #[v, v2]).run Tryz.prog w = .ok v' w') ∧ BRow B w' v' (a ++ b) ∧ w.grownBy w' v.ownBlock := by
  obtain ⟨i, hi, hz, hs, hb⟩ := info_parts info3
  rcases nrow_shape h2 with ⟨rfl, rfl⟩ | ⟨g, c, rfl⟩
  · obtain ⟨x, c, rfl, hc⟩ := brow_shape h1
    exact ⟨_, w, fun ty => run_append_nil w x a.length c hc ty, by rw [List.append_nil]; exact h1, ⟨rfl, rfl, rfl, Nat.le_refl _, fun _ _ _ => rfl⟩⟩
  · obtain ⟨v', w', hr, g1, g2, -, -⟩ := run_append_own_at (P := Tryz.prog) w B 23 0 3 i _ 1 8 Tryz.underlying23 hi hz hs hb rfl (by omega) v a.length (a.map (Value.int .i64)) h1 ⟨g, 0, none⟩ b.length c (b.map (Value.int .i64)) (by simp)
      (h2.cells (g := g) rfl) (ints_one b) (by unfold maxLen; omega) (by omega) hB
    refine ⟨v', w', fun ty => hr, ?_, g2⟩
    have e1 : a.map (Value.int .i64) ++ b.map (Value.int .i64) = (a ++ b).map (Value.int .i64) := by simp
    have e2 : a.length + b.length = (a ++ b).length := by simp
    rw [e1, e2] at g1
    exact g1

theorem growN (n : Nat) (w : World) (hn : n ≤ 4000000) :
    Calls Tryz.prog 112 #[.slice none 0 0, .int .i64 n] w fun e w' => ∃ v', e = .returned v' ∧ Hid (BRow w.heap.size w' v' [] ∧ Below w.heap.size w w') := by
  obtain ⟨i, hi, hz, hs, hb⟩ := info_parts info3
  rcases Nat.eq_zero_or_pos n with rfl | h0
  · refine (Any8.slices_Grow_room Tryz.laysGrow none 0 0 0 w (by omega) (by omega) (by omega) (by omega)).mono ?_
    rintro e w' ⟨rfl, rfl⟩
    exact ⟨_, rfl, ⟨rfl, .inl ⟨rfl, rfl⟩⟩, Below.refl _ _⟩
  · refine (Any8.slices_Grow_grow Tryz.laysGrow i _ hi hz (by omega) none 0 0 n [] w (by omega) (by omega) (by rw [hb]; omega) (by omega) (by simp) (fun _ => rfl) (fun _ h => by cases h)).mono ?_
    rintro e w' ⟨rfl, rfl⟩
    have hge : 0 + n ≤ grownCap w (0 + n) 0 3 := grownCap_ge w (0 + n) 0 3
    refine ⟨_, rfl, ⟨rfl, .inr ⟨w.heap.size, grownCap w (0 + n) 0 3, _, rfl, Nat.le_refl _, heap_alloc_new _ _, Nat.zero_le _, grownCap_le_maxLen _ _ _ _ (by unfold maxLen; omega), ?_, rfl⟩⟩, ?_⟩
    · simp only [Array.size_append, zeroCells_size, List.size_toArray, List.length_nil]
      show 0 + (0 + n - 0) + (grownCap w (0 + n) 0 3 - (0 + n)) = _
      omega
    · exact (below_drewN (Below.refl w.heap.size w) 1).alloc (Nat.le_refl _) _

/-- Concat's two loops. -/
def CRel (la lab : Nat) (s3 s11 : Value) : Prop := (s3 = .int .i64 0 ∧ s11 = .int .i64 0) ∨ (s3 = .int .i64 la ∧ s11 = .int .i64 1) ∨ (s3 = .int .i64 lab ∧ s11 = .int .i64 2)
def CRel2 (w : World) (a b : List Int) (s6 s27 : Value) (wr : World) : Prop := Below w.heap.size w wr ∧ ((s27 = .int .i64 0 ∧ BRow w.heap.size wr s6 []) ∨ (s27 = .int .i64 1 ∧ BRow w.heap.size wr s6 a) ∨ (s27 = .int .i64 2 ∧ BRow w.heap.size wr s6 (a ++ b)))

set_option maxHeartbeats 2000000 in
set_option maxRecDepth 100000 in
theorem concatN (vb : Nat) (v1 v2 : Value) (a b : List Int) (w : World) (hvb : w.heap[vb]? = some (.cells #[v1, v2] 23 (0, 0))) (h1 : NRow w v1 a) (h2 : NRow w v2 b) (ha : a.length ≤ 1000000) (hb : b.length ≤ 1000000) :
    Calls Tryz.prog 99 #[.slice (some ⟨vb, 0, none⟩) 2 2] w fun e w' => ∃ v', e = .returned v' ∧ Hid (BRow w.heap.size w' v' (a ++ b) ∧ Below w.heap.size w w') := by
  have c0 : w.cell? ⟨vb, 0, none⟩ = some v1 := (cell_of_row _ _ 0 _ _ (0, 0) hvb).trans rfl
  have c1 : w.cell? ⟨vb, 1, none⟩ = some v2 := (cell_of_row _ _ 1 _ _ (0, 0) hvb).trans rfl
  have hvl : vb < w.heap.size := (Array.getElem?_eq_some_iff.1 hvb).1
  obtain ⟨a1, k1, rfl, -⟩ := brow_shape h1
  obtain ⟨a2, k2, rfl, -⟩ := brow_shape h2
  have CG := hide (growN (a.length + b.length) w (by omega))
  have HC : Hid (∀ wr, Below w.heap.size w wr → wr.cell? ⟨vb, 0, none⟩ = some (.slice a1 a.length k1) ∧ wr.cell? ⟨vb, 1, none⟩ = some (.slice a2 b.length k2) ∧ NRow wr (.slice a1 a.length k1) a ∧ NRow wr (.slice a2 b.length k2) b) := fun wr hB =>
    ⟨(cell_of_heap (hB.block vb hvl)).trans c0, (cell_of_heap (hB.block vb hvl)).trans c1, nrow_kept h1 (fun x hx => hB.block x (h1.lt x hx).2), nrow_kept h2 (fun x hx => hB.block x (h2.lt x hx).2)⟩
  have HA : Hid (∀ wr v pre nxt x, wr.ownsRow w.heap.size 3 1 v pre.length (pre.map (Value.int .i64)) → Below w.heap.size w wr → NRow wr x nxt → pre.length + nxt.length ≤ 4000000 → ∃ v' w', (∀ ty, (Builtin.append_ #[23, 23] ty #[v, x]).run Tryz.prog wr = .ok v' w') ∧ Hid (BRow w.heap.size w' v' (pre ++ nxt) ∧ Below w.heap.size w w')) := fun wr v pre nxt x g1 g2 g3 g4 => by
    obtain ⟨v', w', hr, g5, g6⟩ := run_appN g2.size g1 g3 g4
    refine ⟨v', w', hr, g5, g2.trans ⟨g6.os, g6.tape, g6.output, g6.size, fun k hk => g6.block k (Nat.lt_of_lt_of_le hk g2.size) (fun e => ?_)⟩⟩
    have := (g1.lt k e.symm).1
    omega
  have HL : Hid (a.length ≤ 1000000 ∧ b.length ≤ 1000000) := ⟨ha, hb⟩
  obtain ⟨la, hla⟩ : ∃ la, la = a.length := ⟨_, rfl⟩
  obtain ⟨lb, hlb⟩ : ∃ lb, lb = b.length := ⟨_, rfl⟩
  rw [← hla] at c0 HC CG
  rw [← hlb] at c1 HC CG
  have hw1 : wrap64 (la : Int) = (la : Int) := by unfold wrap64; omega
  have hw2 : wrap64 ((la : Int) + (lb : Int)) = ((la + lb : Nat) : Int) := by unfold wrap64; omega
  have hp1 : ¬ (la : Int) < 0 := by omega
  have hp2 : ¬ ((la + lb : Nat) : Int) < 0 := by omega
  have HLA : Hid (la = a.length ∧ lb = b.length) := ⟨hla, hlb⟩
  generalize hab : la + lb = lab at *
  clear h1 h2 hvb ha hb hla hlb hvl hab
  go_enter Tryz.func99, Tryz.ntmps99
  go_wp2_with fail
  go_loopw [3, 11] (fun s3 s11 wr => CRel la lab s3 s11 ∧ wr = w) (fun _ s11 _ => 2 - (intOf s11).toNat)
  case atStart => exact ⟨.inl ⟨rfl, rfl⟩, rfl⟩
  case round =>
    obtain ⟨hrel, rfl⟩ := hrel
    rcases hrel with ⟨rfl, rfl⟩ | ⟨rfl, rfl⟩ | ⟨rfl, rfl⟩
    · go_wp2_with fail
      exact ⟨⟨.inr (.inl ⟨by rw [hw1], rfl⟩), trivial⟩, by simp [intOf]⟩
    · go_wp2_with fail
      exact ⟨⟨.inr (.inr ⟨by rw [hw2], rfl⟩), trivial⟩, by simp [intOf]⟩
    · go_wp2_with fail
      refine (unhide CG).mono ?_
      rintro e w1 ⟨v0, rfl, hv0⟩
      clear CG c0 c1
      obtain ⟨w0, hw0⟩ : ∃ w0, w0 = wr := ⟨_, rfl⟩
      rw [← hw0] at HC HA hv0
      go_wp2_with fail
      go_loopw [6, 27] (fun s6 s27 wr => CRel2 w0 a b s6 s27 wr) (fun _ s27 _ => 2 - (intOf s27).toNat)
      case atStart => exact ⟨(unhide hv0).2, .inl ⟨rfl, (unhide hv0).1⟩⟩
      case round =>
        obtain ⟨hB, ⟨rfl, hR⟩ | ⟨rfl, hR⟩ | ⟨rfl, hR⟩⟩ := hrel
        · obtain ⟨d0, d1, n1, n2⟩ := unhide HC wr hB
          obtain ⟨v', w', hr, hX⟩ := unhide HA wr _ [] a _ hR hB n1 (by have := unhide HL; simp; omega)
          obtain ⟨x0, y0, z0, rfl⟩ : ∃ x0 y0 z0, v' = .slice x0 y0 z0 := by obtain ⟨x, y, e, -⟩ := brow_shape (unhide hX).1; exact ⟨_, _, _, e⟩
          have HR := hide hr
          have HB := hide hB
          obtain ⟨x, y, e, -⟩ := brow_shape hR
          clear hr hB n1 n2 hR
          subst e
          go_wp2_with (at_builtin; refine Lib.wpList_append_run _ rfl _ _ 23 23 rfl _ _ rfl rfl _ _ (unhide HR _) ?_)
          exact ⟨⟨(unhide hX).2, .inr (.inl ⟨rfl, (unhide hX).1⟩)⟩, by simp [intOf]⟩
        · obtain ⟨d0, d1, n1, n2⟩ := unhide HC wr hB
          obtain ⟨v', w', hr, hX⟩ := unhide HA wr _ a b _ hR hB n2 (by have := unhide HL; omega)
          obtain ⟨x0, y0, z0, rfl⟩ : ∃ x0 y0 z0, v' = .slice x0 y0 z0 := by obtain ⟨x, y, e, -⟩ := brow_shape (unhide hX).1; exact ⟨_, _, _, e⟩
          have HR := hide hr
          have HB := hide hB
          obtain ⟨x, y, e, -⟩ := brow_shape hR
          clear hr hB n1 n2 hR
          subst e
          go_wp2_with (at_builtin; refine Lib.wpList_append_run _ rfl _ _ 23 23 rfl _ _ rfl rfl _ _ (unhide HR _) ?_)
          exact ⟨⟨(unhide hX).2, .inr (.inr ⟨rfl, (unhide hX).1⟩)⟩, by simp [intOf]⟩
        · have HR := hide (And.intro hR hB)
          obtain ⟨x, y, e, -⟩ := brow_shape hR
          clear hR hB
          subst e
          go_wp2_with fail
          go_ret
          subst hw0
          exact ⟨_, rfl, HR⟩

theorem sortN (B : Nat) (v : Value) (ks : List Int) (w : World) (hb : ks.length ≤ 4000000) (h : BRow B w v ks) :
    Calls Tryz.prog 93 #[v] w fun e w' => e = .returned (.tuple #[]) ∧ Hid (∃ ys, ys.Perm ks ∧ ys.Pairwise (· ≤ ·) ∧ BRow B w' v ys ∧ w.grownBy w' v.ownBlock) := by
  rcases h.2 with ⟨rfl, h0⟩ | ⟨g, c, cur, rfl, hb0, hg, hn0, hm0, hs0, -⟩
  · obtain rfl : ks = [] := List.eq_nil_of_length_eq_zero h0
    refine (Any.slices_Sort_int_none Tryz.lays189 none 0 w).mono ?_
    rintro e w' ⟨rfl, rfl⟩
    exact ⟨rfl, [], List.Perm.refl _, List.Pairwise.nil, h, ⟨rfl, rfl, rfl, Nat.le_refl _, fun _ _ _ => rfl⟩⟩
  · obtain ⟨g', c', e, -, hlt, hcap, hm, -, hH⟩ := Lib.holds_of_ownsRow h (by simp)
    injection e with e1 e2 e3
    injection e1 with e1
    injection e1 with e1
    subst e1 e3
    refine (Any.slices_Sort_int Tryz.lays189 g 0 c ks w hH hlt (by omega)).mono ?_
    rintro e w' ⟨he, n, os, rfl⟩
    have hp : (ks.mergeSort fun x y => decide (x ≤ y)).Perm ks := List.mergeSort_perm _ _
    refine ⟨he, _, hp, ?_, ?_, grownBy_sortedI _⟩
    · have h1 : (ks.mergeSort fun x y => decide (x ≤ y)).Pairwise (fun x y => decide (x ≤ y) = true) := List.pairwise_mergeSort (fun a b c h1 h2 => by simp at *; omega) (fun a b => by simp; omega) _
      exact h1.imp (fun {a b} hab => by simpa using hab)
    · have := ownsRow_sortedI (n := n) (os := os) hp.length_eq hb0 hg hn0 hm0 hs0
      unfold BRow
      rw [hp.length_eq]
      exact this

theorem compact_len (ks : List Int) : (Lib.compact ks).length ≤ ks.length := by
  unfold Lib.compact Lib.compactUpTo
  rw [List.length_map]
  exact Nat.le_trans (List.length_filter_le _ _) (by simp)

/-- Of a list that never falls the like ones are made one. -/
theorem compact_upto (ks : List Int) (hs : ks.Pairwise (· ≤ ·)) : ∀ m, m ≤ ks.length → Rising ltN (Lib.compactUpTo ks.toArray m) ∧ ∀ x, x ∈ Lib.compactUpTo ks.toArray m ↔ ∃ j, j < m ∧ ks.getD j 0 = x
  | 0, _ => ⟨List.Pairwise.nil, fun x => by simp [Lib.compactUpTo]⟩
  | m + 1, hm => by
    obtain ⟨h1, h2⟩ := compact_upto ks hs m (by omega)
    have hd : ∀ j, j < ks.length → ks.toArray[j]! = ks.getD j 0 := fun j hj => by simp [hj, List.getD]
    have hle : ∀ i j, i ≤ j → j < ks.length → ks.getD i 0 ≤ ks.getD j 0 := fun i j hij hj => by
      rcases Nat.eq_or_lt_of_le hij with rfl | hlt
      · exact Int.le_refl _
      · have := List.pairwise_iff_getElem.1 hs i j (by omega) hj hlt
        simpa [List.getD, hj, show i < ks.length by omega] using this
    rw [Lib.compactUpTo_succ]
    by_cases hk : Lib.keeps ks.toArray m = true
    · rw [if_pos hk, hd m (by omega)]
      refine ⟨List.pairwise_append.2 ⟨h1, List.pairwise_singleton _ _, fun a ha b hb => ?_⟩, fun x => ?_⟩
      · rw [List.mem_singleton.1 hb]
        obtain ⟨j, hj, rfl⟩ := (h2 a).1 ha
        have hne : ks.getD (m - 1) 0 ≠ ks.getD m 0 := fun e => by
          simp [Lib.keeps, show m ≠ 0 by omega] at hk
          have a1 := hd m (by omega)
          have a2 := hd (m - 1) (by omega)
          simp only [List.getD] at e a1 a2
          simp_all
        have l1 := hle j (m - 1) (by omega) (by omega)
        have l2 := hle (m - 1) m (by omega) (by omega)
        simp only [ltN, decide_eq_true_eq]
        omega
      · rw [List.mem_append, h2, List.mem_singleton]
        constructor
        · rintro (⟨j, hj, e⟩ | e)
          · exact ⟨j, by omega, e⟩
          · exact ⟨m, by omega, e.symm⟩
        · rintro ⟨j, hj, e⟩
          by_cases hjm : j = m
          · subst hjm; exact .inr e.symm
          · exact .inl ⟨j, by omega, e⟩
    · rw [if_neg hk, List.append_nil]
      refine ⟨h1, fun x => ?_⟩
      rw [h2]
      have hm0 : m ≠ 0 := fun e => hk (by simp [Lib.keeps, e])
      have heq : ks.getD (m - 1) 0 = ks.getD m 0 := by
        have a1 := hd m (by omega)
        have a2 := hd (m - 1) (by omega)
        simp [Lib.keeps, hm0] at hk
        rw [← a1, ← a2]
        first | exact hk | exact hk.symm | simp_all
      constructor
      · rintro ⟨j, hj, e⟩; exact ⟨j, by omega, e⟩
      · rintro ⟨j, hj, e⟩
        by_cases hjm : j = m
        · subst hjm; exact ⟨j - 1, by omega, heq.trans e⟩
        · exact ⟨j, by omega, e⟩
theorem compact_sorted (ks : List Int) (hs : ks.Pairwise (· ≤ ·)) : Rising ltN (Lib.compact ks) ∧ ∀ x, x ∈ Lib.compact ks ↔ x ∈ ks := by
  obtain ⟨h1, h2⟩ := compact_upto ks hs ks.length (Nat.le_refl _)
  refine ⟨h1, fun x => ?_⟩
  unfold Lib.compact
  rw [h2, List.mem_iff_getElem]
  constructor
  · rintro ⟨j, hj, e⟩; exact ⟨j, hj, by simpa [List.getD, hj] using e⟩
  · rintro ⟨j, hj, e⟩; exact ⟨j, hj, by simpa [List.getD, hj] using e⟩

theorem compactN (B : Nat) (v : Value) (ks : List Int) (w : World) (hb : ks.length ≤ 4000000) (h : BRow B w v ks) :
    Calls Tryz.prog 100 #[v] w fun e w' => ∃ v', e = .returned v' ∧ Hid (BRow B w' v' (Lib.compact ks) ∧ w.grownBy w' v.ownBlock) := by
  rcases nrow_shape (w := w) (v := v) (ks := ks) ⟨h.1, h.2.imp id (fun ⟨g, cap, cur, e, _, r⟩ => ⟨g, cap, cur, e, Nat.zero_le _, r⟩)⟩ with ⟨rfl, rfl⟩ | ⟨g, c, rfl⟩
  · refine (Any.slices_Compact_int_empty Tryz.laysNm220 none 0 w).mono ?_
    rintro e w' ⟨rfl, rfl⟩
    exact ⟨_, rfl, h, ⟨rfl, rfl, rfl, Nat.le_refl _, fun _ _ _ => rfl⟩⟩
  · obtain ⟨g', c', e, -, hlt, hcap, hm, -, hH⟩ := Lib.holds_of_ownsRow h (by simp)
    injection e with e1 e2 e3
    injection e1 with e1
    injection e1 with e1
    subst e1 e3
    refine (Any.slices_Compact_int Tryz.laysNm220 g 0 c ks w hH (by omega) hcap).mono ?_
    rintro e w' ⟨he, q, rfl⟩
    have hcl : (Lib.compact ks).length ≤ ks.length := compact_len ks
    refine ⟨_, he, ?_, ⟨rfl, rfl, rfl, by simp [putRow, mapBlock, Sort.ahead], fun k _ hk => ?_⟩⟩
    · have hy := Lib.ownsRow_putRow (q := q) (k := (Lib.compact ks).length) (ys := Lib.compact ks ++ List.replicate (ks.length - (Lib.compact ks).length) 0) h (by simp; omega) hcl
      have ht : (Lib.compact ks ++ List.replicate (ks.length - (Lib.compact ks).length) 0).take (Lib.compact ks).length = Lib.compact ks := by
        rw [List.take_append_of_le_length (Nat.le_refl _), List.take_length]
      rw [ht] at hy
      exact hy
    · have hk' : g ≠ k := fun e => hk (by simp [Value.ownBlock, e])
      simp [putRow, mapBlock, Sort.ahead, Array.getElem?_modify, hk']
end

section
open Go.RowKit Go.Maps
theorem turned_map {S : Nat → Prop} {w w' : World} {b : Nat} (h : w.mapTurned w' b) (hs : S b) : Turned S w w' := turned_grown h.grown hs

/-! ### pointers as a map's elements -/

def ptr : Option Nat → Value
  | none => .pointer none
  | some q => .pointer (some ⟨q, 0, none⟩)
def dat : Option Nat → DataW Unit
  | none => .lit (.bool false)
  | some q => .lit (.int .i64 q)
def ptrElem : Value → Option (DataW Unit × List MemPlace)
  | .pointer none => some (.lit (.bool false), [])
  | .pointer (some ⟨q, 0, none⟩) => some (.lit (.int .i64 q), [])
  | _ => none
theorem ptrElem_ptr (o : Option Nat) : ptrElem (ptr o) = some (dat o, []) := by cases o <;> rfl
theorem ptrElem_inv {v : Value} {z : DataW Unit × List MemPlace} (h : ptrElem v = some z) : ∃ o, v = ptr o ∧ z = (dat o, []) := by
  unfold ptrElem at h
  split at h
  · exact ⟨none, rfl, (Option.some.inj h).symm⟩
  · rename_i q
    exact ⟨some q, rfl, (Option.some.inj h).symm⟩
  · cases h
theorem dat_inj {a b : Option Nat} (h : dat a = dat b) : a = b := by
  match a, b, h with
  | none, none, _ => rfl
  | some x, some y, h =>
    simp [dat] at h
    rw [show x = y by omega]

/-- Two pointers to boxes are held against each other. -/
theorem equalIn_ptr (d : Nat) {t e : TypeId} {i : TypeInfo} (ht : Tryz.prog.underlying t = some (.pointer e)) (hi : Tryz.prog.info? e = some i) (hs : i.size ≠ 0) (w : World) {x y : Nat} {ca cb : Array Value} {ta tb : TypeId}
    (hx : w.heap[x]? = some (.cells ca ta (0, 0))) (hy : w.heap[y]? = some (.cells cb tb (0, 0))) : (Op.equalIn (d + 1) t (.pointer (some ⟨x, 0, none⟩)) (.pointer (some ⟨y, 0, none⟩))).run Tryz.prog w = .ok (decide (x = y)) w := by
  have hc : Tryz.prog.cellsOf e = i.size := by simp [Program.cellsOf, hi]
  simp only [Op.equalIn, Sem.run_bind, run_underlying ht, Result.andThen_ok, run_sizeOf w hi]
  by_cases e : x = y
  · subst e
    simp [hc, hs, run_sameAddr_same]
  · have := run_sameAddr_other (P := Tryz.prog) w (a := ⟨x, 0, none⟩) (b := ⟨y, 0, none⟩) (by simp) hx hy
    simp [hc, hs, this, e]
theorem eql_ptr {t e : TypeId} {i : TypeInfo} (ht : Tryz.prog.underlying t = some (.pointer e)) (hi : Tryz.prog.info? e = some i) (hs : i.size ≠ 0) (w : World) {x y : Nat} {ca cb : Array Value} {ta tb : TypeId}
    (hx : w.heap[x]? = some (.cells ca ta (0, 0))) (hy : w.heap[y]? = some (.cells cb tb (0, 0))) : (binOp .eql t (.pointer (some ⟨x, 0, none⟩)) (.pointer (some ⟨y, 0, none⟩))).run Tryz.prog w = .ok (.bool (decide (x = y))) w := by
  simp only [binOp]
  simp [Op.equal, Op.maxDepth, equalIn_ptr 9999 ht hi hs w hx hy]

/-- How the keys of one type stand in a map. -/
structure KeyKit (K : Type) (kt : TypeId) (kv : K → Value) (kl : K → Lit) (ok : K → Prop) : Prop where
  law : Keyed Tryz.prog kt
  key : ∀ k, ok k → keyOf Tryz.prog kt (kv k) = some (kl k)
  lit : ∀ k, WideAt.IsKeyLit (kl k)
  inj : ∀ a b, kl a = kl b → a = b

/-- The map in block m leads each key k to f k; it has N entries. -/
def MapFn {K : Type} (kt : TypeId) (kl : K → Lit) (ok : K → Prop) (w : World) (m : Nat) (f : K → Option Nat) (N : Nat) : Prop :=
  ∃ D, w.ownsMap Tryz.prog kt ptrElem m N D ∧ Maps.Tidy D ∧ Maps.size D = N ∧ ∀ k, ok k → D.atKey (kl k) (dat none) = dat (f k) ∧ Maps.has D (kl k) = (f k).isSome

section
variable {K : Type} {kt t e : TypeId} {kv : K → Value} {kl : K → Lit} {ok : K → Prop} {w w' : World} {m N : Nat} {f : K → Option Nat}

theorem MapFn.lt (h : MapFn kt kl ok w m f N) : m < w.heap.size := by
  obtain ⟨D, h1, -⟩ := h
  exact h1.lt
theorem MapFn.kept (h : MapFn kt kl ok w m f N) (hk : w'.heap[m]? = w.heap[m]?) : MapFn kt kl ok w' m f N := by
  obtain ⟨D, ⟨es, clock, h1, h2⟩, h3⟩ := h
  exact ⟨D, ⟨es, clock, hk.trans h1, h2⟩, h3⟩
theorem MapFn.congr {g : K → Option Nat} (h : MapFn kt kl ok w m f N) (hg : ∀ k, ok k → g k = f k) : MapFn kt kl ok w m g N := by
  obtain ⟨D, h1, h2, h3, h4⟩ := h
  exact ⟨D, h1, h2, h3, fun k hk => by rw [hg k hk]; exact h4 k hk⟩

theorem MapFn.look (h : MapFn kt kl ok w m f N) (kk : KeyKit K kt kv kl ok) (ht : Tryz.prog.underlying t = some (.map kt e)) (hz : ∀ w, (zeroValue e).run Tryz.prog w = .ok (.pointer none) w) (k : K) (hk : ok k) :
    (Instr.lookup t (.map (some m)) (kv k) false).run Tryz.prog w = .ok (ptr (f k)) w := by
  obtain ⟨D, h1, h2, h3, h4⟩ := h
  obtain ⟨v, ps, hrun, hv⟩ := h1.lookup kk.law ht (hz w) (ptrElem_ptr none) (kk.key k hk)
  obtain ⟨o, rfl, ho⟩ := ptrElem_inv hv
  have h5 : dat (f k) = dat o := by rw [← (h4 k hk).1]; exact congrArg Prod.fst ho
  rw [dat_inj h5]
  exact hrun

theorem MapFn.look2 (h : MapFn kt kl ok w m f N) (kk : KeyKit K kt kv kl ok) (ht : Tryz.prog.underlying t = some (.map kt e)) (hz : ∀ w, (zeroValue e).run Tryz.prog w = .ok (.pointer none) w) (k : K) (hk : ok k) :
    (Instr.lookup t (.map (some m)) (kv k) true).run Tryz.prog w = .ok (.tuple #[ptr (f k), .bool (f k).isSome]) w := by
  obtain ⟨D, h1, h2, h3, h4⟩ := h
  obtain ⟨v, ps, hrun, hv⟩ := h1.look_ok kk.law ht (hz w) (ptrElem_ptr none) (kk.key k hk)
  obtain ⟨o, rfl, ho⟩ := ptrElem_inv hv
  have h5 : dat (f k) = dat o := by rw [← (h4 k hk).1]; exact congrArg Prod.fst ho
  rw [← (h4 k hk).2, dat_inj h5]
  exact hrun

/-- A key is led elsewhere. -/
def putK [DecidableEq K] (f : K → Option Nat) (k : K) (o : Option Nat) : K → Option Nat := fun x => if x = k then o else f x

theorem MapFn.put_ [DecidableEq K] (h : MapFn kt kl ok w m f N) (kk : KeyKit K kt kv kl ok) (ht : Tryz.prog.underlying t = some (.map kt e)) (hn : N < maxLen) (k : K) (hk : ok k) (q : Nat) :
    ∃ w', (Instr.mapUpdate t (.map (some m)) (kv k) (ptr (some q))).run Tryz.prog w = .ok () w' ∧ MapFn kt kl ok w' m (putK f k (some q)) (if (f k).isSome then N else N + 1) ∧ w.mapTurned w' m := by
  obtain ⟨D, h1, h2, h3, h4⟩ := h
  obtain ⟨w', hrun, g1, g2⟩ := h1.store kk.law ht hn (kk.key k hk) (ptrElem_ptr (some q))
  have hs : Maps.size (D.put (kl k) (dat (some q))) = if (f k).isSome then N else N + 1 := by rw [size_put h2, h3, (h4 k hk).2]
  refine ⟨w', hrun, ⟨_, hs ▸ ownsMap_size g1, h2.put (kk.lit k) _, hs, fun x hx => ?_⟩, g2⟩
  by_cases e : x = k
  · subst e
    rw [atKey_put_same h2.isMap (kk.lit x), has_put_same h2.isMap (kk.lit x)]
    simp [putK]
  · have hne : kl x ≠ kl k := fun he => e (kk.inj _ _ he)
    rw [atKey_put_other hne, has_put_other hne]
    simp only [putK, if_neg e]
    exact h4 x hx

theorem MapFn.del_ [DecidableEq K] (h : MapFn kt kl ok w m f (N + 1)) (kk : KeyKit K kt kv kl ok) (ht : Tryz.prog.underlying t = some (.map kt e)) (k : K) (hk : ok k) (hs : (f k).isSome = true) (ty : TypeId) :
    ∃ w', (Builtin.delete_ #[t, kt] ty #[.map (some m), kv k]).run Tryz.prog w = .ok (.tuple #[]) w' ∧ MapFn kt kl ok w' m (putK f k none) N ∧ w.mapTurned w' m := by
  obtain ⟨D, h1, h2, h3, h4⟩ := h
  obtain ⟨w', hrun, g1, g2⟩ := h1.drop kk.law ht (kk.key k hk) ty
  have hsz : Maps.size (D.del (kl k)) = N := by
    have := size_del (k := kl k) h2
    rw [(h4 k hk).2, hs, h3] at this
    simpa using this
  refine ⟨w', hrun, ⟨_, hsz ▸ ownsMap_size g1, h2.del _, hsz, fun x hx => ?_⟩, g2⟩
  by_cases e : x = k
  · subst e
    rw [atKey_del_same, has_del_same]
    simp [putK]
  · have hne : kl x ≠ kl k := fun he => e (kk.inj _ _ he)
    rw [atKey_del_other hne, has_del_other hne]
    simp only [putK, if_neg e]
    exact h4 x hx

theorem MapFn.len_ (h : MapFn kt kl ok w m f N) (ht : Tryz.prog.underlying t = some (.map kt e)) (ty : TypeId) : (Builtin.len_ #[t] ty #[.map (some m)]).run Tryz.prog w = .ok (.int .i64 N) w := by
  obtain ⟨D, h1, -, h3, -⟩ := h
  rw [← h3]
  exact h1.len ht ty

theorem mapFn_made (w : World) : MapFn kt kl ok (w.alloc (.map #[] 0)) w.heap.size (fun _ => none) 0 :=
  ⟨.map [], World.ownsMap_made w _ _ _, tidy_empty, rfl, fun _ _ => ⟨rfl, rfl⟩⟩
end

def klN : Int → Lit := fun k => Lit.int .i64 k
def okN : Int → Prop := fun k => (Lit.int .i64 k).wf = true
theorem kitN : KeyKit Int 3 (Value.int .i64) klN okN := ⟨int_keyed Tryz.underlying3, fun _ hk => keyOf_int_mk Tryz.underlying3 hk, fun k => by simp [klN, WideAt.IsKeyLit], fun a b h => by simpa [klN] using h⟩
theorem zeroENP (w : World) : (zeroValue 112).run Tryz.prog w = .ok (.pointer none) w := by kernel_rfl
theorem okN_of {k : Int} (h0 : 0 ≤ k) (h1 : k ≤ 2147483647) : okN k := WalkArith.wf_i64 (by omega)
end

section
open Go.RowKit Go.Maps
/-- Who holds a block: the box, the table, the map, or a vertex's box, its row of what leaves, of what enters. -/
structure Who where
  t : Nat
  k : Int
abbrev Who.box : Who := ⟨0, 0⟩
abbrev Who.tab : Who := ⟨1, 0⟩
abbrev Who.map : Who := ⟨2, 0⟩
abbrev Who.pair (k : Int) : Who := ⟨3, k⟩
abbrev Who.out (k : Int) : Who := ⟨4, k⟩
abbrev Who.inn (k : Int) : Who := ⟨5, k⟩

/-- Where a store lies, and what it says. -/
structure Sto where
  s : Nat
  t : Nat
  hp : Nat
  m : Nat
  v : Value
  ps : List (EdgeV × Bool)
  ms : List EntI
  n : Nat
  G : Nat → Prop
  f : Int → Option Nat
  N : Nat
  ro : Int → Value
  ri : Int → Value
  rd : Int
  wr : Int
  L : Nat → Option Who

/-- A store's memory; lo, li: the numbers in the rows of each vertex. -/
structure StMid [Inhabited EntI] (w : World) (X : Sto) (lo li : Int → List Int) : Prop where
  box : w.heap[X.s]? = some (.cells #[.pointer (some ⟨X.t, 0, none⟩), .map (some X.m), .int .i64 X.rd, .int .i64 X.wr] 67 (0, 0))
  tab : TAtE w X.t X.hp X.v 1024 X.ps X.ms X.n X.G
  map : MapFn 3 klN okN w X.m X.f X.N
  keys : ∀ k, X.f k ≠ none → 0 ≤ k ∧ k ≤ 2147483647
  pair : ∀ k q, X.f k = some q → w.heap[q]? = some (.cells #[X.ro k, X.ri k] 114 (0, 0))
  out : ∀ k q, X.f k = some q → NRow w (X.ro k) (lo k)
  inn : ∀ k q, X.f k = some q → NRow w (X.ri k) (li k)
  lbox : X.L X.s = some .box
  ltab : ∀ b, Feet X.t X.v X.G b → X.L b = some .tab
  lmap : X.L X.m = some .map
  lpair : ∀ k q, X.f k = some q → X.L q = some (.pair k)
  lout : ∀ k q b, X.f k = some q → (X.ro k).ownBlock = some b → X.L b = some (.out k)
  linn : ∀ k q b, X.f k = some q → (X.ri k).ownBlock = some b → X.L b = some (.inn k)
  lt : ∀ b, X.L b ≠ none → b < w.heap.size

structure StAt [Inhabited EntI] (w : World) (X : Sto) : Prop where
  mem : StMid w X (outs X.ps) (inns X.ps)
  edge : ∀ (i : Nat) (x : EdgeV), X.ps[i]? = some (x, true) → x.1 = (i : Int) + 1 ∧ X.f x.2.1 ≠ none ∧ X.f x.2.2.1 ≠ none
  size : X.N ≤ 256

/-- What a call leaves alone, whose blocks are whose. -/
def Foots (w : World) (L : Nat → Option Who) (w' : World) (L' : Nat → Option Who) : Prop := Turned (fun b => L b ≠ none) w w' ∧ ∀ b, L' b ≠ none → L b ≠ none ∨ w.heap.size ≤ b
theorem Foots.refl (w : World) (L : Nat → Option Who) : Foots w L w L := ⟨Turned.refl _ _, fun _ hb => .inl hb⟩
theorem Foots.below {w w' : World} (L : Nat → Option Who) (hb : Below w.heap.size w w') : Foots w L w' L := ⟨turned_of_below hb, fun _ hb => .inl hb⟩
theorem Foots.trans {w1 w2 w3 : World} {L1 L2 L3 : Nat → Option Who} (h : Foots w1 L1 w2 L2) (k : Foots w2 L2 w3 L3) : Foots w1 L1 w3 L3 := by
  obtain ⟨h3, h4⟩ := h
  obtain ⟨k3, k4⟩ := k
  refine ⟨?_, fun b hb => ?_⟩
  · exact h3.then_ k3 (fun i hi hs => (h4 i hs).elim id (fun e => absurd hi (by omega)))
  · rcases k4 b hb with e | e
    · exact h4 b e
    · exact .inr (Nat.le_trans h3.size e)
theorem Foots.old {w w' : World} {L L' : Nat → Option Who} (h : Foots w L w' L') {b : Nat} (hb : b < w.heap.size) (hn : L b = none) : w'.heap[b]? = w.heap[b]? ∧ L' b = none := by
  refine ⟨h.1.block b hb (fun e => e hn), ?_⟩
  cases e : L' b with
  | none => rfl
  | some l => exact ((h.2 b (by rw [e]; simp)).elim (fun e => absurd hn e) (fun e => absurd hb (by omega)))

section
variable [Inhabited EntI] {w w' : World} {X X' : Sto} {lo li : Int → List Int}

theorem StMid.ok (h : StMid w X lo li) {k : Int} {q : Nat} (hk : X.f k = some q) : okN k := by
  have := h.keys k (by rw [hk]; simp)
  exact okN_of this.1 this.2
theorem StMid.kept (h : StMid w X lo li) (hk : ∀ b, X.L b ≠ none → w'.heap[b]? = w.heap[b]?) (hs : w.heap.size ≤ w'.heap.size) : StMid w' X lo li := by
  have k1 : ∀ b l, X.L b = some l → w'.heap[b]? = w.heap[b]? := fun b l e => hk b (by rw [e]; simp)
  exact ⟨(k1 _ _ h.lbox).trans h.box, h.tab.kept (fun b hb => k1 _ _ (h.ltab b hb)), h.map.kept (k1 _ _ h.lmap), h.keys, fun k q e => (k1 _ _ (h.lpair k q e)).trans (h.pair k q e),
    fun k q e => nrow_kept (h.out k q e) (fun b hb => k1 _ _ (h.lout k q b e hb)), fun k q e => nrow_kept (h.inn k q e) (fun b hb => k1 _ _ (h.linn k q b e hb)),
    h.lbox, h.ltab, h.lmap, h.lpair, h.lout, h.linn, fun b hb => Nat.lt_of_lt_of_le (h.lt b hb) hs⟩
theorem StMid.below (h : StMid w X lo li) (hb : Below w.heap.size w w') : StMid w' X lo li := h.kept (fun b hb' => hb.block b (h.lt b hb')) hb.size
theorem StMid.draw (h : StMid w X lo li) (q : Nat) : StMid (w.drewN q) X lo li := h.below (below_drewN (Below.refl _ _) q)
theorem StMid.cells (h : StMid w X lo li) : w.cell? ⟨X.s, 0, none⟩ = some (.pointer (some ⟨X.t, 0, none⟩)) ∧ w.cell? ⟨X.s, 1, none⟩ = some (.map (some X.m)) ∧ w.cell? ⟨X.s, 2, none⟩ = some (.int .i64 X.rd) ∧ w.cell? ⟨X.s, 3, none⟩ = some (.int .i64 X.wr) ∧ ∀ o, w.frozen? ⟨X.s, o, none⟩ = false := by
  refine ⟨?_, ?_, ?_, ?_, fun o => frozen_of_row w _ o _ _ h.box⟩ <;> rw [cell_of_row w _ _ _ _ _ h.box] <;> rfl
theorem StMid.ends (h : StMid w X lo li) {k : Int} {q : Nat} (hk : X.f k = some q) : w.cell? ⟨q, 0, none⟩ = some (X.ro k) ∧ w.cell? ⟨q, 1, none⟩ = some (X.ri k) ∧ ∀ o, w.frozen? ⟨q, o, none⟩ = false := by
  refine ⟨?_, ?_, fun o => frozen_of_row w _ o _ _ (h.pair k q hk)⟩ <;> rw [cell_of_row w _ _ _ _ _ (h.pair k q hk)] <;> rfl
theorem StMid.look (h : StMid w X lo li) (k : Int) (hk : okN k) : (Instr.lookup 65 (.map (some X.m)) (.int .i64 k) false).run Tryz.prog w = .ok (ptr (X.f k)) w := h.map.look kitN Tryz.underlying65 zeroENP k hk
theorem StMid.look2 (h : StMid w X lo li) (k : Int) (hk : okN k) : (Instr.lookup 65 (.map (some X.m)) (.int .i64 k) true).run Tryz.prog w = .ok (.tuple #[ptr (X.f k), .bool (X.f k).isSome]) w := h.map.look2 kitN Tryz.underlying65 zeroENP k hk

theorem StAt.ok (h : StAt w X) {k : Int} {q : Nat} (hk : X.f k = some q) : okN k := h.mem.ok hk
theorem StAt.below (h : StAt w X) (hb : Below w.heap.size w w') : StAt w' X := ⟨h.mem.below hb, h.edge, h.size⟩
theorem StAt.kept (h : StAt w X) (hk : ∀ b, X.L b ≠ none → w'.heap[b]? = w.heap[b]?) (hs : w.heap.size ≤ w'.heap.size) : StAt w' X := ⟨h.mem.kept hk hs, h.edge, h.size⟩
theorem StAt.cells (h : StAt w X) : w.cell? ⟨X.s, 0, none⟩ = some (.pointer (some ⟨X.t, 0, none⟩)) ∧ w.cell? ⟨X.s, 1, none⟩ = some (.map (some X.m)) ∧ w.cell? ⟨X.s, 2, none⟩ = some (.int .i64 X.rd) ∧ w.cell? ⟨X.s, 3, none⟩ = some (.int .i64 X.wr) ∧ ∀ o, w.frozen? ⟨X.s, o, none⟩ = false := h.mem.cells
theorem StAt.look2 (h : StAt w X) (k : Int) (hk : okN k) : (Instr.lookup 65 (.map (some X.m)) (.int .i64 k) true).run Tryz.prog w = .ok (.tuple #[ptr (X.f k), .bool (X.f k).isSome]) w := h.mem.look2 k hk
theorem StAt.tab (h : StAt w X) : TAtE w X.t X.hp X.v 1024 X.ps X.ms X.n X.G := h.mem.tab

/-- What a call leaves. -/
def Step (w : World) (X : Sto) (w' : World) (X' : Sto) : Prop := StAt w' X' ∧ X'.s = X.s ∧ Foots w X.L w' X'.L
theorem Step.refl (h : StAt w X) : Step w X w X := ⟨h, rfl, Foots.refl _ _⟩
theorem Step.below (h : StAt w X) (hb : Below w.heap.size w w') : Step w X w' X := ⟨h.below hb, rfl, Foots.below _ hb⟩
theorem Step.trans {w1 w2 w3 : World} {X1 X2 X3 : Sto} (h : Step w1 X1 w2 X2) (k : Step w2 X2 w3 X3) : Step w1 X1 w3 X3 := ⟨k.1, k.2.1.trans h.2.1, h.2.2.trans k.2.2⟩
end

/-- A function, elsewhere at k. -/
def upd {α β : Type} [DecidableEq α] (f : α → β) (k : α) (y : β) : α → β := fun x => if x = k then y else f x
theorem upd_self {α β : Type} [DecidableEq α] (f : α → β) (k : α) (y : β) : upd f k y k = y := if_pos rfl
theorem upd_ne {α β : Type} [DecidableEq α] (f : α → β) {k x : α} (y : β) (h : x ≠ k) : upd f k y x = f x := if_neg h
end

namespace M
open Ieee
/-- The magnitude of a finite rung, in units of the least place. -/
def val (r : Nat) : Nat := if r < 8388608 then r else (8388608 + r % 8388608) * 2 ^ (r / 8388608 - 1)

theorem read_eq (x : Nat) : single.read x =
    (if x % 2147483648 < 8388608 then Datum.number (x / 2147483648 % 2 == 1) (x % 2147483648) (-149)
     else if x % 2147483648 < 2139095040 then Datum.number (x / 2147483648 % 2 == 1) (8388608 + x % 2147483648 % 8388608) (-149 + (x % 2147483648 / 8388608 - 1 : Nat))
     else if x % 2147483648 = 2139095040 then .infinity (x / 2147483648 % 2 == 1)
     else .nan (x / 2147483648 % 2 == 1) (x % 2147483648 - 2139095040)) := rfl

theorem val_lo {r : Nat} (h : r < 8388608) : val r = r := if_pos h
theorem val_hi {r : Nat} (h : ¬ r < 8388608) : val r = (8388608 + r % 8388608) * 2 ^ (r / 8388608 - 1) := if_neg h

theorem val_mono {r t : Nat} (h : r < t) : val r < val t := by
  by_cases ht : t < 8388608
  · rw [val_lo ht, val_lo (by omega)]; exact h
  · rw [val_hi ht]
    have hq : 1 ≤ t / 8388608 := by omega
    have hp : ∀ k, 1 ≤ 2 ^ k := fun k => Nat.one_le_two_pow
    by_cases hr : r < 8388608
    · rw [val_lo hr]
      have := Nat.mul_le_mul (Nat.le_add_right 8388608 (t % 8388608)) (hp (t / 8388608 - 1))
      omega
    · rw [val_hi hr]
      have hle : r / 8388608 ≤ t / 8388608 := Nat.div_le_div_right (by omega)
      rcases Nat.lt_or_eq_of_le hle with hlt | heq
      · have e : 2 ^ (t / 8388608 - 1) = 2 ^ (r / 8388608 - 1) * 2 ^ (t / 8388608 - r / 8388608) := by rw [← Nat.pow_add]; congr 1; omega
        have h2 : 2 ≤ 2 ^ (t / 8388608 - r / 8388608) := by
          have := Nat.pow_le_pow_right (n := 2) (by omega) (show 1 ≤ t / 8388608 - r / 8388608 by omega)
          simpa using this
        have h3 : (8388608 + r % 8388608) * 2 ^ (r / 8388608 - 1) < 16777216 * 2 ^ (r / 8388608 - 1) := Nat.mul_lt_mul_of_pos_right (by omega) (hp _)
        have h4 : 16777216 * 2 ^ (r / 8388608 - 1) ≤ 8388608 * (2 ^ (r / 8388608 - 1) * 2 ^ (t / 8388608 - r / 8388608)) := by
          have := Nat.mul_le_mul_left (8388608 * 2 ^ (r / 8388608 - 1)) h2
          rw [Nat.mul_assoc, Nat.mul_assoc] at this
          omega
        have h5 : 8388608 * (2 ^ (r / 8388608 - 1) * 2 ^ (t / 8388608 - r / 8388608)) ≤ (8388608 + t % 8388608) * 2 ^ (t / 8388608 - 1) := by
          rw [e]; exact Nat.mul_le_mul_right _ (by omega)
        omega
      · rw [← heq]
        exact Nat.mul_lt_mul_of_pos_right (by omega) (hp _)

/-- The sign of a word. -/
def sgn (x : Nat) : Bool := x / 2147483648 % 2 == 1
/-- A finite word's number, in units of the least place. -/
def sv (x : Nat) : Int := if sgn x then -(val (x % 2147483648) : Int) else val (x % 2147483648)

theorem read_fin {x : Nat} (h : x % 2147483648 < 2139095040) : ∃ m : Nat, ∃ k : Nat, single.read x = .number (sgn x) m (-149 + (k : Int)) ∧ m * 2 ^ k = val (x % 2147483648) := by
  rw [read_eq]
  by_cases h1 : x % 2147483648 < 8388608
  · refine ⟨x % 2147483648, 0, ?_, ?_⟩
    · rw [if_pos h1]; rfl
    · rw [val_lo h1]; simp
  · refine ⟨8388608 + x % 2147483648 % 8388608, x % 2147483648 / 8388608 - 1, ?_, ?_⟩
    · rw [if_neg h1, if_pos h]; rfl
    · rw [val_hi h1]

theorem signed_eq (s : Bool) (m k : Nat) : signed s m k = (if s then -((m * 2 ^ k : Nat) : Int) else ((m * 2 ^ k : Nat) : Int)) := by
  unfold signed; rw [Nat.shiftLeft_eq]

theorem compare_scale (a b : Int) (k : Nat) : compare (a * (2 ^ k : Nat)) (b * (2 ^ k : Nat)) = compare a b := by
  have hp : (0 : Int) < ((2 ^ k : Nat) : Int) := by have := Nat.two_pow_pos k; omega
  rcases Int.lt_trichotomy a b with h | h | h
  · rw [Int.compare_eq_lt.2 h, Int.compare_eq_lt.2 (Int.mul_lt_mul_of_pos_right h hp)]
  · subst h; simp
  · rw [Int.compare_eq_gt.2 h, Int.compare_eq_gt.2 (Int.mul_lt_mul_of_pos_right h hp)]

theorem signed_scale (s : Bool) (m a c : Nat) : signed s m a * (2 ^ c : Nat) = signed s m (a + c) := by
  rw [signed_eq, signed_eq, Nat.pow_add, ← Nat.mul_assoc]
  cases s <;> simp [Int.neg_mul]

theorem order_fin {x y : Nat} (hx : x % 2147483648 < 2139095040) (hy : y % 2147483648 < 2139095040) : single.order x y = some (compare (sv x) (sv y)) := by
  obtain ⟨m, k, e1, v1⟩ := read_fin hx
  obtain ⟨n, l, e2, v2⟩ := read_fin hy
  unfold Format.order
  rw [e1, e2]
  simp only [Datum.order]
  congr 1
  have eb : ∃ c : Nat, min (-149 + (k : Int)) (-149 + (l : Int)) = -149 + (c : Int) ∧ c ≤ k ∧ c ≤ l := by
    rcases Nat.le_total k l with h | h
    · exact ⟨k, by omega, Nat.le_refl _, h⟩
    · exact ⟨l, by omega, h, Nat.le_refl _⟩
  obtain ⟨c, ec, hk, hl⟩ := eb
  rw [ec, show (-149 + (k : Int) - (-149 + (c : Int))).toNat = k - c by omega, show (-149 + (l : Int) - (-149 + (c : Int))).toNat = l - c by omega]
  rw [← compare_scale _ _ c, signed_scale, signed_scale, Nat.sub_add_cancel hk, Nat.sub_add_cancel hl, signed_eq, signed_eq, v1, v2]
  rfl

/-- Where a word stands among all words that are no NaNs. -/
def place (x : Nat) : Int := if 2147483648 ≤ x then -((x : Int) - 2147483648) else x
def nan (x : Nat) : Bool := decide (2139095040 < x % 2147483648)

theorem sgn_eq {x : Nat} (h : x < 4294967296) : sgn x = decide (2147483648 ≤ x) := by
  unfold sgn
  by_cases h1 : 2147483648 ≤ x
  · have : x / 2147483648 = 1 := by omega
    simp [h1, this]
  · have : x / 2147483648 = 0 := by omega
    simp [h1, this]

theorem val_inj_le {r t : Nat} : val r ≤ val t ↔ r ≤ t := by
  constructor
  · intro h
    apply Nat.le_of_not_lt
    intro h2
    have := val_mono h2
    omega
  · intro h
    rcases Nat.lt_or_eq_of_le h with h | h
    · exact Nat.le_of_lt (val_mono h)
    · subst h; exact Nat.le_refl _

theorem val_zero : val 0 = 0 := rfl

theorem sv_place {x : Nat} (h : x < 4294967296) : sv x = if 2147483648 ≤ x then -(val (x - 2147483648) : Int) else val x := by
  unfold sv
  rw [sgn_eq h]
  by_cases h1 : 2147483648 ≤ x
  · have e : x % 2147483648 = x - 2147483648 := by omega
    simp [h1, e]
  · have e : x % 2147483648 = x := by omega
    simp [h1, e]

theorem sv_cmp {x y : Nat} (hx : x < 4294967296) (hy : y < 4294967296) : (sv x < sv y ↔ place x < place y) ∧ (sv x = sv y ↔ place x = place y) := by
  rw [sv_place hx, sv_place hy]
  unfold place
  have z1 := fun r => @val_inj_le r 0
  rw [val_zero] at z1
  by_cases h1 : 2147483648 ≤ x <;> by_cases h2 : 2147483648 ≤ y <;> simp only [h1, h2, if_true, if_false]
  · have a := @val_inj_le (x - 2147483648) (y - 2147483648)
    have b := @val_inj_le (y - 2147483648) (x - 2147483648)
    omega
  · have a := z1 (x - 2147483648)
    have b := z1 y
    omega
  · have a := z1 x
    have b := z1 (y - 2147483648)
    omega
  · have a := @val_inj_le x y
    have b := @val_inj_le y x
    omega

theorem read_inf {x : Nat} (h : x % 2147483648 = 2139095040) : single.read x = .infinity (sgn x) := by
  rw [read_eq, if_neg (by omega), if_neg (by omega), if_pos h]; rfl
theorem read_nan {x : Nat} (h : 2139095040 < x % 2147483648) : single.read x = .nan (sgn x) (x % 2147483648 - 2139095040) := by
  rw [read_eq, if_neg (by omega), if_neg (by omega), if_neg (by omega)]; rfl

theorem order_nan {x y : Nat} (h : nan x = true ∨ nan y = true) : single.order x y = none := by
  unfold Format.order
  rcases h with h | h
  · rw [read_nan (of_decide_eq_true h)]; rfl
  · rw [read_nan (of_decide_eq_true h)]; cases single.read x <;> rfl

theorem order_num {x y : Nat} (hx : x < 4294967296) (hy : y < 4294967296) (nx : nan x = false) (ny : nan y = false) : single.order x y = some (compare (place x) (place y)) := by
  have nx := of_decide_eq_false nx
  have ny := of_decide_eq_false ny
  have hc : ∀ a b c d : Int, (a < b ↔ c < d) → (a = b ↔ c = d) → compare a b = compare c d := by
    intro a b c d h1 h2
    rcases Int.lt_trichotomy a b with h | h | h
    · rw [Int.compare_eq_lt.2 h, Int.compare_eq_lt.2 (h1.1 h)]
    · rw [Int.compare_eq_eq.2 h, Int.compare_eq_eq.2 (h2.1 h)]
    · rw [Int.compare_eq_gt.2 h, Int.compare_eq_gt.2 (by omega)]
  by_cases ix : x % 2147483648 = 2139095040
  · by_cases iy : y % 2147483648 = 2139095040
    · unfold Format.order
      rw [read_inf ix, read_inf iy]
      simp only [Datum.order]
      congr 1
      rw [sgn_eq hx, sgn_eq hy]
      unfold place
      by_cases h1 : 2147483648 ≤ x <;> by_cases h2 : 2147483648 ≤ y <;> simp only [h1, h2, if_true, if_false, decide_true, decide_false]
      · rw [show x = y by omega]; simp
      · rw [Int.compare_eq_lt.2 (by omega)]; rfl
      · rw [Int.compare_eq_gt.2 (by omega)]; rfl
      · rw [show x = y by omega]; simp
    · obtain ⟨n, l, e2, -⟩ := read_fin (x := y) (by omega)
      unfold Format.order
      rw [read_inf ix, e2]
      simp only [Datum.order]
      congr 1
      rw [sgn_eq hx]
      unfold place
      by_cases h1 : 2147483648 ≤ x <;> by_cases h2 : 2147483648 ≤ y <;> simp only [h1, h2, if_true, if_false, decide_true, decide_false]
      · rw [Int.compare_eq_lt.2 (by omega)]
      · rw [Int.compare_eq_lt.2 (by omega)]
      · rw [Int.compare_eq_gt.2 (by omega)]; rfl
      · rw [Int.compare_eq_gt.2 (by omega)]; rfl
  · by_cases iy : y % 2147483648 = 2139095040
    · obtain ⟨n, l, e2, -⟩ := read_fin (x := x) (by omega)
      unfold Format.order
      rw [read_inf iy, e2]
      simp only [Datum.order]
      congr 1
      rw [sgn_eq hy]
      unfold place
      by_cases h1 : 2147483648 ≤ x <;> by_cases h2 : 2147483648 ≤ y <;> simp only [h1, h2, if_true, if_false, decide_true, decide_false]
      · rw [Int.compare_eq_gt.2 (by omega)]
      · rw [Int.compare_eq_lt.2 (by omega)]; rfl
      · rw [Int.compare_eq_gt.2 (by omega)]
      · rw [Int.compare_eq_lt.2 (by omega)]; rfl
    · rw [order_fin (by omega) (by omega)]
      congr 1
      exact hc _ _ _ _ (sv_cmp hx hy).1 (sv_cmp hx hy).2

theorem order_self {x : Nat} (hx : x < 4294967296) : (single.order x x != some .eq) = nan x := by
  cases h : nan x
  · rw [order_num hx hx h h]; simp
  · rw [order_nan (Or.inl h)]; rfl

theorem order_lt {x y : Nat} (hx : x < 4294967296) (hy : y < 4294967296) : (single.order x y == some .lt) = (!nan x && !nan y && decide (place x < place y)) := by
  cases h1 : nan x
  · cases h2 : nan y
    · rw [order_num hx hy h1 h2]
      by_cases h : place x < place y
      · rw [Int.compare_eq_lt.2 h]; simp [h]
      · simp [h, Int.compare_eq_lt]
    · rw [order_nan (Or.inr h2)]; rfl
  · rw [order_nan (Or.inl h1)]; rfl

theorem order_zero {x : Nat} (hx : x < 4294967296) : (single.order x 0 == some .eq) = decide (x = 0 ∨ x = 2147483648) := by
  cases h1 : nan x
  · rw [order_num hx (by omega) h1 rfl]
    unfold place
    by_cases h : x = 0 ∨ x = 2147483648
    · rcases h with rfl | rfl <;> rfl
    · have : ¬ (if 2147483648 ≤ x then -((x : Int) - 2147483648) else x) = 0 := by split <;> omega
      simp [h, this]
  · have := of_decide_eq_true h1
    rw [order_nan (Or.inl h1), decide_eq_false (by omega)]; rfl
end M

section
open Go.RowKit Go.Maps
/-! ### weights -/
theorem run_frombits (n : Int) (w : World) : (callFunc 31 #[.int .u32 n]).run Tryz.prog w = .ok (.value (.float .f32 n.toNat)) w := by
  rw [run_callFunc_extern (e := Extern.MathFloatBits.float32frombits) Tryz.func31 (by kernel_rfl) (by kernel_rfl) (by kernel_rfl) (by kernel_rfl)]
  rfl
theorem run_tobits (b : Nat) (w : World) : (callFunc 68 #[.float .f32 b]).run Tryz.prog w = .ok (.value (.int .u32 b)) w := by
  rw [run_callFunc_extern (e := Extern.MathFloatBits.float32bits) Tryz.func68 (by kernel_rfl) (by kernel_rfl) (by kernel_rfl) (by kernel_rfl)]
  rfl
theorem isNaN_any (b : Nat) (w : World) : Calls Tryz.prog 67 #[.float .f32 b] w fun e w' => e = .returned (.bool (FloatKind.f32.format.order b b != some .eq)) ∧ w' = w := by
  go_enter Tryz.func67, Tryz.ntmps67
  go_wp2
  go_ret
  exact ⟨rfl, rfl⟩
theorem bits_plain (b : Nat) (hb : b < 2139095040) (w : World) : Calls Tryz.prog 32 #[.float .f32 b] w fun e w' => e = .returned (.int .u32 b) ∧ w' = w := by
  have hx := run_tobits
  have hn : (FloatKind.f32.format.order b b != some .eq) = false := by
    have := M.order_self (x := b) (by omega)
    rw [show FloatKind.f32.format = Ieee.single from rfl, this]
    unfold M.nan
    exact decide_eq_false (by omega)
  have hc : ∀ w, Calls Tryz.prog 67 #[.float .f32 b] w fun e w' => e = .returned (.bool false) ∧ w' = w := fun w => by
    have := isNaN_any b w; rwa [hn] at this
  have H := hide hc
  clear hc hn hb
  go_enter Tryz.func32, Tryz.ntmps32
  go_wp2_with (go_at_call 67; refine (unhide H _).mono ?_; rintro e w' ⟨rfl, rfl⟩)
  go_ret
  exact ⟨rfl, rfl⟩

/-- With what bits an edge stands; none: they are no weight's. -/
def kept (n : Int) : Option Int := if n = 2147483648 then some 0 else if 2139095040 ≤ n then none else some n
def ansK : Option Int → Value
  | some b => .tuple #[.int .u32 b, .int .i64 0]
  | none => .tuple #[.int .u32 0, .int .i64 7]

theorem admitW_zero (w : World) : Calls Tryz.prog 102 #[.int .u32 2147483648] w fun e w' => e = .returned (.tuple #[.float .f32 0, .int .i64 0]) ∧ w' = w := by
  go_enter Tryz.func102, Tryz.ntmps102
  go_wp2
  go_ret2
  exact ⟨rfl, rfl⟩
theorem admitW_no (n : Int) (h1 : ¬ n = 2147483648) (h2 : 2139095040 ≤ n) (w : World) : Calls Tryz.prog 102 #[.int .u32 n] w fun e w' => e = .returned (.tuple #[.float .f32 0, .int .i64 7]) ∧ w' = w := by
  go_enter Tryz.func102, Tryz.ntmps102
  go_wp2
  go_ret2
  exact ⟨rfl, rfl⟩
theorem admitW_yes (n : Int) (h2 : ¬ 2139095040 ≤ n) (w : World) : Calls Tryz.prog 102 #[.int .u32 n] w fun e w' => e = .returned (.tuple #[.float .f32 n.toNat, .int .i64 0]) ∧ w' = w := by
  have h1 : ¬ n = 2147483648 := by omega
  have hx := run_frombits
  go_enter Tryz.func102, Tryz.ntmps102
  go_wp2
  go_ret2
  exact ⟨rfl, rfl⟩

set_option maxHeartbeats 1000000 in
set_option maxRecDepth 100000 in
theorem keptS (n : Int) (h0 : 0 ≤ n) (w : World) : Calls Tryz.prog 84 #[.int .u32 n] w fun e w' => e = .returned (ansK (kept n)) ∧ w' = w := by
  unfold kept
  by_cases h1 : n = 2147483648
  · subst h1
    rw [if_pos rfl]
    have CA := hide (admitW_zero w)
    have CB := hide (bits_plain 0 (by omega) w)
    clear h0
    go_enter Tryz.func84, Tryz.ntmps84
    go_wp2_with fail
    refine (unhide CA).mono ?_
    rintro e w1 ⟨rfl, rfl⟩
    clear CA
    go_wp2_with fail
    refine (unhide CB).mono ?_
    rintro e w1 ⟨rfl, rfl⟩
    clear CB
    go_wp2_with fail
    go_ret2
    exact ⟨rfl, rfl⟩
  · rw [if_neg h1]
    by_cases h2 : 2139095040 ≤ n
    · rw [if_pos h2]
      have CA := hide (admitW_no n h1 h2 w)
      clear h0 h1 h2
      go_enter Tryz.func84, Tryz.ntmps84
      go_wp2_with fail
      refine (unhide CA).mono ?_
      rintro e w1 ⟨rfl, rfl⟩
      clear CA
      go_wp2_with fail
      go_ret2
      exact ⟨rfl, rfl⟩
    · rw [if_neg h2]
      have CA := hide (admitW_yes n h2 w)
      have CB := hide (bits_plain n.toNat (by omega) w)
      have hn : Hid (((n.toNat : Nat) : Int) = n) := by show _ = _; omega
      generalize n.toNat = b at *
      clear h0 h1 h2
      go_enter Tryz.func84, Tryz.ntmps84
      go_wp2_with fail
      refine (unhide CA).mono ?_
      rintro e w1 ⟨rfl, rfl⟩
      clear CA
      go_wp2_with fail
      refine (unhide CB).mono ?_
      rintro e w1 ⟨rfl, rfl⟩
      clear CB
      go_wp2_with fail
      go_ret2
      exact ⟨by rw [← unhide hn]; rfl, rfl⟩

variable [Inhabited EntI] {w : World} {X : Sto}

set_option maxHeartbeats 1000000 in
set_option maxRecDepth 100000 in
theorem hasS (k : Int) (h : StAt w X) (hk : okN k) : Calls Tryz.prog 45 #[.pointer (some ⟨X.s, 0, none⟩), .int .i64 k] w fun e w' => e = .returned (.bool (X.f k).isSome) ∧ w' = w := by
  obtain ⟨-, c1, -, -, -⟩ := h.cells
  have hl := h.look2 k hk
  generalize ptr (X.f k) = p at *
  generalize (X.f k).isSome = b at *
  generalize X.s = s at *
  generalize X.m = m at *
  clear h hk
  go_enter Tryz.func45, Tryz.ntmps45
  go_wp2_with fail
  go_ret
  exact ⟨rfl, rfl⟩

set_option maxHeartbeats 1000000 in
set_option maxRecDepth 100000 in
theorem freeS (h : StAt w X) : Calls Tryz.prog 43 #[.pointer (some ⟨X.s, 0, none⟩)] w fun e w' => ∃ r, e = .returned (.int .i64 r) ∧ Hid (FreeIs X.ps 1024 r ∧ ∃ q, w' = w.drewN q) := by
  obtain ⟨c0, -, -, -, -⟩ := h.cells
  have CF := hide (freeE w h.tab)
  generalize X.s = s at *
  generalize X.t = t at *
  clear h
  go_enter Tryz.func43, Tryz.ntmps43
  go_wp2_with fail
  refine (unhide CF).mono ?_
  rintro e w2 ⟨r, rfl, h2⟩
  clear CF
  go_wp2_with fail
  go_ret
  exact ⟨r, rfl, h2⟩

set_option maxHeartbeats 1000000 in
set_option maxRecDepth 100000 in
theorem readsS (h : StAt w X) : Calls Tryz.prog 11 #[.pointer (some ⟨X.s, 0, none⟩)] w fun e w' => e = .returned (.int .i64 X.rd) ∧ w' = w := by
  obtain ⟨-, -, c2, -, -⟩ := h.cells
  clear h
  go_enter Tryz.func11, Tryz.ntmps11
  go_wp2_with fail
  go_ret
  exact ⟨rfl, rfl⟩

set_option maxHeartbeats 1000000 in
set_option maxRecDepth 100000 in
theorem writesS (h : StAt w X) : Calls Tryz.prog 50 #[.pointer (some ⟨X.s, 0, none⟩)] w fun e w' => e = .returned (.int .i64 X.wr) ∧ w' = w := by
  obtain ⟨-, -, -, c3, -⟩ := h.cells
  clear h
  go_enter Tryz.func50, Tryz.ntmps50
  go_wp2_with fail
  go_ret
  exact ⟨rfl, rfl⟩

set_option maxHeartbeats 1000000 in
set_option maxRecDepth 100000 in
theorem admitNoS (u v n : Int) (h : StAt w X) (hu : okN u) (hv : okN v) (hno : X.f u = none ∨ X.f v = none) : Calls Tryz.prog 64 #[.pointer (some ⟨X.s, 0, none⟩), .int .i64 u, .int .i64 v, .int .u32 n] w fun e w' => e = .returned (.tuple #[.int .u32 0, .int .i64 5]) ∧ w' = w := by
  have C1 := hide (hasS u h hu)
  have C2 := hide (hasS v h hv)
  by_cases h1 : X.f u = none
  · rw [h1] at C1
    simp only [Option.isSome_none] at C1
    clear C2 h hno h1 hu hv
    go_enter Tryz.func64, Tryz.ntmps64
    go_wp2_with fail
    refine (unhide C1).mono ?_
    rintro e w1 ⟨rfl, rfl⟩
    clear C1
    go_wp2_with fail
    go_ret2
    exact ⟨rfl, rfl⟩
  · have e1 : (X.f u).isSome = true := by cases hh : X.f u with | none => exact absurd hh h1 | some q => rfl
    have h2 : X.f v = none := hno.resolve_left h1
    rw [e1] at C1
    rw [h2] at C2
    simp only [Option.isSome_none] at C2
    clear h hno h1 hu hv h2 e1
    go_enter Tryz.func64, Tryz.ntmps64
    go_wp2_with fail
    refine (unhide C1).mono ?_
    rintro e w1 ⟨rfl, rfl⟩
    clear C1
    go_wp2_with fail
    refine (unhide C2).mono ?_
    rintro e w1 ⟨rfl, rfl⟩
    clear C2
    go_wp2_with fail
    go_ret2
    exact ⟨rfl, rfl⟩

set_option maxHeartbeats 1000000 in
set_option maxRecDepth 100000 in
theorem admitS (u v n : Int) (h : StAt w X) (hu : X.f u ≠ none) (hv : X.f v ≠ none) (h0 : 0 ≤ n) : Calls Tryz.prog 64 #[.pointer (some ⟨X.s, 0, none⟩), .int .i64 u, .int .i64 v, .int .u32 n] w fun e w' => e = .returned (ansK (kept n)) ∧ w' = w := by
  obtain ⟨q1, e1⟩ : ∃ q, X.f u = some q := by cases hh : X.f u with | none => exact absurd hh hu | some q => exact ⟨q, rfl⟩
  obtain ⟨q2, e2⟩ : ∃ q, X.f v = some q := by cases hh : X.f v with | none => exact absurd hh hv | some q => exact ⟨q, rfl⟩
  have C1 := hide (hasS u h (h.ok e1))
  have C2 := hide (hasS v h (h.ok e2))
  have C3 := hide (keptS n h0 w)
  rw [e1] at C1
  rw [e2] at C2
  simp only [Option.isSome_some] at C1 C2
  obtain ⟨a, b, eab⟩ : ∃ a b, ansK (kept n) = .tuple #[a, b] := by cases kept n <;> exact ⟨_, _, rfl⟩
  rw [eab] at C3 ⊢
  clear h hu hv h0 e1 e2 eab
  go_enter Tryz.func64, Tryz.ntmps64
  go_wp2_with fail
  refine (unhide C1).mono ?_
  rintro e w1 ⟨rfl, rfl⟩
  clear C1
  go_wp2_with fail
  refine (unhide C2).mono ?_
  rintro e w1 ⟨rfl, rfl⟩
  clear C2
  go_wp2_with fail
  refine (unhide C3).mono ?_
  rintro e w1 ⟨rfl, rfl⟩
  clear C3
  go_wp2_with fail
  go_ret2
  exact ⟨rfl, rfl⟩
end

end Go.Proofs.YtgocbcacfcfblaaGreat

/- Maps of int to plain elements of one kind, as functions. -/
import Derived.Test.YtkmhcgmmbkchaaaGreatPEasyN
import Derived.Test.YtkmhcgmmbkchaaaGreatShelf
import Derived.Lib.OwnBridge
import Derived.Sort.OwnSorted
import Derived.Sort.OwnSortedInts
import Derived.Sort.Walk0
import Derived.Maps.RangeWalk
import Derived.Lib.AppendZeros
import Derived.Lib.SlicesS
import Derived.Shelf.Slices.In.SortNone
import Derived.Shelf.Slices.In.SortNone2
namespace Go.Proofs.YtkmhcgmmbkchaaaGreat

section
open Go.RowKit Go.Maps Go.Sort
theorem cloneN (g c : Nat) (ks : List Int) (w : World) (hb : ks.length < 1099511627776) (hc : ∀ j, j < ks.length → w.cell? ⟨g, j, none⟩ = some (.int .i64 (ks.getD j 0))) :
    Calls Tryz.prog 55 #[.slice (some ⟨g, 0, none⟩) ks.length c] w fun e w' => ∃ v', e = .returned v' ∧ w'.ownsRow w.heap.size 3 1 v' ks.length (ks.map (Value.int .i64)) ∧ Below w.heap.size w w' := by
  refine (Any.slices_Clone_int Tryz.laysNm215 g 0 ks.length c ks w (Nat.le_refl _) (by omega) (fun j hj => by rw [Nat.zero_add]; exact hc j hj)).mono ?_
  rintro e w' ⟨v', he, h1, -, h2⟩
  rw [List.take_length] at h1
  exact ⟨v', he, h1, h2⟩

theorem bsN (g c n : Nat) (ks : List Int) (k : Int) (w : World) (hn : n ≤ ks.length) (hb : n < 1099511627776) (hc : ∀ j, j < ks.length → w.cell? ⟨g, j, none⟩ = some (.int .i64 (ks.getD j 0))) (hs : Rising ltN (ks.take n)) :
    Calls Tryz.prog 70 #[.slice (some ⟨g, 0, none⟩) n c, .int .i64 k] w fun e w' => ∃ (f : Bool) (q : Nat), e = .returned (.tuple #[.int .i64 (cnt ltN (ks.take n) k : Nat), .bool f]) ∧ w' = w.drewN q := by
  refine (Any.slices_BinarySearch_int Tryz.laysNm225 g 0 n c ks k w hn (by omega) (fun j hj => by rw [Nat.zero_add]; exact hc j hj) (List.Pairwise.imp (fun {a b} hab => by simp [ltN] at hab; omega) hs)).mono ?_
  rintro e w' ⟨he, q, hq⟩
  exact ⟨_, q, he, hq⟩

theorem delN (g c i : Nat) (ks : List Int) (w : World) (hi : i < ks.length) (h : w.ownsRow 0 3 1 (.slice (some ⟨g, 0, none⟩) ks.length c) ks.length (ks.map (Value.int .i64))) :
    Calls Tryz.prog 71 #[.slice (some ⟨g, 0, none⟩) ks.length c, .int .i64 i, .int .i64 ((i : Int) + 1)] w fun e w' => e = .returned (.slice (some ⟨g, 0, none⟩) (ks.length - 1) c) ∧ Hid (w'.ownsRow 0 3 1 (.slice (some ⟨g, 0, none⟩) (ks.length - 1) c) (ks.length - 1) ((ks.take i ++ ks.drop (i + 1)).map (Value.int .i64)) ∧ Turned (fun b => b = g) w w') := by
  obtain ⟨g', c', e, -, -, hcap, hm, -, hH⟩ := Lib.holds_of_ownsRow h (by simp)
  injection e with e1 e2 e3
  injection e1 with e1
  injection e1 with e1
  subst e1 e3
  have := Any.slices_Delete_int Tryz.laysNm223 g 0 c i (i + 1) ks w hH hcap (by unfold maxLen at hm; omega) (by omega) (by omega)
  rw [show (((i + 1 : Nat) : Int)) = (i : Int) + 1 by omega, show i + 1 - i = 1 by omega] at this
  refine this.mono ?_
  rintro e w' ⟨he, q, rfl⟩
  refine ⟨he, ?_, Turned.mk rfl rfl rfl (by simp [putRow, mapBlock, Sort.ahead]) (fun k _ hk => ?_)⟩
  · have hy := Lib.ownsRow_putRow (q := q) (k := ks.length - 1) (ys := ks.take i ++ ks.drop (i + 1) ++ List.replicate 1 0) h (by simp; omega) (by omega)
    have ht : (ks.take i ++ ks.drop (i + 1) ++ List.replicate 1 0).take (ks.length - 1) = ks.take i ++ ks.drop (i + 1) := by
      rw [List.take_append_of_le_length (by simp; omega)]
      exact List.take_of_length_le (by simp; omega)
    rwa [ht] at hy
  · simp [putRow, mapBlock, Sort.ahead, Array.getElem?_modify, show g ≠ k from fun e => hk e.symm]

theorem psortN (B g c : Nat) (ks : List Int) (w : World) (hb : ks.length < 1099511627776) (hn : ks.Nodup) (h : w.ownsRow B 3 1 (.slice (some ⟨g, 0, none⟩) ks.length c) ks.length (ks.map (Value.int .i64))) :
    Calls Tryz.prog 66 #[.slice (some ⟨g, 0, none⟩) ks.length c] w fun e w' => e = .returned (.tuple #[]) ∧ Hid (∃ ys, ys.Perm ks ∧ Rising ltN ys ∧ w'.ownsRow B 3 1 (.slice (some ⟨g, 0, none⟩) ks.length c) ks.length (ys.map (Value.int .i64)) ∧ w.grownBy w' (some g)) := by
  obtain ⟨g', c', e, -, hlt, hcap, hm, -, hH⟩ := Lib.holds_of_ownsRow h (by simp)
  injection e with e1 e2 e3
  injection e1 with e1
  injection e1 with e1
  subst e1 e3
  rcases h.2 with ⟨e0, -⟩ | ⟨g', cap', cur, e0, hb0, hg, hn0, hm0, hs0, -⟩
  · cases e0
  injection e0 with e1 _ e3
  injection e1 with e1
  injection e1 with e1
  subst e1 e3
  refine (Any.slices_Sort_int Tryz.lays189 g 0 c ks w hH hlt (by omega)).mono ?_
  rintro e w' ⟨he, n, os, rfl⟩
  have hp : (ks.mergeSort fun x y => decide (x ≤ y)).Perm ks := List.mergeSort_perm _ _
  refine ⟨he, _, hp, ?_, ownsRow_sortedI hp.length_eq hb0 hg hn0 hm0 hs0, grownBy_sortedI _⟩
  have h1 : (ks.mergeSort fun x y => decide (x ≤ y)).Pairwise (fun x y => decide (x ≤ y) = true) := List.pairwise_mergeSort (fun a b c h1 h2 => by simp at *; omega) (fun a b => by simp; omega) _
  have h2 : (ks.mergeSort fun x y => decide (x ≤ y)).Nodup := hp.nodup_iff.2 hn
  exact (h1.and h2).imp (fun {a b} hab => by simp [ltN] at *; omega)
end

section
open Go.RowKit Go.Maps
set_option maxHeartbeats 1000000 in
set_option maxRecDepth 100000 in
theorem setN {p m N : Nat} (N' : Nat) {f : Int → Option Nat} (k : Int) (w : World) (hb : w.heap[p]? = some (.cells #[.map (some m)] 85 (0, 0))) (hm : MapFn 3 klN okN w m f N) (hk : okN k) (hN : N < 1099511627776) (hN' : N' = if (f k).isSome then N else N + 1) :
    Calls Tryz.prog 56 #[.pointer (some ⟨p, 0, none⟩), (Value.int .i64) k] w fun e w' => e = .returned (.tuple #[]) ∧ Hid (∃ x : Part Int, x.ks = [k] ∧ x.q = w.heap.size + 1 ∧ x.v.ownBlock = some w.heap.size ∧ RowN w' x ∧ MapFn 3 klN okN w' m (put f k (some x.q)) N' ∧ Turned (fun b => b = m) w w' ∧ w.heap.size + 2 ≤ w'.heap.size) := by
  have c1 : w.cell? ⟨p, 0, none⟩ = some (.map (some m)) := by rw [cell_of_row w p _ _ _ _ hb]; rfl
  have hp : p < w.heap.size := (Array.getElem?_eq_some_iff.1 hb).1
  have hml := hm.lt
  have hbel : Below w.heap.size w ((w.alloc (.cells #[(Value.int .i64) k] 3)).alloc (.cells #[.slice (some ⟨w.heap.size, 0, none⟩) 1 1] 97)) := ((Below.refl _ _).alloc (Nat.le_refl _) _).alloc (by simp) _
  have hm2 := hm.kept (w' := (w.alloc (.cells #[(Value.int .i64) k] 3)).alloc (.cells #[.slice (some ⟨w.heap.size, 0, none⟩) 1 1] 97)) (hbel.block m hml)
  obtain ⟨w', hr, g1, g2⟩ := hm2.put_ kitN (t := 83) (e := 95) Tryz.underlying83 (by unfold maxLen; omega) k hk (w.heap.size + 1)
  rw [← hN'] at g1
  have n1 : ((w.alloc (.cells #[(Value.int .i64) k] 3)).alloc (.cells #[.slice (some ⟨w.heap.size, 0, none⟩) 1 1] 97)).heap[w.heap.size + 1]? = some (.cells #[.slice (some ⟨w.heap.size, 0, none⟩) 1 1] 97 (0, 0)) := by
    have := heap_alloc_new (w.alloc (.cells #[(Value.int .i64) k] 3)) (.cells #[.slice (some ⟨w.heap.size, 0, none⟩) 1 1] 97)
    simpa using this
  have n0 : ((w.alloc (.cells #[(Value.int .i64) k] 3)).alloc (.cells #[.slice (some ⟨w.heap.size, 0, none⟩) 1 1] 97)).heap[w.heap.size]? = some (.cells #[(Value.int .i64) k] 3 (0, 0)) :=
    (((Below.refl _ (w.alloc (.cells #[(Value.int .i64) k] 3))).alloc (Nat.le_refl _) _).block _ (by simp)).trans (heap_alloc_new w _)
  have HF : Hid (∃ x : Part Int, x.ks = [k] ∧ x.q = w.heap.size + 1 ∧ x.v.ownBlock = some w.heap.size ∧ RowN w' x ∧ MapFn 3 klN okN w' m (put f k (some x.q)) N' ∧ Turned (fun b => b = m) w w' ∧ w.heap.size + 2 ≤ w'.heap.size) := by
    have ht := turned_map (S := fun b => b = m) g2 rfl
    refine ⟨⟨w.heap.size + 1, .slice (some ⟨w.heap.size, 0, none⟩) 1 1, [k]⟩, rfl, rfl, rfl, ⟨?_, rfl, .inr ⟨w.heap.size, 1, #[(Value.int .i64) k], rfl, Nat.zero_le _, ?_, Nat.le_refl _, by unfold maxLen; omega, rfl, rfl⟩⟩, g1, (turned_of_below hbel).trans ht, ?_⟩
    · exact (ht.block _ (by simp) (by show ¬ (w.heap.size + 1 = m); omega)).trans n1
    · exact (ht.block _ (by simp; omega) (by show ¬ (w.heap.size = m); omega)).trans n0
    · have := ht.size; simpa using this
  simp only [ptr] at hr
  clear hm hm2 g1 g2 n1 n0 hb hbel hN hN'
  go_enter Tryz.func56, Tryz.ntmps56
  go_wp2_with fail
  go_end0
  exact ⟨rfl, unhide HF⟩

theorem PAtN.added {w w' : World} {p m : Nat} {S : List (Part Int)} {k : Int} {x : Part Int} (h : PAtN w p m S) (hk : okN k) (hno : ∀ z ∈ S, k ∉ z.ks) (h1 : x.ks = [k]) (h2 : x.q = w.heap.size + 1) (h3 : x.v.ownBlock = some w.heap.size) (h4 : RowN w' x)
    (h5 : MapFn 3 klN okN w' m (put (fOf S) k (some x.q)) (tot S + 1)) (h6 : Turned (fun b => b = m) w w') : PAtN w' p m (S ++ [x]) := by
  obtain ⟨k1, k2⟩ := h.kinds
  refine ⟨(h6.block p (h.lt (.inl rfl)) k1).trans h.box, fun z hz => ?_, h.fam.append (fam_one (by rw [h1]; exact List.pairwise_singleton _ _) (by rw [h1]; simp) (by rw [h1]; intro j hj; rw [List.mem_singleton.1 hj]; exact hk)) (fun z hz y hy => ?_), ?_⟩
  · rcases List.mem_append.1 hz with hz | hz
    · exact (h.rows z hz).kept (h6.block _ (h.rows z hz).lt.1 (k2 z hz).2.1) (fun b hb => h6.block b ((h.rows z hz).lt.2 b hb) ((k2 z hz).2.2 b hb).2.1)
    · rw [List.mem_singleton.1 hz]; exact h4
  · rw [List.mem_singleton.1 hy]
    refine ⟨fun e => ?_, fun b hb e => ?_, fun j hj e => ?_⟩
    · have := (h.rows z hz).lt.1; omega
    · have := (h.rows z hz).lt.2 b hb
      rw [h3] at e
      injection e with e
      omega
    · rw [h1] at e
      rw [List.mem_singleton.1 e] at hj
      exact hno z hz hj
  · rw [tot_append, tot_one, h1]
    refine h5.congr (fun j _ => ?_)
    rw [fOf_append, fOf_one, h1]
    unfold put
    by_cases e : j = k
    · subst e
      rw [fOf_none.2 hno]
      simp
    · simp [e]

set_option maxHeartbeats 1000000 in
set_option maxRecDepth 100000 in
theorem addInN {p m : Nat} {S : List (Part Int)} {x : Part Int} (k : Int) (w : World) (h : PAtN w p m S) (hx : x ∈ S) (hk : k ∈ x.ks) : Calls Tryz.prog 33 #[.pointer (some ⟨p, 0, none⟩), (Value.int .i64) k] w fun e w' => e = .returned (.bool false) ∧ w' = w := by
  have c1 := h.cell
  have hl := h.look k (h.fam.keys x hx k hk)
  rw [fOf_some h.fam hx hk] at hl
  simp only [ptr] at hl
  clear h
  go_enter Tryz.func33, Tryz.ntmps33
  go_wp2_with fail
  go_ret
  exact ⟨rfl, rfl⟩

set_option maxHeartbeats 1000000 in
set_option maxRecDepth 100000 in
theorem addN {p m : Nat} {S : List (Part Int)} (k : Int) (w : World) (h : PAtN w p m S) (hk : okN k) (hno : ∀ z ∈ S, k ∉ z.ks) (hn : tot S < 1099511627776) : Calls Tryz.prog 33 #[.pointer (some ⟨p, 0, none⟩), (Value.int .i64) k] w fun e w' => e = .returned (.bool true) ∧
    Hid (∃ x : Part Int, x.ks = [k] ∧ PAtN w' p m (S ++ [x]) ∧ Turned (FootN p m S) w w' ∧ ∀ j, FootN p m (S ++ [x]) j → FootN p m S j ∨ w.heap.size ≤ j) := by
  have c1 := h.cell
  have hl := h.look k hk
  rw [fOf_none.2 hno] at hl
  simp only [ptr] at hl
  have CS := hide (setN (tot S + 1) k w h.box h.map hk hn (by rw [fOf_none.2 hno]; rfl))
  have HP : Hid (∀ w' (x : Part Int), x.ks = [k] → x.q = w.heap.size + 1 → x.v.ownBlock = some w.heap.size → RowN w' x → MapFn 3 klN okN w' m (put (fOf S) k (some x.q)) (tot S + 1) → Turned (fun b => b = m) w w' → PAtN w' p m (S ++ [x]) ∧ Turned (FootN p m S) w w' ∧ ∀ j, FootN p m (S ++ [x]) j → FootN p m S j ∨ w.heap.size ≤ j) := fun w' x h1 h2 h3 h4 h5 h6 => by
    refine ⟨h.added hk hno h1 h2 h3 h4 h5 h6, h6.mono (fun b _ e => .inr (.inl e)), fun j hj => ?_⟩
    rcases hj with e | e | ⟨z, hz, e⟩
    · exact .inl (.inl e)
    · exact .inl (.inr (.inl e))
    · rcases List.mem_append.1 hz with hz | hz
      · exact .inl (.inr (.inr ⟨z, hz, e⟩))
      · rw [List.mem_singleton.1 hz] at e
        rcases e with e | e
        · exact .inr (by omega)
        · rw [h3] at e; injection e with e; exact .inr (by omega)
  clear h hn
  go_enter Tryz.func33, Tryz.ntmps33
  go_wp2_with fail
  refine (unhide CS).mono ?_
  rintro e w' ⟨rfl, hx⟩
  obtain ⟨x, h1, h2, h3, h4, h5, h6, -⟩ := unhide hx
  have HR := hide (unhide HP w' x h1 h2 h3 h4 h5 h6)
  clear CS hx h2 h3 h4 h5 h6 HP
  go_wp2_with fail
  go_ret
  exact ⟨rfl, x, h1, unhide HR⟩

set_option maxHeartbeats 1000000 in
set_option maxRecDepth 100000 in
theorem membersNoN {p m : Nat} {S : List (Part Int)} (k : Int) (w : World) (h : PAtN w p m S) (hk : okN k) (hno : ∀ x ∈ S, k ∉ x.ks) : Calls Tryz.prog 32 #[.pointer (some ⟨p, 0, none⟩), (Value.int .i64) k] w fun e w' => e = .returned (.slice none 0 0) ∧ w' = w := by
  have c1 := h.cell
  have hl := h.look k hk
  rw [fOf_none.2 hno] at hl
  simp only [ptr] at hl
  clear h
  go_enter Tryz.func32, Tryz.ntmps32
  go_wp2_with fail
  go_ret
  exact ⟨rfl, rfl⟩

set_option maxHeartbeats 1000000 in
set_option maxRecDepth 100000 in
theorem membersN {p m : Nat} {S : List (Part Int)} {x : Part Int} (k : Int) (w : World) (h : PAtN w p m S) (hx : x ∈ S) (hk : k ∈ x.ks) (hn : tot S < 1099511627776) : Calls Tryz.prog 32 #[.pointer (some ⟨p, 0, none⟩), (Value.int .i64) k] w fun e w' => ∃ v', e = .returned v' ∧
    Hid (w'.ownsRow w.heap.size 3 1 v' x.ks.length (x.ks.map (Value.int .i64)) ∧ Below w.heap.size w w') := by
  have c1 := h.cell
  have hl := h.look k (h.fam.keys x hx k hk)
  rw [fOf_some h.fam hx hk] at hl
  simp only [ptr] at hl
  obtain ⟨g, c, e, -, -, -, -, hc⟩ := (h.rows x hx).some_ (h.fam.some_ x hx)
  have c2 := (h.rows x hx).cell.1
  have hlen := len_le_tot hx
  have CC := hide (cloneN g c x.ks w (by omega) hc)
  rw [e] at c2
  generalize x.q = q at *
  generalize hL : x.ks.length = L at *
  clear h hc hL hn hlen
  go_enter Tryz.func32, Tryz.ntmps32
  go_wp2_with fail
  refine (unhide CC).mono ?_
  rintro e w' ⟨v', rfl, h1⟩
  have H1 := hide h1
  clear CC h1
  go_wp2_with fail
  go_ret
  exact ⟨v', rfl, unhide H1⟩
end

section
open Go.RowKit Go.Maps
set_option maxHeartbeats 1000000 in
set_option maxRecDepth 100000 in
theorem dropNoN {p m : Nat} {S : List (Part Int)} (k : Int) (w : World) (h : PAtN w p m S) (hk : okN k) (hno : ∀ x ∈ S, k ∉ x.ks) : Calls Tryz.prog 51 #[.pointer (some ⟨p, 0, none⟩), (Value.int .i64) k] w fun e w' => e = .returned (.bool false) ∧ w' = w := by
  have c1 := h.cell
  have hl := h.look k hk
  rw [fOf_none.2 hno] at hl
  simp only [ptr] at hl
  clear h
  go_enter Tryz.func51, Tryz.ntmps51
  go_wp2_with fail
  go_ret
  exact ⟨rfl, rfl⟩

/-- What Drop leaves. -/
def DroppedN (w : World) (p m : Nat) (S : List (Part Int)) (x : Part Int) (k : Int) (w' : World) : Prop :=
  ∃ T : List (Part Int), PAtN w' p m (pout x S ++ T) ∧ (∀ y ∈ T, ∀ j, j ∈ y.ks ↔ j ∈ x.ks ∧ j ≠ k) ∧ (T = [] ∧ x.ks = [k] ∨ ∃ y, T = [y] ∧ y.q = x.q) ∧ Turned (FootN p m S) w w' ∧ (∀ j, FootN p m (pout x S ++ T) j → FootN p m S j ∨ w.heap.size ≤ j) ∧ tot (pout x S ++ T) + 1 = tot S

theorem PAtN.dropped {w w2 : World} {p m g c q1 : Nat} {S : List (Part Int)} {x : Part Int} {k : Int} (h : PAtN w p m S) (hx : x ∈ S) (hk : k ∈ x.ks) (hv : x.v = .slice (some ⟨g, 0, none⟩) x.ks.length c)
    (hr : w2.ownsRow 0 3 1 (.slice (some ⟨g, 0, none⟩) (x.ks.length - 1) c) (x.ks.length - 1) ((x.ks.take (cnt ltN x.ks k) ++ x.ks.drop (cnt ltN x.ks k + 1)).map (Value.int .i64))) (ht : Turned (fun b => b = g) (w.drewN q1) w2) :
    w2.cell? ⟨p, 0, none⟩ = some (.map (some m)) ∧ w2.cell? ⟨x.q, 0, none⟩ = some x.v ∧ w2.frozen? ⟨x.q, 0, none⟩ = false ∧ p ≠ x.q ∧
    ∃ w4, (Builtin.delete_ #[83, 3] 0 #[.map (some m), (Value.int .i64) k]).run Tryz.prog (w2.setCell ⟨x.q, 0, none⟩ (.slice (some ⟨g, 0, none⟩) (x.ks.length - 1) c)) = .ok (.tuple #[]) w4 ∧ DroppedN w p m S x k w4 := by
  obtain ⟨k1, k2⟩ := h.kinds
  obtain ⟨kx1, kx2, kx3⟩ := k2 x hx
  have hg : x.v.ownBlock = some g := by rw [hv]; rfl
  obtain ⟨kg1, kg2, kg3⟩ := kx3 g hg
  have hb2 : ∀ b, b < w.heap.size → b ≠ g → w2.heap[b]? = w.heap[b]? := fun b h1 h2 => ht.block b h1 h2
  have hgq := kg3 x hx
  have e1 : w2.heap[x.q]? = some (.cells #[x.v] 97 (0, 0)) := (hb2 _ (h.rows x hx).lt.1 (fun e => hgq e.symm)).trans (h.rows x hx).box
  have e2 : w2.heap[p]? = some (.cells #[.map (some m)] 85 (0, 0)) := (hb2 _ (h.lt (.inl rfl)) (fun e => kg1 e.symm)).trans h.box
  obtain ⟨f1, f2, f3, f4⟩ := cut_one linN (h.fam.rise x hx) hk
  generalize hkk : x.ks.take (cnt ltN x.ks k) ++ x.ks.drop (cnt ltN x.ks k + 1) = kk at *
  refine ⟨by rw [cell_of_row _ _ _ _ _ _ e2]; rfl, by rw [cell_of_row _ _ _ _ _ _ e1]; rfl, frozen_of_row _ _ _ _ _ e1, fun e => kx1 e.symm, ?_⟩
  have hm3 : MapFn 3 klN okN (w2.setCell ⟨x.q, 0, none⟩ (.slice (some ⟨g, 0, none⟩) (x.ks.length - 1) c)) m (fOf S) (tot S) :=
    (h.map.kept (hb2 m h.map.lt (fun e => kg2 e.symm))).kept (heap_setCell_other w2 ⟨x.q, 0, none⟩ m _ (fun e => kx2 e.symm))
  have htot := tot_without h.fam hx
  obtain ⟨N, hN⟩ : ∃ N, tot S = N + 1 := ⟨tot S - 1, by omega⟩
  rw [hN] at hm3
  obtain ⟨w4, hr4, g1, g2⟩ := hm3.del_ kitN (t := 83) (e := 95) Tryz.underlying83 k (h.fam.keys x hx k hk) (by rw [fOf_some h.fam hx hk]; rfl) 0
  refine ⟨w4, hr4, ?_⟩
  have t1 : Turned (FootN p m S) w w2 := ⟨ht.os, ht.tape, ht.output, ht.size, fun b hb hn => hb2 b hb (fun e => hn (.inr (.inr ⟨x, hx, .inr (e ▸ hg)⟩)))⟩
  have t2 : Turned (FootN p m S) w w4 := (t1.trans (turned_setCell w2 ⟨x.q, 0, none⟩ _ (.inr (.inr ⟨x, hx, .inl rfl⟩)))).trans (turned_map g2 (.inr (.inl rfl)))
  have hb4 : ∀ b, b < w2.heap.size → b ≠ x.q → b ≠ m → w4.heap[b]? = w2.heap[b]? := fun b h1 h2 h3 =>
    ((turned_map (S := fun b => b = m) g2 rfl).block b (by simpa using h1) h3).trans (heap_setCell_other w2 ⟨x.q, 0, none⟩ b _ h2)
  have s2 : ∀ b, b < w.heap.size → b < w2.heap.size := fun b hb => Nat.lt_of_lt_of_le hb ht.size
  have hbox4 : w4.heap[p]? = some (.cells #[.map (some m)] 85 (0, 0)) := (hb4 p (s2 p (h.lt (.inl rfl))) (fun e => kx1 e.symm) k1).trans e2
  have hrows4 : ∀ z ∈ pout x S, RowN w4 z := fun z hz => by
    obtain ⟨z1, z2⟩ := mem_pout.1 hz
    obtain ⟨kz1, kz2, kz3⟩ := k2 z z1
    have hza : Apart x z := (h.fam.of hx z1).resolve_left (fun e => z2 (e ▸ rfl))
    refine (h.rows z z1).kept ?_ (fun b hb => ?_)
    · exact (hb4 _ (s2 _ (h.rows z z1).lt.1) z2 kz2).trans (hb2 _ (h.rows z z1).lt.1 (fun e => kg3 z z1 e.symm))
    · have hl := (h.rows z z1).lt.2 b hb
      exact (hb4 b (s2 b hl) ((kz3 b hb).2.2 x hx) (kz3 b hb).2.1).trans (hb2 b hl (fun e => hza.2.1 g hg (e ▸ hb)))
  have hfm : ∀ T : List (Part Int), (∀ j, fOf T j = if j ∈ kk then some x.q else none) → ∀ j, fOf (pout x S ++ T) j = put (fOf S) k none j := fun T hT j => by
    rw [fOf_append, fOf_without h.fam hx, hT]
    unfold put
    by_cases e : j = k
    · subst e
      rw [if_pos hk, if_neg (fun e => (f2 j).1 e |>.2 rfl), if_pos rfl]; rfl
    · rw [if_neg e]
      by_cases ej : j ∈ x.ks
      · rw [if_pos ej, if_pos ((f2 j).2 ⟨ej, e⟩), fOf_some h.fam hx ej]; rfl
      · rw [if_neg ej, if_neg (fun e => ej ((f2 j).1 e).1)]; simp
  by_cases hnil : kk = []
  · refine ⟨[], ?_, fun y hy => by simp at hy, .inl ⟨rfl, ?_⟩, t2, fun j hj => ?_, by rw [List.append_nil]; rw [hnil] at f3; simp at f3; omega⟩
    · rw [List.append_nil]
      refine ⟨hbox4, hrows4, h.fam.pout x, ?_⟩
      rw [hnil] at f3
      simp at f3
      rw [show tot (pout x S) = N by omega]
      refine g1.congr (fun j _ => ?_)
      have := hfm [] (fun j => by rw [hnil]; simp [fOf_nil]) j
      rwa [List.append_nil] at this
    · rw [hnil] at f3
      simp at f3
      match hks : x.ks, f3 with
      | [a], _ => rw [hks] at hk; rw [List.mem_singleton.1 hk]
    · rw [List.append_nil] at hj
      rcases hj with e | e | ⟨z, hz, e⟩
      · exact .inl (.inl e)
      · exact .inl (.inr (.inl e))
      · exact .inl (.inr (.inr ⟨z, (mem_pout.1 hz).1, e⟩))
  · refine ⟨[⟨x.q, .slice (some ⟨g, 0, none⟩) (x.ks.length - 1) c, kk⟩], ⟨hbox4, fun z hz => ?_, (h.fam.pout x).append (fam_one f1 hnil (fun j hj => h.fam.keys x hx j ((f2 j).1 hj).1)) (fun z hz y hy => ?_), ?_⟩, fun y hy j => by rw [List.mem_singleton.1 hy]; exact f2 j, .inr ⟨_, rfl, rfl⟩, t2, fun j hj => ?_, by rw [tot_append, tot_one]; show tot (pout x S) + kk.length + 1 = tot S; omega⟩
    · rcases List.mem_append.1 hz with hz | hz
      · exact hrows4 z hz
      · rw [List.mem_singleton.1 hz]
        have hkl : kk.length = x.ks.length - 1 := by omega
        have hx4 : w4.heap[x.q]? = some (.cells #[.slice (some ⟨g, 0, none⟩) (x.ks.length - 1) c] 97 (0, 0)) := by
          refine ((turned_map (S := fun b => b = m) g2 rfl).block x.q (by simpa using s2 _ (h.rows x hx).lt.1) kx2).trans ?_
          exact heap_setCell_same w2 x.q 0 _ _ _ e1
        refine ⟨hx4, ?_⟩
        show w4.ownsRow 0 3 1 (.slice (some ⟨g, 0, none⟩) (x.ks.length - 1) c) kk.length (kk.map (Value.int .i64))
        rw [hkl]
        refine ⟨hr.1, ?_⟩
        rcases hr.2 with hn | ⟨g', cap, cur, e, hb, hgg, rest⟩
        · exact .inl hn
        · refine .inr ⟨g', cap, cur, e, hb, ?_, rest⟩
          simp only [Value.slice.injEq, Option.some.injEq, Addr.mk.injEq] at e
          obtain ⟨⟨e5, -⟩, -⟩ := e
          subst e5
          exact (hb4 g (Array.getElem?_eq_some_iff.1 hgg).1 hgq kg2).trans hgg
    · rw [List.mem_singleton.1 hy]
      obtain ⟨z1, z2⟩ := mem_pout.1 hz
      have hza : Apart z x := (h.fam.of z1 hx).resolve_left (fun e => z2 (e ▸ rfl))
      refine ⟨z2, fun b hb e => hza.2.1 b hb (by rw [hg]; exact e), fun j hj e => hza.2.2 j hj ((f2 j).1 e).1⟩
    · rw [tot_append, tot_one, show tot (pout x S) + kk.length = N by omega]
      exact g1.congr (fun j _ => hfm _ (fun j => by by_cases e : j ∈ kk <;> simp [fOf_one, e]) j)
    · rcases hj with e | e | ⟨z, hz, e⟩
      · exact .inl (.inl e)
      · exact .inl (.inr (.inl e))
      · rcases List.mem_append.1 hz with hz | hz
        · exact .inl (.inr (.inr ⟨z, (mem_pout.1 hz).1, e⟩))
        · rw [List.mem_singleton.1 hz] at e
          rcases e with e | e
          · exact .inl (.inr (.inr ⟨x, hx, .inl e⟩))
          · exact .inl (.inr (.inr ⟨x, hx, .inr (hg.trans e)⟩))

set_option maxHeartbeats 1000000 in
set_option maxRecDepth 100000 in
theorem dropN {p m : Nat} {S : List (Part Int)} {x : Part Int} (k : Int) (w : World) (h : PAtN w p m S) (hx : x ∈ S) (hk : k ∈ x.ks) (hn : tot S < 1099511627776) : Calls Tryz.prog 51 #[.pointer (some ⟨p, 0, none⟩), (Value.int .i64) k] w fun e w' => e = .returned (.bool true) ∧ Hid (DroppedN w p m S x k w') := by
  have c1 := h.cell
  have hl := h.look k (h.fam.keys x hx k hk)
  rw [fOf_some h.fam hx hk] at hl
  simp only [ptr] at hl
  obtain ⟨g, c, ev, hc1, hc2, -, -, hc⟩ := (h.rows x hx).some_ (h.fam.some_ x hx)
  have c2 := (h.rows x hx).cell.1
  have hlen := len_le_tot hx
  have hcnt := (cut_one linN (h.fam.rise x hx) hk).2.2.2
  have CB := hide (bsN g c x.ks.length x.ks k w (Nat.le_refl _) (by omega) hc (by rw [List.take_length]; exact h.fam.rise x hx))
  rw [List.take_length] at CB
  have hrow := (h.rows x hx).row
  rw [ev] at hrow
  have CD : Hid (∀ q1, Calls Tryz.prog 71 #[.slice (some ⟨g, 0, none⟩) x.ks.length c, .int .i64 (cnt ltN x.ks k : Nat), .int .i64 (((cnt ltN x.ks k : Nat) : Int) + 1)] (w.drewN q1) fun e w2 => e = .returned (.slice (some ⟨g, 0, none⟩) (x.ks.length - 1) c) ∧ (w2.cell? ⟨p, 0, none⟩ = some (.map (some m)) ∧ w2.cell? ⟨x.q, 0, none⟩ = some x.v ∧ w2.frozen? ⟨x.q, 0, none⟩ = false ∧ p ≠ x.q ∧
      ∃ w4, (Builtin.delete_ #[83, 3] 0 #[.map (some m), (Value.int .i64) k]).run Tryz.prog (w2.setCell ⟨x.q, 0, none⟩ (.slice (some ⟨g, 0, none⟩) (x.ks.length - 1) c)) = .ok (.tuple #[]) w4 ∧ DroppedN w p m S x k w4)) := fun q1 =>
    (delN g c _ x.ks (w.drewN q1) hcnt hrow).mono fun e w2 hh => ⟨hh.1, h.dropped hx hk ev (unhide hh.2).1 (unhide hh.2).2⟩
  rw [ev] at c2 CD
  have hiw : IntKind.i64.wrap (((cnt ltN x.ks k : Nat) : Int) + 1) = ((cnt ltN x.ks k : Nat) : Int) + 1 := by rw [IntKind.wrap_i64]; omega
  generalize x.q = q at *
  generalize hi : cnt ltN x.ks k = i at *
  generalize x.ks.length = L at *
  generalize hL1 : L - 1 = L1 at *
  clear h hc hn hlen hi hcnt hrow hc1 hc2 hL1
  go_enter Tryz.func51, Tryz.ntmps51
  go_wp2_with fail
  refine (unhide CB).mono ?_
  rintro e w' ⟨fb, q1, rfl, rfl⟩
  have CD1 := hide (unhide CD q1)
  clear CB CD
  go_wp2_with fail
  refine (unhide CD1).mono ?_
  rintro e w2 ⟨rfl, d1, d2, d3, d4, w4, hr4, hD⟩
  have HD := hide hD
  clear hD CD1
  go_wp2_with fail
  go_ret
  exact ⟨rfl, unhide HD⟩
end

section
open Go.RowKit Go.Maps
set_option maxHeartbeats 1000000 in
set_option maxRecDepth 100000 in
theorem burstNoN {p m : Nat} {S : List (Part Int)} (k : Int) (w : World) (h : PAtN w p m S) (hk : okN k) (hno : ∀ x ∈ S, k ∉ x.ks) : Calls Tryz.prog 65 #[.pointer (some ⟨p, 0, none⟩), (Value.int .i64) k] w fun e w' => e = .returned (.bool false) ∧ w' = w := by
  have c1 := h.cell
  have hl := h.look k hk
  rw [fOf_none.2 hno] at hl
  simp only [ptr] at hl
  clear h
  go_enter Tryz.func65, Tryz.ntmps65
  go_wp2_with fail
  go_ret
  exact ⟨rfl, rfl⟩

/-- Single parts, one for each thing of a list. -/
structure SinglesN (w0 w : World) (l : List Int) (T : List (Part Int)) : Prop where
  keys : T.map (·.ks) = l.map (fun k => [k])
  rows : ∀ z ∈ T, RowN w z
  apart : T.Pairwise Apart
  new : ∀ z ∈ T, w0.heap.size ≤ z.q ∧ ∀ b, z.v.ownBlock = some b → w0.heap.size ≤ b

theorem SinglesN.mem {w0 w : World} {l : List Int} {T : List (Part Int)} (h : SinglesN w0 w l T) {z : Part Int} (hz : z ∈ T) : ∃ k ∈ l, z.ks = [k] := by
  have : z.ks ∈ T.map (·.ks) := List.mem_map.2 ⟨z, hz, rfl⟩
  rw [h.keys] at this
  obtain ⟨k, hk, e⟩ := List.mem_map.1 this
  exact ⟨k, hk, e.symm⟩
theorem SinglesN.of {w0 w : World} {l : List Int} {T : List (Part Int)} (h : SinglesN w0 w l T) {k : Int} (hk : k ∈ l) : ∃ z ∈ T, z.ks = [k] := by
  have : [k] ∈ l.map (fun k => [k]) := List.mem_map.2 ⟨k, hk, rfl⟩
  rw [← h.keys] at this
  obtain ⟨z, hz, e⟩ := List.mem_map.1 this
  exact ⟨z, hz, e⟩
theorem SinglesN.none {w0 w : World} {l : List Int} {T : List (Part Int)} (h : SinglesN w0 w l T) {k : Int} (hk : k ∉ l) : fOf T k = none := by
  rw [fOf_none]
  intro z hz e
  obtain ⟨j, hj, e2⟩ := h.mem hz
  rw [e2, List.mem_singleton] at e
  exact hk (e ▸ hj)
theorem SinglesN.fam {w0 w : World} {l : List Int} {T : List (Part Int)} (h : SinglesN w0 w l T) (hok : ∀ k ∈ l, okN k) : Fam ltN okN T := by
  refine ⟨fun z hz => ?_, fun z hz => ?_, fun z hz k hk => ?_, h.apart⟩
  · obtain ⟨k, -, e⟩ := h.mem hz
    rw [e]; exact List.pairwise_singleton _ _
  · obtain ⟨k, -, e⟩ := h.mem hz
    rw [e]; simp
  · obtain ⟨j, hj, e⟩ := h.mem hz
    rw [e, List.mem_singleton] at hk
    exact hk ▸ hok j hj
theorem SinglesN.tot {w0 w : World} {l : List Int} {T : List (Part Int)} (h : SinglesN w0 w l T) : tot T = l.length := by
  have e : T.map (fun z => z.ks.length) = (T.map (·.ks)).map List.length := by rw [List.map_map]; rfl
  unfold YtkmhcgmmbkchaaaGreat.tot
  rw [e, h.keys, List.map_map]
  clear h e
  induction l with
  | nil => rfl
  | cons a l ih =>
    rw [List.map_cons, List.sum_cons, ih, List.length_cons]
    show 1 + l.length = _
    omega

/-- In the midst of it: the first j things stand alone. -/
structure MidN (w0 : World) (p m : Nat) (S : List (Part Int)) (x : Part Int) (j : Nat) (w : World) (T : List (Part Int)) : Prop where
  box : w.heap[p]? = some (.cells #[.map (some m)] 85 (0, 0))
  rows : ∀ z ∈ S, RowN w z
  ones : SinglesN w0 w (x.ks.take j) T
  map : MapFn 3 klN okN w m (fun k => if k ∈ x.ks.take j then fOf T k else fOf S k) (tot S)
  turned : Turned (fun b => b = m) w0 w

theorem mid0N {w : World} {p m : Nat} {S : List (Part Int)} (h : PAtN w p m S) (x : Part Int) : MidN w p m S x 0 w [] :=
  ⟨h.box, h.rows, ⟨rfl, fun z hz => by simp at hz, .nil, fun z hz => by simp at hz⟩, h.map.congr (fun k _ => by simp), Turned.refl _ _⟩

theorem MidN.next {w0 w w' : World} {p m j : Nat} {S T : List (Part Int)} {x y : Part Int} (h0 : PAtN w0 p m S) (hx : x ∈ S) (h : MidN w0 p m S x j w T) (hj : j < x.ks.length) (h1 : y.ks = [x.ks.getD j (0 : Int)]) (h2 : y.q = w.heap.size + 1) (h3 : y.v.ownBlock = some w.heap.size) (h4 : RowN w' y)
    (h5 : MapFn 3 klN okN w' m (put (fun k => if k ∈ x.ks.take j then fOf T k else fOf S k) (x.ks.getD j (0 : Int)) (some y.q)) (tot S)) (h6 : Turned (fun b => b = m) w w') : MidN w0 p m S x (j + 1) w' (T ++ [y]) := by
  obtain ⟨k1, k2⟩ := h0.kinds
  have hml := h0.map.lt
  have hs := h.turned.size
  have e1 : x.ks.getD j (0 : Int) = x.ks[j] := by simp [List.getD, hj]
  have e2 : x.ks.take (j + 1) = x.ks.take j ++ [x.ks[j]] := List.take_succ_eq_append_getElem hj
  have hnd := (h0.fam.rise x hx).nodup linN
  have hni : x.ks[j] ∉ x.ks.take j := fun hm => by
    have h7 : (x.ks.take (j + 1)).Nodup := hnd.sublist (List.take_sublist _ _)
    rw [e2] at h7
    exact (List.pairwise_append.1 h7).2.2 _ hm _ (List.mem_singleton.2 rfl) rfl
  rw [e1] at h1 h5
  refine ⟨(h6.block p (Nat.lt_of_lt_of_le (h0.lt (.inl rfl)) hs) k1).trans h.box, fun z hz => ?_, ⟨?_, fun z hz => ?_, ?_, fun z hz => ?_⟩, ?_, h.turned.trans h6⟩
  · exact (h.rows z hz).kept (h6.block _ (h.rows z hz).lt.1 (k2 z hz).2.1) (fun b hb => h6.block b ((h.rows z hz).lt.2 b hb) ((k2 z hz).2.2 b hb).2.1)
  · rw [List.map_append, h.ones.keys, e2, List.map_append, List.map_singleton, List.map_singleton, h1]
  · rcases List.mem_append.1 hz with hz | hz
    · have hr := h.ones.rows z hz
      have hw := h.ones.new z hz
      exact hr.kept (h6.block _ hr.lt.1 (by have := hw.1; omega)) (fun b hb => h6.block b (hr.lt.2 b hb) (by have := hw.2 b hb; omega))
    · rw [List.mem_singleton.1 hz]; exact h4
  · refine List.pairwise_append.2 ⟨h.ones.apart, List.pairwise_singleton _ _, fun z hz y' hy => ?_⟩
    rw [List.mem_singleton.1 hy]
    have hr := h.ones.rows z hz
    refine ⟨by have := hr.lt.1; omega, fun b hb e => ?_, fun k hk e => ?_⟩
    · have := hr.lt.2 b hb
      rw [h3] at e; injection e with e; omega
    · obtain ⟨i, hi, e3⟩ := h.ones.mem hz
      rw [e3, List.mem_singleton] at hk
      rw [h1, List.mem_singleton] at e
      exact hni (e ▸ hk ▸ hi)
  · rcases List.mem_append.1 hz with hz | hz
    · exact h.ones.new z hz
    · rw [List.mem_singleton.1 hz]
      refine ⟨by omega, fun b hb => ?_⟩
      rw [h3] at hb; injection hb with hb; omega
  · refine h5.congr (fun k _ => ?_)
    unfold put
    rw [e2, fOf_append, fOf_one, h1]
    by_cases e : k = x.ks[j]
    · subst e
      rw [if_pos rfl, if_pos (List.mem_append.2 (.inr (List.mem_singleton.2 rfl))), h.ones.none hni]; simp
    · rw [if_neg e]
      show _ = if k ∈ x.ks.take j then fOf T k else fOf S k
      by_cases ek : k ∈ x.ks.take j
      · rw [if_pos ek, if_pos (List.mem_append.2 (.inl ek))]
        simp [e]
      · rw [if_neg ek, if_neg (fun hm => (List.mem_append.1 hm).elim ek (fun h => e (List.mem_singleton.1 h)))]

theorem MidN.done {w w' : World} {p m : Nat} {S T : List (Part Int)} {x : Part Int} (h0 : PAtN w p m S) (hx : x ∈ S) (h : MidN w p m S x x.ks.length w' T) : T.map (·.ks) = x.ks.map (fun k => [k]) ∧ PAtN w' p m (pout x S ++ T) ∧ Turned (FootN p m S) w w' ∧ ∀ j, FootN p m (pout x S ++ T) j → FootN p m S j ∨ w.heap.size ≤ j := by
  obtain ⟨a1, a2, a3, a4, a5⟩ := h
  rw [List.take_length] at a3 a4
  refine ⟨a3.keys, ⟨a1, fun z hz => ?_, (h0.fam.pout x).append (a3.fam (fun k hk => h0.fam.keys x hx k hk)) (fun z hz y hy => ?_), ?_⟩, a5.mono (fun b _ e => .inr (.inl e)), fun j hj => ?_⟩
  · rcases List.mem_append.1 hz with hz | hz
    · exact a2 z (mem_pout.1 hz).1
    · exact a3.rows z hz
  · obtain ⟨z1, z2⟩ := mem_pout.1 hz
    have hw := a3.new y hy
    have hr := h0.rows z z1
    refine ⟨by have := hr.lt.1; omega, fun b hb e => ?_, fun k hk e => ?_⟩
    · have q1 := hr.lt.2 b hb
      have q2 := hw.2 b e
      omega
    · obtain ⟨i, hi, e3⟩ := a3.mem hy
      rw [e3, List.mem_singleton] at e
      have hza : Apart z x := (h0.fam.of z1 hx).resolve_left (fun e => z2 (e ▸ rfl))
      exact hza.2.2 k hk (e ▸ hi)
  · rw [tot_append, a3.tot, show tot (pout x S) + x.ks.length = tot S by have := tot_without h0.fam hx; omega]
    refine a4.congr (fun k _ => ?_)
    rw [fOf_append, fOf_without h0.fam hx]
    by_cases ek : k ∈ x.ks
    · rw [if_pos ek, if_pos ek]; rfl
    · rw [if_neg ek, if_neg ek, a3.none ek]; simp
  · rcases hj with e | e | ⟨z, hz, e⟩
    · exact .inl (.inl e)
    · exact .inl (.inr (.inl e))
    · rcases List.mem_append.1 hz with hz | hz
      · exact .inl (.inr (.inr ⟨z, (mem_pout.1 hz).1, e⟩))
      · have hw := a3.new z hz
        rcases e with e | e
        · exact .inr (by have := hw.1; omega)
        · exact .inr (hw.2 j e)

set_option maxHeartbeats 1000000 in
set_option maxRecDepth 100000 in
theorem burstN {p m : Nat} {S : List (Part Int)} {x : Part Int} (k : Int) (w : World) (h : PAtN w p m S) (hx : x ∈ S) (hk : k ∈ x.ks) (hn : tot S < 1099511627776) : Calls Tryz.prog 65 #[.pointer (some ⟨p, 0, none⟩), (Value.int .i64) k] w fun e w' => e = .returned (.bool true) ∧
    Hid (∃ T, T.map (·.ks) = x.ks.map (fun k => [k]) ∧ PAtN w' p m (pout x S ++ T) ∧ Turned (FootN p m S) w w' ∧ ∀ j, FootN p m (pout x S ++ T) j → FootN p m S j ∨ w.heap.size ≤ j) := by
  have c1 := h.cell
  have hl := h.look k (h.fam.keys x hx k hk)
  rw [fOf_some h.fam hx hk] at hl
  simp only [ptr] at hl
  obtain ⟨g, c, ev, -⟩ := (h.rows x hx).some_ (h.fam.some_ x hx)
  have c2 := (h.rows x hx).cell.1
  have hlen := len_le_tot hx
  have HST : Hid (∀ j wr T, j < x.ks.length → MidN w p m S x j wr T → wr.cell? ⟨g, j, none⟩ = some ((Value.int .i64) (x.ks.getD j (0 : Int))) ∧ Calls Tryz.prog 56 #[.pointer (some ⟨p, 0, none⟩), (Value.int .i64) (x.ks.getD j (0 : Int))] wr fun e w' => e = .returned (.tuple #[]) ∧ Hid (∃ T', MidN w p m S x (j + 1) w' T')) := fun j wr T hj hM => by
    obtain ⟨g', c', ev', -, -, -, -, hc⟩ := (hM.rows x hx).some_ (h.fam.some_ x hx)
    have hgg : g' = g := by rw [ev'] at ev; simp only [Value.slice.injEq, Option.some.injEq, Addr.mk.injEq] at ev; exact ev.1.1
    refine ⟨hgg ▸ hc j hj, ?_⟩
    have hm : x.ks.getD j (0 : Int) ∈ x.ks := by
      have : x.ks.getD j (0 : Int) = x.ks[j] := by simp [List.getD, hj]
      rw [this]; exact List.getElem_mem hj
    refine (setN (tot S) (x.ks.getD j (0 : Int)) wr hM.box hM.map (h.fam.keys x hx _ hm) hn ?_).mono fun e w' hh => ⟨hh.1, ?_⟩
    · have : (if x.ks.getD j (0 : Int) ∈ x.ks.take j then fOf T (x.ks.getD j (0 : Int)) else fOf S (x.ks.getD j (0 : Int))).isSome = true := by
        split
        · rename_i hin
          obtain ⟨z, hz, e⟩ := hM.ones.of hin
          rw [fOf_some (hM.ones.fam (fun k hk => h.fam.keys x hx k (List.mem_of_mem_take hk))) hz (by rw [e]; simp)]
          rfl
        · rw [fOf_some h.fam hx hm]; rfl
      rw [if_pos this]
    · obtain ⟨y, h1, h2, h3, h4, h5, h6, -⟩ := unhide hh.2
      exact ⟨_, hM.next h hx hj h1 h2 h3 h4 h5 h6⟩
  have HDN : Hid (∀ wr T, MidN w p m S x x.ks.length wr T → ∃ T, T.map (·.ks) = x.ks.map (fun k => [k]) ∧ PAtN wr p m (pout x S ++ T) ∧ Turned (FootN p m S) w wr ∧ ∀ j, FootN p m (pout x S ++ T) j → FootN p m S j ∨ w.heap.size ≤ j) := fun wr T hM => ⟨T, hM.done h hx⟩
  have HM0 : Hid (∃ T, MidN w p m S x 0 w T) := ⟨_, mid0N h x⟩
  rw [ev] at c2
  generalize x.q = q at *
  generalize hL : x.ks.length = L at *
  have HL : Hid (L < 1099511627776) := by show L < 1099511627776; omega
  clear h hn hlen hL
  go_enter Tryz.func65, Tryz.ntmps65
  go_wp2_with fail
  go_loopw [21] (fun s21 wr => ∃ j : Nat, j ≤ L ∧ s21 = .int .i64 j ∧ Hid (∃ T, MidN w p m S x j wr T)) (fun s21 _ => L - (intOf s21).toNat)
  case atStart => exact ⟨0, Nat.zero_le _, rfl, unhide HM0⟩
  case round =>
    obtain ⟨j, hj, rfl, HM⟩ := hrel
    by_cases hlt : j < L
    · have hltz : (j : Int) < (L : Int) := by omega
      obtain ⟨T, hT⟩ := unhide HM
      obtain ⟨d1, CS⟩ := unhide HST j wr T hlt hT
      have HCS := hide CS
      have hjw : IntKind.i64.wrap ((j : Int) + 1) = ((j + 1 : Nat) : Int) := by rw [IntKind.wrap_i64]; have := unhide HL; omega
      generalize x.ks.getD j (0 : Int) = kj at *
      clear CS hT HM
      go_wp2_with fail
      refine (unhide HCS).mono ?_
      rintro e w5 ⟨rfl, h5⟩
      clear HCS
      go_wp2_with fail
      go_roundw
      case rel => exact ⟨j + 1, by omega, rfl, unhide h5⟩
      case measure => simp [intOf]; omega
    · have hltz : ¬ (j : Int) < (L : Int) := by omega
      obtain rfl : j = L := by omega
      obtain ⟨T, hT⟩ := unhide HM
      have HR := hide (unhide HDN wr T hT)
      clear HM hT HDN HST
      go_wp2_with fail
      go_ret
      exact ⟨rfl, unhide HR⟩
end

section
open Go.RowKit Go.Maps
theorem keyInvN {key : Value} {l : Lit} (h : keyOf Tryz.prog 3 key = some l) : ∃ k, key = Value.int .i64 k ∧ l = klN k ∧ okN k := by
  obtain ⟨x, rfl, rfl, hw⟩ := keyOf_int_inv Tryz.underlying3 h
  exact ⟨x, rfl, rfl, hw⟩
theorem info3N : (Tryz.prog.info? 3).map (fun i => (i.zero, i.size, i.bytes)) = some (some (.int .i64 0), 1, 8) := by kernel_rfl
theorem sortNoneN (p : Option Addr) (cap : Nat) (w : World) : Calls Tryz.prog 66 #[.slice p 0 cap] w fun e w' => e = .returned (.tuple #[]) ∧ w' = w := calls_of_every_depth fun D => AnyS.slices_Sort_int_none_in Tryz.lays189 D p cap w
theorem beqN (a b : Int) (h : a ≠ b) : (a == b) = false := by simpa using h

/-- In the midst of the range: the heads that were met. -/
structure HMidN (w : World) (m r N : Nat) (D : DataW Unit) (S : List (Part Int)) (hs : List Int) (v : Value) (left : Lit → Bool) (c : Nat) (wr : World) : Prop where
  rng : wr.ranges Tryz.prog 3 ptrElem m r N D left c
  below : Below w.heap.size w wr
  new : w.heap.size ≤ r
  room : w.heap.size ≤ wr.heap.size
  row : wr.ownsRow w.heap.size 3 1 v hs.length (hs.map (Value.int .i64))
  nodup : hs.Nodup
  mem : ∀ k, okN k → (k ∈ hs ↔ (∃ x ∈ S, x.ks.headD (0 : Int) = k) ∧ left (klN k) = false)
  sub : ∀ k ∈ hs, ∃ x ∈ S, x.ks.headD (0 : Int) = k

theorem left_stepN (left : Lit → Bool) (k j : Int) : (left (klN j) && !(klN j).sameKey (klN k)) = false ↔ left (klN j) = false ∨ j = k := by
  by_cases e : j = k
  · subst e
    rw [WideAt.sameKey_self (kitN.lit j)]
    simp
  · have : (klN j).sameKey (klN k) = false := by
      cases hh : (klN j).sameKey (klN k) with
      | false => rfl
      | true => exact absurd (kitN.inj _ _ (WideAt.sameKey_eq hh)) e
    rw [this]
    simp [e]

theorem head_memN {S : List (Part Int)} (h : Fam ltN okN S) {x : Part Int} (hx : x ∈ S) : x.ks.headD (0 : Int) ∈ x.ks := by
  have := h.some_ x hx
  cases hks : x.ks with
  | nil => exact absurd hks this
  | cons a r => exact List.mem_cons_self ..

/-- One entry. -/
theorem HMidN.step {w wr : World} {p m r N c : Nat} {D : DataW Unit} {S : List (Part Int)} {hs : List Int} {v : Value} {left : Lit → Bool} (_h0 : PAtN w p m S)
    (hD : ∀ k, okN k → D.atKey (klN k) (dat none) = dat (fOf S k) ∧ Maps.has D (klN k) = (fOf S k).isSome) (hsub : ∀ l, left l = true → Maps.has D l = true) (h : HMidN w m r N D S hs v left c wr) (ty : TypeId) :
    (c = 0 ∧ (∀ l, left l = false) ∧ (Instr.next (.pointer (some ⟨r, 0, none⟩)) false ty).run Tryz.prog wr = .ok (.tuple #[.bool false]) wr) ∨
    ∃ k x w' c', x ∈ S ∧ k ∈ x.ks ∧ okN k ∧ left (klN k) = true ∧ (Instr.next (.pointer (some ⟨r, 0, none⟩)) false ty).run Tryz.prog wr = .ok (.tuple #[.bool true, (Value.int .i64) k, .pointer (some ⟨x.q, 0, none⟩)]) w' ∧
      (Instr.entry (.pointer (some ⟨r, 0, none⟩))).run Tryz.prog w' = .ok (.tuple #[(Value.int .i64) k, .pointer (some ⟨x.q, 0, none⟩)]) w' ∧ c' < c ∧ w'.ranges Tryz.prog 3 ptrElem m r N D (fun l => left l && !l.sameKey (klN k)) c' ∧ Below w.heap.size w w' ∧ w'.heap.size = wr.heap.size ∧ w'.ownsRow w.heap.size 3 1 v hs.length (hs.map (Value.int .i64)) := by
  rcases h.rng.next kitN.law ty with h1 | ⟨key, u, l, y, w', c', hkey, hl, hu, hat, hrun, hrg, hlt, hgr, hsz, hen⟩
  · exact .inl h1
  · obtain ⟨k, rfl, rfl, hok⟩ := keyInvN hkey
    obtain ⟨o, rfl, rfl⟩ := ptrElem_inv hu
    have e1 : dat (fOf S k) = dat o := by rw [← (hD k hok).1]; exact hat _
    obtain rfl := dat_inj e1
    have e2 : (fOf S k).isSome = true := by rw [← (hD k hok).2]; exact hsub _ hl
    obtain ⟨q, hq⟩ := Option.isSome_iff_exists.1 e2
    obtain ⟨x, hx, hk, rfl⟩ := fOf_mem hq
    rw [hq] at hrun hen
    refine .inr ⟨k, x, w', c', hx, hk, hok, hl, hrun, hen, hlt, hrg, h.below.grown hgr h.room (fun j hj => by injection hj with hj; have := h.new; omega), hsz, h.row.kept hgr ?_⟩
    exact .inr (Ne.symm (row_ne_iter h.row h.rng))

theorem HMidN.push {w wr w' w2 : World} {p m r N c c' : Nat} {D : DataW Unit} {S : List (Part Int)} {hs : List Int} {v v2 : Value} {left : Lit → Bool} {k : Int} {x : Part Int} (h0 : PAtN w p m S) (h : HMidN w m r N D S hs v left c wr) (hx : x ∈ S) (hk : k ∈ x.ks) (hok : okN k) (hl : left (klN k) = true) (he : k = x.ks.headD (0 : Int))
    (hrg : w'.ranges Tryz.prog 3 ptrElem m r N D (fun l => left l && !l.sameKey (klN k)) c') (hb : Below w.heap.size w w') (hsz : w'.heap.size = wr.heap.size) (hr2 : w2.ownsRow w.heap.size 3 1 v2 (hs ++ [k]).length ((hs ++ [k]).map (Value.int .i64))) (hg : w'.grownBy w2 v.ownBlock) (hv : ∀ b, v.ownBlock = some b → w.heap.size ≤ b) (hri : some r ≠ v.ownBlock) :
    HMidN w m r N D S (hs ++ [k]) v2 (fun l => left l && !l.sameKey (klN k)) c' w2 := by
  have hnew : k ∉ hs := fun hm => by have := ((h.mem k hok).1 hm).2; rw [hl] at this; cases this
  refine ⟨hrg.kept hg (fun e => ?_) hri, hb.grown hg (by rw [hsz]; exact h.room) hv, h.new, Nat.le_trans h.room (hsz ▸ hg.size), hr2, List.nodup_append.2 ⟨h.nodup, by simp, fun a ha b hb e => hnew (by rw [List.mem_singleton.1 hb] at e; exact e ▸ ha)⟩, fun j hj => ?_, fun j hj => ?_⟩
  · have q1 := hv m e.symm
    have q2 := h0.map.lt
    omega
  · rw [List.mem_append, List.mem_singleton, h.mem j hj]
    show _ ↔ _ ∧ (left (klN j) && !(klN j).sameKey (klN k)) = false
    rw [left_stepN]
    constructor
    · rintro (⟨a, b⟩ | rfl)
      · exact ⟨a, .inl b⟩
      · exact ⟨⟨x, hx, he.symm⟩, .inr rfl⟩
    · rintro ⟨a, b | b⟩
      · exact .inl ⟨a, b⟩
      · exact .inr b
  · rcases List.mem_append.1 hj with hj | hj
    · exact h.sub j hj
    · rw [List.mem_singleton.1 hj]; exact ⟨x, hx, he.symm⟩

theorem HMidN.pass {w wr w' : World} {p m r N c c' : Nat} {D : DataW Unit} {S : List (Part Int)} {hs : List Int} {v : Value} {left : Lit → Bool} {k : Int} {x : Part Int} (h0 : PAtN w p m S) (h : HMidN w m r N D S hs v left c wr) (hx : x ∈ S) (hk : k ∈ x.ks) (he : k ≠ x.ks.headD (0 : Int))
    (hrg : w'.ranges Tryz.prog 3 ptrElem m r N D (fun l => left l && !l.sameKey (klN k)) c') (hb : Below w.heap.size w w') (hsz : w'.heap.size = wr.heap.size) (hrow : w'.ownsRow w.heap.size 3 1 v hs.length (hs.map (Value.int .i64))) :
    HMidN w m r N D S hs v (fun l => left l && !l.sameKey (klN k)) c' w' := by
  refine ⟨hrg, hb, h.new, by rw [hsz]; exact h.room, hrow, h.nodup, fun j hj => ?_, h.sub⟩
  rw [h.mem j hj]
  show _ ↔ _ ∧ (left (klN j) && !(klN j).sameKey (klN k)) = false
  rw [left_stepN]
  constructor
  · rintro ⟨a, b⟩
    exact ⟨a, .inl b⟩
  · rintro ⟨⟨z, hz, e⟩, b | rfl⟩
    · exact ⟨⟨z, hz, e⟩, b⟩
    · rcases h0.fam.of hx hz with rfl | ha
      · exact absurd e.symm he
      · exact absurd (e ▸ head_memN h0.fam hz) (ha.2.2 j hk)
end

section
open Go.RowKit Go.Maps
/-- How the elements of one kind stand in a map. -/
structure ElKit (X : Type) (ev : X → Value) (ed : X → DataW Unit) (R : Value → Option (DataW Unit × List MemPlace)) : Prop where
  rd : ∀ x, R (ev x) = some (ed x, [])
  inv : ∀ v z, R v = some z → ∃ x, v = ev x ∧ z = (ed x, [])
  inj : ∀ a b, ed a = ed b → a = b
/-- The map in block m leads k to f k; it has n entries; x0 stands for what is not there. -/
def MapG {X : Type} (ed : X → DataW Unit) (R : Value → Option (DataW Unit × List MemPlace)) (x0 : X) (w : World) (m : Nat) (f : Int → Option X) (n : Nat) : Prop :=
  ∃ D, w.ownsMap Tryz.prog 3 R m n D ∧ Maps.Tidy D ∧ Maps.size D = n ∧ ∀ k, okN k → D.atKey (klN k) (ed x0) = ed ((f k).getD x0) ∧ Maps.has D (klN k) = (f k).isSome
/-- A key is led elsewhere. -/
def putG {X : Type} (f : Int → Option X) (k : Int) (o : Option X) : Int → Option X := fun x => if x = k then o else f x
section
variable {X : Type} {ev : X → Value} {ed : X → DataW Unit} {R : Value → Option (DataW Unit × List MemPlace)} {x0 : X} {w w' : World} {m n : Nat} {f : Int → Option X} {t e : TypeId}
theorem MapG.lt (h : MapG ed R x0 w m f n) : m < w.heap.size := by obtain ⟨D, h1, -⟩ := h; exact h1.lt
theorem MapG.kept (h : MapG ed R x0 w m f n) (hk : w'.heap[m]? = w.heap[m]?) : MapG ed R x0 w' m f n := by
  obtain ⟨D, ⟨es, clock, h1, h2⟩, h3⟩ := h
  exact ⟨D, ⟨es, clock, hk.trans h1, h2⟩, h3⟩
theorem MapG.congr {g : Int → Option X} (h : MapG ed R x0 w m f n) (hg : ∀ k, okN k → g k = f k) : MapG ed R x0 w m g n := by
  obtain ⟨D, h1, h2, h3, h4⟩ := h
  exact ⟨D, h1, h2, h3, fun k hk => by rw [hg k hk]; exact h4 k hk⟩
theorem MapG.look (h : MapG ed R x0 w m f n) (kk : ElKit X ev ed R) (ht : Tryz.prog.underlying t = some (.map 3 e)) (hz : ∀ w, (zeroValue e).run Tryz.prog w = .ok (ev x0) w) {k : Int} (hk : okN k) :
    (Instr.lookup t (.map (some m)) (.int .i64 k) false).run Tryz.prog w = .ok (ev ((f k).getD x0)) w := by
  obtain ⟨D, h1, h2, h3, h4⟩ := h
  obtain ⟨v, ps, hrun, hv⟩ := h1.lookup kitN.law ht (hz w) (kk.rd x0) (kitN.key k hk)
  obtain ⟨o, rfl, ho⟩ := kk.inv _ _ hv
  have h5 : ed ((f k).getD x0) = ed o := by rw [← (h4 k hk).1]; exact congrArg Prod.fst ho
  rw [kk.inj _ _ h5]
  exact hrun
theorem MapG.look2 (h : MapG ed R x0 w m f n) (kk : ElKit X ev ed R) (ht : Tryz.prog.underlying t = some (.map 3 e)) (hz : ∀ w, (zeroValue e).run Tryz.prog w = .ok (ev x0) w) {k : Int} (hk : okN k) :
    (Instr.lookup t (.map (some m)) (.int .i64 k) true).run Tryz.prog w = .ok (.tuple #[ev ((f k).getD x0), .bool (f k).isSome]) w := by
  obtain ⟨D, h1, h2, h3, h4⟩ := h
  obtain ⟨v, ps, hrun, hv⟩ := h1.look_ok kitN.law ht (hz w) (kk.rd x0) (kitN.key k hk)
  obtain ⟨o, rfl, ho⟩ := kk.inv _ _ hv
  have h5 : ed ((f k).getD x0) = ed o := by rw [← (h4 k hk).1]; exact congrArg Prod.fst ho
  rw [kk.inj _ _ h5, ← (h4 k hk).2]
  exact hrun
theorem MapG.put (h : MapG ed R x0 w m f n) (kk : ElKit X ev ed R) (ht : Tryz.prog.underlying t = some (.map 3 e)) (hn : n < maxLen) {k : Int} (hk : okN k) (x : X) :
    ∃ w', (Instr.mapUpdate t (.map (some m)) (.int .i64 k) (ev x)).run Tryz.prog w = .ok () w' ∧ MapG ed R x0 w' m (putG f k (some x)) (if (f k).isSome then n else n + 1) ∧ w.mapTurned w' m := by
  obtain ⟨D, h1, h2, h3, h4⟩ := h
  obtain ⟨w', hrun, g1, g2⟩ := h1.store kitN.law ht hn (kitN.key k hk) (kk.rd x)
  have hs : Maps.size (D.put (klN k) (ed x)) = if (f k).isSome then n else n + 1 := by rw [size_put h2, h3, (h4 k hk).2]
  refine ⟨w', hrun, ⟨_, hs ▸ ownsMap_size g1, h2.put (kitN.lit k) _, hs, fun y hy => ?_⟩, g2⟩
  by_cases e : y = k
  · subst e
    rw [atKey_put_same h2.isMap (kitN.lit y), has_put_same h2.isMap (kitN.lit y)]
    simp [putG]
  · have hne : klN y ≠ klN k := fun he => e (kitN.inj _ _ he)
    rw [atKey_put_other hne, has_put_other hne]
    simp only [putG, if_neg e]
    exact h4 y hy
theorem MapG.del (h : MapG ed R x0 w m f (n + 1)) (ht : Tryz.prog.underlying t = some (.map 3 e)) {k : Int} (hk : okN k) (hs : (f k).isSome = true) (ty : TypeId) :
    ∃ w', (Builtin.delete_ #[t, 3] ty #[.map (some m), .int .i64 k]).run Tryz.prog w = .ok (.tuple #[]) w' ∧ MapG ed R x0 w' m (putG f k none) n ∧ w.mapTurned w' m := by
  obtain ⟨D, h1, h2, h3, h4⟩ := h
  obtain ⟨w', hrun, g1, g2⟩ := h1.drop kitN.law ht (kitN.key k hk) ty
  have hsz : Maps.size (D.del (klN k)) = n := by
    have := size_del (k := klN k) h2
    rw [(h4 k hk).2, hs, h3] at this
    simpa using this
  refine ⟨w', hrun, ⟨_, hsz ▸ ownsMap_size g1, h2.del _, hsz, fun y hy => ?_⟩, g2⟩
  by_cases e : y = k
  · subst e
    rw [atKey_del_same, has_del_same]
    simp [putG]
  · have hne : klN y ≠ klN k := fun he => e (kitN.inj _ _ he)
    rw [atKey_del_other hne, has_del_other hne]
    simp only [putG, if_neg e]
    exact h4 y hy
theorem MapG.len (h : MapG ed R x0 w m f n) (ht : Tryz.prog.underlying t = some (.map 3 e)) (ty : TypeId) : (Builtin.len_ #[t] ty #[.map (some m)]).run Tryz.prog w = .ok (.int .i64 n) w := by
  obtain ⟨D, h1, -, h3, -⟩ := h
  rw [← h3]
  exact h1.len ht ty
theorem mapG_made (w : World) : MapG ed R x0 (w.alloc (.map #[] 0)) w.heap.size (fun _ => none) 0 :=
  ⟨.map [], World.ownsMap_made w _ _ _, tidy_empty, rfl, fun _ _ => ⟨rfl, rfl⟩⟩
/-- A map with no entries leads nowhere, and one that leads nowhere has none. -/
theorem MapG.zero (h : MapG ed R x0 w m f 0) {k : Int} (hk : okN k) : f k = none := by
  obtain ⟨D, h1, h2, h3, h4⟩ := h
  have := (h4 k hk).2
  cases hf : f k with
  | none => rfl
  | some x =>
    rw [hf] at this
    have h5 := size_del (k := klN k) h2
    rw [this, h3] at h5
    simp at h5
/-- In the midst of a range over the map: what is left. -/
def RangeG (ed : X → DataW Unit) (R : Value → Option (DataW Unit × List MemPlace)) (x0 : X) (m r : Nat) (f : Int → Option X) (n : Nat) (left : Int → Bool) (c : Nat) (w : World) : Prop :=
  ∃ D lf, w.ranges Tryz.prog 3 R m r n D lf c ∧ Maps.Tidy D ∧ (∀ k, okN k → D.atKey (klN k) (ed x0) = ed ((f k).getD x0) ∧ Maps.has D (klN k) = (f k).isSome) ∧ (∀ l, lf l = true → Maps.has D l = true) ∧ ∀ k, okN k → lf (klN k) = left k
theorem MapG.range (h : MapG ed R x0 w m f n) (ht : Tryz.prog.underlying t = some (.map 3 e)) :
    ∃ w', (Instr.range t (.map (some m))).run Tryz.prog w = .ok (.pointer (some ⟨w.heap.size, 0, none⟩)) w' ∧ RangeG ed R x0 m w.heap.size f n (fun k => (f k).isSome) n w' ∧ w.grownBy w' none ∧ w'.heap.size = w.heap.size + 1 := by
  obtain ⟨D, h1, h2, h3, h4⟩ := h
  obtain ⟨w', hrun, g1, g2, g3⟩ := h1.range kitN.law ht
  rw [h3] at g1
  exact ⟨w', hrun, ⟨D, _, g1, h2, h4, fun l hl => hl, fun k hk => (h4 k hk).2⟩, g2, g3⟩
theorem RangeG.next {r c : Nat} {left : Int → Bool} (h : RangeG ed R x0 m r f n left c w) (kk : ElKit X ev ed R) (ty : TypeId) :
    (c = 0 ∧ (∀ k, okN k → left k = false) ∧ (Instr.next (.pointer (some ⟨r, 0, none⟩)) false ty).run Tryz.prog w = .ok (.tuple #[.bool false]) w) ∨
    ∃ k x w' c', okN k ∧ left k = true ∧ f k = some x ∧ (Instr.next (.pointer (some ⟨r, 0, none⟩)) false ty).run Tryz.prog w = .ok (.tuple #[.bool true, .int .i64 k, ev x]) w' ∧ (Instr.entry (.pointer (some ⟨r, 0, none⟩))).run Tryz.prog w' = .ok (.tuple #[.int .i64 k, ev x]) w' ∧
      RangeG ed R x0 m r f n (fun y => left y && decide (y ≠ k)) c' w' ∧ c' < c ∧ w.grownBy w' (some r) ∧ w'.heap.size = w.heap.size := by
  obtain ⟨D, lf, h1, h2, h3, h4, h5⟩ := h
  rcases h1.next kitN.law ty with ⟨q1, q2, q3⟩ | ⟨key, u, l, y, w', c', hkey, hl, hu, hat, hrun, hrg, hlt, hgr, hsz, hen⟩
  · exact .inl ⟨q1, fun k hk => by rw [← h5 k hk]; exact q2 _, q3⟩
  · obtain ⟨k, rfl, rfl, hok⟩ := keyInvN hkey
    obtain ⟨x, rfl, rfl⟩ := kk.inv _ _ hu
    have e2 : (f k).isSome = true := by rw [← (h3 k hok).2]; exact h4 _ hl
    obtain ⟨x', hx'⟩ := Option.isSome_iff_exists.1 e2
    have e1 : ed ((f k).getD x0) = ed x := by rw [← (h3 k hok).1]; exact hat _
    rw [hx'] at e1
    obtain rfl := kk.inj _ _ (show ed x' = ed x from e1)
    refine .inr ⟨k, x', w', c', hok, by rw [← h5 k hok]; exact hl, hx', hrun, hen, ⟨D, _, hrg, h2, h3, fun l hl' => h4 l (by simp at hl'; exact hl'.1), fun y hy => ?_⟩, hlt, hgr, hsz⟩
    show (lf (klN y) && !(klN y).sameKey (klN k)) = (left y && decide (y ≠ k))
    rw [h5 y hy]
    by_cases e : y = k
    · subst e
      rw [WideAt.sameKey_self (kitN.lit y)]; simp
    · have : (klN y).sameKey (klN k) = false := by
        cases hh : (klN y).sameKey (klN k) with
        | false => rfl
        | true => exact absurd (kitN.inj _ _ (WideAt.sameKey_eq hh)) e
      rw [this]; simp [e]
theorem RangeG.kept {r c : Nat} {left : Int → Bool} {row : Option Nat} (h : RangeG ed R x0 m r f n left c w) (hg : w.grownBy w' row) (h1 : some m ≠ row) (h2 : some r ≠ row) : RangeG ed R x0 m r f n left c w' := by
  obtain ⟨D, lf, q1, q2⟩ := h
  exact ⟨D, lf, q1.kept hg h1 h2, q2⟩
end
/-! ### the elements: an arc, a map, a number, nothing -/
def evA (a : Int × Int) : Value := .agg #[.int .i64 a.1, .int .i64 a.2]
def edA (a : Int × Int) : DataW Unit := .agg [.lit (.int .i64 a.1), .lit (.int .i64 a.2)]
def rdA : Value → Option (DataW Unit × List MemPlace)
  | .agg ⟨[.int .i64 u, .int .i64 v]⟩ => some (.agg [.lit (.int .i64 u), .lit (.int .i64 v)], [])
  | _ => none
theorem kitA : ElKit (Int × Int) evA edA rdA := by
  refine ⟨fun _ => rfl, fun v z h => ?_, fun a b h => ?_⟩
  · unfold rdA at h
    split at h
    · rename_i u v
      exact ⟨(u, v), rfl, (Option.some.inj h).symm⟩
    · cases h
  · obtain ⟨a1, a2⟩ := a
    obtain ⟨b1, b2⟩ := b
    simp only [edA, DataW.agg.injEq, List.cons.injEq, DataW.lit.injEq, Lit.int.injEq, true_and, and_true] at h
    rw [h.1, h.2]
def evM (o : Option Nat) : Value := .map o
def edM : Option Nat → DataW Unit
  | none => .lit (.bool false)
  | some q => .lit (.int .i64 q)
def rdM : Value → Option (DataW Unit × List MemPlace)
  | .map none => some (.lit (.bool false), [])
  | .map (some q) => some (.lit (.int .i64 q), [])
  | _ => none
theorem kitM : ElKit (Option Nat) evM edM rdM := by
  refine ⟨fun o => by cases o <;> rfl, fun v z h => ?_, fun a b h => ?_⟩
  · unfold rdM at h
    split at h
    · exact ⟨none, rfl, (Option.some.inj h).symm⟩
    · rename_i q
      exact ⟨some q, rfl, (Option.some.inj h).symm⟩
    · cases h
  · match a, b, h with
    | none, none, _ => rfl
    | some x, some y, h =>
      simp [edM] at h
      rw [show x = y by omega]
def evI (x : Int) : Value := .int .i64 x
def edI (x : Int) : DataW Unit := .lit (.int .i64 x)
def rdI : Value → Option (DataW Unit × List MemPlace)
  | .int .i64 x => some (.lit (.int .i64 x), [])
  | _ => none
theorem kitI : ElKit Int evI edI rdI := by
  refine ⟨fun _ => rfl, fun v z h => ?_, fun a b h => ?_⟩
  · unfold rdI at h
    split at h
    · rename_i x
      exact ⟨x, rfl, (Option.some.inj h).symm⟩
    · cases h
  · simpa [edI] using h
def evU (_ : Unit) : Value := .agg #[]
def edU (_ : Unit) : DataW Unit := .agg []
def rdU : Value → Option (DataW Unit × List MemPlace)
  | .agg ⟨[]⟩ => some (.agg [], [])
  | _ => none
theorem kitU : ElKit Unit evU edU rdU := by
  refine ⟨fun _ => rfl, fun v z h => ?_, fun _ _ _ => rfl⟩
  unfold rdU at h
  split at h
  · exact ⟨(), rfl, (Option.some.inj h).symm⟩
  · cases h
set_option maxHeartbeats 1000000 in
set_option maxRecDepth 100000 in
theorem zeroA (w : World) : (zeroValue 54).run Tryz.prog w = .ok (evA (0, 0)) w := by kernel_rfl
set_option maxHeartbeats 1000000 in
set_option maxRecDepth 100000 in
theorem zeroM (w : World) : (zeroValue 88).run Tryz.prog w = .ok (evM none) w := by kernel_rfl
theorem zeroI (w : World) : (zeroValue 3).run Tryz.prog w = .ok (evI 0) w := by kernel_rfl
end

end Go.Proofs.YtkmhcgmmbkchaaaGreat

/- setApart, Add, Members. -/
import Derived.Test.YtfhidghjmookhaaLibN
namespace Go.Proofs.Ytfhidghjmookhaa
open Go.RowKit Go.Maps

set_option maxHeartbeats 1000000 in
set_option maxRecDepth 100000 in
theorem setN {p m N : Nat} (N' : Nat) {f : Int → Option Nat} (k : Int) (w : World) (hb : w.heap[p]? = some (.cells #[.map (some m)] 57 (0, 0))) (hm : MapFn 3 klN okN w m f N) (hk : okN k) (hN : N < 1099511627776) (hN' : N' = if (f k).isSome then N else N + 1) :
    Calls Try.prog 45 #[.pointer (some ⟨p, 0, none⟩), (Value.int .i64) k] w fun e w' => e = .returned (.tuple #[]) ∧ Hid (∃ x : Part Int, x.ks = [k] ∧ x.q = w.heap.size + 1 ∧ x.v.ownBlock = some w.heap.size ∧ RowN w' x ∧ MapFn 3 klN okN w' m (put f k (some x.q)) N' ∧ Turned (fun b => b = m) w w' ∧ w.heap.size + 2 ≤ w'.heap.size) := by
  have c1 : w.cell? ⟨p, 0, none⟩ = some (.map (some m)) := by rw [cell_of_row w p _ _ _ _ hb]; rfl
  have hp : p < w.heap.size := (Array.getElem?_eq_some_iff.1 hb).1
  have hml := hm.lt
  have hbel : Below w.heap.size w ((w.alloc (.cells #[(Value.int .i64) k] 3)).alloc (.cells #[.slice (some ⟨w.heap.size, 0, none⟩) 1 1] 68)) := ((Below.refl _ _).alloc (Nat.le_refl _) _).alloc (by simp) _
  have hm2 := hm.kept (w' := (w.alloc (.cells #[(Value.int .i64) k] 3)).alloc (.cells #[.slice (some ⟨w.heap.size, 0, none⟩) 1 1] 68)) (hbel.block m hml)
  obtain ⟨w', hr, g1, g2⟩ := hm2.put_ kitN (t := 55) (e := 65) Try.underlying55 (by unfold maxLen; omega) k hk (w.heap.size + 1)
  rw [← hN'] at g1
  have n1 : ((w.alloc (.cells #[(Value.int .i64) k] 3)).alloc (.cells #[.slice (some ⟨w.heap.size, 0, none⟩) 1 1] 68)).heap[w.heap.size + 1]? = some (.cells #[.slice (some ⟨w.heap.size, 0, none⟩) 1 1] 68 (0, 0)) := by
    have := heap_alloc_new (w.alloc (.cells #[(Value.int .i64) k] 3)) (.cells #[.slice (some ⟨w.heap.size, 0, none⟩) 1 1] 68)
    simpa using this
  have n0 : ((w.alloc (.cells #[(Value.int .i64) k] 3)).alloc (.cells #[.slice (some ⟨w.heap.size, 0, none⟩) 1 1] 68)).heap[w.heap.size]? = some (.cells #[(Value.int .i64) k] 3 (0, 0)) :=
    (((Below.refl _ (w.alloc (.cells #[(Value.int .i64) k] 3))).alloc (Nat.le_refl _) _).block _ (by simp)).trans (heap_alloc_new w _)
  have HF : Hid (∃ x : Part Int, x.ks = [k] ∧ x.q = w.heap.size + 1 ∧ x.v.ownBlock = some w.heap.size ∧ RowN w' x ∧ MapFn 3 klN okN w' m (put f k (some x.q)) N' ∧ Turned (fun b => b = m) w w' ∧ w.heap.size + 2 ≤ w'.heap.size) := by
    have ht := turned_map (S := fun b => b = m) g2 rfl
    refine ⟨⟨w.heap.size + 1, .slice (some ⟨w.heap.size, 0, none⟩) 1 1, [k]⟩, rfl, rfl, rfl, ⟨?_, rfl, .inr ⟨w.heap.size, 1, #[(Value.int .i64) k], rfl, Nat.zero_le _, ?_, Nat.le_refl _, by unfold maxLen; omega, rfl, rfl⟩⟩, g1, (turned_of_below hbel).trans ht, ?_⟩
    · exact (ht.block _ (by simp) (by show ¬ (w.heap.size + 1 = m); omega)).trans n1
    · exact (ht.block _ (by simp; omega) (by show ¬ (w.heap.size = m); omega)).trans n0
    · have := ht.size; simpa using this
  simp only [ptr] at hr
  clear hm hm2 g1 g2 n1 n0 hb hbel hN hN'
  go_enter Try.func45, Try.ntmps45
  go_wp2_with fail
  go_end0
  exact ⟨rfl, unhide HF⟩

theorem PAtN.added {w w' : World} {p m : Nat} {S : List (Part Int)} {k : Int} {x : Part Int} (h : PAtN w p m S) (hk : okN k) (hno : ∀ z ∈ S, k ∉ z.ks) (h1 : x.ks = [k]) (h2 : x.q = w.heap.size + 1) (h3 : x.v.ownBlock = some w.heap.size) (h4 : RowN w' x)
    (h5 : MapFn 3 klN okN w' m (put (fOf S) k (some x.q)) (tot S + 1)) (h6 : Turned (fun b => b = m) w w') : PAtN w' p m (S ++ [x]) := by
  obtain ⟨k1, k2⟩ := h.kinds
  refine ⟨(h6.block p (h.lt (.inl rfl)) k1).trans h.box, fun z hz => ?_, h.fam.append (fam_one (by rw [h1]; exact List.pairwise_singleton _ _) (by rw [h1]; simp) (by rw [h1]; intro j hj; rw [List.mem_singleton.1 hj]; exact hk)) (fun z hz y hy => ?_), ?_⟩
  · rcases List.mem_append.1 hz with hz | hz
    · exact (h.rows z hz).kept (h6.block _ (h.rows z hz).lt.1 (k2 z hz).2.1) (fun b hb => h6.block b ((h.rows z hz).lt.2 b hb) ((k2 z hz).2.2 b hb).2.1)
    · rw [List.mem_singleton.1 hz]; exact h4
  · rw [List.mem_singleton.1 hy]
    refine ⟨fun e => ?_, fun b hb e => ?_, fun j hj e => ?_⟩
    · have := (h.rows z hz).lt.1; omega
    · have := (h.rows z hz).lt.2 b hb
      rw [h3] at e
      injection e with e
      omega
    · rw [h1] at e
      rw [List.mem_singleton.1 e] at hj
      exact hno z hz hj
  · rw [tot_append, tot_one, h1]
    refine h5.congr (fun j _ => ?_)
    rw [fOf_append, fOf_one, h1]
    unfold put
    by_cases e : j = k
    · subst e
      rw [fOf_none.2 hno]
      simp
    · simp [e]

set_option maxHeartbeats 1000000 in
set_option maxRecDepth 100000 in
theorem addInN {p m : Nat} {S : List (Part Int)} {x : Part Int} (k : Int) (w : World) (h : PAtN w p m S) (hx : x ∈ S) (hk : k ∈ x.ks) : Calls Try.prog 26 #[.pointer (some ⟨p, 0, none⟩), (Value.int .i64) k] w fun e w' => e = .returned (.bool false) ∧ w' = w := by
  have c1 := h.cell
  have hl := h.look k (h.fam.keys x hx k hk)
  rw [fOf_some h.fam hx hk] at hl
  simp only [ptr] at hl
  clear h
  go_enter Try.func26, Try.ntmps26
  go_wp2_with fail
  go_ret
  exact ⟨rfl, rfl⟩

set_option maxHeartbeats 1000000 in
set_option maxRecDepth 100000 in
theorem addN {p m : Nat} {S : List (Part Int)} (k : Int) (w : World) (h : PAtN w p m S) (hk : okN k) (hno : ∀ z ∈ S, k ∉ z.ks) (hn : tot S < 1099511627776) : Calls Try.prog 26 #[.pointer (some ⟨p, 0, none⟩), (Value.int .i64) k] w fun e w' => e = .returned (.bool true) ∧
    Hid (∃ x : Part Int, x.ks = [k] ∧ PAtN w' p m (S ++ [x]) ∧ Turned (FootN p m S) w w' ∧ ∀ j, FootN p m (S ++ [x]) j → FootN p m S j ∨ w.heap.size ≤ j) := by
  have c1 := h.cell
  have hl := h.look k hk
  rw [fOf_none.2 hno] at hl
  simp only [ptr] at hl
  have CS := hide (setN (tot S + 1) k w h.box h.map hk hn (by rw [fOf_none.2 hno]; rfl))
  have HP : Hid (∀ w' (x : Part Int), x.ks = [k] → x.q = w.heap.size + 1 → x.v.ownBlock = some w.heap.size → RowN w' x → MapFn 3 klN okN w' m (put (fOf S) k (some x.q)) (tot S + 1) → Turned (fun b => b = m) w w' → PAtN w' p m (S ++ [x]) ∧ Turned (FootN p m S) w w' ∧ ∀ j, FootN p m (S ++ [x]) j → FootN p m S j ∨ w.heap.size ≤ j) := fun w' x h1 h2 h3 h4 h5 h6 => by
    refine ⟨h.added hk hno h1 h2 h3 h4 h5 h6, h6.mono (fun b _ e => .inr (.inl e)), fun j hj => ?_⟩
    rcases hj with e | e | ⟨z, hz, e⟩
    · exact .inl (.inl e)
    · exact .inl (.inr (.inl e))
    · rcases List.mem_append.1 hz with hz | hz
      · exact .inl (.inr (.inr ⟨z, hz, e⟩))
      · rw [List.mem_singleton.1 hz] at e
        rcases e with e | e
        · exact .inr (by omega)
        · rw [h3] at e; injection e with e; exact .inr (by omega)
  clear h hn
  go_enter Try.func26, Try.ntmps26
  go_wp2_with fail
  refine (unhide CS).mono ?_
  rintro e w' ⟨rfl, hx⟩
  obtain ⟨x, h1, h2, h3, h4, h5, h6, -⟩ := unhide hx
  have HR := hide (unhide HP w' x h1 h2 h3 h4 h5 h6)
  clear CS hx h2 h3 h4 h5 h6 HP
  go_wp2_with fail
  go_ret
  exact ⟨rfl, x, h1, unhide HR⟩

set_option maxHeartbeats 1000000 in
set_option maxRecDepth 100000 in
theorem membersNoN {p m : Nat} {S : List (Part Int)} (k : Int) (w : World) (h : PAtN w p m S) (hk : okN k) (hno : ∀ x ∈ S, k ∉ x.ks) : Calls Try.prog 12 #[.pointer (some ⟨p, 0, none⟩), (Value.int .i64) k] w fun e w' => e = .returned (.slice none 0 0) ∧ w' = w := by
  have c1 := h.cell
  have hl := h.look k hk
  rw [fOf_none.2 hno] at hl
  simp only [ptr] at hl
  clear h
  go_enter Try.func12, Try.ntmps12
  go_wp2_with fail
  go_ret
  exact ⟨rfl, rfl⟩

set_option maxHeartbeats 1000000 in
set_option maxRecDepth 100000 in
theorem membersN {p m : Nat} {S : List (Part Int)} {x : Part Int} (k : Int) (w : World) (h : PAtN w p m S) (hx : x ∈ S) (hk : k ∈ x.ks) (hn : tot S < 1099511627776) : Calls Try.prog 12 #[.pointer (some ⟨p, 0, none⟩), (Value.int .i64) k] w fun e w' => ∃ v', e = .returned v' ∧
    Hid (w'.ownsRow w.heap.size 3 1 v' x.ks.length (x.ks.map (Value.int .i64)) ∧ Below w.heap.size w w') := by
  have c1 := h.cell
  have hl := h.look k (h.fam.keys x hx k hk)
  rw [fOf_some h.fam hx hk] at hl
  simp only [ptr] at hl
  obtain ⟨g, c, e, -, -, -, -, hc⟩ := (h.rows x hx).some_ (h.fam.some_ x hx)
  have c2 := (h.rows x hx).cell.1
  have hlen := len_le_tot hx
  have CC := hide (cloneN g c x.ks w (by omega) hc)
  rw [e] at c2
  generalize x.q = q at *
  generalize hL : x.ks.length = L at *
  clear h hc hL hn hlen
  go_enter Try.func12, Try.ntmps12
  go_wp2_with fail
  refine (unhide CC).mono ?_
  rintro e w' ⟨v', rfl, h1⟩
  have H1 := hide h1
  clear CC h1
  go_wp2_with fail
  go_ret
  exact ⟨v', rfl, unhide H1⟩
end Go.Proofs.Ytfhidghjmookhaa

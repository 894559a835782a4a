/- Burst. -/
import Derived.Test.YtfhidghjmookhaaDropN
namespace Go.Proofs.Ytfhidghjmookhaa
open Go.RowKit Go.Maps

set_option maxHeartbeats 1000000 in
set_option maxRecDepth 100000 in
theorem burstNoN {p m : Nat} {S : List (Part Int)} (k : Int) (w : World) (h : PAtN w p m S) (hk : okN k) (hno : ∀ x ∈ S, k ∉ x.ks) : Calls Try.prog 35 #[.pointer (some ⟨p, 0, none⟩), (Value.int .i64) k] w fun e w' => e = .returned (.bool false) ∧ w' = w := by
  have c1 := h.cell
  have hl := h.look k hk
  rw [fOf_none.2 hno] at hl
  simp only [ptr] at hl
  clear h
  go_enter Try.func35, Try.ntmps35
  go_wp2_with fail
  go_ret
  exact ⟨rfl, rfl⟩

/-- Single parts, one for each thing of a list. -/
structure SinglesN (w0 w : World) (l : List Int) (T : List (Part Int)) : Prop where
  keys : T.map (·.ks) = l.map (fun k => [k])
  rows : ∀ z ∈ T, RowN w z
  apart : T.Pairwise Apart
  new : ∀ z ∈ T, w0.heap.size ≤ z.q ∧ ∀ b, z.v.ownBlock = some b → w0.heap.size ≤ b

theorem SinglesN.mem {w0 w : World} {l : List Int} {T : List (Part Int)} (h : SinglesN w0 w l T) {z : Part Int} (hz : z ∈ T) : ∃ k ∈ l, z.ks = [k] := by
  have : z.ks ∈ T.map (·.ks) := List.mem_map.2 ⟨z, hz, rfl⟩
  rw [h.keys] at this
  obtain ⟨k, hk, e⟩ := List.mem_map.1 this
  exact ⟨k, hk, e.symm⟩
theorem SinglesN.of {w0 w : World} {l : List Int} {T : List (Part Int)} (h : SinglesN w0 w l T) {k : Int} (hk : k ∈ l) : ∃ z ∈ T, z.ks = [k] := by
  have : [k] ∈ l.map (fun k => [k]) := List.mem_map.2 ⟨k, hk, rfl⟩
  rw [← h.keys] at this
  obtain ⟨z, hz, e⟩ := List.mem_map.1 this
  exact ⟨z, hz, e⟩
theorem SinglesN.none {w0 w : World} {l : List Int} {T : List (Part Int)} (h : SinglesN w0 w l T) {k : Int} (hk : k ∉ l) : fOf T k = none := by
  rw [fOf_none]
  intro z hz e
  obtain ⟨j, hj, e2⟩ := h.mem hz
  rw [e2, List.mem_singleton] at e
  exact hk (e ▸ hj)
theorem SinglesN.fam {w0 w : World} {l : List Int} {T : List (Part Int)} (h : SinglesN w0 w l T) (hok : ∀ k ∈ l, okN k) : Fam ltN okN T := by
  refine ⟨fun z hz => ?_, fun z hz => ?_, fun z hz k hk => ?_, h.apart⟩
  · obtain ⟨k, -, e⟩ := h.mem hz
    rw [e]; exact List.pairwise_singleton _ _
  · obtain ⟨k, -, e⟩ := h.mem hz
    rw [e]; simp
  · obtain ⟨j, hj, e⟩ := h.mem hz
    rw [e, List.mem_singleton] at hk
    exact hk ▸ hok j hj
theorem SinglesN.tot {w0 w : World} {l : List Int} {T : List (Part Int)} (h : SinglesN w0 w l T) : tot T = l.length := by
  have e : T.map (fun z => z.ks.length) = (T.map (·.ks)).map List.length := by rw [List.map_map]; rfl
  unfold Ytfhidghjmookhaa.tot
  rw [e, h.keys, List.map_map]
  clear h e
  induction l with
  | nil => rfl
  | cons a l ih =>
    rw [List.map_cons, List.sum_cons, ih, List.length_cons]
    show 1 + l.length = _
    omega

/-- In the midst of it: the first j things stand alone. -/
structure MidN (w0 : World) (p m : Nat) (S : List (Part Int)) (x : Part Int) (j : Nat) (w : World) (T : List (Part Int)) : Prop where
  box : w.heap[p]? = some (.cells #[.map (some m)] 57 (0, 0))
  rows : ∀ z ∈ S, RowN w z
  ones : SinglesN w0 w (x.ks.take j) T
  map : MapFn 3 klN okN w m (fun k => if k ∈ x.ks.take j then fOf T k else fOf S k) (tot S)
  turned : Turned (fun b => b = m) w0 w

theorem mid0N {w : World} {p m : Nat} {S : List (Part Int)} (h : PAtN w p m S) (x : Part Int) : MidN w p m S x 0 w [] :=
  ⟨h.box, h.rows, ⟨rfl, fun z hz => by simp at hz, .nil, fun z hz => by simp at hz⟩, h.map.congr (fun k _ => by simp), Turned.refl _ _⟩

theorem MidN.next {w0 w w' : World} {p m j : Nat} {S T : List (Part Int)} {x y : Part Int} (h0 : PAtN w0 p m S) (hx : x ∈ S) (h : MidN w0 p m S x j w T) (hj : j < x.ks.length) (h1 : y.ks = [x.ks.getD j (0 : Int)]) (h2 : y.q = w.heap.size + 1) (h3 : y.v.ownBlock = some w.heap.size) (h4 : RowN w' y)
    (h5 : MapFn 3 klN okN w' m (put (fun k => if k ∈ x.ks.take j then fOf T k else fOf S k) (x.ks.getD j (0 : Int)) (some y.q)) (tot S)) (h6 : Turned (fun b => b = m) w w') : MidN w0 p m S x (j + 1) w' (T ++ [y]) := by
  obtain ⟨k1, k2⟩ := h0.kinds
  have hml := h0.map.lt
  have hs := h.turned.size
  have e1 : x.ks.getD j (0 : Int) = x.ks[j] := by simp [List.getD, hj]
  have e2 : x.ks.take (j + 1) = x.ks.take j ++ [x.ks[j]] := List.take_succ_eq_append_getElem hj
  have hnd := (h0.fam.rise x hx).nodup linN
  have hni : x.ks[j] ∉ x.ks.take j := fun hm => by
    have h7 : (x.ks.take (j + 1)).Nodup := hnd.sublist (List.take_sublist _ _)
    rw [e2] at h7
    exact (List.pairwise_append.1 h7).2.2 _ hm _ (List.mem_singleton.2 rfl) rfl
  rw [e1] at h1 h5
  refine ⟨(h6.block p (Nat.lt_of_lt_of_le (h0.lt (.inl rfl)) hs) k1).trans h.box, fun z hz => ?_, ⟨?_, fun z hz => ?_, ?_, fun z hz => ?_⟩, ?_, h.turned.trans h6⟩
  · exact (h.rows z hz).kept (h6.block _ (h.rows z hz).lt.1 (k2 z hz).2.1) (fun b hb => h6.block b ((h.rows z hz).lt.2 b hb) ((k2 z hz).2.2 b hb).2.1)
  · rw [List.map_append, h.ones.keys, e2, List.map_append, List.map_singleton, List.map_singleton, h1]
  · rcases List.mem_append.1 hz with hz | hz
    · have hr := h.ones.rows z hz
      have hw := h.ones.new z hz
      exact hr.kept (h6.block _ hr.lt.1 (by have := hw.1; omega)) (fun b hb => h6.block b (hr.lt.2 b hb) (by have := hw.2 b hb; omega))
    · rw [List.mem_singleton.1 hz]; exact h4
  · refine List.pairwise_append.2 ⟨h.ones.apart, List.pairwise_singleton _ _, fun z hz y' hy => ?_⟩
    rw [List.mem_singleton.1 hy]
    have hr := h.ones.rows z hz
    refine ⟨by have := hr.lt.1; omega, fun b hb e => ?_, fun k hk e => ?_⟩
    · have := hr.lt.2 b hb
      rw [h3] at e; injection e with e; omega
    · obtain ⟨i, hi, e3⟩ := h.ones.mem hz
      rw [e3, List.mem_singleton] at hk
      rw [h1, List.mem_singleton] at e
      exact hni (e ▸ hk ▸ hi)
  · rcases List.mem_append.1 hz with hz | hz
    · exact h.ones.new z hz
    · rw [List.mem_singleton.1 hz]
      refine ⟨by omega, fun b hb => ?_⟩
      rw [h3] at hb; injection hb with hb; omega
  · refine h5.congr (fun k _ => ?_)
    unfold put
    rw [e2, fOf_append, fOf_one, h1]
    by_cases e : k = x.ks[j]
    · subst e
      rw [if_pos rfl, if_pos (List.mem_append.2 (.inr (List.mem_singleton.2 rfl))), h.ones.none hni]; simp
    · rw [if_neg e]
      show _ = if k ∈ x.ks.take j then fOf T k else fOf S k
      by_cases ek : k ∈ x.ks.take j
      · rw [if_pos ek, if_pos (List.mem_append.2 (.inl ek))]
        simp [e]
      · rw [if_neg ek, if_neg (fun hm => (List.mem_append.1 hm).elim ek (fun h => e (List.mem_singleton.1 h)))]

theorem MidN.done {w w' : World} {p m : Nat} {S T : List (Part Int)} {x : Part Int} (h0 : PAtN w p m S) (hx : x ∈ S) (h : MidN w p m S x x.ks.length w' T) : T.map (·.ks) = x.ks.map (fun k => [k]) ∧ PAtN w' p m (without x S ++ T) ∧ Turned (FootN p m S) w w' ∧ ∀ j, FootN p m (without x S ++ T) j → FootN p m S j ∨ w.heap.size ≤ j := by
  obtain ⟨a1, a2, a3, a4, a5⟩ := h
  rw [List.take_length] at a3 a4
  refine ⟨a3.keys, ⟨a1, fun z hz => ?_, (h0.fam.without x).append (a3.fam (fun k hk => h0.fam.keys x hx k hk)) (fun z hz y hy => ?_), ?_⟩, a5.mono (fun b _ e => .inr (.inl e)), fun j hj => ?_⟩
  · rcases List.mem_append.1 hz with hz | hz
    · exact a2 z (mem_without.1 hz).1
    · exact a3.rows z hz
  · obtain ⟨z1, z2⟩ := mem_without.1 hz
    have hw := a3.new y hy
    have hr := h0.rows z z1
    refine ⟨by have := hr.lt.1; omega, fun b hb e => ?_, fun k hk e => ?_⟩
    · have q1 := hr.lt.2 b hb
      have q2 := hw.2 b e
      omega
    · obtain ⟨i, hi, e3⟩ := a3.mem hy
      rw [e3, List.mem_singleton] at e
      have hza : Apart z x := (h0.fam.of z1 hx).resolve_left (fun e => z2 (e ▸ rfl))
      exact hza.2.2 k hk (e ▸ hi)
  · rw [tot_append, a3.tot, show tot (without x S) + x.ks.length = tot S by have := tot_without h0.fam hx; omega]
    refine a4.congr (fun k _ => ?_)
    rw [fOf_append, fOf_without h0.fam hx]
    by_cases ek : k ∈ x.ks
    · rw [if_pos ek, if_pos ek]; rfl
    · rw [if_neg ek, if_neg ek, a3.none ek]; simp
  · rcases hj with e | e | ⟨z, hz, e⟩
    · exact .inl (.inl e)
    · exact .inl (.inr (.inl e))
    · rcases List.mem_append.1 hz with hz | hz
      · exact .inl (.inr (.inr ⟨z, (mem_without.1 hz).1, e⟩))
      · have hw := a3.new z hz
        rcases e with e | e
        · exact .inr (by have := hw.1; omega)
        · exact .inr (hw.2 j e)

set_option maxHeartbeats 1000000 in
set_option maxRecDepth 100000 in
theorem burstN {p m : Nat} {S : List (Part Int)} {x : Part Int} (k : Int) (w : World) (h : PAtN w p m S) (hx : x ∈ S) (hk : k ∈ x.ks) (hn : tot S < 1099511627776) : Calls Try.prog 35 #[.pointer (some ⟨p, 0, none⟩), (Value.int .i64) k] w fun e w' => e = .returned (.bool true) ∧
    Hid (∃ T, T.map (·.ks) = x.ks.map (fun k => [k]) ∧ PAtN w' p m (without x S ++ T) ∧ Turned (FootN p m S) w w' ∧ ∀ j, FootN p m (without x S ++ T) j → FootN p m S j ∨ w.heap.size ≤ j) := by
  have c1 := h.cell
  have hl := h.look k (h.fam.keys x hx k hk)
  rw [fOf_some h.fam hx hk] at hl
  simp only [ptr] at hl
  obtain ⟨g, c, ev, -⟩ := (h.rows x hx).some_ (h.fam.some_ x hx)
  have c2 := (h.rows x hx).cell.1
  have hlen := len_le_tot hx
  have HST : Hid (∀ j wr T, j < x.ks.length → MidN w p m S x j wr T → wr.cell? ⟨g, j, none⟩ = some ((Value.int .i64) (x.ks.getD j (0 : Int))) ∧ Calls Try.prog 45 #[.pointer (some ⟨p, 0, none⟩), (Value.int .i64) (x.ks.getD j (0 : Int))] wr fun e w' => e = .returned (.tuple #[]) ∧ Hid (∃ T', MidN w p m S x (j + 1) w' T')) := fun j wr T hj hM => by
    obtain ⟨g', c', ev', -, -, -, -, hc⟩ := (hM.rows x hx).some_ (h.fam.some_ x hx)
    have hgg : g' = g := by rw [ev'] at ev; simp only [Value.slice.injEq, Option.some.injEq, Addr.mk.injEq] at ev; exact ev.1.1
    refine ⟨hgg ▸ hc j hj, ?_⟩
    have hm : x.ks.getD j (0 : Int) ∈ x.ks := by
      have : x.ks.getD j (0 : Int) = x.ks[j] := by simp [List.getD, hj]
      rw [this]; exact List.getElem_mem hj
    refine (setN (tot S) (x.ks.getD j (0 : Int)) wr hM.box hM.map (h.fam.keys x hx _ hm) hn ?_).mono fun e w' hh => ⟨hh.1, ?_⟩
    · have : (if x.ks.getD j (0 : Int) ∈ x.ks.take j then fOf T (x.ks.getD j (0 : Int)) else fOf S (x.ks.getD j (0 : Int))).isSome = true := by
        split
        · rename_i hin
          obtain ⟨z, hz, e⟩ := hM.ones.of hin
          rw [fOf_some (hM.ones.fam (fun k hk => h.fam.keys x hx k (List.mem_of_mem_take hk))) hz (by rw [e]; simp)]
          rfl
        · rw [fOf_some h.fam hx hm]; rfl
      rw [if_pos this]
    · obtain ⟨y, h1, h2, h3, h4, h5, h6, -⟩ := unhide hh.2
      exact ⟨_, hM.next h hx hj h1 h2 h3 h4 h5 h6⟩
  have HDN : Hid (∀ wr T, MidN w p m S x x.ks.length wr T → ∃ T, T.map (·.ks) = x.ks.map (fun k => [k]) ∧ PAtN wr p m (without x S ++ T) ∧ Turned (FootN p m S) w wr ∧ ∀ j, FootN p m (without x S ++ T) j → FootN p m S j ∨ w.heap.size ≤ j) := fun wr T hM => ⟨T, hM.done h hx⟩
  have HM0 : Hid (∃ T, MidN w p m S x 0 w T) := ⟨_, mid0N h x⟩
  rw [ev] at c2
  generalize x.q = q at *
  generalize hL : x.ks.length = L at *
  have HL : Hid (L < 1099511627776) := by show L < 1099511627776; omega
  clear h hn hlen hL
  go_enter Try.func35, Try.ntmps35
  go_wp2_with fail
  go_loopw [21] (fun s21 wr => ∃ j : Nat, j ≤ L ∧ s21 = .int .i64 j ∧ Hid (∃ T, MidN w p m S x j wr T)) (fun s21 _ => L - (intOf s21).toNat)
  case atStart => exact ⟨0, Nat.zero_le _, rfl, unhide HM0⟩
  case round =>
    obtain ⟨j, hj, rfl, HM⟩ := hrel
    by_cases hlt : j < L
    · have hltz : (j : Int) < (L : Int) := by omega
      obtain ⟨T, hT⟩ := unhide HM
      obtain ⟨d1, CS⟩ := unhide HST j wr T hlt hT
      have HCS := hide CS
      have hjw : IntKind.i64.wrap ((j : Int) + 1) = ((j + 1 : Nat) : Int) := by rw [IntKind.wrap_i64]; have := unhide HL; omega
      generalize x.ks.getD j (0 : Int) = kj at *
      clear CS hT HM
      go_wp2_with fail
      refine (unhide HCS).mono ?_
      rintro e w5 ⟨rfl, h5⟩
      clear HCS
      go_wp2_with fail
      go_roundw
      case rel => exact ⟨j + 1, by omega, rfl, unhide h5⟩
      case measure => simp [intOf]; omega
    · have hltz : ¬ (j : Int) < (L : Int) := by omega
      obtain rfl : j = L := by omega
      obtain ⟨T, hT⟩ := unhide HM
      have HR := hide (unhide HDN wr T hT)
      clear HM hT HDN HST
      go_wp2_with fail
      go_ret
      exact ⟨rfl, unhide HR⟩
end Go.Proofs.Ytfhidghjmookhaa

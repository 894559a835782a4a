/- Drop. -/
import Derived.Test.YtfhidghjmookhaaActN
namespace Go.Proofs.Ytfhidghjmookhaa
open Go.RowKit Go.Maps

set_option maxHeartbeats 1000000 in
set_option maxRecDepth 100000 in
theorem dropNoN {p m : Nat} {S : List (Part Int)} (k : Int) (w : World) (h : PAtN w p m S) (hk : okN k) (hno : ∀ x ∈ S, k ∉ x.ks) : Calls Try.prog 32 #[.pointer (some ⟨p, 0, none⟩), (Value.int .i64) k] w fun e w' => e = .returned (.bool false) ∧ w' = w := by
  have c1 := h.cell
  have hl := h.look k hk
  rw [fOf_none.2 hno] at hl
  simp only [ptr] at hl
  clear h
  go_enter Try.func32, Try.ntmps32
  go_wp2_with fail
  go_ret
  exact ⟨rfl, rfl⟩

/-- What Drop leaves. -/
def DroppedN (w : World) (p m : Nat) (S : List (Part Int)) (x : Part Int) (k : Int) (w' : World) : Prop :=
  ∃ T : List (Part Int), PAtN w' p m (without x S ++ T) ∧ (∀ y ∈ T, ∀ j, j ∈ y.ks ↔ j ∈ x.ks ∧ j ≠ k) ∧ (T = [] ∧ x.ks = [k] ∨ ∃ y, T = [y] ∧ y.q = x.q) ∧ Turned (FootN p m S) w w' ∧ (∀ j, FootN p m (without x S ++ T) j → FootN p m S j ∨ w.heap.size ≤ j) ∧ tot (without x S ++ T) + 1 = tot S

theorem PAtN.dropped {w w2 : World} {p m g c q1 : Nat} {S : List (Part Int)} {x : Part Int} {k : Int} (h : PAtN w p m S) (hx : x ∈ S) (hk : k ∈ x.ks) (hv : x.v = .slice (some ⟨g, 0, none⟩) x.ks.length c)
    (hr : w2.ownsRow 0 3 1 (.slice (some ⟨g, 0, none⟩) (x.ks.length - 1) c) (x.ks.length - 1) ((x.ks.take (cnt ltN x.ks k) ++ x.ks.drop (cnt ltN x.ks k + 1)).map (Value.int .i64))) (ht : Turned (fun b => b = g) (w.drewN q1) w2) :
    w2.cell? ⟨p, 0, none⟩ = some (.map (some m)) ∧ w2.cell? ⟨x.q, 0, none⟩ = some x.v ∧ w2.frozen? ⟨x.q, 0, none⟩ = false ∧ p ≠ x.q ∧
    ∃ w4, (Builtin.delete_ #[55, 3] 0 #[.map (some m), (Value.int .i64) k]).run Try.prog (w2.setCell ⟨x.q, 0, none⟩ (.slice (some ⟨g, 0, none⟩) (x.ks.length - 1) c)) = .ok (.tuple #[]) w4 ∧ DroppedN w p m S x k w4 := by
  obtain ⟨k1, k2⟩ := h.kinds
  obtain ⟨kx1, kx2, kx3⟩ := k2 x hx
  have hg : x.v.ownBlock = some g := by rw [hv]; rfl
  obtain ⟨kg1, kg2, kg3⟩ := kx3 g hg
  have hb2 : ∀ b, b < w.heap.size → b ≠ g → w2.heap[b]? = w.heap[b]? := fun b h1 h2 => ht.block b h1 h2
  have hgq := kg3 x hx
  have e1 : w2.heap[x.q]? = some (.cells #[x.v] 68 (0, 0)) := (hb2 _ (h.rows x hx).lt.1 (fun e => hgq e.symm)).trans (h.rows x hx).box
  have e2 : w2.heap[p]? = some (.cells #[.map (some m)] 57 (0, 0)) := (hb2 _ (h.lt (.inl rfl)) (fun e => kg1 e.symm)).trans h.box
  obtain ⟨f1, f2, f3, f4⟩ := cut_one linN (h.fam.rise x hx) hk
  generalize hkk : x.ks.take (cnt ltN x.ks k) ++ x.ks.drop (cnt ltN x.ks k + 1) = kk at *
  refine ⟨by rw [cell_of_row _ _ _ _ _ _ e2]; rfl, by rw [cell_of_row _ _ _ _ _ _ e1]; rfl, frozen_of_row _ _ _ _ _ e1, fun e => kx1 e.symm, ?_⟩
  have hm3 : MapFn 3 klN okN (w2.setCell ⟨x.q, 0, none⟩ (.slice (some ⟨g, 0, none⟩) (x.ks.length - 1) c)) m (fOf S) (tot S) :=
    (h.map.kept (hb2 m h.map.lt (fun e => kg2 e.symm))).kept (heap_setCell_other w2 ⟨x.q, 0, none⟩ m _ (fun e => kx2 e.symm))
  have htot := tot_without h.fam hx
  obtain ⟨N, hN⟩ : ∃ N, tot S = N + 1 := ⟨tot S - 1, by omega⟩
  rw [hN] at hm3
  obtain ⟨w4, hr4, g1, g2⟩ := hm3.del_ kitN (t := 55) (e := 65) Try.underlying55 k (h.fam.keys x hx k hk) (by rw [fOf_some h.fam hx hk]; rfl) 0
  refine ⟨w4, hr4, ?_⟩
  have t1 : Turned (FootN p m S) w w2 := ⟨ht.os, ht.tape, ht.output, ht.size, fun b hb hn => hb2 b hb (fun e => hn (.inr (.inr ⟨x, hx, .inr (e ▸ hg)⟩)))⟩
  have t2 : Turned (FootN p m S) w w4 := (t1.trans (turned_setCell w2 ⟨x.q, 0, none⟩ _ (.inr (.inr ⟨x, hx, .inl rfl⟩)))).trans (turned_map g2 (.inr (.inl rfl)))
  have hb4 : ∀ b, b < w2.heap.size → b ≠ x.q → b ≠ m → w4.heap[b]? = w2.heap[b]? := fun b h1 h2 h3 =>
    ((turned_map (S := fun b => b = m) g2 rfl).block b (by simpa using h1) h3).trans (heap_setCell_other w2 ⟨x.q, 0, none⟩ b _ h2)
  have s2 : ∀ b, b < w.heap.size → b < w2.heap.size := fun b hb => Nat.lt_of_lt_of_le hb ht.size
  have hbox4 : w4.heap[p]? = some (.cells #[.map (some m)] 57 (0, 0)) := (hb4 p (s2 p (h.lt (.inl rfl))) (fun e => kx1 e.symm) k1).trans e2
  have hrows4 : ∀ z ∈ without x S, RowN w4 z := fun z hz => by
    obtain ⟨z1, z2⟩ := mem_without.1 hz
    obtain ⟨kz1, kz2, kz3⟩ := k2 z z1
    have hza : Apart x z := (h.fam.of hx z1).resolve_left (fun e => z2 (e ▸ rfl))
    refine (h.rows z z1).kept ?_ (fun b hb => ?_)
    · exact (hb4 _ (s2 _ (h.rows z z1).lt.1) z2 kz2).trans (hb2 _ (h.rows z z1).lt.1 (fun e => kg3 z z1 e.symm))
    · have hl := (h.rows z z1).lt.2 b hb
      exact (hb4 b (s2 b hl) ((kz3 b hb).2.2 x hx) (kz3 b hb).2.1).trans (hb2 b hl (fun e => hza.2.1 g hg (e ▸ hb)))
  have hfm : ∀ T : List (Part Int), (∀ j, fOf T j = if j ∈ kk then some x.q else none) → ∀ j, fOf (without x S ++ T) j = put (fOf S) k none j := fun T hT j => by
    rw [fOf_append, fOf_without h.fam hx, hT]
    unfold put
    by_cases e : j = k
    · subst e
      rw [if_pos hk, if_neg (fun e => (f2 j).1 e |>.2 rfl), if_pos rfl]; rfl
    · rw [if_neg e]
      by_cases ej : j ∈ x.ks
      · rw [if_pos ej, if_pos ((f2 j).2 ⟨ej, e⟩), fOf_some h.fam hx ej]; rfl
      · rw [if_neg ej, if_neg (fun e => ej ((f2 j).1 e).1)]; simp
  by_cases hnil : kk = []
  · refine ⟨[], ?_, fun y hy => by simp at hy, .inl ⟨rfl, ?_⟩, t2, fun j hj => ?_, by rw [List.append_nil]; rw [hnil] at f3; simp at f3; omega⟩
    · rw [List.append_nil]
      refine ⟨hbox4, hrows4, h.fam.without x, ?_⟩
      rw [hnil] at f3
      simp at f3
      rw [show tot (without x S) = N by omega]
      refine g1.congr (fun j _ => ?_)
      have := hfm [] (fun j => by rw [hnil]; simp [fOf_nil]) j
      rwa [List.append_nil] at this
    · rw [hnil] at f3
      simp at f3
      match hks : x.ks, f3 with
      | [a], _ => rw [hks] at hk; rw [List.mem_singleton.1 hk]
    · rw [List.append_nil] at hj
      rcases hj with e | e | ⟨z, hz, e⟩
      · exact .inl (.inl e)
      · exact .inl (.inr (.inl e))
      · exact .inl (.inr (.inr ⟨z, (mem_without.1 hz).1, e⟩))
  · refine ⟨[⟨x.q, .slice (some ⟨g, 0, none⟩) (x.ks.length - 1) c, kk⟩], ⟨hbox4, fun z hz => ?_, (h.fam.without x).append (fam_one f1 hnil (fun j hj => h.fam.keys x hx j ((f2 j).1 hj).1)) (fun z hz y hy => ?_), ?_⟩, fun y hy j => by rw [List.mem_singleton.1 hy]; exact f2 j, .inr ⟨_, rfl, rfl⟩, t2, fun j hj => ?_, by rw [tot_append, tot_one]; show tot (without x S) + kk.length + 1 = tot S; omega⟩
    · rcases List.mem_append.1 hz with hz | hz
      · exact hrows4 z hz
      · rw [List.mem_singleton.1 hz]
        have hkl : kk.length = x.ks.length - 1 := by omega
        have hx4 : w4.heap[x.q]? = some (.cells #[.slice (some ⟨g, 0, none⟩) (x.ks.length - 1) c] 68 (0, 0)) := by
          refine ((turned_map (S := fun b => b = m) g2 rfl).block x.q (by simpa using s2 _ (h.rows x hx).lt.1) kx2).trans ?_
          exact heap_setCell_same w2 x.q 0 _ _ _ e1
        refine ⟨hx4, ?_⟩
        show w4.ownsRow 0 3 1 (.slice (some ⟨g, 0, none⟩) (x.ks.length - 1) c) kk.length (kk.map (Value.int .i64))
        rw [hkl]
        refine ⟨hr.1, ?_⟩
        rcases hr.2 with hn | ⟨g', cap, cur, e, hb, hgg, rest⟩
        · exact .inl hn
        · refine .inr ⟨g', cap, cur, e, hb, ?_, rest⟩
          simp only [Value.slice.injEq, Option.some.injEq, Addr.mk.injEq] at e
          obtain ⟨⟨e5, -⟩, -⟩ := e
          subst e5
          exact (hb4 g (Array.getElem?_eq_some_iff.1 hgg).1 hgq kg2).trans hgg
    · rw [List.mem_singleton.1 hy]
      obtain ⟨z1, z2⟩ := mem_without.1 hz
      have hza : Apart z x := (h.fam.of z1 hx).resolve_left (fun e => z2 (e ▸ rfl))
      refine ⟨z2, fun b hb e => hza.2.1 b hb (by rw [hg]; exact e), fun j hj e => hza.2.2 j hj ((f2 j).1 e).1⟩
    · rw [tot_append, tot_one, show tot (without x S) + kk.length = N by omega]
      exact g1.congr (fun j _ => hfm _ (fun j => by by_cases e : j ∈ kk <;> simp [fOf_one, e]) j)
    · rcases hj with e | e | ⟨z, hz, e⟩
      · exact .inl (.inl e)
      · exact .inl (.inr (.inl e))
      · rcases List.mem_append.1 hz with hz | hz
        · exact .inl (.inr (.inr ⟨z, (mem_without.1 hz).1, e⟩))
        · rw [List.mem_singleton.1 hz] at e
          rcases e with e | e
          · exact .inl (.inr (.inr ⟨x, hx, .inl e⟩))
          · exact .inl (.inr (.inr ⟨x, hx, .inr (hg.trans e)⟩))

set_option maxHeartbeats 1000000 in
set_option maxRecDepth 100000 in
theorem dropN {p m : Nat} {S : List (Part Int)} {x : Part Int} (k : Int) (w : World) (h : PAtN w p m S) (hx : x ∈ S) (hk : k ∈ x.ks) (hn : tot S < 1099511627776) : Calls Try.prog 32 #[.pointer (some ⟨p, 0, none⟩), (Value.int .i64) k] w fun e w' => e = .returned (.bool true) ∧ Hid (DroppedN w p m S x k w') := by
  have c1 := h.cell
  have hl := h.look k (h.fam.keys x hx k hk)
  rw [fOf_some h.fam hx hk] at hl
  simp only [ptr] at hl
  obtain ⟨g, c, ev, hc1, hc2, -, -, hc⟩ := (h.rows x hx).some_ (h.fam.some_ x hx)
  have c2 := (h.rows x hx).cell.1
  have hlen := len_le_tot hx
  have hcnt := (cut_one linN (h.fam.rise x hx) hk).2.2.2
  have CB := hide (bsN g c x.ks.length x.ks k w (Nat.le_refl _) (by omega) hc (by rw [List.take_length]; exact h.fam.rise x hx))
  rw [List.take_length] at CB
  have hrow := (h.rows x hx).row
  rw [ev] at hrow
  have CD : Hid (∀ q1, Calls Try.prog 48 #[.slice (some ⟨g, 0, none⟩) x.ks.length c, .int .i64 (cnt ltN x.ks k : Nat), .int .i64 (((cnt ltN x.ks k : Nat) : Int) + 1)] (w.drewN q1) fun e w2 => e = .returned (.slice (some ⟨g, 0, none⟩) (x.ks.length - 1) c) ∧ (w2.cell? ⟨p, 0, none⟩ = some (.map (some m)) ∧ w2.cell? ⟨x.q, 0, none⟩ = some x.v ∧ w2.frozen? ⟨x.q, 0, none⟩ = false ∧ p ≠ x.q ∧
      ∃ w4, (Builtin.delete_ #[55, 3] 0 #[.map (some m), (Value.int .i64) k]).run Try.prog (w2.setCell ⟨x.q, 0, none⟩ (.slice (some ⟨g, 0, none⟩) (x.ks.length - 1) c)) = .ok (.tuple #[]) w4 ∧ DroppedN w p m S x k w4)) := fun q1 =>
    (delN g c _ x.ks (w.drewN q1) hcnt hrow).mono fun e w2 hh => ⟨hh.1, h.dropped hx hk ev (unhide hh.2).1 (unhide hh.2).2⟩
  rw [ev] at c2 CD
  have hiw : IntKind.i64.wrap (((cnt ltN x.ks k : Nat) : Int) + 1) = ((cnt ltN x.ks k : Nat) : Int) + 1 := by rw [IntKind.wrap_i64]; omega
  generalize x.q = q at *
  generalize hi : cnt ltN x.ks k = i at *
  generalize x.ks.length = L at *
  generalize hL1 : L - 1 = L1 at *
  clear h hc hn hlen hi hcnt hrow hc1 hc2 hL1
  go_enter Try.func32, Try.ntmps32
  go_wp2_with fail
  refine (unhide CB).mono ?_
  rintro e w' ⟨fb, q1, rfl, rfl⟩
  have CD1 := hide (unhide CD q1)
  clear CB CD
  go_wp2_with fail
  refine (unhide CD1).mono ?_
  rintro e w2 ⟨rfl, d1, d2, d3, d4, w4, hr4, hD⟩
  have HD := hide hD
  clear hD CD1
  go_wp2_with fail
  go_ret
  exact ⟨rfl, unhide HD⟩
end Go.Proofs.Ytfhidghjmookhaa

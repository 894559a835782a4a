/- The reader: giveUp, next. -/
import Derived.Test.YtagibmgbjhemkaaGreatFd16
import Derived.Test.YtagibmgbjhemkaaGreatMt16
namespace Go.Proofs.YtagibmgbjhemkaaGreat.W16
open Go.RowKit Go.Maps
/-- What a reader gives up by. -/
def gaveUp : List PanicEntry := [{ v := .iface 36 (.int .i64 160), recovered := false }]
set_option maxHeartbeats 400000 in
theorem giveUpS (w : World) : Calls Tryz.prog 88 #[] w fun e w' => e = .panicked gaveUp ∧ w' = w := by
  go_enter Tryz.func88, Tryz.ntmps88
  go_wp2_with fail
  exact ⟨rfl, rfl, rfl⟩
/-- A reader's box holds what is left of the bytes. -/
def RdAt (w : World) (p : Nat) (v : Value) (bs : List Nat) : Prop := w.heap[p]? = some (.cells #[v] 109 (0, 0)) ∧ Lies u8v w v bs ∧ v.ownBlock ≠ some p
theorem rd_cell {w : World} {p : Nat} {v : Value} {bs : List Nat} (h : RdAt w p v bs) : w.cell? ⟨p, 0, none⟩ = some v ∧ w.frozen? ⟨p, 0, none⟩ = false :=
  ⟨(cell_of_row _ _ 0 _ _ (0, 0) h.1).trans rfl, frozen_of_row _ _ 0 _ _ h.1⟩
set_option maxHeartbeats 2000000 in
set_option maxRecDepth 100000 in
theorem next0S {w : World} {p : Nat} {v : Value} (h : RdAt w p v []) : Calls Tryz.prog 87 #[.pointer (some ⟨p, 0, none⟩)] w fun e w' => e = .panicked gaveUp ∧ w' = w := by
  obtain ⟨c0, -⟩ := rd_cell h
  obtain ⟨a, c, rfl⟩ := lies_shape h.2.1
  have CG := hide (giveUpS w)
  generalize hgu : gaveUp = gu at *
  simp only [List.length_nil] at c0
  clear h
  go_enter Tryz.func87, Tryz.ntmps87
  go_wp2_with fail
  refine (unhide CG).mono ?_
  rintro e w1 ⟨rfl, rfl⟩
  exact ⟨rfl, rfl, rfl⟩
/-- What a reading call leaves alone: all but the reader's box. -/
def Reads (p : Nat) (w w' : World) : Prop := Turned (fun b => b = p) w w'
/-- The rest of a slice behind its first byte. -/
theorem rest_lies {w : World} {b off n c : Nat} {x : Nat} {bs : List Nat} (h : Lies u8v w (.slice (some ⟨b, off, none⟩) (n + 1) c) (x :: bs)) :
    w.cell? ⟨b, off, none⟩ = some (u8v x) ∧ Lies u8v w (.slice (some ⟨b, off + 1, none⟩) n (c - 1)) bs ∧ n = bs.length ∧ n + 1 ≤ c := by
  obtain ⟨e1, e2⟩ := lies_len h
  have hn : n = bs.length := by simpa using e1
  have h0 := lies_at h (i := 0) rfl
  obtain ⟨b', off', e3, h1⟩ := h0
  injection e3 with e3
  injection e3 with e4 e5
  subst e4 e5
  refine ⟨h1, ⟨_, c - 1, by rw [hn], by omega, fun e => (by cases e), .inr ⟨b, off + 1, rfl, fun i y hy => ?_⟩⟩, hn, e2⟩
  obtain ⟨b', off', e3, h2⟩ := lies_at h (i := i + 1) (x := y) (by simpa using hy)
  injection e3 with e3
  injection e3 with e4 e5
  subst e4 e5
  rw [show off + 1 + i = off + (i + 1) by omega]
  exact h2
theorem rd_step {w : World} {p b : Nat} {v v' : Value} {x : Nat} {bs : List Nat} (h : RdAt w p v (x :: bs)) (hv : v.ownBlock = some b) (hl : Lies u8v w v' bs) (ho : v'.ownBlock = some b) : RdAt (w.setCell ⟨p, 0, none⟩ v') p v' bs ∧ Reads p w (w.setCell ⟨p, 0, none⟩ v') ∧ v'.ownBlock = v.ownBlock := by
  have hbp : b ≠ p := fun e => h.2.2 (by rw [hv, e])
  have ht : Turned (fun b => b = p) w (w.setCell ⟨p, 0, none⟩ v') := turned_setCell w ⟨p, 0, none⟩ v' rfl
  exact ⟨⟨(heap_setCell_same w p 0 _ _ v' h.1).trans rfl, lies_turned hl ht (fun b' e e2 => hbp (by rw [ho] at e; injection e with e; rw [e]; exact e2)), fun e => hbp (by rw [ho] at e; injection e with e)⟩, ht, by rw [ho, hv]⟩
set_option maxHeartbeats 2000000 in
set_option maxRecDepth 100000 in
theorem next1S {w : World} {p : Nat} {v : Value} {x : Nat} {bs : List Nat} (h : RdAt w p v (x :: bs)) : Calls Tryz.prog 87 #[.pointer (some ⟨p, 0, none⟩)] w fun e w' => e = .returned (u8v x) ∧ ∃ v', Hid (RdAt w' p v' bs ∧ Reads p w w' ∧ v'.ownBlock = v.ownBlock) := by
  obtain ⟨c0, c1⟩ := rd_cell h
  obtain ⟨a, c, rfl⟩ := lies_shape h.2.1
  obtain ⟨b, off, rfl, -⟩ := lies_at h.2.1 (i := 0) rfl
  obtain ⟨d0, d1, d2, d3⟩ := rest_lies h.2.1
  obtain ⟨n, hn⟩ : ∃ n, n = bs.length := ⟨_, rfl⟩
  rw [List.length_cons, ← hn] at c0
  have HA : Hid (c = 1 → RdAt (w.setCell ⟨p, 0, none⟩ (.slice (some ⟨b, off, none⟩) n 0)) p (.slice (some ⟨b, off, none⟩) n 0) bs ∧ Reads p w (w.setCell ⟨p, 0, none⟩ (.slice (some ⟨b, off, none⟩) n 0)) ∧ (Value.slice (some ⟨b, off, none⟩) n 0).ownBlock = (Value.slice (some ⟨b, off, none⟩) (x :: bs).length c).ownBlock) := fun hc => by
    have h0 : bs.length = 0 := by omega
    obtain rfl : bs = [] := List.eq_nil_of_length_eq_zero h0
    exact rd_step h rfl ⟨_, 0, by rw [hn], by simp, fun e => (by cases e), .inl rfl⟩ rfl
  have HC : Hid (RdAt (w.setCell ⟨p, 0, none⟩ (.slice (some ⟨b, off + 1, none⟩) n (c - 1))) p (.slice (some ⟨b, off + 1, none⟩) n (c - 1)) bs ∧ Reads p w (w.setCell ⟨p, 0, none⟩ (.slice (some ⟨b, off + 1, none⟩) n (c - 1))) ∧ (Value.slice (some ⟨b, off + 1, none⟩) n (c - 1)).ownBlock = (Value.slice (some ⟨b, off, none⟩) (x :: bs).length c).ownBlock) := by
    rw [← hn] at d1
    exact rd_step h rfl d1 rfl
  generalize (Value.slice (some ⟨b, off, none⟩) (x :: bs).length c).ownBlock = ob at *
  rw [← hn] at d3
  have z1 : ((n + 1 : Nat) : Int) ≠ 0 := by omega
  clear h d1 d2 hn
  unfold u8v at *
  go_enter Tryz.func87, Tryz.ntmps87
  go_wp2_with fail
  all_goals go_ret
  · subst h
    exact ⟨rfl, _, unhide HA rfl⟩
  · exact ⟨rfl, _, unhide HC⟩
end Go.Proofs.YtagibmgbjhemkaaGreat.W16

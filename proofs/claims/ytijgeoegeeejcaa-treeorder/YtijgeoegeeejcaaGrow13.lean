/- grow's memory; place, offer, lead. -/
import Derived.Test.YtijgeoegeeejcaaDij13
import Derived.BigQuiet
namespace Go.Proofs.Ytijgeoegeeejcaa
open Go.RowKit Go.Maps
attribute [local go_sem] run_storeF
theorem cfl_eq {r : Nat} (h : r ≤ 2139095040) : cfl r = r := Nat.min_eq_left h
/-- A tree that grows, beside a heap of its own. -/
structure GM [Inhabited EntF] (w : World) (p : Nat) (s : Int) (dv fv : Value) (ph : Nat) (ds : List DiV) (fs : List Int) (ms : List EntF) (nn : Nat) (W : World) : Prop where
  tr : TrAt 0 W p s dv fv ds fs
  tur : Turned (fun b => dv.ownBlock = some b ∨ fv.ownBlock = some b) w W
  on : ∃ F, OnF W ph F ms nn ∧ ∀ j, F j → w.heap.size ≤ j
  old : ∀ b, b = p ∨ dv.ownBlock = some b ∨ fv.ownBlock = some b → b < w.heap.size
  ml : ms.length ≤ nn
section
variable {W : World} {p : Nat} {s : Int} {fv : Value} {ph : Nat} {ds : List DiV} {fs : List Int}
theorem placeS {a : Option Addr} {m c : Nat} (h : TrAt 0 W p s (.slice a m c) fv ds fs) (hr : RiseD ds) (hl : ds.length ≤ 1000) (x : Int) :
    Calls Try.prog 50 #[.pointer (some ⟨p, 0, none⟩), .int .i64 x] W fun e w' => e = .returned (.tuple #[.int .i64 (rankV ds x : Nat), .bool (decide (x ∈ ds.map (·.1)))]) ∧ Hid (Below W.heap.size W w') := by
  have C1 := hide (bsfS x h.ds_ hr (by omega))
  obtain ⟨-, c1, -, -⟩ := cellsT h.box
  generalize rankV ds x = r at *
  generalize decide (x ∈ ds.map (·.1)) = f at *
  clear h hr hl
  go_enter Try.func50, Try.ntmps50
  go_wp2_with fail
  refine (unhide C1).mono ?_
  rintro e w1 ⟨rfl, hb⟩
  clear C1 c1
  go_wp2_with fail
  go_ret2
  exact ⟨rfl, hb⟩
set_option maxHeartbeats 1000000 in
/-- offer, whatever the heap answers. -/
theorem offerS {g m c q : Nat} {d : DiV} {r : Bool} {Q : World → Prop} {cst : Nat} (h : TrAt 0 W p s (.slice (some ⟨g, 0, none⟩) m c) fv ds fs) (hq : ds[q]? = some d) (C1 : d.2.1 = true → Calls Try.prog 53 #[.pointer (some ⟨ph, 0, none⟩), .int .i64 (q : Nat), .float .f32 cst] W fun e w' => e = .returned (.bool r) ∧ Hid (Q w')) (C2 : d.2.1 = false → Calls Try.prog 77 #[.pointer (some ⟨ph, 0, none⟩), .int .i64 (q : Nat), .float .f32 cst] W fun e w' => e = .returned (.bool r) ∧ Hid (Q w')) :
    Calls Try.prog 56 #[.pointer (some ⟨p, 0, none⟩), .pointer (some ⟨ph, 0, none⟩), .int .i64 (q : Nat), .float .f32 cst] W fun e w' => e = .returned (.bool r) ∧ Hid (Q w') := by
  obtain ⟨-, c1, -, -⟩ := cellsT h.box
  obtain ⟨-, k1, -, -⟩ := drow_at h.ds_ hq
  have hl : q < m := by rw [rrow_len h.ds_]; exact (List.getElem?_eq_some_iff.1 hq).1
  have z1 : (q : Int) < (m : Int) := by omega
  generalize d.2.1 = fa at *
  clear h hq hl
  cases fa with
  | true =>
    have CC := hide (C1 rfl)
    clear C1 C2
    go_enter Try.func56, Try.ntmps56
    go_wp2_with fail
    refine (unhide CC).mono ?_
    rintro e w1 ⟨rfl, hb⟩
    clear CC c1 k1
    go_wp2_with fail
    go_ret
    exact ⟨rfl, hb⟩
  | false =>
    have CC := hide (C2 rfl)
    clear C1 C2
    go_enter Try.func56, Try.ntmps56
    go_wp2_with fail
    refine (unhide CC).mono ?_
    rintro e w1 ⟨rfl, hb⟩
    clear CC c1 k1
    go_wp2_with fail
    go_ret
    exact ⟨rfl, hb⟩
end
section
variable [Inhabited EntF] {w W W' : World} {p : Nat} {s : Int} {dv fv : Value} {ph : Nat} {ds : List DiV} {fs : List Int} {ms ms' : List EntF} {nn nn' : Nat}
theorem GM.heap {F F' : Nat → Prop} (h : GM w p s dv fv ph ds fs ms nn W) (hF : ∀ j, F j → w.heap.size ≤ j) (ho : OnF W' ph F' ms' nn') (ht : Turned F W W') (hs : ∀ j, F' j → F j ∨ W.heap.size ≤ j) (hm : ms'.length ≤ nn') : GM w p s dv fv ph ds fs ms' nn' W' := by
  have hsz := h.tur.size
  have hk : ∀ b, b < w.heap.size → W'.heap[b]? = W.heap[b]? := fun b hb => ht.block b (by omega) (fun q => by have := hF b q; omega)
  exact ⟨h.tr.kept (fun b e => hk b (h.old b e)), ⟨ht.os.trans h.tur.os, ht.tape.trans h.tur.tape, ht.output.trans h.tur.output, Nat.le_trans hsz ht.size, fun b hb hn => (hk b hb).trans (h.tur.block b hb hn)⟩, ⟨F', ho, fun j hj => (hs j hj).elim (hF j) (fun e => Nat.le_trans hsz e)⟩, h.old, hm⟩
theorem GM.below (h : GM w p s dv fv ph ds fs ms nn W) (hb : Below W.heap.size W W') : GM w p s dv fv ph ds fs ms nn W' := by
  obtain ⟨F, ho, hF⟩ := h.on
  exact ⟨h.tr.below hb, h.tur.trans (turned_of_below hb), ⟨F, ho.kept (fun k hk => hb.block k (ho.lt hk)), hF⟩, h.old, h.ml⟩
/-- What lead writes: the distance. -/
theorem lead_ds {g m c q : Nat} {v e0 e : Int} {fa : Bool} {b0 cst : Nat} (h : GM w p s (.slice (some ⟨g, 0, none⟩) m c) fv ph ds fs ms nn W) (hq : ds[q]? = some (v, fa, b0, e0)) :
    GM w p s (.slice (some ⟨g, 0, none⟩) m c) fv ph (ds.set q (v, false, cst, e)) fs ms nn (((W.setCell ⟨g, q * 4 + 1, none⟩ (.bool false)).setCell ⟨g, q * 4 + 2, none⟩ (.int .u32 (cst : Nat))).setCell ⟨g, q * 4 + 3, none⟩ (.int .i64 e)) := by
  have hql := (List.getElem?_eq_some_iff.1 hq).1
  have hgp : g ≠ p := fun z => h.tr.ne1 (by rw [← z]; rfl)
  have d1 := rrow_set kitD h.tr.ds_ hq (x' := (v, false, b0, e0)) (j := 1) (by omega) (u := .bool false) rfl
  have d2 := rrow_set kitD d1 (i := q) (x := (v, false, b0, e0)) (List.getElem?_set_self hql) (x' := (v, false, cst, e0)) (j := 2) (by omega) (u := .int .u32 (cst : Nat)) rfl
  rw [List.set_set] at d2
  have d3 := rrow_set kitD d2 (i := q) (x := (v, false, cst, e0)) (List.getElem?_set_self hql) (x' := (v, false, cst, e)) (j := 3) (by omega) (u := .int .i64 e) rfl
  rw [List.set_set] at d3
  have hot : ∀ b, b ≠ g → (((W.setCell ⟨g, q * 4 + 1, none⟩ (.bool false)).setCell ⟨g, q * 4 + 2, none⟩ (.int .u32 (cst : Nat))).setCell ⟨g, q * 4 + 3, none⟩ (.int .i64 e)).heap[b]? = W.heap[b]? := fun b h1 => by
    rw [heap_setCell_other _ _ _ _ h1, heap_setCell_other _ _ _ _ h1, heap_setCell_other _ _ _ _ h1]
  have hgo := h.old g (.inr (.inl rfl))
  obtain ⟨F, ho, hFl⟩ := h.on
  exact ⟨⟨(hot p (fun z => hgp z.symm)).trans h.tr.box, d3, brow_kept h.tr.fs_ (fun b e => hot b (fun z => h.tr.ne3 b (by rw [z]; rfl) e)), h.tr.lo, h.tr.ne1, h.tr.ne2, h.tr.ne3⟩, h.tur.trans ⟨rfl, rfl, rfl, by simp, fun b _ hn => hot b (fun z => hn (.inl (by rw [z]; rfl)))⟩, ⟨F, ho.kept (fun b hb => hot b (fun z => by have := hFl b hb; omega)), hFl⟩, h.old, h.ml⟩
/-- What lead writes: where the path comes from. -/
theorem lead_fs {q gf_ mf cf_ : Nat} {at_ : Int} (h : GM w p s dv (.slice (some ⟨gf_, 0, none⟩) mf cf_) ph ds fs ms nn W) (hqf : q < fs.length) :
    GM w p s dv (.slice (some ⟨gf_, 0, none⟩) mf cf_) ph ds (fs.set q at_) ms nn (W.setCell ⟨gf_, q, none⟩ (.int .i64 at_)) := by
  have hfp : gf_ ≠ p := fun z => h.tr.ne2 (by rw [← z]; rfl)
  obtain ⟨-, f2⟩ := brow_set h.tr.fs_ at_ (show q < mf by
    obtain ⟨a', c', e, -⟩ := brow_shape h.tr.fs_
    injection e with e1 e2; omega)
  have hot : ∀ b, b ≠ gf_ → (W.setCell ⟨gf_, q, none⟩ (.int .i64 at_)).heap[b]? = W.heap[b]? := fun b h1 => heap_setCell_other _ _ _ _ h1
  have hfo := h.old gf_ (.inr (.inr rfl))
  obtain ⟨F, ho, hFl⟩ := h.on
  exact ⟨⟨(hot p (fun z => hfp z.symm)).trans h.tr.box, rrow_kept h.tr.ds_ (fun b e => hot b (fun z => h.tr.ne3 b e (by rw [z]; rfl))), f2, h.tr.lo, h.tr.ne1, h.tr.ne2, h.tr.ne3⟩, h.tur.trans ⟨rfl, rfl, rfl, by simp, fun b _ hn => hot b (fun z => hn (.inr (by rw [z]; rfl)))⟩, ⟨F, ho.kept (fun b hb => hot b (fun z => by have := hFl b hb; omega)), hFl⟩, h.old, h.ml⟩
end
end Go.Proofs.Ytijgeoegeeejcaa

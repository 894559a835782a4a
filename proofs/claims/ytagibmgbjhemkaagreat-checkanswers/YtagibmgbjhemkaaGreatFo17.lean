/- walk.Follow over a checker's records. -/
import Derived.Test.YtagibmgbjhemkaaGreatAl17
import Derived.Test.YtagibmgbjhemkaaGreatWkFollow
namespace Go.Proofs.YtagibmgbjhemkaaGreat
open Go.RowKit Go.Maps
/-- Some records were read, at most n; what is known in m may have grown. -/
def RdM [Inhabited EntI] (w : World) (X : Sto) (m n : Nat) (w' : World) : Prop := (∃ k : Nat, k ≤ n ∧ StAt w' { X with rd := X.rd + (k : Int) }) ∧ Turned (fun b => X.L b ≠ none ∨ b = m) w w'
theorem RdM.draw [Inhabited EntI] {w w' : World} {X : Sto} {m n : Nat} (h : RdM w X m n w') (q : Nat) : RdM w X m n (w'.drewN q) := by
  obtain ⟨⟨k, h1, h2⟩, h3⟩ := h
  have hb := below_drewN (Below.refl w'.heap.size w') q
  exact ⟨⟨k, h1, h2.below hb⟩, h3.trans (turned_of_below hb)⟩
theorem MidR.out [Inhabited EntI] {P : List EdgeV → (Nat → Prop) → World → Prop} {w0 w w' : World} {X : Sto} {A A' : Nat → Prop} {m n : Nat} {d : List EdgeV} (h : MidR P w X A m n d A' w') (hb : Below w0.heap.size w0 w) (hA : ∀ b, A b → w0.heap.size ≤ b) : RdM w0 X m n w' := by
  refine ⟨h.st, ?_⟩
  refine (turned_of_below hb).then_ h.turned (fun b hb' ho => ho.elim id (fun ha => ?_))
  have := hA b ha
  omega

set_option maxHeartbeats 2000000 in
set_option maxRecDepth 100000 in
theorem followR [Inhabited EntI] {w : World} {X : Sto} {m : Nat} (from_ : Int) {ev : Value} {es : List Int} (h : StAt w X) (hm : Kn X.ps 0 w m) (hmL : X.L m = none) (hok : ∀ e ∈ es, okN e) (hr : SRow w ev es) (hl : es.length ≤ 100000) (hx0 : 0 ≤ X.rd) (hx1 : X.rd ≤ 100000000)
    (hQ : ∀ (i : Nat) (x : EdgeV), X.ps[i]? = some (x, true) → Wt x) (hb : ∀ b, blkOf ev = some b → b < w.heap.size ∧ X.L b = none ∧ b ≠ m) :
    Calls Tryz.prog 21 #[.iface 139 (.agg #[.iface 24 (.pointer (some ⟨X.s, 0, none⟩)), .map (some m)]), .int .i64 from_, ev] w fun e w' => e = .returned (fAns from_ (trip X.ps from_ es)) ∧ Hid (RdM w X m es.length w') := by
  have CF := hide (fold_zero none 0 w)
  have hb1 := below_new w (oI8 from_)
  have hb2 := below_new (w.alloc (oI8 from_)) (oF8 0)
  have hs1 : (w.alloc (oI8 from_)).heap.size = w.heap.size + 1 := by simp
  have hbb : Below w.heap.size w ((w.alloc (oI8 from_)).alloc (oF8 0)) := hb1.trans (hb2.mono (by omega))
  obtain ⟨ea, ec, rfl, hcell⟩ := hr
  have CA : Hid (∀ be bc : Nat, be = w.heap.size → bc = w.heap.size + 1 → Calls Tryz.prog 40 #[.iface 139 (.agg #[.iface 24 (.pointer (some ⟨X.s, 0, none⟩)), .map (some m)]), .int .i64 from_, .slice ea es.length ec, .func (.func 41) #[] #[.pointer (some ⟨bc, 0, none⟩), .pointer (some ⟨be, 0, none⟩)]] ((w.alloc (oI8 from_)).alloc (oF8 0)) fun e w' => e = .returned (.tuple #[.int .i64 (tPlace (trip X.ps from_ es)), .int .i64 (tCode (trip X.ps from_ es))]) ∧ (w'.cell? ⟨be, 0, none⟩ = some (.int .i64 (endOf from_ (trip X.ps from_ es).1)) ∧ w'.cell? ⟨bc, 0, none⟩ = some (.float .f32 (costOf (trip X.ps from_ es).1))) ∧ Hid (RdM w X m es.length w')) := by
    rintro be bc rfl rfl
    have hs2 := h.mem.new (k := w.heap.size) (Nat.le_refl _)
    have hm2 := hm.below hbb
    have hmlt : m < w.heap.size := hm.lt
    refine (alongR (follow_fn 100000 w.heap.size (w.heap.size + 1) from_) from_ (A := fun b => b = w.heap.size ∨ b = w.heap.size + 1) (m := m) ⟨⟨0, Nat.le_refl _, by simpa using h.below hbb⟩, hm2, ⟨fun b => Iff.rfl, (heap_alloc_old _ _ (by omega)).trans (heap_alloc_new _ _), ?_, by omega⟩, Turned.refl _ _, fun b hb' => .inl hb', ?_, hmL⟩ (SRow.below ⟨ea, ec, rfl, hcell⟩ hbb) hok hl (Nat.le_refl _) hx0 hx1 hQ (fun b hb' _ => ⟨(hb b hb').2, fun ho => by have := (hb b hb').1; omega⟩)).mono ?_
    · have := heap_alloc_new (w.alloc (oI8 from_)) (oF8 0)
      rw [hs1] at this; exact this
    · rintro b (rfl | rfl)
      · exact ⟨hs2, by omega⟩
      · exact ⟨h.mem.new (by omega), by omega⟩
    · rintro e w' ⟨rfl, hh⟩
      obtain ⟨A', hM⟩ := unhide hh
      obtain ⟨-, p2, p3, -⟩ := hM.pic
      refine ⟨rfl, ⟨(cellI8 p2).1, (cellF8 p3).1⟩, hM.out hbb ?_⟩
      rintro b (rfl | rfl) <;> omega
  have HB := hide hbb
  generalize hsx : X.s = s at *
  obtain ⟨t, ht⟩ : ∃ t, t = trip X.ps from_ es := ⟨_, rfl⟩
  rw [← ht]
  rw [← ht] at CA
  have HT : Hid (t.2 ≠ none → tCode t ≠ 0) := fun hn => by
    rw [ht] at hn ⊢
    rcases tCode_ne hn with e | e <;> (unfold tCode; rw [e]; decide)
  have HLC := hide (costOf_le t.1)
  clear h hm hmL hok hcell hl hx0 hx1 hQ hb hb1 hb2 hs1 hbb hsx ht
  generalize es.length = len at *
  have hsf := run_storeF
  by_cases hn : t.2 = none
  · have e1 : tCode t = 0 := by unfold tCode; rw [hn]; rfl
    have e2 : fAns from_ t = .tuple #[.int .i64 (endOf from_ t.1), .int .u32 (costOf t.1), .int .i64 0, .int .i64 0] := if_pos hn
    rw [e2]
    rw [e1] at CA
    have CB : Hid (∀ W, Calls Tryz.prog 44 #[.float .f32 (costOf t.1)] W fun e w' => e = .returned (.int .u32 (costOf t.1 : Int)) ∧ w' = W) := fun W => bits_nat (unhide HLC) W
    clear HT HLC e1 e2 hn
    generalize costOf t.1 = c at *
    generalize endOf from_ t.1 = ae at *
    generalize tPlace t = pl at *
    go_enter Tryz.func21, Tryz.ntmps21
    go_wp2_with fail
    refine (unhide CF).mono ?_
    rintro e w ⟨rfl, rfl⟩
    clear CF
    go_upto_region 2 with fail
    change Code.wp _ _ _ _ ((w.alloc (oI8 from_)).alloc (oF8 0))
    have CA2 := hide (unhide CA _ _ rfl rfl)
    clear CA
    generalize (w.alloc (oI8 from_)).alloc (oF8 0) = w2 at *
    go_wp2_with fail
    refine (unhide CA2).mono ?_
    rintro e w3 ⟨rfl, ⟨k1, k2⟩, hR⟩
    clear CA2
    go_wp2_with fail
    go_quiet ((go_at_call 44; exact (unhide CB _).mono (fun _ _ h => ⟨h.1, _, h.2⟩)))
    go_wp2_with fail
    go_returns
    exact ⟨rfl, (unhide hR).draw _⟩
  · have e1 := unhide HT hn
    have e2 : fAns from_ t = .tuple #[.int .i64 0, .int .u32 0, .int .i64 t.1.length, .int .i64 (tCode t)] := if_neg hn
    have e3 : tPlace t = t.1.length := if_neg hn
    rw [e2]
    rw [e3] at CA
    have e4 : (tCode t == 0) = false := by simp [e1]
    clear HT HLC e2 hn e3 e1
    generalize costOf t.1 = c at *
    generalize endOf from_ t.1 = ae at *
    generalize tCode t = tc at *
    generalize t.1.length = tl at *
    go_enter Tryz.func21, Tryz.ntmps21
    go_wp2_with fail
    refine (unhide CF).mono ?_
    rintro e w ⟨rfl, rfl⟩
    clear CF
    go_upto_region 2 with fail
    change Code.wp _ _ _ _ ((w.alloc (oI8 from_)).alloc (oF8 0))
    have CA2 := hide (unhide CA _ _ rfl rfl)
    clear CA
    generalize (w.alloc (oI8 from_)).alloc (oF8 0) = w2 at *
    go_wp2_with fail
    refine (unhide CA2).mono ?_
    rintro e w3 ⟨rfl, ⟨k1, k2⟩, hR⟩
    clear CA2
    go_wp2_with fail
    go_returns
    exact ⟨rfl, hR⟩
end Go.Proofs.YtagibmgbjhemkaaGreat

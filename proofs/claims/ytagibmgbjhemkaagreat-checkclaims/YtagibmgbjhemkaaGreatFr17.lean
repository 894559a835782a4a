/- A claim that came in. -/
import Derived.Test.YtagibmgbjhemkaaGreatEn16
import Derived.Test.YtagibmgbjhemkaaGreatRn16
import Derived.Test.YtagibmgbjhemkaaGreatKC17
import Derived.Test.YtagibmgbjhemkaaGreatFrame72
import Derived.Deep.Slices
import Derived.Deep.Strs
namespace Go.Proofs.YtagibmgbjhemkaaGreat

namespace W16
open Go.RowKit Go.Maps

end W16

section
open Go.RowKit Go.Maps
open W16 (WtV Lies u8v i64v dec decV DecAns)
end

section
open Go.RowKit Go.Maps
open W16 (WtV Lies u8v i64v dec decV DecAns)
theorem isOps_below {w W : World} {a : Option Addr} {len : Nat} {o : Nat → OpV} (h : IsOps w a len o) (hb : Below w.heap.size w W) : IsOps W a len o := by
  rcases h with q | ⟨b, off, e, h0, hh⟩
  · exact .inl q
  · exact .inr ⟨b, off, e, h0, fun i hi => ⟨opAt_below (hh i hi).1 hb, (hh i hi).2⟩⟩
def Bel (a b : World) : Prop := Below a.heap.size a b
theorem bel_then {a b c : World} (h : Bel a b) (k : Below b.heap.size b c) : Below a.heap.size a c := Below.trans h (k.mono h.size)
def oSd (f t : Int) (u : Nat) : Obj := .cells #[.int .i64 f, .int .i64 t, .int .u32 (u : Nat)] 46
theorem oSd_cells {w : World} {b : Nat} {f t : Int} {u : Nat} (h : w.heap[b]? = some (oSd f t u)) : w.cell? ⟨b, 0, none⟩ = some (.int .i64 f) ∧ w.cell? ⟨b, 1, none⟩ = some (.int .i64 t) ∧ w.cell? ⟨b, 2, none⟩ = some (.int .u32 (u : Nat)) :=
  ⟨(cell_of_row _ _ 0 _ _ (0, 0) h).trans rfl, (cell_of_row _ _ 1 _ _ (0, 0) h).trans rfl, (cell_of_row _ _ 2 _ _ (0, 0) h).trans rfl⟩
set_option maxHeartbeats 16000000 in
set_option maxRecDepth 100000 in
theorem claims17 [Inhabited EntI] (a : Option Addr) (len cap : Nat) (o : Nat → OpV) (f t : Int) (u : Nat) (w0 : World) (h0 : IsOps w0 a len o) {v : Value} {bs : List Nat} (hv0 : Lies u8v w0 v bs) (hx : ∀ x ∈ bs, x < 256) (hl : bs.length ≤ 140737488351232) :
    Calls Tryz.prog 4 #[.slice a len cap, .agg #[.int .i64 f, .int .i64 t, .int .u32 (u : Nat)], v] w0 fun e w' => e = .returned (.bool true) ∧ Hid (Below w0.heap.size w0 w') := by
  have hbs := below_new w0 (oSd f t u)
  have h := isOps_below h0 hbs
  have hv := W16.lies_below hv0 hbs
  have hsd : (w0.alloc (oSd f t u)).heap[w0.heap.size]? = some (oSd f t u) := heap_alloc_new _ _
  have HSD : Hid (Bel w0 (w0.alloc (oSd f t u)) ∧ ∀ W, Below (w0.alloc (oSd f t u)).heap.size (w0.alloc (oSd f t u)) W → W.heap[w0.heap.size]? = some (oSd f t u)) := ⟨hbs, fun W hW => (hW.block _ (by simp)).trans hsd⟩
  clear h0 hv0 hbs hsd
  obtain ⟨w, hw⟩ : ∃ w, w = w0.alloc (oSd f t u) := ⟨_, rfl⟩
  rw [← hw] at h hv HSD
  have HWW := hide hw
  clear hw
  have CB := hide (builtS a len cap o w h)
  have CW : Hid (∀ W : World, Calls Tryz.prog 9 #[] W fun e w' => e = .returned (.bool true) ∧ Hid (Below W.heap.size W w')) := fun W => awake17S W
  have HV : Hid (Lies u8v w v bs ∧ (∀ x ∈ bs, x < 256) ∧ bs.length ≤ 140737488351232) := ⟨hv, hx, hl⟩
  obtain ⟨va, vc, hva⟩ := W16.lies_shape hv
  obtain ⟨bn, hbn⟩ : ∃ bn, bn = bs.length := ⟨_, rfl⟩
  rw [← hbn] at hva
  clear h hv hx hl hbn
  subst hva
  go_enter Tryz.func4, Tryz.ntmps4
  go_upto_region 1 with fail
  change Code.wp _ _ _ _ (w0.alloc (oSd f t u))
  rw [← unhide HWW]
  clear HWW
  generalize w0.heap.size = b4 at *
  go_wp2_with fail
  refine (unhide CB).mono ?_
  rintro e w1 hh
  obtain ⟨s, a1, m1, q1, a2, m2, q2, rd, wr0, rfl, n, X, g, vs, gs, hn, hG, hs, hL, hB, hrd, hwr⟩ := unhide hh
  obtain ⟨hK, hP, hr0, hr1⟩ := kc_built hG hs hrd hwr hL hB
  have HP := hide hP
  have HR : Hid (0 ≤ rd ∧ rd ≤ 120) := ⟨hr0, by omega⟩
  have HK := hide (hK.box (oG (.slice a1 m1 q1) (.slice a2 m2 q2) rd wr0))
  generalize g.ps = ps at *
  clear hh hG hs hL hB hrd hwr CB hn hK hP hr0 hr1
  go_upto_region 2 with fail
  change Code.wp _ _ _ _ (w1.alloc (oG (.slice a1 m1 q1) (.slice a2 m2 q2) rd wr0))
  generalize w1.alloc (oG (.slice a1 m1 q1) (.slice a2 m2 q2) rd wr0) = w2 at *
  generalize w1.heap.size = b6 at *
  go_wp2_with fail
  refine (unhide CW _).mono ?_
  rintro e w3 ⟨rfl, hb3⟩
  have HK3 := hide ((unhide HK).below (unhide hb3))
  clear HK hb3 CW
  obtain ⟨C, hC⟩ : ∃ C, C = clmA (fun k => decide (k ∈ vs)) ps bs f t u := ⟨_, rfl⟩
  obtain ⟨v5, c5, n5, w5, hr5, g1, g2⟩ := W16.newB (W := w3.drew) (W16.lies_below (unhide HV).1 ((unhide HK3).below ((Below.refl _ _).drew)).out) (by have := (unhide HV).2.2; omega)
  have CD := hide (kcClaim (unhide HP) (((unhide HK3).below ((Below.refl _ _).drew)).below g2) f t u (W16.byrow_lies g1) (unhide HV).2.1 (by have := (unhide HV).2.2; omega) (fun g e => (g1.lt g e).2) (unhide HR).1 (by have := (unhide HR).2; omega))
  rw [← hC] at CD
  have HC := hide hC
  clear hC
  obtain ⟨pl, cd⟩ := C
  have HBW : Hid (Below w.heap.size w w5 ∧ Below w.heap.size w w3) := by
    have h3 := (unhide HK3).out
    exact ⟨(h3.trans ((Below.refl w3.heap.size w3).drew.mono h3.size)).trans (g2.mono h3.size), h3⟩
  have HR5 := hide hr5
  have HKR : Hid (KC [(b6, oG (.slice a1 m1 q1) (.slice a2 m2 q2) rd wr0)] [] w s ps (.slice a1 m1 q1) (.slice a2 m2 q2) rd wr0 vs gs w3) := unhide HK3
  clear g1 g2 hr5 HK3
  have hS := oSd_cells ((unhide HSD).2 w3 (unhide HBW).2)
  have hS8 := oSd_cells ((unhide HSD).2 (w3.drew.alloc (.cells #[] 5)) (((unhide HBW).2.trans ((Below.refl w3.heap.size w3).drew.mono (unhide HBW).2.size)).alloc (unhide HBW).2.size _))
  have hS5 := oSd_cells ((unhide HSD).2 w5 (unhide HBW).1)
  go_upto_region 4 with fail
  refine wp_region_noPanic ?_
  refine regionL [] (fun y => y.cell? ⟨b4, 0, none⟩ = some (.int .i64 f) ∧ y.cell? ⟨b4, 1, none⟩ = some (.int .i64 t) ∧ y.cell? ⟨b4, 2, none⟩ = some (.int .u32 (u : Nat))) (by kernel_rfl) hS (fun hHeld => ?_)
  refine takeN 0 27 rfl ?_
  (try simp only [sl])
  refine takeN 1 28 rfl ?_
  (try simp only [sl])
  refine takeN 2 29 rfl ?_
  (try simp only [sl])
  refine takeN 3 30 rfl ?_
  (try simp only [sl])
  refine takeN 4 31 rfl ?_
  (try simp only [sl])
  refine takeN 5 32 rfl ?_
  (try simp only [sl])
  refine takeN 6 33 rfl ?_
  (try simp only [sl])
  refine takeN 7 34 rfl ?_
  (try simp only [sl])
  refine takeN 9 36 rfl ?_
  (try simp only [sl])
  refine readyL (i := 8) (by kernel_rfl) rfl (fun K hK => ?_)
  go_simp
  refine hK.out _ _ (fun _ => hS8) ?_
  clear hK K
  (try simp only [sl])
  have hH4 := hS8
  refine readyL (i := 10) (by kernel_rfl) rfl (fun K hK => ?_)
  refine step_append_run rfl (.tmp 35) (.tmp 36) 23 rfl _ _ (by simp [Act.eval]) (by simp [Act.eval]) _ _ (unhide HR5 _) ?_
  refine hK.out _ _ (fun _ => hS5) ?_
  clear hK K
  (try simp only [sl])
  have hH5 := hS5
  refine readyL (i := 11) (by kernel_rfl) rfl (fun K hK => ?_)
  go_simp
  refine (unhide CD).mono ?_
  rintro e w6 ⟨rfl, H6⟩
  obtain ⟨k, -, hK6⟩ := unhide H6
  have hS6 := oSd_cells ((unhide HSD).2 w6 hK6.out)
  (try dsimp only)
  refine hK.out _ _ (fun _ => hS6) ?_
  clear hK K
  (try simp only [sl])
  have hH7 := hS6
  refine takeN 12 26 rfl ?_
  (try simp only [sl])
  refine takeN 13 39 rfl ?_
  (try simp only [sl])
  refine takeN 14 40 rfl ?_
  (try simp only [sl])
  refine takeN 15 10 rfl ?_
  (try simp only [sl])
  refine takeN 16 11 rfl ?_
  (try simp only [sl])
  refine doneL (by kernel_rfl) ?_ _
  refine NoPanic.normal ?_
  have CRf := hide (kcRefClaim (rd' := rd) (wr' := wr0) (unhide HP) hK6 f t u (unhide HV).1 (unhide HV).2.1 (by have := (unhide HV).2.2; omega))
  rw [← unhide HC] at CRf
  obtain ⟨c0, c1, c2, c3, -⟩ := cellsG (hK6.get (b := b6) (o := oG (.slice a1 m1 q1) (.slice a2 m2 q2) rd wr0) (by simp))
  obtain ⟨y0, y1, y2⟩ := hS6
  have HO : Hid (Bel w0 w6) := bel_then (unhide HSD).1 hK6.out
  clear hHeld hS hS8 hS5 CD H6 hK6 HR5 HKR HBW HC HSD HV HP HR
  simp only at CRf
  go_wp2_with fail
  refine (unhide CRf).mono ?_
  rintro e w7 ⟨rfl, hb7⟩
  have HO7 : Hid (Bel w0 w7) := bel_then (unhide HO) (unhide hb7)
  clear CRf hb7 c0 c1 c2 c3 y0 y1 y2 HO
  go_wp2_with fail
  go_ret
  exact ⟨rfl, HO7⟩
end

namespace W16
open Go.ChangeShapes Go.WideShapes Go.ChangeAt Go.RowKit
theorem cellsOf3 : Tryz.prog.cellsOf 3 = 1 := by kernel_rfl
theorem cellsOfU : Tryz.prog.cellsOf 33 = 1 := by kernel_rfl
theorem cellsOfB : Tryz.prog.cellsOf 5 = 1 := by kernel_rfl
theorem bytesB : Tryz.prog.bytesOf 5 = 1 := by kernel_rfl
theorem addr_none {w : World} {x : Addr} {v : Value} (h : w.cell? (x.add 0) = some v) : x.spot = none := by
  have := World.cell?_spot h
  simpa [Addr.add] using this
/-- A slice whose elements are one cell each, opened. -/
theorem open_lies {H : Type} {enc : TypeId × Value → H} {W : World} {spare : Nat → Bool} {held : Bool} {v : Value} {fuel : Nat} {x : DataW H × List MemPlace} {t e : TypeId} {α : Type} [Inhabited α] (f : α → Value) (Q : α → Prop) (ht : Tryz.prog.underlying t = some (.slice e)) (he : Tryz.prog.cellsOf e = 1)
    (hf : ∀ n (u : Value) y, DataW.trod enc Tryz.prog W 0 spare held n e [u] = some y → ∃ x, u = f x ∧ Q x) (h : DataW.trod enc Tryz.prog W 0 spare held fuel t [v] = some x) :
    ∃ (xs : List α) (a : Option Addr) (len cap : Nat), v = .slice a len cap ∧ Lies f W v xs ∧ (∀ x ∈ xs, Q x) ∧ len = xs.length ∧ (x.1 = .nil ∧ xs = [] ∨ ∃ es sp, x.1 = .slice es sp ∧ xs.length ≤ es.length) := by
  rcases Deep.open_slice1 ht he h with ⟨hcs, hx⟩ | ⟨y, l, c, m, n, V, D, Pl, hcs, -, hl, -, hmm, hx, hel⟩
  · simp only [List.cons.injEq, and_true] at hcs
    subst hcs
    exact ⟨[], none, 0, 0, rfl, ⟨none, 0, rfl, Nat.le_refl _, fun _ => rfl, .inl rfl⟩, fun x hx => (by cases hx), rfl, .inl ⟨by rw [hx], rfl⟩⟩
  · simp only [List.cons.injEq, and_true] at hcs
    subst hcs
    have hlm : l ≤ m := by rw [hmm]; split <;> omega
    obtain ⟨z, hz⟩ := Deep.choose_lt (α := α) (n := l) (p := fun i y' => W.cell? (y.add i) = some (f y') ∧ Q y') (fun i hi => by
      obtain ⟨h1, h2⟩ := hel i (by omega)
      obtain ⟨y', hy, hq⟩ := hf _ _ _ h2
      exact ⟨y', by rw [h1, hy], hq⟩)
    refine ⟨(List.range l).map z, some y, l, c, rfl, ⟨some y, c, by simp, by simpa using hl, fun e => (by cases e), ?_⟩, fun x hx => ?_, by simp, .inr ⟨_, _, by rw [hx], by simp⟩⟩
    · rcases Nat.eq_zero_or_pos l with h0 | h0
      · exact .inl (by rw [h0]; rfl)
      · obtain ⟨b, off, spot⟩ := y
        obtain rfl : spot = none := addr_none (hz 0 h0).1
        refine .inr ⟨b, off, rfl, fun i x hx => ?_⟩
        have hi : i < l := by have := (List.getElem?_eq_some_iff.1 hx).1; simpa using this
        have e : z i = x := by simpa [hi] using hx
        have := (hz i hi).1
        rw [add_off13, e] at this
        exact this
    · simp only [List.mem_map, List.mem_range] at hx
      obtain ⟨i, hi, rfl⟩ := hx
      exact (hz i hi).2
theorem open_by {H : Type} {enc : TypeId × Value → H} {W : World} {spare : Nat → Bool} {held : Bool} {v : Value} {d : DataW H} {p : List MemPlace} (hv : ∃ c, v.cells = #[c] ∧ c = v) (h : DataW.Trod enc Tryz.prog W 0 spare held 23 v d p) :
    ∃ (bs : List Nat) (a : Option Addr) (len cap : Nat), v = .slice a len cap ∧ Lies u8v W v bs ∧ (∀ x ∈ bs, x < 256) ∧ len = bs.length ∧ (d = .nil ∧ bs = [] ∨ ∃ es sp, d = .slice es sp ∧ bs.length ≤ es.length) := by
  obtain ⟨fuel, hf⟩ := h
  obtain ⟨c, hc, rfl⟩ := hv
  rw [show c.cells.toList = [c] by rw [hc]] at hf
  exact open_lies u8v (fun x => x < 256) Tryz.underlying23 cellsOfB (fun n u y hy => by
    obtain ⟨k, e, -, wk⟩ := DataW.trod_int Tryz.underlying5 hy
    have hk : 0 ≤ k ∧ k < 256 := by
      have h1 : IntKind.u8.min = 0 := by decide
      have h2 : IntKind.u8.max = 255 := by decide
      simp [Lit.wf] at wk; omega
    exact ⟨k.toNat, by simp only [List.cons.injEq, and_true] at e; rw [e]; simp [u8v]; omega, by omega⟩) hf
theorem by_sized {H : Type} {ts : List TypeId} {ds : List (DataW H)} (hsz : (DataW.weightsEach Tryz.prog ts ds).all (· ≤ reachBytes) = true) {j : Nat} {d : DataW H} (ht : ts[j]? = some 23) (hd : ds[j]? = some d) {bs : List Nat} (h : d = .nil ∧ bs = [] ∨ ∃ xs sp, d = .slice xs sp ∧ bs.length ≤ xs.length) : bs.length ≤ 140737488351232 := by
  rcases h with ⟨-, rfl⟩ | ⟨xs, sp, rfl, h⟩
  · simp
  · have := sized_slice hsz ht hd Tryz.underlying23
    rw [bytesB] at this
    unfold reachBytes at this
    omega
end W16

section
open Go.ChangeShapes Go.WideShapes Go.ChangeAt Go.RowKit
theorem cellsOfSd : Tryz.prog.cellsOf 46 = 3 := by kernel_rfl
theorem trod_struct3 {H : Type} {enc : TypeId × Value → H} {P : Program} {w : World} {base : Nat} {spare : Nat → Bool} {held : Bool} {t : TypeId} {f0 f1 f2 : Field} {fuel : Nat} {cs : List Value} {x : DataW H × List MemPlace} (ht : P.underlying t = some (.struct #[f0, f1, f2])) (h : DataW.trod enc P w base spare held fuel t cs = some x) :
    ∃ y0 y1 y2 n, DataW.trod enc P w base spare held n f0.type ((cs.drop f0.offset).take (P.cellsOf f0.type)) = some y0 ∧
      DataW.trod enc P w base spare held n f1.type ((cs.drop f1.offset).take (P.cellsOf f1.type)) = some y1 ∧ DataW.trod enc P w base spare held n f2.type ((cs.drop f2.offset).take (P.cellsOf f2.type)) = some y2 := by
  obtain ⟨xs, n, _, rfl, hl, hlen, hf⟩ := DataW.trod_struct ht h
  match xs, hlen with
  | [y0, y1, y2], _ => exact ⟨y0, y1, y2, n, by simpa using hf 0 f0 rfl, by simpa using hf 1 f1 rfl, by simpa using hf 2 f2 rfl⟩
set_option maxRecDepth 100000 in
theorem open_said {H : Type} {enc : TypeId × Value → H} {W : World} {spare : Nat → Bool} {held : Bool} {r : Reach} {b0 : Nat} {v : Value} {d : DataW H} {p : List MemPlace} (hv : Value.okWide Tryz.prog W r b0 46 v) (h : DataW.Trod enc Tryz.prog W 0 spare held 46 v d p) :
    ∃ (f t : Int) (u : Nat), v = .agg #[.int .i64 f, .int .i64 t, .int .u32 (u : Nat)] := by
  obtain ⟨cs, rfl, hsz⟩ := okWide_struct Tryz.underlying46 hv
  obtain ⟨fuel, hf⟩ := h
  obtain ⟨l⟩ := cs
  rw [cellsOfSd] at hsz
  match l, hsz with
  | [c0, c1, c2], _ =>
    obtain ⟨y0, y1, y2, q, e0, e1, e2⟩ := trod_struct3 Tryz.underlying46 hf
    simp only [W16.cellsOf3, W16.cellsOfU, Value.cells, List.drop, List.take] at e0 e1 e2
    obtain ⟨k0, f0, -, w0⟩ := DataW.trod_int Tryz.underlying3 e0
    obtain ⟨k1, f1, -, w1⟩ := DataW.trod_int Tryz.underlying3 e1
    obtain ⟨k2, f2, -, w2⟩ := DataW.trod_int Tryz.underlying33 e2
    simp only [List.cons.injEq, and_true] at f0 f1 f2
    subst f0 f1 f2
    have hk : 0 ≤ k2 := by
      have h1 : IntKind.u32.min = 0 := by decide
      simp [Lit.wf] at w2; omega
    obtain ⟨u, rfl⟩ := Int.eq_ofNat_of_zero_le hk
    exact ⟨k0, k1, u, rfl⟩
end

end Go.Proofs.YtagibmgbjhemkaaGreat

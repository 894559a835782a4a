/- cut: the first of both lists, as lists of their own. -/
import Derived.Test.YtijgeoegeeejcaaFrame13
namespace Go.Proofs.Ytijgeoegeeejcaa
open Go.RowKit Go.Maps
/-- Numbers that came in, appended. -/
theorem run_appC {B : Nat} {w : World} {v : Value} {ks : List Int} {a : Option Addr} {len m c : Nat} {z : Nat → Int} (h : BRow B w v ks) (hB : B ≤ w.heap.size) (hs : IsInts w a len z) (hn : a = none → c = 0 ∧ m = 0) (hm : m ≤ len) (hl : ks.length + m ≤ 1000000) :
    ∃ a' n' c' w', (∀ ty, (Builtin.append_ #[22, 22] ty #[v, .slice a m c]).run Try.prog w = .ok (.slice a' n' c') w') ∧ BRow B w' (.slice a' n' c') (ks ++ (List.range m).map z) ∧ Turned (fun b => v.ownBlock = some b) w w' ∧ ∀ b, (Value.slice a' n' c').ownBlock = some b → v.ownBlock = some b ∨ w.heap.size ≤ b := by
  obtain ⟨i, hi, hz, hsz, hb⟩ := info_parts info3
  cases a with
  | none =>
    obtain ⟨rfl, rfl⟩ := hn rfl
    obtain ⟨x, cc, rfl, hc⟩ := brow_shape h
    exact ⟨x, _, cc, w, fun ty => run_append_nil w x _ cc hc ty, by simpa using h, Turned.refl _ _, fun b e => .inl e⟩
  | some ad =>
    have hcell : ∀ j u, ((List.range m).map (fun q => Value.int .i64 (z q)))[j]? = some u → w.cell? (ad.add j) = some u := fun j u hj => by
      have hjm : j < m := by have := (List.getElem?_eq_some_iff.1 hj).1; simpa using this
      rcases hs with h0 | ⟨b, off, e, -, hc⟩
      · omega
      · have e := Option.some.inj e
        subst e
        rw [add_off, hc j (by omega)]
        rw [List.getElem?_map, List.getElem?_range hjm] at hj
        exact hj
    obtain ⟨v', w', hr, g1, g2, -, g5⟩ := run_append_own_at (P := Try.prog) w B 22 0 3 i _ 1 8 Try.underlying22 hi hz hsz hb rfl (by omega) v ks.length (ks.map (Value.int .i64)) h ad m c ((List.range m).map (fun q => Value.int .i64 (z q))) (by simp) hcell (by intro u hu; obtain ⟨q, -, rfl⟩ := List.mem_map.1 hu; rfl) (by unfold maxLen; omega) (by omega) hB
    have e1 : ks.map (Value.int .i64) ++ (List.range m).map (fun q => Value.int .i64 (z q)) = (ks ++ (List.range m).map z).map (Value.int .i64) := by simp
    have e2 : ks.length + m = (ks ++ (List.range m).map z).length := by simp
    rw [e1, e2] at g1
    have g1' : BRow B w' v' (ks ++ (List.range m).map z) := g1
    obtain ⟨a', c', e, -⟩ := brow_shape g1'
    subst e
    refine ⟨a', _, c', w', fun ty => hr, g1', ⟨g2.os, g2.tape, g2.output, g2.size, fun k hk hn => g2.block k hk (fun e => hn e.symm)⟩, fun b eb => ?_⟩
    rcases g5 with q | q
    · exact .inl (by rw [← q]; exact eb)
    · have eb2 := Option.some.inj (q.symm.trans eb); exact .inr (by omega)
theorem run_append_nilE (w : World) (base : Option Addr) (l c : Nat) (hlc : l ≤ c) (ty : TypeId) : (Builtin.append_ #[23, 23] ty #[.slice base l c, .slice none 0 0]).run Try.prog w = .ok (.slice base l c) w := by
  obtain ⟨i, hi, hz, hs, hb⟩ := info_parts infoED
  cases base <;> simp [Builtin.append_, run_underlying Try.underlying23, sizeOf, typeInfo, hi, Builtin.lenOf, Builtin.firstCells, hlc, storeCells]
theorem rrow_cap {B : Nat} {w : World} {a : Option Addr} {n c : Nat} {l : List EdV} (h : ERow B w (.slice a n c) l) : n ≤ c := by
  rcases h.2 with ⟨e, h0⟩ | ⟨g', cap, cur, e, -, -, hc, -⟩
  · injection e with e1 e2 e3; omega
  · injection e with e1 e2 e3; omega
theorem run_appCE {B : Nat} {w : World} {v : Value} {l : List EdV} {a : Option Addr} {len cap m : Nat} {o : Nat → EdV} (h : ERow B w v l) (hB : B ≤ w.heap.size) (hs : IsEdsC w a len cap o) (hm : m ≤ len) (hl : l.length + m ≤ 1000000) :
    ∃ a' n' c' w', (∀ ty, (Builtin.append_ #[23, 23] ty #[v, .slice a m cap]).run Try.prog w = .ok (.slice a' n' c') w') ∧ ERow B w' (.slice a' n' c') (l ++ (List.range m).map o) ∧ Turned (fun b => v.ownBlock = some b) w w' ∧ ∀ b, (Value.slice a' n' c').ownBlock = some b → v.ownBlock = some b ∨ w.heap.size ≤ b := by
  obtain ⟨h1, h2, h3⟩ := hs
  cases a with
  | none =>
    obtain ⟨rfl, rfl⟩ := h3 rfl
    obtain rfl : m = 0 := by omega
    obtain ⟨x, cc, rfl⟩ := rrow_shape h
    exact ⟨x, _, cc, w, fun ty => run_append_nilE w x _ cc (rrow_cap h) ty, by simpa using h, Turned.refl _ _, fun b e => .inl e⟩
  | some ad =>
    have hlen : ((List.range m).map o).length = m := by simp
    have := run_appR (ts := 23) (ad := ad) (c := cap) (ys := (List.range m).map o) kitE Try.underlying23 infoED rfl (by omega) h hB (fun j u hj => by
      have hjl := (List.getElem?_eq_some_iff.1 hj).1
      rw [flat_len kitE, hlen] at hjl
      have him : j / 4 < m := by omega
      have ha : ((List.range m).map o)[j / 4]? = some (o (j / 4)) := by simp [him]
      have hjm : j % 4 < 4 := Nat.mod_lt _ (by omega)
      have h5 := flat_at kitE ha hjm
      have ej : j / 4 * 4 + j % 4 = j := by omega
      rw [ej, hj] at h5
      rcases h1 with h0 | ⟨b, off, e, -, hc⟩
      · omega
      · have e := Option.some.inj e
        subst e
        obtain ⟨⟨c1, c2, c3, c4⟩, -⟩ := hc (j / 4) (by omega)
        generalize o (j / 4) = y at c1 c2 c3 c4 h5
        rw [add_off]
        have hcs : j % 4 = 0 ∨ j % 4 = 1 ∨ j % 4 = 2 ∨ j % 4 = 3 := by omega
        rcases hcs with q | q | q | q <;> rw [q] at h5 ej
        · have eu := Option.some.inj h5; rw [eu, ← ej, Nat.add_zero]; exact c1
        · have eu := Option.some.inj h5; rw [eu, ← ej, ← Nat.add_assoc]; exact c2
        · have eu := Option.some.inj h5; rw [eu, ← ej, ← Nat.add_assoc]; exact c3
        · have eu := Option.some.inj h5; rw [eu, ← ej, ← Nat.add_assoc]; exact c4) (by rw [hlen]; exact hl)
    rw [hlen] at this
    exact this
theorem row_new (w : World) (x : Array Value) (ks : List Int) (h : x.toList = ks.map (Value.int .i64)) (hl : ks.length ≤ 1000000) : BRow w.heap.size (w.alloc (.cells x 3)) (.slice (some ⟨w.heap.size, 0, none⟩) ks.length ks.length) ks := by
  have hs : x.size = ks.length := by rw [← Array.length_toList, h, List.length_map]
  refine ⟨by simp, .inr ⟨w.heap.size, ks.length, x, rfl, Nat.le_refl _, heap_alloc_new _ _, Nat.le_refl _, by unfold maxLen; omega, by omega, ?_⟩⟩
  rw [h, List.take_of_length_le (by simp)]
theorem erow_new (w : World) (x : Array Value) (l : List EdV) (h : x.toList = l.flatMap encE) (hl : l.length ≤ 1000000) : ERow w.heap.size (w.alloc (.cells x 42)) (.slice (some ⟨w.heap.size, 0, none⟩) l.length l.length) l := by
  have hs : x.size = l.length * 4 := by rw [← Array.length_toList, h, flat_len kitE]
  refine ⟨flat_len kitE l, .inr ⟨w.heap.size, l.length, x, rfl, Nat.le_refl _, heap_alloc_new _ _, Nat.le_refl _, by unfold maxLen; omega, hs, ?_⟩⟩
  rw [h, List.take_of_length_le (by rw [flat_len kitE]; exact Nat.le_refl _)]
/-- Whatever order the operations come up in, a picture is kept. -/
theorem anyInv {P : Program} {ops : Array Oper} {Q : Exit → Act → World → Prop} {md : Region.Mode} {S : World → Prop} {T : List Nat} (I : Nat → Array Bool → Act → World → Prop) (base : Nat)
    (h0 : ∀ l a w, I 0 l a w → wpAnyL P md ops Q S T base l a w)
    (h1 : ∀ k l a w, I (k + 1) l a w → Region.ready md ops l ≠ [] ∧ ∀ i ∈ Region.ready md ops l, ∃ o, ops[i]? = some o ∧ ∀ K' : Act → World → Prop, Shut (∀ a w, S w → I k (l.setIfInBounds i true) a w → K' a w) → if Region.wanted o (yielded ops a.tmps) = true then Oper.wp P o a w K' Q else K' (a.put o.dst undef) w) :
    ∀ k l a w, I k l a w → wpAnyL P md ops Q S T (base + k) l a w
  | 0, l, a, w, h => h0 l a w h
  | k + 1, l, a, w, h => by
    obtain ⟨hne, hall⟩ := h1 k l a w h
    refine ⟨fun h0 => absurd h0 hne, fun j hj => ?_⟩
    obtain ⟨o, ho, hop⟩ := hall j hj
    exact wpOp_step ho (fun K' hK => hop K' (fun a w hS hW => hK a w ⟨fun _ => hS, anyInv I base h0 h1 k _ a w hW⟩))
theorem anyInvAt {P : Program} {ops : Array Oper} {Q : Exit → Act → World → Prop} {md : Region.Mode} {S : World → Prop} {T : List Nat} (I : Act → Nat → Array Bool → Act → World → Prop) (base k : Nat) (l : Array Bool) (a : Act) (w : World) (hst : I a k l a w)
    (h0 : ∀ l a' w, I a 0 l a' w → wpAnyL P md ops Q S T base l a' w)
    (h1 : ∀ k l a' w, I a (k + 1) l a' w → Region.ready md ops l ≠ [] ∧ ∀ i ∈ Region.ready md ops l, ∃ o, ops[i]? = some o ∧ ∀ K' : Act → World → Prop, Shut (∀ a2 w, S w → I a k (l.setIfInBounds i true) a2 w → K' a2 w) → if Region.wanted o (yielded ops a'.tmps) = true then Oper.wp P o a' w K' Q else K' (a'.put o.dst undef) w) :
    wpAnyL P md ops Q S T (base + k) l a w := anyInv (I a) base h0 (fun k l a' w h => by
      obtain ⟨h2, h3⟩ := h1 k l a' w h
      exact ⟨h2, h3⟩) k l a w hst
def lab (L : Nat → Nat) (N k : Nat) : Nat → Nat := fun b => if b < N then L b else k
/-- What is made so far. -/
def PicC (w0 : World) (ks : List Int) (b0 b6 b7 : Bool) (x6 x12 x13 : Value) (w : World) : Prop := ∃ L : Nat → Nat, Below w0.heap.size w0 w ∧ (b0 = true → b6 = false → BRow w0.heap.size w x6 [] ∧ ∀ b, x6.ownBlock = some b → L b = 2) ∧ (b6 = true → BRow w0.heap.size w x12 ks ∧ ∀ b, x12.ownBlock = some b → L b = 2) ∧ (b7 = true → ERow w0.heap.size w x13 [] ∧ ∀ b, x13.ownBlock = some b → L b = 3)
def readyC (b0 b6 b7 : Bool) : List Nat := (if b0 then [] else [0]) ++ (if b0 && !b6 then [6] else []) ++ (if b7 then [] else [7]) ++ (if b6 && b7 then [13] else [])
def InvC (a0 : Act) (w0 : World) (ks : List Int) (k : Nat) (l : Array Bool) (a : Act) (w : World) : Prop :=
  ∃ (b0 b6 b7 : Bool) (x6 x12 x13 : Value), l = #[b0, true, true, true, true, true, b6, b7, true, true, true, true, true, false, false, false] ∧ a = ((a0.put (some 6) x6).put (some 12) x12).put (some 13) x13 ∧ (!b0).toNat + (!b6).toNat + (!b7).toNat = k ∧ (b6 = true → b0 = true) ∧ PicC w0 ks b0 b6 b7 x6 x12 x13 w
theorem readyC_ne {b0 b6 b7 : Bool} : readyC b0 b6 b7 ≠ [] := by cases b0 <;> cases b6 <;> cases b7 <;> decide
theorem readyC_mem {b0 b6 b7 : Bool} {k i : Nat} (hc : (!b0).toNat + (!b6).toNat + (!b7).toNat = k + 1) (hb : b6 = true → b0 = true) (hi : i ∈ readyC b0 b6 b7) : (i = 0 ∧ b0 = false ∧ b6 = false) ∨ (i = 6 ∧ b0 = true ∧ b6 = false) ∨ (i = 7 ∧ b7 = false) := by
  revert hc hb hi
  cases b0 <;> cases b6 <;> cases b7 <;> simp [readyC] <;> omega
theorem cntC_zero {b0 b6 b7 : Bool} (h : (!b0).toNat + (!b6).toNat + (!b7).toNat = 0) : b0 = true ∧ b6 = true ∧ b7 = true := by
  revert h
  cases b0 <;> cases b6 <;> cases b7 <;> simp
/-- What Cut leaves. -/
def CutAns (w : World) (ks : List Int) (l : List EdV) (v1 v2 : Value) (w' : World) : Prop := Below w.heap.size w w' ∧ BRow w.heap.size w' v1 ks ∧ ERow w.heap.size w' v2 l ∧ ∀ b, v1.ownBlock = some b → v2.ownBlock ≠ some b
theorem isInts_below {w w' : World} {a : Option Addr} {len : Nat} {z : Nat → Int} (h : IsInts w a len z) (hb : Below w.heap.size w w') : IsInts w' a len z := by
  rcases h with h0 | ⟨b, off, e, h1, hc⟩
  · exact .inl h0
  · refine .inr ⟨b, off, e, h1, fun i hi => ?_⟩
    have h2 := hc i hi
    have hl : b < w.heap.size := by
      unfold World.cell? at h2
      rcases Nat.lt_or_ge b w.heap.size with q | q
      · exact q
      · rw [Array.getElem?_eq_none q] at h2; cases h2
    exact (hb.cell (p := ⟨b, off + i, none⟩) hl).trans h2
theorem isEds_below {w w' : World} {a : Option Addr} {len cap : Nat} {o : Nat → EdV} (h : IsEdsC w a len cap o) (hb : Below w.heap.size w w') : IsEdsC w' a len cap o := by
  obtain ⟨h1, h2, h3⟩ := h
  refine ⟨?_, h2, h3⟩
  rcases h1 with h0 | ⟨b, off, e, h4, hc⟩
  · exact .inl h0
  · refine .inr ⟨b, off, e, h4, fun i hi => ?_⟩
    obtain ⟨⟨c1, c2, c3, c4⟩, hwf⟩ := hc i hi
    have hl : b < w.heap.size := by
      have h5 := c1
      unfold World.cell? at h5
      rcases Nat.lt_or_ge b w.heap.size with q | q
      · exact q
      · rw [Array.getElem?_eq_none q] at h5; cases h5
    exact ⟨⟨(hb.cell (p := ⟨b, off + i * 4, none⟩) hl).trans c1, (hb.cell (p := ⟨b, off + i * 4 + 1, none⟩) hl).trans c2, (hb.cell (p := ⟨b, off + i * 4 + 2, none⟩) hl).trans c3, (hb.cell (p := ⟨b, off + i * 4 + 3, none⟩) hl).trans c4⟩, hwf⟩
set_option maxHeartbeats 8000000 in
set_option maxRecDepth 100000 in
theorem cutS {w : World} {a0 a1 : Option Addr} {len0 cap0 len1 cap1 : Nat} {z : Nat → Int} {o : Nat → EdV} (h0 : IsIntsC w a0 len0 cap0 z) (h1 : IsEdsC w a1 len1 cap1 o) (hb0 : len0 < 1000000000000000000) (hb1 : len1 < 1000000000000000000) :
    Calls Try.prog 9 #[.slice a0 len0 cap0, .slice a1 len1 cap1] w fun e w' => Hid (∃ v1 v2, e = .returned (.tuple #[v1, v2]) ∧ CutAns w ((List.range (min len0 40)).map z) ((List.range (min len1 160)).map o) v1 v2 w') := by
  obtain ⟨m0, hm0⟩ : ∃ m0, m0 = min len0 40 := ⟨_, rfl⟩
  obtain ⟨m1, hm1⟩ : ∃ m1, m1 = min len1 160 := ⟨_, rfl⟩
  have hk0 : min (len0 : Int) 40 = (m0 : Int) := by omega
  have hk1 : min (len1 : Int) 160 = (m1 : Int) := by omega
  obtain ⟨i0, c0, n0⟩ := h0
  have hc1 := h1.2.1
  have hc3 := h1.2.2
  have HI : Hid (∀ W x, Below w.heap.size w W → BRow w.heap.size W x [] → ∃ a' n' c' w', (∀ ty, (Builtin.append_ #[22, 22] ty #[x, .slice a0 m0 cap0]).run Try.prog W = .ok (.slice a' n' c') w') ∧ BRow w.heap.size w' (.slice a' n' c') ((List.range m0).map z) ∧ Turned (fun b => x.ownBlock = some b) W w' ∧ ∀ b, (Value.slice a' n' c').ownBlock = some b → x.ownBlock = some b ∨ W.heap.size ≤ b) := fun W x hW hx => by
    have := run_appC (m := m0) (c := cap0) hx hW.size (isInts_below i0 hW) (fun e => by have := n0 e; omega) (by omega) (by simp; omega)
    simpa using this
  have HA : Hid (∀ W x, Below w.heap.size w W → ERow w.heap.size W x [] → ∃ a' n' c' w', (∀ ty, (Builtin.append_ #[23, 23] ty #[x, .slice a1 m1 cap1]).run Try.prog W = .ok (.slice a' n' c') w') ∧ ERow w.heap.size w' (.slice a' n' c') ((List.range m1).map o) ∧ Turned (fun b => x.ownBlock = some b) W w' ∧ ∀ b, (Value.slice a' n' c').ownBlock = some b → x.ownBlock = some b ∨ W.heap.size ≤ b) := fun W x hW hx => by
    have := run_appCE (m := m1) hx hW.size (isEds_below h1 hW) (by omega) (by simp; omega)
    simpa using this
  have zc0 : (m0 : Int) ≤ (cap0 : Int) := by omega
  have zc1 : (m1 : Int) ≤ (cap1 : Int) := by omega
  have hn0 : a0 = none → m0 = 0 ∧ cap0 = 0 := fun e => by have := n0 e; omega
  have hn1 : a1 = none → m1 = 0 ∧ cap1 = 0 := fun e => by have := hc3 e; omega
  rw [← hm0, ← hm1]
  have ea0 : (if cap0 = 0 then a0 else Option.map (fun x => Addr.add x 0) a0) = a0 := by
    cases a0 with
    | none => simp
    | some x => simp [Addr.add]
  have ea1 : (if cap1 = 0 then a1 else Option.map (fun x => Addr.add x 0) a1) = a1 := by
    cases a1 with
    | none => simp
    | some x => simp [Addr.add]
  clear i0 c0 n0 h1 hc1 hc3 hn0 hn1 hb0 hb1 hm0 hm1
  go_enter Try.func9, Try.ntmps9
  go_upto_region 1 with fail
  refine wp_region_noPanic ?_
  refine regionL [] (fun y => True) (by kernel_rfl) trivial (fun hHeld => ?_)
  refine takeL (i := 1) (v := ?t2v1) (some 7) rfl rfl (by kernel_rfl) (by kernel_rfl) (by kernel_rfl) (by kernel_rfl) (by kernel_rfl) (fun _ _ _ h => h) (Or.inl ⟨by rfl, ?t2h1⟩) (by assumption) ?t2r1
  case t2h1 => (intro y hSu; (try dsimp only at hSu); go_simp; first | done | with_reducible rfl)
  (try simp only [Act.put, List.setIfInBounds_toArray, List.set_cons_zero, List.set_cons_succ])
  refine takeL (i := 2) (v := ?t2v2) (some 8) rfl rfl (by kernel_rfl) (by kernel_rfl) (by kernel_rfl) (by kernel_rfl) (by kernel_rfl) (fun _ _ _ h => h) (Or.inl ⟨by rfl, ?t2h2⟩) (by assumption) ?t2r2
  case t2h2 => (intro y hSu; (try dsimp only at hSu); go_simp; first | done | with_reducible rfl)
  (try simp only [Act.put, List.setIfInBounds_toArray, List.set_cons_zero, List.set_cons_succ])
  refine takeL (i := 3) (v := ?t2v3) (some 9) rfl rfl (by kernel_rfl) (by kernel_rfl) (by kernel_rfl) (by kernel_rfl) (by kernel_rfl) (fun _ _ _ h => h) (Or.inl ⟨by rfl, ?t2h3⟩) (by assumption) ?t2r3
  case t2h3 => (intro y hSu; (try dsimp only at hSu); go_simp; first | done | with_reducible rfl)
  (try simp only [Act.put, List.setIfInBounds_toArray, List.set_cons_zero, List.set_cons_succ])
  refine takeL (i := 4) (v := ?t2v4) (some 10) rfl rfl (by kernel_rfl) (by kernel_rfl) (by kernel_rfl) (by kernel_rfl) (by kernel_rfl) (fun _ _ _ h => h) (Or.inl ⟨by rfl, ?t2h4⟩) (by assumption) ?t2r4
  case t2h4 => (intro y hSu; (try dsimp only at hSu); go_simp; first | done | with_reducible rfl)
  (try simp only [Act.put, List.setIfInBounds_toArray, List.set_cons_zero, List.set_cons_succ])
  refine takeL (i := 5) (v := ?t2v5) (some 11) rfl rfl (by kernel_rfl) (by kernel_rfl) (by kernel_rfl) (by kernel_rfl) (by kernel_rfl) (fun _ _ _ h => h) (Or.inl ⟨by rfl, ?t2h5⟩) (by assumption) ?t2r5
  case t2h5 => (intro y hSu; (try dsimp only at hSu); go_simp; first | done | with_reducible rfl)
  (try simp only [Act.put, List.setIfInBounds_toArray, List.set_cons_zero, List.set_cons_succ])
  refine takeL (i := 8) (v := ?t2v8) (some 14) rfl rfl (by kernel_rfl) (by kernel_rfl) (by kernel_rfl) (by kernel_rfl) (by kernel_rfl) (fun _ _ _ h => h) (Or.inl ⟨by rfl, ?t2h8⟩) (by assumption) ?t2r8
  case t2h8 => (intro y hSu; (try dsimp only at hSu); go_simp; first | done | with_reducible rfl)
  (try simp only [Act.put, List.setIfInBounds_toArray, List.set_cons_zero, List.set_cons_succ])
  refine takeL (i := 9) (v := ?t2v9) (some 15) rfl rfl (by kernel_rfl) (by kernel_rfl) (by kernel_rfl) (by kernel_rfl) (by kernel_rfl) (fun _ _ _ h => h) (Or.inl ⟨by rfl, ?t2h9⟩) (by assumption) ?t2r9
  case t2h9 => (intro y hSu; (try dsimp only at hSu); go_simp; first | done | with_reducible rfl)
  (try simp only [Act.put, List.setIfInBounds_toArray, List.set_cons_zero, List.set_cons_succ])
  refine takeL (i := 10) (v := ?t2v10) (some 16) rfl rfl (by kernel_rfl) (by kernel_rfl) (by kernel_rfl) (by kernel_rfl) (by kernel_rfl) (fun _ _ _ h => h) (Or.inl ⟨by rfl, ?t2h10⟩) (by assumption) ?t2r10
  case t2h10 => (intro y hSu; (try dsimp only at hSu); go_simp; first | done | with_reducible rfl)
  (try simp only [Act.put, List.setIfInBounds_toArray, List.set_cons_zero, List.set_cons_succ])
  refine takeL (i := 11) (v := ?t2v11) (some 17) rfl rfl (by kernel_rfl) (by kernel_rfl) (by kernel_rfl) (by kernel_rfl) (by kernel_rfl) (fun _ _ _ h => h) (Or.inl ⟨by rfl, ?t2h11⟩) (by assumption) ?t2r11
  case t2h11 => (intro y hSu; (try dsimp only at hSu); go_simp; first | done | with_reducible rfl)
  (try simp only [Act.put, List.setIfInBounds_toArray, List.set_cons_zero, List.set_cons_succ])
  refine takeL (i := 12) (v := ?t2v12) (some 18) rfl rfl (by kernel_rfl) (by kernel_rfl) (by kernel_rfl) (by kernel_rfl) (by kernel_rfl) (fun _ _ _ h => h) (Or.inl ⟨by rfl, ?t2h12⟩) (by assumption) ?t2r12
  case t2h12 => (intro y hSu; (try dsimp only at hSu); go_simp; first | done | with_reducible rfl)
  (try simp only [Act.put, List.setIfInBounds_toArray, List.set_cons_zero, List.set_cons_succ])
  clear hk0 hk1 zc0 zc1 ea0 ea1
  refine anyInvAt (fun A0 => InvC A0 w ((List.range m0).map z)) 3 3 _ _ _ ?start ?h0 ?h1
  case start => exact ⟨false, false, false, undef, undef, undef, rfl, rfl, rfl, (fun e => by cases e), fun _ => 0, (Below.refl _ _).drew, (fun e => by cases e), (fun e => by cases e), (fun e => by cases e)⟩
  case h1 =>
    rintro k l a W ⟨b0, b6, b7, x6, x12, x13, rfl, rfl, hc, hb, L, hB, p0, p6, p7⟩
    generalize hr : Region.ready _ _ _ = rs
    have hrs : rs = readyC b0 b6 b7 := by rw [← hr]; revert hb; cases b0 <;> cases b6 <;> cases b7 <;> intro hb <;> first | (exact absurd (hb rfl) (by decide)) | kernel_rfl
    subst hrs
    refine ⟨readyC_ne, fun i hi => ?_⟩
    have hi2 := readyC_mem hc hb hi
    clear hr hi
    rcases hi2 with ⟨rfl, rfl, rfl⟩ | ⟨rfl, rfl, rfl⟩ | ⟨rfl, rfl⟩
    · refine ⟨_, rfl, fun K hK => ?_⟩
      go_simp
      have hb2 := below_new W (.cells #[] 3)
      have hnew := row_new W #[] [] rfl (by decide)
      refine hK.out _ _ trivial ⟨true, false, b7, .slice (some ⟨W.heap.size, 0, none⟩) 0 0, x12, x13, rfl, rfl, by simp at hc ⊢; omega, (fun e => by cases e), lab L W.heap.size 2, hB.alloc hB.size _, (fun _ _ => ⟨brow_low hnew hB.size, fun b e => if_neg (by have := (hnew.lt b e).1; omega)⟩), (fun e => by cases e), fun e => ?_⟩
      obtain ⟨e1, e2⟩ := p7 e
      exact ⟨rrow_kept e1 (fun b eb => hb2.block b (e1.lt b eb).2), fun b eb => (if_pos (e1.lt b eb).2).trans (e2 b eb)⟩
    · refine ⟨_, rfl, fun K hK => ?_⟩
      obtain ⟨q1, q2⟩ := p0 rfl rfl
      obtain ⟨a', n', c', w', r, g1, g2, g3⟩ := unhide HI W x6 hB q1
      refine step_append_run rfl (.tmp 6) (.tmp 11) 22 rfl _ _ (by simp [Act.eval, Act.put]; first | rfl | done) (by simp [Act.eval, Act.put]; first | rfl | done) _ _ (r _) ?_
      refine hK.out _ _ trivial ⟨true, true, b7, x6, .slice a' n' c', x13, rfl, rfl, by simp at hc ⊢; omega, (fun _ => rfl), lab L W.heap.size 2, hB.trans (g2.below hB.size (fun b e => (q1.lt b e).1)), (fun _ e => by cases e), (fun _ => ⟨g1, fun b e => ?_⟩), fun e => ?_⟩
      · rcases g3 b e with q | q
        · exact (if_pos (q1.lt b q).2).trans (q2 b q)
        · exact if_neg (by omega)
      · obtain ⟨e1, e2⟩ := p7 e
        exact ⟨rrow_kept e1 (fun b eb => g2.block b (e1.lt b eb).2 (fun q => by have := q2 b q; have := e2 b eb; omega)), fun b eb => (if_pos (e1.lt b eb).2).trans (e2 b eb)⟩
    · refine ⟨_, rfl, fun K hK => ?_⟩
      go_simp
      have hb2 := below_new W (.cells #[] 42)
      have hnew := erow_new W #[] [] rfl (by decide)
      refine hK.out _ _ trivial ⟨b0, b6, true, x6, x12, .slice (some ⟨W.heap.size, 0, none⟩) 0 0, rfl, rfl, by simp at hc ⊢; omega, hb, lab L W.heap.size 3, hB.alloc hB.size _, (fun e e' => ?_), (fun e => ?_), fun _ => ⟨rrow_low hnew hB.size, fun b e => if_neg (by have := (hnew.lt b e).1; omega)⟩⟩
      · obtain ⟨e1, e2⟩ := p0 e e'
        exact ⟨brow_kept e1 (fun b eb => hb2.block b (e1.lt b eb).2), fun b eb => (if_pos (e1.lt b eb).2).trans (e2 b eb)⟩
      · obtain ⟨e1, e2⟩ := p6 e
        exact ⟨brow_kept e1 (fun b eb => hb2.block b (e1.lt b eb).2), fun b eb => (if_pos (e1.lt b eb).2).trans (e2 b eb)⟩
  case h0 =>
    rintro l a W ⟨b0, b6, b7, x6, x12, x13, rfl, rfl, hc, hb, L, hB, p0, p6, p7⟩
    obtain ⟨rfl, rfl, rfl⟩ := cntC_zero hc
    obtain ⟨q1, q2⟩ := p6 rfl
    obtain ⟨t1, t2⟩ := p7 rfl
    obtain ⟨a', n', c', w', r, g1, g2, g3⟩ := unhide HA W x13 hB t1
    have HG : Hid (CutAns w ((List.range m0).map z) ((List.range m1).map o) x12 (.slice a' n' c') w') := by
      refine ⟨hB.trans (g2.below hB.size (fun b e => (t1.lt b e).1)), brow_kept q1 (fun b e => g2.block b (q1.lt b e).2 (fun q => by have := q2 b e; have := t2 b q; omega)), g1, fun b e e2 => ?_⟩
      rcases g3 b e2 with q | q
      · have := q2 b e; have := t2 b q; omega
      · have := (q1.lt b e).2; omega
    have HR := hide r
    clear p0 p6 p7 q1 q2 t1 t2 g1 g2 g3 r hB hb hc L HA HI
    (try simp only [Act.put, List.setIfInBounds_toArray, List.set_cons_zero, List.set_cons_succ])
    refine readyL (i := 13) (by kernel_rfl) rfl (fun K hK => ?_)
    refine step_append_run rfl (.tmp 13) (.tmp 18) 23 rfl _ _ (by simp [Act.eval]; first | rfl | done) (by simp [Act.eval]; first | rfl | done) _ _ (unhide HR _) ?_
    refine hK.out _ _ (fun _ => trivial) ?_
    clear hK K
    (try simp only [Act.put, List.setIfInBounds_toArray, List.set_cons_zero, List.set_cons_succ])
    have hH3 := trivial
    refine readyL (i := 14) (by kernel_rfl) rfl (fun K hK => ?_)
    go_simp
    refine hK.out _ _ (fun _ => trivial) ?_
    clear hK K
    (try simp only [List.setIfInBounds_toArray, List.set_cons_zero, List.set_cons_succ])
    have hH5 := trivial
    refine readyL (i := 15) (by kernel_rfl) rfl (fun K hK => ?_)
    go_simp
    refine hK.out _ _ (fun _ => trivial) ?_
    clear hK K
    (try simp only [List.setIfInBounds_toArray, List.set_cons_zero, List.set_cons_succ])
    have hH7 := trivial
    refine doneL (by kernel_rfl) ?_ _
    refine NoPanic.normal ?_
    go_wp2_with fail
    go_ret2
    exact ⟨_, _, rfl, unhide HG⟩
end Go.Proofs.Ytijgeoegeeejcaa

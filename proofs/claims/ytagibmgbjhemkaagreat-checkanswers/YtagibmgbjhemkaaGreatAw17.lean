/- The law's fixed fact. -/
import Derived.Test.YtagibmgbjhemkaaGreatCm17
import Derived.Test.YtagibmgbjhemkaaGreatEn16
import Derived.Test.YtagibmgbjhemkaaGreatWkAwake
namespace Go.Proofs.YtagibmgbjhemkaaGreat
open Go.RowKit Go.Maps
open W16 (WtV Lies u8v i64v dec decV)
theorem checkL [Inhabited EntI] {B : Nat} {w0 w : World} {s : Nat} {g : Gr} {v : Value} {bs : List Nat} (h : LiveS B w0 s g w) (hv : Lies u8v w v bs) (hb : ∀ x ∈ bs, x < 256) (hl : bs.length ≤ 140737488355328) (ho : ∀ b, v.ownBlock = some b → b < w.heap.size) (hr0 : 0 ≤ g.rd) (hr1 : g.rd ≤ 100000) (hQ : ∀ (i : Nat) (x : EdgeV), g.ps[i]? = some (x, true) → Wt x) :
    Calls Tryz.prog 11 #[.iface 24 (.pointer (some ⟨s, 0, none⟩)), v] w fun e w' => Hid (∃ ev k, e = .returned (.tuple #[.agg #[.int .i64 (chkA g.V g.ps bs).1.1, .int .i64 (chkA g.V g.ps bs).1.2.1, .int .u32 ((chkA g.V g.ps bs).1.2.2.1 : Nat), ev], .int .i64 ((chkA g.V g.ps bs).2.1 : Nat), .int .i64 (chkA g.V g.ps bs).2.2]) ∧ k ≤ (decV bs).1.2.2.2.length ∧ LiveS B w0 s (g.plus (k : Int)) w' ∧ W16.NRow w.heap.size w' ev (chkA g.V g.ps bs).1.2.2.2) := by
  obtain ⟨X, x1, rfl, x3, x4⟩ := h.on
  have eV : (fun k => (X.f k).isSome) = g.V := funext fun k => x3.V k
  have := checkS (X := X) x1 hv hb hl ho (by rw [x3.rd]; exact hr0) (by rw [x3.rd]; omega) (by rw [x3.ps]; exact hQ)
  rw [eV, x3.ps] at this
  refine this.mono ?_
  intro e w' hh
  obtain ⟨ev, rfl, g1, k, g2, g3⟩ := unhide hh
  exact ⟨ev, k, rfl, g2, h.reads rfl x3 x4 g3, g1⟩
theorem checkLB [Inhabited EntI] {B : Nat} {w0 w : World} {s : Nat} {g : Gr} {v : Value} {bs : List Nat} (h : LiveS B w0 s g w) (o : Obj) (hv : Lies u8v (w.alloc o) v bs) (hb : ∀ x ∈ bs, x < 256) (hl : bs.length ≤ 140737488355328) (ho : ∀ b, v.ownBlock = some b → b < (w.alloc o).heap.size) (hr0 : 0 ≤ g.rd) (hr1 : g.rd ≤ 100000) (hQ : ∀ (i : Nat) (x : EdgeV), g.ps[i]? = some (x, true) → Wt x) :
    Calls Tryz.prog 11 #[.iface 24 (.pointer (some ⟨s, 0, none⟩)), v] (w.alloc o) fun e w' => Hid (∃ ev, e = .returned (.tuple #[.agg #[.int .i64 (chkA g.V g.ps bs).1.1, .int .i64 (chkA g.V g.ps bs).1.2.1, .int .u32 ((chkA g.V g.ps bs).1.2.2.1 : Nat), ev], .int .i64 ((chkA g.V g.ps bs).2.1 : Nat), .int .i64 (chkA g.V g.ps bs).2.2]) ∧ Below B w0 w' ∧ w'.heap[w.heap.size]? = some o ∧ W16.NRow (w.alloc o).heap.size w' ev (chkA g.V g.ps bs).1.2.2.2) := by
  have h' := h.step (below_new w o)
  obtain ⟨X, x1, rfl, x3, x4⟩ := h.on
  have eV : (fun k => (X.f k).isSome) = g.V := funext fun k => x3.V k
  have := checkS (X := X) (x1.below (below_new w o)) hv hb hl ho (by rw [x3.rd]; exact hr0) (by rw [x3.rd]; omega) (by rw [x3.ps]; exact hQ)
  rw [eV, x3.ps] at this
  refine this.mono ?_
  intro e w' hh
  obtain ⟨ev, rfl, g1, k, g2, g3⟩ := unhide hh
  exact ⟨ev, rfl, (h'.reads rfl x3 x4 g3).below, (g3.2.2.old (by simp) (x1.mem.new (Nat.le_refl _))).1.trans (heap_alloc_new _ _), g1⟩
def x17 : WtV := (5, 9, 1065353216, [1])
theorem good17 : W16.Good x17 := ⟨by decide, by decide, by decide, by decide, by decide⟩
theorem enc17 : W16.encV x17 = W16.encWt x17 := if_pos (W16.errC_good good17)
theorem lies_one (w : World) (k : Int) : Lies i64v (w.alloc (.cells #[.int .i64 k] 3)) (.slice (some ⟨w.heap.size, 0, none⟩) 1 1) [k] :=
  ⟨_, 1, rfl, by simp, fun e => (by cases e), .inr ⟨w.heap.size, 0, rfl, fun i x hx => by
    obtain rfl : i = 0 := by have := (List.getElem?_eq_some_iff.1 hx).1; simp at this; omega
    obtain rfl : k = x := by simpa using hx
    exact (cell_of_row _ _ 0 _ _ (0, 0) (heap_alloc_new w (.cells #[.int .i64 k] 3))).trans rfl⟩⟩
theorem lies_nil (w : World) : Lies u8v w (.slice none 0 0) [] := ⟨none, 0, rfl, Nat.le_refl _, fun _ => rfl, .inl rfl⟩
set_option maxHeartbeats 4000000 in
set_option maxRecDepth 100000 in
theorem awake17S [Inhabited EntI] (w : World) : Calls Tryz.prog 9 #[] w fun e w' => e = .returned (.bool true) ∧ Hid (Below w.heap.size w w') := by
  have CN := hide (newL w)
  go_enter Tryz.func9, Tryz.ntmps9
  go_wp2_with fail
  refine (unhide CN).mono ?_
  rintro e w1 ⟨s, rfl, h1⟩
  have C1 := hide (addVL 5 (unhide h1) (by omega) (by omega) rfl (by show 0 < 256; omega))
  clear CN h1
  go_wp2_with fail
  refine (unhide C1).mono ?_
  rintro e w2 ⟨rfl, h2⟩
  have C2 := hide (addVL 9 (unhide h2) (by omega) (by omega) rfl (by show 0 + 1 < 256; omega))
  clear C1 h2
  go_wp2_with fail
  refine (unhide C2).mono ?_
  rintro e w3 ⟨rfl, h3⟩
  have C4 : Hid (Calls Tryz.prog 32 #[.pointer (some ⟨s, 0, none⟩), .agg #[.int .i64 1, .int .i64 5, .int .i64 9, .int .u32 1065353216]] w3 fun r w' => r = .returned (.int .i64 0) ∧ Hid (LiveS w.heap.size w s ((⟨fun j => decide (j = 9) || (decide (j = 5) || false), 0 + 1 + 1, [], 0, 0, 0⟩ : Gr).ins 0 5 9 1065353216) w')) := putEL 0 5 9 1065353216 (unhide h3) (by omega) (fun a => by simp) rfl rfl (by omega) kept_one8 (by show 0 ≤ 900000000; omega) (by show (0 : Int) ≤ 0; omega) (by show (0 : Int) ≤ 1000000000; omega)
  clear C2 h3
  go_wp2_with fail
  refine (unhide C4).mono ?_
  rintro e w5 ⟨rfl, h5⟩
  obtain ⟨G, hG⟩ : ∃ G, G = ((⟨fun j => decide (j = 9) || (decide (j = 5) || false), 0 + 1 + 1, [], 0, 0, 0⟩ : Gr).ins 0 5 9 1065353216) := ⟨_, rfl⟩
  have hps : G.ps = [(x18, true)] := by rw [hG]; rfl
  have hrd : G.rd = 0 := by rw [hG]; rfl
  have hV5 : G.V 5 = true := by rw [hG]; rfl
  have hV9 : G.V 9 = true := by rw [hG]; rfl
  rw [← hG] at h5
  have hQ : ∀ (i : Nat) (x : EdgeV), G.ps[i]? = some (x, true) → Wt x := fun i x hx => by
    rw [hps] at hx
    have := (List.getElem?_eq_some_iff.1 hx).1
    obtain rfl : i = 0 := by simp at this; omega
    have e : x18 = x := by simpa using hx
    rw [← e]; exact ⟨by decide, by decide⟩
  have ht : trip G.ps 5 [1] = ([x18], none) := by rw [hps]; rfl
  have CE := hide (W16.encodeS 5 9 1065353216 (lies_one w5 1) (by omega))
  have h6 := (unhide h5).step (below_new w5 (.cells #[.int .i64 1] 3))
  have hd : dec (W16.encV x17) = some x17 := by rw [enc17]; exact W16.dec_enc good17
  have hch : chkA G.V G.ps (W16.encV x17) = (x17, 0, 0) := by
    unfold chkA
    rw [hd]
    show (if (holdA (G.V 5) (G.V 9) (trip G.ps 5 [1]) 5 9 1065353216).2 = 0 then _ else _) = _
    have : holdA (G.V 5) (G.V 9) (trip G.ps 5 [1]) 5 9 1065353216 = (0, 0) := by
      rw [hV5, hV9, ht]
      unfold holdA
      rw [if_neg (by decide), if_neg (by simp)]
      simp only
      rw [cost_x18]
      rfl
    rw [this]; rfl
  have HC : Hid (∀ W v, LiveS w.heap.size w s G W → W16.ByRow 0 W v (W16.encV x17) → Calls Tryz.prog 11 #[.iface 24 (.pointer (some ⟨s, 0, none⟩)), v] W fun e w' => ∃ ev k, e = .returned (.tuple #[.agg #[.int .i64 5, .int .i64 9, .int .u32 1065353216, ev], .int .i64 0, .int .i64 0]) ∧ (∃ a c, ev = .slice a 1 c) ∧ Hid (k ≤ 1024 ∧ LiveS w.heap.size w s (G.plus ((k : Nat) : Int)) w')) := fun W v hW hv => by
    have hby : ∀ x ∈ W16.encV x17, x < 256 := by rw [enc17]; exact W16.enc_byte x17
    have hln : (W16.encV x17).length ≤ 4000 := by rw [enc17]; exact W16.enc_len good17
    refine (checkL hW (W16.byrow_lies hv) hby (by omega) (fun b e => (hv.lt b e).2) (by rw [hrd]; omega) (by rw [hrd]; omega) hQ).mono ?_
    intro e w' hh
    obtain ⟨ev, k, rfl, g1, g2, g3⟩ := unhide hh
    rw [hch] at g3 ⊢
    obtain ⟨a, c, e3⟩ := W16.rrow_shape g3
    refine ⟨ev, k, rfl, ⟨a, c, e3⟩, ?_, g2⟩
    rw [decV_some hd] at g1
    have : k ≤ 1 := g1
    omega
  have HC2 : Hid (∀ W (k : Nat) o, k ≤ 1024 → LiveS w.heap.size w s (G.plus (k : Int)) W → Calls Tryz.prog 11 #[.iface 24 (.pointer (some ⟨s, 0, none⟩)), .slice none 0 0] (W.alloc o) fun e w' => ∃ ev, e = .returned (.tuple #[.agg #[.int .i64 0, .int .i64 0, .int .u32 0, ev], .int .i64 0, .int .i64 160]) ∧ (∃ a c, ev = .slice a 0 c) ∧ Hid (Below w.heap.size w w' ∧ w'.heap[W.heap.size]? = some o)) := fun W k o hk hW => by
    refine (checkLB hW o (lies_nil _) (fun x hx => by cases hx) (by simp) (fun b e => by cases e) (by show 0 ≤ G.rd + (k : Int); rw [hrd]; omega) (by show G.rd + (k : Int) ≤ 100000; rw [hrd]; omega) hQ).mono ?_
    intro e w' hh
    obtain ⟨ev, rfl, g1, g2, g3⟩ := unhide hh
    have e0 : chkA (G.plus (k : Int)).V (G.plus (k : Int)).ps [] = ((0, 0, 0, []), 0, 160) := rfl
    rw [e0] at g3 ⊢
    obtain ⟨a, c, e3⟩ := W16.rrow_shape g3
    exact ⟨ev, rfl, ⟨a, c, e3⟩, g1, g2⟩
  have H6 := hide h6
  clear C4 h5 h6 hps hrd hV5 hV9 hG ht hQ hd hch
  go_wp2_with fail
  refine (unhide CE).mono ?_
  intro e w6 hh
  obtain ⟨bv, rfl, b1, b2⟩ := unhide hh
  rw [show W16.errC (5, 9, 1065353216, [1]) = 0 from W16.errC_good good17]
  have C6 := hide (unhide HC w6 bv ((unhide H6).step b2) (W16.rrow_low b1 (Nat.zero_le _)))
  clear CE HC H6 hh b1 b2
  go_wp2_with fail
  refine (unhide C6).mono ?_
  rintro e w7 ⟨ev, k, rfl, ⟨a, c, rfl⟩, H7⟩
  obtain ⟨k1, k2⟩ := unhide H7
  have C7 := hide (unhide HC2 _ k (oWt 5 9 1065353216 (.slice a 1 c)) k1 k2)
  have HS := hide k2.room
  clear C6 HC2 H7 k1 k2
  go_upto_region 6 with fail
  change Code.wp _ _ _ _ (w7.alloc (oWt 5 9 1065353216 (.slice a 1 c)))
  generalize w7.alloc (oWt 5 9 1065353216 (.slice a 1 c)) = w8 at *
  generalize w7.heap.size = b4 at *
  go_wp2_with fail
  refine (unhide C7).mono ?_
  rintro e w9 ⟨ev9, rfl, ⟨a9, c9, rfl⟩, H9⟩
  obtain ⟨hB, hbx⟩ := unhide H9
  have hb10 := below_new w9 (oWt 0 0 0 (.slice a9 0 c9))
  have hbx' := (hb10.block _ (heap_lt hbx)).trans hbx
  obtain ⟨y0, y1, y2, y3⟩ := oWt_cells hbx'
  have HB : Hid (Below w.heap.size w (w9.alloc (oWt 0 0 0 (.slice a9 0 c9)))) := hB.trans (hb10.mono hB.size)
  clear C7 H9 hB hbx hb10 hbx'
  go_upto_region 7 with fail
  change Code.wp _ _ _ _ (w9.alloc (oWt 0 0 0 (.slice a9 0 c9)))
  generalize w9.alloc (oWt 0 0 0 (.slice a9 0 c9)) = w10 at *
  go_wp2_with fail
  go_ret
  exact ⟨rfl, HB⟩
end Go.Proofs.YtagibmgbjhemkaaGreat

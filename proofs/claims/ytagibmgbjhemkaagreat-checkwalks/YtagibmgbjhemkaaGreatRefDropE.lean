/- The reference's DropEdge. -/
import Derived.Test.YtagibmgbjhemkaaGreatStNew
import Derived.Test.YtagibmgbjhemkaaGreatStDropV
import Derived.Test.YtagibmgbjhemkaaGreatMapG17
namespace Go.Proofs.YtagibmgbjhemkaaGreat

section
open Go.RowKit Go.Maps
structure Gr where
  V : Int → Bool
  N : Nat
  ps : List (EdgeV × Bool)
  rd : Int
  wr : Int
  nb : Nat
structure Shows (X : Sto) (g : Gr) : Prop where
  V : ∀ k, (X.f k).isSome = g.V k
  N : X.N = g.N
  ps : X.ps = g.ps
  rd : X.rd = g.rd
  wr : X.wr = g.wr
  n : X.n ≤ g.nb
structure LiveS [Inhabited EntI] (B : Nat) (w0 : World) (s : Nat) (g : Gr) (w : World) : Prop where
  below : Below B w0 w
  room : B ≤ w.heap.size
  on : ∃ X, StAt w X ∧ X.s = s ∧ Shows X g ∧ ∀ b, X.L b ≠ none → B ≤ b
theorem Shows.some_ {X : Sto} {g : Gr} (h : Shows X g) {k : Int} (hk : g.V k = true) : X.f k ≠ none := fun e => by
  have := h.V k; rw [e, hk] at this; cases this
theorem Shows.none_ {X : Sto} {g : Gr} (h : Shows X g) {k : Int} (hk : g.V k = false) : X.f k = none := by
  have := h.V k; rw [hk] at this
  cases e : X.f k with
  | none => rfl
  | some q => rw [e] at this; cases this
section
variable [Inhabited EntI] {B : Nat} {w0 w w' : World} {s : Nat} {g : Gr}
theorem LiveS.step (h : LiveS B w0 s g w) (hb : Below w.heap.size w w') : LiveS B w0 s g w' := by
  obtain ⟨X, h1, h2, h3, h4⟩ := h.on; exact ⟨h.below.trans (hb.mono h.room), Nat.le_trans h.room hb.size, X, h1.below hb, h2, h3, h4⟩
theorem LiveS.draw (h : LiveS B w0 s g w) (q : Nat) : LiveS B w0 s g (w.drewN q) := h.step (below_drewN (Below.refl _ _) q)
theorem LiveS.later {X X' : Sto} {g' : Gr} (h : LiveS B w0 s g w) (hs : X.s = s) (hl : ∀ b, X.L b ≠ none → B ≤ b) (hS : Step w X w' X') (hg : Shows X' g') : LiveS B w0 s g' w' := by
  obtain ⟨r1, r2, r3, r4⟩ := hS; exact ⟨h.below.trans (r3.below h.room (fun b hb => hl b hb)), Nat.le_trans h.room r3.size, X', r1, r2.trans hs, hg, fun b hb => (r4 b hb).elim (hl b) (fun e => Nat.le_trans h.room e)⟩
theorem LiveS.len (h : LiveS B w0 s g w) : (g.ps.length : Int) ≤ 1024 := by
  obtain ⟨X, h1, -, h3, -⟩ := h.on; rw [← h3.ps]; exact h1.tab.len
theorem LiveS.keys (h : LiveS B w0 s g w) {k : Int} (hk : g.V k = true) : 0 ≤ k ∧ k ≤ 2147483647 := by
  obtain ⟨X, h1, -, h3, -⟩ := h.on; exact h1.mem.keys k (h3.some_ hk)
theorem newL (w : World) : Calls Tryz.prog 29 #[] w fun e w' => ∃ s, e = .returned (.pointer (some ⟨s, 0, none⟩)) ∧ Hid (LiveS w.heap.size w s ⟨fun _ => false, 0, [], 0, 0, 0⟩ w') :=
  (newS w).mono fun _ _ ⟨s, he, hh⟩ => by
    obtain ⟨X, h1, h2, h3, h4, h5, h6, h7, h8, h9, h10⟩ := hh.out; exact ⟨s, he, h2, h2.size, X, h3, h1, ⟨fun k => by rw [h6]; rfl, h7, h5, h8, h9, by rw [h10]; exact Nat.zero_le _⟩, h4⟩
theorem addVL (k : Int) (h : LiveS B w0 s g w) (h0 : 0 ≤ k) (h1 : k ≤ 2147483647) (hk : g.V k = false) (hN : g.N < 256) : Calls Tryz.prog 31 #[.pointer (some ⟨s, 0, none⟩), .int .i64 k] w fun e w' => e = .returned (.int .i64 0) ∧ Hid (LiveS B w0 s { g with V := fun j => decide (j = k) || g.V j, N := g.N + 1 } w') := by
  obtain ⟨X, g1, rfl, h3, h4⟩ := h.on; refine (addVS k g1 h0 h1 (h3.none_ hk) (by rw [h3.N]; exact hN)).mono ?_
  rintro e w' ⟨rfl, hh⟩
  refine ⟨rfl, h.later rfl h4 (unhide hh) ⟨fun j => ?_, by show X.N + 1 = _; rw [h3.N], h3.ps, h3.rd, h3.wr, h3.n⟩⟩
  show (putK X.f k (some w.heap.size) j).isSome = _; unfold putK
  by_cases e : j = k
  · rw [if_pos e]; simp [e]
  · rw [if_neg e, h3.V]; simp [e]
def Gr.ins (g : Gr) (i : Nat) (u v kb : Int) : Gr := { g with ps := (groE g.ps (i + 1)).set i (((i : Int) + 1, u, v, kb), true), wr := g.wr + 1, nb := g.nb + 65536 }
theorem shows_ins {w w' : World} {X X' : Sto} {i : Nat} {u v kb : Int} (h3 : Shows X g) (hI : Insd w X i ((i : Int) + 1, u, v, kb) w' X') : Shows X' (g.ins i u v kb) := by
  obtain ⟨-, r1, r2, r3, r4, r5, r6⟩ := hI; refine ⟨fun j => by rw [r2]; exact h3.V j, r3.trans h3.N, by rw [r1, h3.ps]; rfl, r4.trans h3.rd, by rw [r5, h3.wr]; rfl, Nat.le_trans r6 (Nat.add_le_add_right h3.n _)⟩
theorem putEL {kb : Int} (i : Nat) (u v n : Int) (h : LiveS B w0 s g w) (hi : i < 1024) (hfree : ∀ a, g.ps[i]? ≠ some (a, true)) (hu : g.V u = true) (hv : g.V v = true) (h0 : 0 ≤ n) (hk : kept n = some kb) (hn : g.nb ≤ 900000000) (hw0 : 0 ≤ g.wr) (hw1 : g.wr ≤ 1000000000) : Calls Tryz.prog 32 #[.pointer (some ⟨s, 0, none⟩), .agg #[.int .i64 ((i : Int) + 1), .int .i64 u, .int .i64 v, .int .u32 n]] w fun r w' => r = .returned (.int .i64 0) ∧ Hid (LiveS B w0 s (g.ins i u v kb) w') := by
  obtain ⟨X, g1, rfl, h3, h4⟩ := h.on; refine (putES i u v n g1 hi (by rw [h3.ps]; exact hfree) (h3.some_ hu) (h3.some_ hv) h0 hk (Nat.le_trans h3.n hn) (by rw [h3.wr]; exact hw0) (by rw [h3.wr]; exact hw1)).mono ?_
  rintro e w' ⟨rfl, hh⟩
  obtain ⟨X', hI⟩ := unhide hh; exact ⟨rfl, h.later rfl h4 hI.1 (shows_ins h3 hI)⟩
def Gr.cut (g : Gr) (i : Nat) : Gr := { g with ps := g.ps.set i (((0, 0, 0, 0) : EdgeV), false), wr := g.wr + 1, nb := g.nb + 65536 }
def Gr.lose (g : Gr) (k : Int) : Gr := { g with V := fun j => !decide (j = k) && g.V j, N := g.N - 1, ps := clr g.ps (boths g.ps k), wr := g.wr + (boths g.ps k).length, nb := g.nb + 65536 * (boths g.ps k).length }
end
end

section
open Go.RowKit Go.Maps
theorem encG_len (gs : List EdgeV) : (encG gs).length = gs.length * 4 := by
  induction gs with
  | nil => rfl
  | cons r rs ih =>
    have e : encG (r :: rs) = .int .i64 r.1 :: .int .i64 r.2.1 :: .int .i64 r.2.2.1 :: .int .u32 r.2.2.2 :: encG rs := by simp [encG]
    rw [e]; simp only [List.length_cons, ih]; omega
theorem encG_app (a b : List EdgeV) : encG (a ++ b) = encG a ++ encG b := by simp [encG]
theorem encG_one (gs : List EdgeV) : ∀ u ∈ encG gs, u.oneCell' = true := by
  intro u hu; simp only [encG, List.mem_flatMap] at hu; obtain ⟨a, -, h⟩ := hu; simp at h; rcases h with rfl | rfl | rfl | rfl <;> rfl
theorem encG_seg (gs : List EdgeV) (i m : Nat) (hm : i + m ≤ gs.length) {j : Nat} {u : Value} (hj : (encG ((gs.drop i).take m))[j]? = some u) : (encG gs)[i * 4 + j]? = some u := by
  have e : gs = gs.take i ++ ((gs.drop i).take m ++ (gs.drop i).drop m) := by rw [List.take_append_drop, List.take_append_drop]
  have hlt := (List.getElem?_eq_some_iff.1 hj).1; rw [e, encG_app, encG_app]; have hl : (encG (gs.take i)).length = i * 4 := by rw [encG_len, List.length_take]; omega
  rw [List.getElem?_append_right (by omega), hl, show i * 4 + j - i * 4 = j by omega, List.getElem?_append_left hlt]
  exact hj
theorem run_appGS {B : Nat} {w : World} (hB : B ≤ w.heap.size) {v : Value} {a es : List EdgeV} {g n c i m : Nat} (h1 : GRow B w v a) (h2 : GRow 0 w (.slice (some ⟨g, 0, none⟩) n c) es) (hm : i + m ≤ es.length) (hl : a.length + es.length ≤ 1000000) (c2 : Nat) :
    ∃ v' w', (∀ ty, (Builtin.append_ #[26, 26] ty #[v, .slice (some ⟨g, i * 4, none⟩) m c2]).run Tryz.prog w = .ok v' w') ∧ GRow B w' v' (a ++ (es.drop i).take m) ∧ w.grownBy w' v.ownBlock := by
  obtain ⟨i0, hi0, hz, hs, hb⟩ := info_parts info64; have hlen : ((es.drop i).take m).length = m := by rw [List.length_take, List.length_drop]; omega
  obtain ⟨v', w', hr, g1, g2, -, -⟩ := run_append_own_at (P := Tryz.prog) w B 26 0 64 i0 _ 4 32 Tryz.underlying26 hi0 hz hs hb rfl (by omega) v a.length (encG a) h1 ⟨g, i * 4, none⟩ m c2 (encG ((es.drop i).take m)) (by rw [encG_len, hlen])
    (fun j u hj => by
      have add : (⟨g, i * 4, none⟩ : Addr).add j = ⟨g, i * 4 + j, none⟩ := by unfold Addr.add; split <;> simp_all
      have add0 : (⟨g, 0, none⟩ : Addr).add (i * 4 + j) = ⟨g, i * 4 + j, none⟩ := by unfold Addr.add; split <;> simp_all
      have f := h2.cells (g := g) rfl _ _ (encG_seg es i m hm hj); rw [add0] at f; rw [add]; exact f) (encG_one _) (by unfold maxLen; omega) (by omega) hB
  refine ⟨v', w', fun ty => hr, ?_, g2⟩
  have e2 : a.length + m = (a ++ (es.drop i).take m).length := by rw [List.length_append, hlen]
  rw [← encG_app, e2] at g1; exact g1
end

section
open Go.RowKit Go.Maps
theorem run_appG_zero (w : World) (base base2 : Option Addr) (l c c2 : Nat) (hlc : l ≤ c) (ty : TypeId) : (Builtin.append_ #[26, 26] ty #[.slice base l c, .slice base2 0 c2]).run Tryz.prog w = .ok (.slice base l c) w := by
  obtain ⟨i, hi, hz, hs, hb⟩ := info_parts info64; have hl : ∀ (x : Addr), (loadCells x 0).run Tryz.prog w = .ok #[] w := fun x => by simpa using run_loadCells_list (P := Tryz.prog) w x [] (by simp)
  cases base <;> cases base2 <;> simp [Builtin.append_, run_underlying Tryz.underlying26, sizeOf, typeInfo, hi, Builtin.lenOf, Builtin.firstCells, hlc, storeCells, hl]
theorem grow_cap {B : Nat} {w : World} {a : Option Addr} {n c : Nat} {gs : List EdgeV} (h : GRow B w (.slice a n c) gs) : n ≤ c := by
  rcases h.2 with ⟨e, h0⟩ | ⟨g, cap, cur, e, -, -, hc, -⟩
  · injection e with e1 e2 e3; omega
  · injection e with e1 e2 e3; omega
abbrev oX (x : EdgeV) : Obj := .cells #[.int .i64 x.1, .int .i64 x.2.1, .int .i64 x.2.2.1, .int .u32 x.2.2.2] 64 (0, 0)
theorem dropE_mem {w2 : World} {g ec i : Nat} {es : List EdgeV} {x : EdgeV} (_hg : g < w2.heap.size) (hR : GRow 0 w2 (.slice (some ⟨g, 0, none⟩) es.length ec) es) (hi : i < es.length) (hl : es.length ≤ 400000) :
    ∃ a5 n5 c5 w5, (∀ ty, (Builtin.append_ #[26, 26] ty #[.slice (some ⟨w2.heap.size + 1, 0, none⟩) 0 0, .slice (some ⟨g, 0, none⟩) i ec]).run Tryz.prog ((w2.alloc (oX x)).alloc (.cells #[] 64)) = .ok (.slice a5 n5 c5) w5) ∧ Below (w2.heap.size + 1) (w2.alloc (oX x)) w5 ∧
      ∃ a6 n6 c6 w6, (∀ b c2 ty, (b = some ⟨g, (i + 1) * 4, none⟩ ∧ c2 = ec - (i + 1) ∨ es.length = i + 1) → (Builtin.append_ #[26, 26] ty #[.slice a5 n5 c5, .slice b (es.length - (i + 1)) c2]).run Tryz.prog w5 = .ok (.slice a6 n6 c6) w6) ∧ GRow (w2.heap.size + 1) w6 (.slice a6 n6 c6) (es.take i ++ es.drop (i + 1)) ∧ Below (w2.heap.size + 1) (w2.alloc (oX x)) w6 := by
  have hs1 : (w2.alloc (oX x)).heap.size = w2.heap.size + 1 := by simp
  have hb2 := below_new (w2.alloc (oX x)) (.cells #[] 64); rw [hs1] at hb2; have hs2 : w2.heap.size + 1 ≤ ((w2.alloc (oX x)).alloc (.cells #[] 64)).heap.size := by rw [← hs1]; exact hb2.size
  have hR1 := grow_below hR (below_new w2 (oX x)); have hR2 : GRow 0 ((w2.alloc (oX x)).alloc (.cells #[] 64)) (.slice (some ⟨g, 0, none⟩) es.length ec) es := grow_below hR1 (by rw [hs1]; exact hb2)
  have h0 : GRow (w2.heap.size + 1) ((w2.alloc (oX x)).alloc (.cells #[] 64)) (.slice (some ⟨w2.heap.size + 1, 0, none⟩) 0 0) [] := by
    have := heap_alloc_new (w2.alloc (oX x)) (.cells #[] 64); rw [hs1] at this; exact ⟨rfl, .inr ⟨w2.heap.size + 1, 0, #[], rfl, Nat.le_refl _, this, Nat.le_refl _, by unfold maxLen; omega, rfl, rfl⟩⟩
  obtain ⟨v5, w5, hr5, g5, gg5⟩ := run_appGS (i := 0) (m := i) hs2 h0 hR2 (by omega) (by simp; omega) ec
  obtain ⟨a5, n5, c5, rfl⟩ := grow_shape g5; simp only [List.drop_zero, List.nil_append, Nat.zero_mul] at hr5 g5; have hB5 : Below (w2.heap.size + 1) (w2.alloc (oX x)) w5 := hb2.trans ⟨gg5.os, gg5.tape, gg5.output, gg5.size, fun k hk => gg5.block k (Nat.lt_of_lt_of_le hk hs2) (fun e => by
    have := (h0.lt k e.symm).1; omega)⟩
  have hs5 := hB5.size; have hR5 : GRow 0 w5 (.slice (some ⟨g, 0, none⟩) es.length ec) es := grow_below hR1 (by rw [hs1]; exact hB5)
  refine ⟨a5, n5, c5, w5, hr5, hB5, ?_⟩
  by_cases hz : es.length = i + 1
  · refine ⟨a5, n5, c5, w5, fun b c2 ty _ => ?_, ?_, hB5⟩
    · rw [show es.length - (i + 1) = 0 by omega]
      exact run_appG_zero w5 a5 b n5 c5 _ (grow_cap g5) ty
    · rw [List.drop_eq_nil_of_le (by omega : es.length ≤ i + 1), List.append_nil]
      exact g5
  · obtain ⟨v6, w6, hr6, g6, gg6⟩ := run_appGS (i := i + 1) (m := es.length - (i + 1)) (by omega : w2.heap.size + 1 ≤ w5.heap.size) g5 hR5 (by omega) (by rw [List.length_take]; omega) (ec - (i + 1))
    obtain ⟨a6, n6, c6, rfl⟩ := grow_shape g6; have et : (es.drop (i + 1)).take (es.length - (i + 1)) = es.drop (i + 1) := List.take_of_length_le (by rw [List.length_drop]; omega)
    rw [et] at g6; refine ⟨a6, n6, c6, w6, fun b c2 ty hb => ?_, g6, hB5.trans ⟨gg6.os, gg6.tape, gg6.output, gg6.size, fun k hk => gg6.block k (by omega) (fun e => by
      have := (g5.lt k e.symm).1; omega)⟩⟩
    rcases hb with ⟨rfl, rfl⟩ | e
    · exact hr6 ty
    · exact absurd e hz
theorem dropE_fin {w w2 w6 : World} {bb b1 b2 : Nat} {va a6 ea : Option Addr} {vn vc n6 c6 en ec : Nat} {rd wr_0 : Int} {vs : List Int} {fs : List EdgeV} {x : EdgeV} (h1 : bb < b1) (h2 : b1 < b2) (h3 : b2 < w2.heap.size) (k1 : w2.heap[b1]? = some oZ) (k2 : w2.heap[b2]? = some o34) (k3 : w2.heap[bb]? = some (oG (.slice va vn vc) (.slice ea en ec) rd wr_0)) (k4 : Below bb w w2)
    (hV : ∀ W, Below bb w W → NRow W (.slice va vn vc) vs) (g6 : GRow (w2.heap.size + 1) w6 (.slice a6 n6 c6) fs) (hB : Below (w2.heap.size + 1) (w2.alloc (oX x)) w6) :
    ∀ w8, w8 = (w6.setCell ⟨bb, 1, none⟩ (.slice a6 n6 c6)).setCell ⟨bb, 3, none⟩ (.int .i64 (wr_0 + 1)) →
      w8.heap[bb]? = some (oG (.slice va vn vc) (.slice a6 n6 c6) rd (wr_0 + 1)) ∧ w8.heap[b1]? = some oZ ∧ w8.heap[b2]? = some o34 ∧ w8.heap[w2.heap.size]? = some (oX x) ∧ Below bb w w8 ∧
      ∀ p q r s p' q' r' s', Below bb w (set4 (set4 w8 b1 p q r s) b2 p' q' r' s') ∧ NRow (set4 (set4 w8 b1 p q r s) b2 p' q' r' s') (.slice va vn vc) vs ∧ GRow 0 (set4 (set4 w8 b1 p q r s) b2 p' q' r' s') (.slice a6 n6 c6) fs := by
  intro w8 e8; have old : ∀ b, b < w2.heap.size → w6.heap[b]? = w2.heap[b]? := fun b hb => (hB.block b (by omega)).trans (heap_alloc_old w2 _ hb)
  have newx : w6.heap[w2.heap.size]? = some (oX x) := (hB.block _ (by omega)).trans (heap_alloc_new w2 _)
  have m3 := (old bb (by omega)).trans k3
  have hB6 : Below bb w w6 := k4.trans (((below_new w2 (oX x)).mono (by omega)).trans (hB.mono (by omega)))
  have q1 : (w6.setCell ⟨bb, 1, none⟩ (.slice a6 n6 c6)).heap[bb]? = some (oG (.slice va vn vc) (.slice a6 n6 c6) rd wr_0) := by rw [heap_setCell_same _ _ _ _ _ _ m3]; rfl
  have q2 : w8.heap[bb]? = some (oG (.slice va vn vc) (.slice a6 n6 c6) rd (wr_0 + 1)) := by rw [e8, heap_setCell_same _ _ _ _ _ _ q1]; rfl
  have oth : ∀ b, b ≠ bb → w8.heap[b]? = w6.heap[b]? := fun b hb => by rw [e8]; exact (heap_setCell_other _ _ _ _ hb).trans (heap_setCell_other _ _ _ _ hb)
  have hB8 : Below bb w w8 := by
    rw [e8]; exact (hB6.setCell (p := ⟨bb, 1, none⟩) (Nat.le_refl _) _).setCell (p := ⟨bb, 3, none⟩) (Nat.le_refl _) _
  refine ⟨q2, (oth b1 (by omega)).trans ((old b1 (by omega)).trans k1), (oth b2 (by omega)).trans ((old b2 (by omega)).trans k2), (oth _ (by omega)).trans newx, hB8, ?_⟩
  intro p q r s p' q' r' s'; have hB9 := set4_below (set4_below hB8 (by omega : bb ≤ b1) p q r s) (by omega : bb ≤ b2) p' q' r' s'
  refine ⟨hB9, hV _ hB9, ?_⟩; have g8 : GRow (w2.heap.size + 1) (set4 (set4 w8 b1 p q r s) b2 p' q' r' s') (.slice a6 n6 c6) fs := grow_kept g6 (fun b hb => by
    have := (g6.lt b hb).1; exact (set4_other (by omega) _ _ _ _).trans ((set4_other (by omega) _ _ _ _).trans (oth b (by omega))))
  refine ⟨g8.1, ?_⟩; rcases g8.2 with h | ⟨g, cap, cur, e, -, rest⟩
  · exact .inl h
  · exact .inr ⟨g, cap, cur, e, Nat.zero_le _, rest⟩
end

section
open Go.RowKit Go.Maps
theorem nrow_drew {w : World} {v : Value} {ks : List Int} (h : NRow w v ks) : NRow w.drew v ks := nrow_kept h (fun _ _ => rfl)
theorem grow_drew {B : Nat} {w : World} {v : Value} {gs : List EdgeV} (h : GRow B w v gs) : GRow B w.drew v gs := grow_kept h (fun _ _ => rfl)
set_option maxHeartbeats 2000000 in
set_option maxRecDepth 100000 in
theorem refDropE {w : World} {vv ev : Value} {rd wr_0 : Int} {vs : List Int} {es : List EdgeV} (v : Int) (h : NRow w vv vs) (hE : GRow 0 w ev es) (hl : es.length ≤ 400000) (hr0 : 0 ≤ wr_0) (hr1 : wr_0 ≤ 1000000000) {x : EdgeV} (hx : ∃ i : Nat, es[i]? = some x) (hxv : x.1 = v) (hone : ∀ (i j : Nat) (a b : EdgeV), es[i]? = some a → es[j]? = some b → a.1 = b.1 → a = b) :
    Calls Tryz.prog 70 #[.agg #[vv, ev, .int .i64 rd, .int .i64 wr_0], .int .i64 v] w fun e w' => Hid (∃ i : Nat, es[i]? = some x ∧ AnsGE w vv ev vs (es.take i ++ es.drop (i + 1)) rd (wr_0 + 1) x 0 e w') := by
  obtain ⟨t1, t2, t3, t4, t5⟩ := three_boxes w (oG vv ev rd wr_0); obtain ⟨c0, c1, c2, c3, cf⟩ := cellsG t1; have HF : Hid (∀ W, Below w.heap.size w W → NRow W vv vs ∧ GRow 0 W ev es) := fun W hW => ⟨nrow_below h hW, grow_below hE hW⟩
  have CH : Hid (Calls Tryz.prog 38 #[.agg #[vv, ev, .int .i64 rd, .int .i64 wr_0], .int .i64 v] (((w.alloc (oG vv ev rd wr_0)).alloc oZ).alloc o34) fun e w2 => ∃ (i : Nat) (g : Nat) (c : Nat), e = .returned (.int .i64 (i : Int)) ∧ (ev = .slice (some ⟨g, 0, none⟩) es.length c ∧ i < es.length ∧ es[i]? = some x ∧ g < w.heap.size ∧ w2.cell? ⟨g, i * 4, none⟩ = some (.int .i64 x.1) ∧ w2.cell? ⟨g, i * 4 + 1, none⟩ = some (.int .i64 x.2.1) ∧ w2.cell? ⟨g, i * 4 + 2, none⟩ = some (.int .i64 x.2.2.1) ∧ w2.cell? ⟨g, i * 4 + 3, none⟩ = some (.int .u32 x.2.2.2)) ∧ Hid (w2.heap[w.heap.size + 1]? = some oZ ∧ w2.heap[w.heap.size + 2]? = some o34 ∧ w2.heap[w.heap.size]? = some (oG vv ev rd wr_0) ∧ Below w.heap.size w w2 ∧ w.heap.size + 3 ≤ w2.heap.size)) := by
    refine (refAt v (grow_below hE t4) (by omega)).mono ?_
    rintro e w2 ⟨r, rfl, g⟩
    obtain ⟨g1, g2⟩ := unhide g; obtain ⟨i0, hi0⟩ := hx; obtain ⟨i, a, rfl, k1, k2, -⟩ : ∃ (i : Nat) (a : EdgeV), r = (i : Int) ∧ es[i]? = some a ∧ a.1 = v ∧ ∀ (j : Nat) (b : EdgeV), j < i → es[j]? = some b → b.1 ≠ v := by
      rcases g1 with h | ⟨-, h⟩
      · exact h
      · exact absurd hxv (h i0 x hi0)
    have hax : a = x := hone i i0 a x k1 hi0 (k2.trans hxv.symm); subst hax; have hil := (List.getElem?_eq_some_iff.1 k1).1; have hEw := grow_below (grow_below hE t4) g2; obtain ⟨g, c, eg, hc⟩ := grow_at hEw (by omega)
    have hgw : g < w.heap.size := (hE.lt g (by rw [eg]; rfl)).2
    obtain ⟨y0, y1, y2, y3⟩ := hc i a k1; have gs := g2.size; exact ⟨i, g, c, rfl, ⟨eg, hil, k1, hgw, y0, y1, y2, y3⟩, (g2.block _ (by omega)).trans t2, (g2.block _ (by omega)).trans t3, (g2.block _ (by omega)).trans t1, t4.trans (g2.mono (by omega)), by omega⟩
  obtain ⟨va, vc, hvv, -⟩ := brow_shape h; obtain ⟨vn, hvv'⟩ : ∃ vn, vv = .slice va vn vc := ⟨_, hvv⟩; obtain ⟨ea, en, ec, hev⟩ := grow_shape hE; have hwr : IntKind.i64.wrap (wr_0 + 1) = wr_0 + 1 := by rw [IntKind.wrap_i64]; omega
  have HLE : Hid (es.length ≤ 400000) := hl; clear t1 t2 t3 t4 t5 h hE hvv hl hx hxv hone hr0 hr1; subst hvv' hev
  go_enter Tryz.func70, Tryz.ntmps70
  go_upto_region 1 with fail
  change Code.wp _ _ _ _ (((w.alloc (oG (.slice va vn vc) (.slice ea en ec) rd wr_0)).alloc oZ).alloc o34); generalize ((w.alloc (oG (.slice va vn vc) (.slice ea en ec) rd wr_0)).alloc oZ).alloc o34 = wb at *; have hne1 : ¬ w.heap.size = w.heap.size + 1 := by omega
  generalize hb2 : w.heap.size + 2 = b2 at *; generalize hb1 : w.heap.size + 1 = b1 at *; generalize hbb : w.heap.size = bb at *
  go_wp2_with fail
  refine (unhide CH).mono ?_
  rintro e w2 ⟨i, g, c, rfl, ⟨eg, hil, hix, hgw, y0, y1, y2, y3⟩, h2⟩
  injection eg with eg1 eg2 eg3
  subst eg1 eg2 eg3; obtain ⟨k1, k2, k3, k4, k5⟩ := unhide h2; clear c0 c1 c2 c3 cf CH h2; obtain ⟨c0, c1, c2, c3, cf⟩ := cellsG k3; have HT1 := hide k1; have HT2 := hide k2; have HT3 := hide k3; have HB := hide k4; have n1 : ¬ bb = b1 := by omega
  have n2 : ¬ b1 = bb := by omega
  have n3 : ¬ bb = b2 := by omega
  have n4 : ¬ b2 = bb := by omega
  have n5 : ¬ b1 = b2 := by omega
  have n6 : ¬ b2 = b1 := by omega
  have n7 : ¬ g = bb := by omega
  have n8 : ¬ bb = g := by omega
  have n9 : ¬ g = b1 := by omega
  have n10 : ¬ g = b2 := by omega
  have hz : (i : Int) < (es.length : Int) := by omega
  have hi0 : ¬ (i : Int) < 0 := by omega
  have HIX := hide hix; have hR2 := (unhide HF w2 k4).2; have hcn := grow_cap hR2; obtain ⟨a5, n5', c5, w5, hr5, hB5, a6, n6', c6, w6, hr6, g6, hB6⟩ := dropE_mem (x := x) (by omega : g < w2.heap.size) hR2 hil (unhide HLE)
  have HAP : Hid (∀ b, (Value.slice a6 n6' c6).ownBlock = some b → bb ≤ b) := fun b hb => by have := (g6.lt b hb).1; omega
  have HFIN := hide (dropE_fin (rd := rd) (wr_0 := wr_0) (by omega : bb < b1) (by omega : b1 < b2) (by omega : b2 < w2.heap.size) k1 k2 k3 k4 (fun W hW => (unhide HF W hW).1) g6 hB6 _ rfl)
  have s1 : ¬ w2.heap.size = b1 := by omega
  have s2 : ¬ w2.heap.size = b2 := by omega
  have s3 : ¬ w2.heap.size = bb := by omega
  have s4 : ¬ b1 = w2.heap.size := by omega
  have s5 : ¬ b2 = w2.heap.size := by omega
  have hs1 : (w2.alloc (oX x)).heap.size = w2.heap.size + 1 := by simp
  have o3 : (w2.alloc (oX x)).heap[bb]? = some (oG (.slice va vn vc) (.slice (some ⟨g, 0, none⟩) es.length ec) rd wr_0) := (heap_alloc_old _ _ (by omega)).trans k3
  have o4 : ((w2.alloc (oX x)).alloc (.cells #[] 64)).heap[bb]? = some (oG (.slice va vn vc) (.slice (some ⟨g, 0, none⟩) es.length ec) rd wr_0) := (heap_alloc_old _ _ (by omega)).trans o3
  have o5 := (hB5.block bb (by omega)).trans o3
  have o6 := (hB6.block bb (by omega)).trans o3
  have HO4 := hide o4; have HO5 := hide o5; have HO6 := hide o6; simp only [← hs1] at hr5; have HR5 := hide hr5; have HR6 := hide hr6; clear k1 k2 k3 k4 k5 hix hR2 o3 o4 o5 o6 hr5 hr6 g6 hB5 hB6 hs1
  go_upto_region 5 with fail
  change Code.wp _ _ _ _ (w2.alloc (oX x)); generalize w2.heap.size = b3 at *; generalize w2.alloc (oX x) = w3 at *; have l1 := (cellsG (unhide HO4)).2.1; have hic : ((i : Int) ≤ (ec : Int)) := by omega
  clear y0 y1 y2 y3 c0 c1 c2 c3 cf; have hwi : IntKind.i64.wrap ((i : Int) + 1) = ((i + 1 : Nat) : Int) := by rw [IntKind.wrap_i64]; have := unhide HLE; omega
  go_upto_region 6 with (at_builtin; refine Lib.wpList_append_run _ rfl _ _ 26 26 rfl _ _ rfl rfl _ _ (unhide HR5 _) ?_)
  have m1 := (cellsG (unhide HO5)).2.1; obtain ⟨z0, z1, z2, z3, zf⟩ := cellsG (unhide HO6); have hin : ((i + 1 : Nat) : Int) ≤ (es.length : Int) := by omega
  have hin2 : i + 1 ≤ es.length := by omega
  have hin3 : (i : Int) + 1 ≤ (es.length : Int) := by omega
  have hin4 : ¬ (i : Int) + 1 < 0 := by omega
  clear HR5
  by_cases hcz : ec = i + 1
  · have HE1 : Hid (es.length = i + 1) := by show es.length = _; omega
    clear hin2
    go_upto_region 7 with (at_builtin; refine Lib.wpList_append_run _ rfl _ _ 26 26 rfl _ _ rfl rfl _ _ (unhide HR6 _ _ _ (.inr (unhide HE1))) ?_)
    go_upto_region 8 with fail
    obtain ⟨q1, q2, q3, q4, -, q6⟩ := unhide HFIN; have HQ6 := hide q6; clear q6 HFIN; generalize (w6.setCell ⟨bb, 1, none⟩ (.slice a6 n6' c6)).setCell ⟨bb, 3, none⟩ (.int .i64 (wr_0 + 1)) = w8 at *; clear z0 z1 z2 z3 zf m1 HO4 HO5 HO6 HB HT1 HT2 HT3 l1; have HT1 := hide q2; have HT2 := hide q3; obtain ⟨c0, c1, c2, c3, cf⟩ := cellsG q1; obtain ⟨d0, d1, d2, d3, df⟩ := cellsG (vv := .slice none 0 0) (ev := .slice none 0 0) (rd := 0) (wr := 0) q2; obtain ⟨x0, x1, x2, x3, xf⟩ := cells34 q3; obtain ⟨y0, y1, y2, y3, yf⟩ := cells34 q4; clear q1 q2 q3 q4
    go_region
    all_goals
      go_wp2_with fail
      change bodyPost _ _ _ _ _ (set4 (set4 w8 b1 (.slice va vn vc) (.slice a6 n6' c6) (.int .i64 rd) (.int .i64 (wr_0 + 1))) b2 (.int .i64 x.1) (.int .i64 x.2.1) (.int .i64 x.2.2.1) (.int .u32 x.2.2.2)).drew; obtain ⟨r1, r2, r3⟩ := unhide HQ6 (.slice va vn vc) (.slice a6 n6' c6) (.int .i64 rd) (.int .i64 (wr_0 + 1)) (.int .i64 x.1) (.int .i64 x.2.1) (.int .i64 x.2.2.1) (.int .u32 x.2.2.2); have e1 : ((set4 (set4 w8 b1 (.slice va vn vc) (.slice a6 n6' c6) (.int .i64 rd) (.int .i64 (wr_0 + 1))) b2 (.int .i64 x.1) (.int .i64 x.2.1) (.int .i64 x.2.2.1) (.int .u32 x.2.2.2)).drew).heap[b1]? = some (oG (.slice va vn vc) (.slice a6 n6' c6) rd (wr_0 + 1)) := drewAt ((set4_other n5 _ _ _ _).trans (set4G_at (unhide HT1) _ _ _ _)); have e2 : ((set4 (set4 w8 b1 (.slice va vn vc) (.slice a6 n6' c6) (.int .i64 rd) (.int .i64 (wr_0 + 1))) b2 (.int .i64 x.1) (.int .i64 x.2.1) (.int .i64 x.2.2.1) (.int .u32 x.2.2.2)).drew).heap[b2]? = some (.cells #[.int .i64 x.1, .int .i64 x.2.1, .int .i64 x.2.2.1, .int .u32 x.2.2.2] 64 (0, 0)) := drewAt (set4_at ((set4_other n6 _ _ _ _).trans (unhide HT2)) _ _ _ _); have HA : Hid (Below bb w (set4 (set4 w8 b1 (.slice va vn vc) (.slice a6 n6' c6) (.int .i64 rd) (.int .i64 (wr_0 + 1))) b2 (.int .i64 x.1) (.int .i64 x.2.1) (.int .i64 x.2.2.1) (.int .u32 x.2.2.2)).drew ∧ NRow (set4 (set4 w8 b1 (.slice va vn vc) (.slice a6 n6' c6) (.int .i64 rd) (.int .i64 (wr_0 + 1))) b2 (.int .i64 x.1) (.int .i64 x.2.1) (.int .i64 x.2.2.1) (.int .u32 x.2.2.2)).drew (.slice va vn vc) vs ∧ GRow 0 (set4 (set4 w8 b1 (.slice va vn vc) (.slice a6 n6' c6) (.int .i64 rd) (.int .i64 (wr_0 + 1))) b2 (.int .i64 x.1) (.int .i64 x.2.1) (.int .i64 x.2.2.1) (.int .u32 x.2.2.2)).drew (.slice a6 n6' c6) (es.take i ++ es.drop (i + 1))) := ⟨r1.drew, nrow_drew r2, grow_drew r3⟩; clear r1 r2 r3 HQ6; generalize (set4 (set4 w8 b1 (.slice va vn vc) (.slice a6 n6' c6) (.int .i64 rd) (.int .i64 (wr_0 + 1))) b2 (.int .i64 x.1) (.int .i64 x.2.1) (.int .i64 x.2.2.1) (.int .u32 x.2.2.2)).drew = w9 at *; clear HT1 HT2 c0 c1 c2 c3 cf d0 d1 d2 d3 df x0 x1 x2 x3 xf y0 y1 y2 y3 yf; refine bodyPost_ret (results_cell_cell_tmp rfl _ _ _ ⟨b1, 0, none⟩ ⟨b2, 0, none⟩ _ _ rfl rfl (loadG _ _ _ _ _ _ e1) (load34 _ _ _ _ _ _ e2)) rfl ?_; exact ⟨i, unhide HIX, _, _, rfl, (unhide HA).2.1, (unhide HA).2.2, by rw [hbb]; exact (unhide HA).1, Apt.refl _ _, Apt.new (unhide HAP) (by omega)⟩
  · go_upto_region 7 with (at_builtin; refine Lib.wpList_append_run _ rfl _ _ 26 26 rfl _ _ rfl rfl _ _ (unhide HR6 _ _ _ (.inl ⟨rfl, rfl⟩)) ?_)
    go_upto_region 8 with fail
    obtain ⟨q1, q2, q3, q4, -, q6⟩ := unhide HFIN; have HQ6 := hide q6; clear q6 HFIN; generalize (w6.setCell ⟨bb, 1, none⟩ (.slice a6 n6' c6)).setCell ⟨bb, 3, none⟩ (.int .i64 (wr_0 + 1)) = w8 at *; clear z0 z1 z2 z3 zf m1 HO4 HO5 HO6 HB HT1 HT2 HT3 l1; have HT1 := hide q2; have HT2 := hide q3; obtain ⟨c0, c1, c2, c3, cf⟩ := cellsG q1; obtain ⟨d0, d1, d2, d3, df⟩ := cellsG (vv := .slice none 0 0) (ev := .slice none 0 0) (rd := 0) (wr := 0) q2; obtain ⟨x0, x1, x2, x3, xf⟩ := cells34 q3; obtain ⟨y0, y1, y2, y3, yf⟩ := cells34 q4; clear q1 q2 q3 q4
    go_region
    all_goals
      go_wp2_with fail
      change bodyPost _ _ _ _ _ (set4 (set4 w8 b1 (.slice va vn vc) (.slice a6 n6' c6) (.int .i64 rd) (.int .i64 (wr_0 + 1))) b2 (.int .i64 x.1) (.int .i64 x.2.1) (.int .i64 x.2.2.1) (.int .u32 x.2.2.2)).drew; obtain ⟨r1, r2, r3⟩ := unhide HQ6 (.slice va vn vc) (.slice a6 n6' c6) (.int .i64 rd) (.int .i64 (wr_0 + 1)) (.int .i64 x.1) (.int .i64 x.2.1) (.int .i64 x.2.2.1) (.int .u32 x.2.2.2); have e1 : ((set4 (set4 w8 b1 (.slice va vn vc) (.slice a6 n6' c6) (.int .i64 rd) (.int .i64 (wr_0 + 1))) b2 (.int .i64 x.1) (.int .i64 x.2.1) (.int .i64 x.2.2.1) (.int .u32 x.2.2.2)).drew).heap[b1]? = some (oG (.slice va vn vc) (.slice a6 n6' c6) rd (wr_0 + 1)) := drewAt ((set4_other n5 _ _ _ _).trans (set4G_at (unhide HT1) _ _ _ _)); have e2 : ((set4 (set4 w8 b1 (.slice va vn vc) (.slice a6 n6' c6) (.int .i64 rd) (.int .i64 (wr_0 + 1))) b2 (.int .i64 x.1) (.int .i64 x.2.1) (.int .i64 x.2.2.1) (.int .u32 x.2.2.2)).drew).heap[b2]? = some (.cells #[.int .i64 x.1, .int .i64 x.2.1, .int .i64 x.2.2.1, .int .u32 x.2.2.2] 64 (0, 0)) := drewAt (set4_at ((set4_other n6 _ _ _ _).trans (unhide HT2)) _ _ _ _); have HA : Hid (Below bb w (set4 (set4 w8 b1 (.slice va vn vc) (.slice a6 n6' c6) (.int .i64 rd) (.int .i64 (wr_0 + 1))) b2 (.int .i64 x.1) (.int .i64 x.2.1) (.int .i64 x.2.2.1) (.int .u32 x.2.2.2)).drew ∧ NRow (set4 (set4 w8 b1 (.slice va vn vc) (.slice a6 n6' c6) (.int .i64 rd) (.int .i64 (wr_0 + 1))) b2 (.int .i64 x.1) (.int .i64 x.2.1) (.int .i64 x.2.2.1) (.int .u32 x.2.2.2)).drew (.slice va vn vc) vs ∧ GRow 0 (set4 (set4 w8 b1 (.slice va vn vc) (.slice a6 n6' c6) (.int .i64 rd) (.int .i64 (wr_0 + 1))) b2 (.int .i64 x.1) (.int .i64 x.2.1) (.int .i64 x.2.2.1) (.int .u32 x.2.2.2)).drew (.slice a6 n6' c6) (es.take i ++ es.drop (i + 1))) := ⟨r1.drew, nrow_drew r2, grow_drew r3⟩; clear r1 r2 r3 HQ6; generalize (set4 (set4 w8 b1 (.slice va vn vc) (.slice a6 n6' c6) (.int .i64 rd) (.int .i64 (wr_0 + 1))) b2 (.int .i64 x.1) (.int .i64 x.2.1) (.int .i64 x.2.2.1) (.int .u32 x.2.2.2)).drew = w9 at *; clear HT1 HT2 c0 c1 c2 c3 cf d0 d1 d2 d3 df x0 x1 x2 x3 xf y0 y1 y2 y3 yf; refine bodyPost_ret (results_cell_cell_tmp rfl _ _ _ ⟨b1, 0, none⟩ ⟨b2, 0, none⟩ _ _ rfl rfl (loadG _ _ _ _ _ _ e1) (load34 _ _ _ _ _ _ e2)) rfl ?_; exact ⟨i, unhide HIX, _, _, rfl, (unhide HA).2.1, (unhide HA).2.2, by rw [hbb]; exact (unhide HA).1, Apt.refl _ _, Apt.new (unhide HAP) (by omega)⟩
end

end Go.Proofs.YtagibmgbjhemkaaGreat

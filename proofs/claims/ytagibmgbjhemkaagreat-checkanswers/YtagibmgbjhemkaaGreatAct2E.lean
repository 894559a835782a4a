/- Drop and New over a table of edges. -/
import Derived.Test.YtagibmgbjhemkaaGreatActE
namespace Go.Proofs.YtagibmgbjhemkaaGreat
open Go.RowKit Go.Maps

theorem set4_other {w : World} {g k : Nat} (hk : k ≠ g) (a b c d : Value) : (set4 w g a b c d).heap[k]? = w.heap[k]? := by
  unfold set4
  rw [heap_setCell_other _ _ _ _ hk, heap_setCell_other _ _ _ _ hk, heap_setCell_other _ _ _ _ hk, heap_setCell_other _ _ _ _ hk]
theorem set4_size {w : World} {g : Nat} (a b c d : Value) : (set4 w g a b c d).heap.size = w.heap.size := by simp [set4]
theorem set4_turned {w : World} {g : Nat} (S : Nat → Prop) (hg : S g) (a b c d : Value) : Turned S w (set4 w g a b c d) :=
  (((turned_setCell _ ⟨g, 0, none⟩ _ hg).trans (turned_setCell _ ⟨g, 1, none⟩ _ hg)).trans (turned_setCell _ ⟨g, 2, none⟩ _ hg)).trans (turned_setCell _ ⟨g, 3, none⟩ _ hg)
theorem cells34 {w : World} {g : Nat} {a b c d : Value} (h : w.heap[g]? = some (.cells #[a, b, c, d] 64 (0, 0))) : w.cell? ⟨g, 0, none⟩ = some a ∧ w.cell? ⟨g, 1, none⟩ = some b ∧ w.cell? ⟨g, 2, none⟩ = some c ∧ w.cell? ⟨g, 3, none⟩ = some d ∧ ∀ o, w.frozen? ⟨g, o, none⟩ = false :=
  ⟨(cell_of_row _ _ 0 _ 64 (0, 0) h).trans rfl, (cell_of_row _ _ 1 _ 64 (0, 0) h).trans rfl, (cell_of_row _ _ 2 _ 64 (0, 0) h).trans rfl, (cell_of_row _ _ 3 _ 64 (0, 0) h).trans rfl, fun o => frozen_of_row _ _ o _ _ h⟩

set_option maxHeartbeats 1000000 in
set_option maxRecDepth 100000 in
theorem dropNoE [Inhabited EntI] {t hp : Nat} {v : Value} {most : Int} {ps : List (EdgeV × Bool)} {ms : List EntI} {n : Nat} {G : Nat → Prop} (k : Int) (w : World) (h : TAtE w t hp v most ps ms n G) (hk : ∀ (i : Nat) a, k = (i : Int) + 1 → ps[i]? ≠ some (a, true)) :
    Calls Tryz.prog 85 #[.pointer (some ⟨t, 0, none⟩), .int .i64 k] w fun e w' => e = .returned (.tuple #[(.agg #[.int .i64 0, .int .i64 0, .int .i64 0, .int .u32 0]), .bool false]) ∧ Below w.heap.size w w' := by
  have CT := hide (atNoE k (w.alloc o34) (h.kept (fun j hj => heap_alloc_old _ _ (h.lt hj))) hk)
  have hg : (w.alloc o34).heap[w.heap.size]? = some o34 := heap_alloc_new _ _
  have HB : Hid (Below w.heap.size w (w.alloc o34)) := (Below.refl _ _).alloc (Nat.le_refl _) _
  have HG := hide hg
  have hsz : (w.alloc o34).heap.size = w.heap.size + 1 := by simp
  have HS := hide hsz
  clear h hk hg hsz
  go_enter Tryz.func85, Tryz.ntmps85
  go_upto_region 1 with fail
  change Code.wp _ _ _ _ (w.alloc o34)
  generalize w.alloc o34 = w1 at *
  generalize hb : w.heap.size = b at *
  go_wp2_with fail
  refine (unhide CT).mono ?_
  rintro e w2 ⟨rfl, hb2⟩
  have hg2 : w2.heap[b]? = some o34 := (hb2.block b (by have := unhide HS; omega)).trans (unhide HG)
  have HB2 : Hid (Below b w w2) := (unhide HB).trans (hb2.mono (by have := unhide HS; omega))
  obtain ⟨g0, g1, g2, g3, gf⟩ := cells34 hg2
  have HG2 := hide hg2
  clear CT hb2 hg2 HB HG HS
  go_upto_region 2 with fail
  change Code.wp _ _ _ _ (set4 w2 b (.int .i64 0) (.int .i64 0) (.int .i64 0) (.int .u32 0))
  have hg3 := set4_at (unhide HG2) (.int .i64 0) (.int .i64 0) (.int .i64 0) (.int .u32 0)
  have HB3 := hide (set4_below (unhide HB2) (Nat.le_refl _) (.int .i64 0) (.int .i64 0) (.int .i64 0) (.int .u32 0))
  generalize set4 w2 b (.int .i64 0) (.int .i64 0) (.int .i64 0) (.int .u32 0) = w3 at *
  clear g0 g1 g2 g3 gf
  obtain ⟨g0, g1, g2, g3, gf⟩ := cells34 hg3
  have HG3 := hide hg3
  clear hg3
  go_wp2_with fail
  (try simp only [Exit.inBlock, Exit.then])
  change bodyPost _ _ _ _ _ (set4 w3 b _ _ _ _)
  refine bodyPost_ret (resE rfl _ _ b _ _ _ _ rfl (set4_at (unhide HG3) _ _ _ _)) rfl ?_
  exact ⟨rfl, by rw [hb]; exact set4_below (unhide HB3) (Nat.le_refl _) _ _ _ _⟩

set_option maxHeartbeats 1000000 in
set_option maxRecDepth 100000 in
theorem dropYesE [Inhabited EntI] {t hp : Nat} {v : Value} {most : Int} {ps : List (EdgeV × Bool)} {ms : List EntI} {n : Nat} {G : Nat → Prop} {a : EdgeV} (i : Nat) (w : World) (h : TAtE w t hp v most ps ms n G) (hi : ps[i]? = some (a, true)) (hn : n ≤ 1000000000) :
    Calls Tryz.prog 85 #[.pointer (some ⟨t, 0, none⟩), .int .i64 ((i : Int) + 1)] w fun e w' => e = .returned (.tuple #[.agg #[.int .i64 (a).1, .int .i64 (a).2.1, .int .i64 (a).2.2.1, .int .u32 (a).2.2.2], .bool true]) ∧ Hid (ThenE w w' t hp v most (ps.set i (((0, 0, 0, 0) : EdgeV), false)) n G) := by
  have h' := h.kept (w' := w.alloc o34) (fun j hj => heap_alloc_old _ _ (h.lt hj))
  have CT := hide (atYesE i (w.alloc o34) h' hi)
  have hg : (w.alloc o34).heap[w.heap.size]? = some o34 := heap_alloc_new _ _
  have HB : Hid (Below w.heap.size w (w.alloc o34)) := (Below.refl _ _).alloc (Nat.le_refl _) _
  have HG := hide hg
  have hsz : (w.alloc o34).heap.size = w.heap.size + 1 := by simp
  have HS := hide hsz
  have hbF : Hid (∀ k, Feet t v G k → k < w.heap.size) := fun k hk => h.lt hk
  have H0 := hide h
  have hil := lt_of_at hi
  have hl := h.len
  have ht := h.top
  have HI := hide hi
  have HN := hide hn
  have h3 : Hid ((i : Int) < (ps.length : Int) ∧ (ps.length : Int) ≤ 65536) := ⟨by omega, by omega⟩
  clear h h' hg hsz hi hn hl ht hil
  go_enter Tryz.func85, Tryz.ntmps85
  go_upto_region 1 with fail
  change Code.wp _ _ _ _ (w.alloc o34)
  generalize w.alloc o34 = w1 at *
  generalize hb : w.heap.size = b at *
  go_wp2_with fail
  refine (unhide CT).mono ?_
  rintro e w2 ⟨rfl, hb2⟩
  have hg2 : w2.heap[b]? = some o34 := (hb2.block b (by have := unhide HS; omega)).trans (unhide HG)
  have HB2 : Hid (Below b w w2) := (unhide HB).trans (hb2.mono (by have := unhide HS; omega))
  obtain ⟨g0, g1, g2, g3, gf⟩ := cells34 hg2
  have HG2 := hide hg2
  clear CT hb2 hg2 HB HG HS
  go_upto_region 2 with fail
  change Code.wp _ _ _ _ (set4 w2 b (.int .i64 a.1) (.int .i64 a.2.1) (.int .i64 a.2.2.1) (.int .u32 a.2.2.2))
  have hg3 := set4_at (unhide HG2) (.int .i64 a.1) (.int .i64 a.2.1) (.int .i64 a.2.2.1) (.int .u32 a.2.2.2)
  have HB3 := hide (set4_below (unhide HB2) (Nat.le_refl _) (.int .i64 a.1) (.int .i64 a.2.1) (.int .i64 a.2.2.1) (.int .u32 a.2.2.2))
  generalize set4 w2 b (.int .i64 a.1) (.int .i64 a.2.1) (.int .i64 a.2.2.1) (.int .u32 a.2.2.2) = w3 at *
  clear g0 g1 g2 g3 gf HG2 HB2
  have T3 : TAtE w3 t hp v most ps ms n G := (unhide H0).kept (fun k hk => (unhide HB3).block k (unhide hbF k hk))
  obtain ⟨-, c1, c2, -⟩ := T3.cells
  obtain ⟨g, c, rfl, hgt, df, hc⟩ := T3.some_ (by have := unhide h3; omega)
  obtain ⟨⟨d1, d2, d3, d4⟩, d5⟩ := hc i a true (unhide HI)
  obtain ⟨r1, T1⟩ := T3.raw.store i ((0, 0, 0, 0) : EdgeV) false
  have hgb : g ≠ b := fun e => by have := unhide hbF g (.inr (.inl rfl)); omega
  have hg4 : (setP w3 g i ((0, 0, 0, 0) : EdgeV) false).heap[b]? = some (.cells #[.int .i64 a.1, .int .i64 a.2.1, .int .i64 a.2.2.1, .int .u32 a.2.2.2] 64 (0, 0)) := by
    unfold setP
    rw [heap_setCell_other _ _ _ _ hgb.symm, heap_setCell_other _ _ _ _ hgb.symm, heap_setCell_other _ _ _ _ hgb.symm, heap_setCell_other _ _ _ _ hgb.symm, heap_setCell_other _ _ _ _ hgb.symm]
    exact hg3
  have hs4 : (setP w3 g i ((0, 0, 0, 0) : EdgeV) false).heap.size = w3.heap.size := by simp [setP]
  have CP := hide (r1.on.push ((i : Int) + 1) ((i : Int) + 1) (key_fit i (by have := unhide h3; omega)) (frees_not T3.fr (fun b e => by rw [unhide HI] at e; cases e)) (by have := T3.fr.cnt; have := T3.len; have := T3.top; omega) (by have := unhide HN; omega))
  have e2 := r1.cells.2.2
  have HR1 := hide (And.intro r1 (And.intro T1 (And.intro hg4 hs4)))
  have HT3 := hide T3
  have z3 : (i : Int) < (ps.length : Int) := (unhide h3).1
  have z4 : (ps.length : Int) ≤ 65536 := (unhide h3).2
  have hgt1 : ¬ g = t := hgt
  have gtg : ¬ t = g := fun e => hgt e.symm
  generalize hL : ps.length = L at *
  clear hc T3 r1 T1 hg3 hg4 hs4 h3 hgt
  go_upto_region 4 with fail
  change Code.wp _ _ _ _ (setP w3 g i ((0, 0, 0, 0) : EdgeV) false)
  generalize setP w3 g i ((0, 0, 0, 0) : EdgeV) false = w4 at *
  clear d1 d2 d3 d4 d5 df c1 c2 z3 z4
  go_wp2_with fail
  refine (unhide CP).mono ?_
  rintro e w5 ⟨rfl, G2, o1, o2, o3⟩
  obtain ⟨r1, T1, hg4, hs4⟩ := unhide HR1
  have hbw3 : b < w3.heap.size := by have := (Array.getElem?_eq_some_iff.1 hg4).1; omega
  have hg5 : w5.heap[b]? = some (.cells #[.int .i64 a.1, .int .i64 a.2.1, .int .i64 a.2.2.1, .int .u32 a.2.2.2] 64 (0, 0)) :=
    (o2.block b (by omega) (fun e => by have := unhide hbF b (.inr (.inr e)); omega)).trans hg4
  have HT : Hid (∀ x0 x1 x2 x3, ThenE w (set4 w5 b x0 x1 x2 x3) t hp (.slice (some ⟨g, 0, none⟩) L c) most (ps.set i (((0, 0, 0, 0) : EdgeV), false)) n G) := fun x0 x1 x2 x3 => by
    obtain ⟨r2, T2, S2⟩ := r1.heap o1 o2 o3
    have hbs : Below b w w3 := unhide HB3
    have hs5 := T2.size
    have F2 : ∀ j, Feet t (.slice (some ⟨g, 0, none⟩) L c) G2 j → j ≠ b := fun j hj e => by
      subst e
      rcases S2 _ hj with e | e
      · have := unhide hbF _ e; omega
      · omega
    refine ⟨_, _, n + 1, G2, by omega, (r2.full (frees_free (unhide HT3).fr (unhide HI) _ n)).kept (fun k hk => set4_other (F2 k hk) _ _ _ _), ?_, fun j hj => ?_⟩
    · refine ⟨?_, ?_, ?_, ?_, fun j hj hf => ?_⟩
      · exact ((set4_turned (fun _ => True) trivial _ _ _ _).os.trans T2.os).trans (T1.os.trans hbs.os)
      · exact ((set4_turned (fun _ => True) trivial _ _ _ _).tape.trans T2.tape).trans (T1.tape.trans hbs.tape)
      · exact ((set4_turned (fun _ => True) trivial _ _ _ _).output.trans T2.output).trans (T1.output.trans hbs.output)
      · rw [set4_size]; have := hbs.size; omega
      · rw [hb] at hj
        rw [set4_other (by omega)]
        exact (T2.block j (by omega) hf).trans ((T1.block j (by omega) hf).trans (hbs.block j hj))
    · rcases S2 j hj with e | e
      · exact .inl e
      · exact .inr (by omega)
  obtain ⟨g0, g1, g2, g3, gf⟩ := cells34 hg5
  have HG5 := hide hg5
  clear CP HR1 r1 T1 hg4 hs4 hg5 o1 o2 o3 hbw3 HB3 H0 hbF HT3 e2
  go_wp2_with fail
  (try simp only [Exit.inBlock, Exit.then])
  change bodyPost _ _ _ _ _ (set4 w5 b _ _ _ _)
  refine bodyPost_ret (resE rfl _ _ b _ _ _ _ rfl (set4_at (unhide HG5) _ _ _ _)) rfl ?_
  exact ⟨rfl, unhide HT _ _ _ _⟩

set_option maxHeartbeats 1000000 in
set_option maxRecDepth 100000 in
theorem newE [Inhabited EntI] (w : World) :
    Calls Tryz.prog 62 #[.int .i64 1024] w fun e w' => ∃ t hp G, e = .returned (.pointer (some ⟨t, 0, none⟩)) ∧ Hid (Below w.heap.size w w' ∧ TAtE w' t hp (.slice none 0 0) 1024 [] [] 0 G ∧ ∀ j, Feet t (.slice none 0 0) G j → w.heap.size ≤ j) := by
  have CN := hide (newOnI 97 w less23)
  have HF : Hid (∀ w2 p, Below w.heap.size w w2 ∧ (∃ F, OnI w2 p F [] 0 ∧ ∀ j, F j → w.heap.size ≤ j) → ∃ hp G, Below w.heap.size w (w2.alloc (.cells #[.int .i64 1024, .slice none 0 0, .pointer (some ⟨p, 0, none⟩)] 166)) ∧ TAtE (w2.alloc (.cells #[.int .i64 1024, .slice none 0 0, .pointer (some ⟨p, 0, none⟩)] 166)) w2.heap.size hp (.slice none 0 0) 1024 [] [] 0 G ∧ ∀ j, Feet w2.heap.size (.slice none 0 0) G j → w.heap.size ≤ j) := by
    rintro w2 p ⟨hb, F, h1, h2⟩
    have hb2 : Below w2.heap.size w2 (w2.alloc (.cells #[.int .i64 1024, .slice none 0 0, .pointer (some ⟨p, 0, none⟩)] 166)) := (Below.refl _ _).alloc (Nat.le_refl _) _
    refine ⟨p, F, hb.trans (hb2.mono hb.size), ⟨heap_alloc_new _ _, ⟨rfl, .inl ⟨rfl, rfl⟩⟩, h1.kept (fun k hk => hb2.block k (h1.lt hk)), frees_nil, fun e => ?_, by simp [Value.ownBlock], by simp [Value.ownBlock], by simp, by omega⟩, fun j hj => ?_⟩
    · have := h1.lt e; omega
    · rcases hj with rfl | hj | hj
      · exact hb.size
      · simp [Value.ownBlock] at hj
      · exact h2 j hj
  go_enter Tryz.func62, Tryz.ntmps62
  go_wp2_with fail
  refine (unhide CN).mono ?_
  rintro e w2 ⟨rfl, hb, ho⟩
  have HG := hide (unhide HF w2 _ ⟨hb, ho⟩)
  clear CN HF hb ho
  go_wp2_with fail
  go_ret
  obtain ⟨hp, G, q⟩ := unhide HG
  exact ⟨_, hp, G, rfl, q⟩
end Go.Proofs.YtagibmgbjhemkaaGreat

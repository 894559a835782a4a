/- The walk of bramblelaw02.SpansOwn. -/
import Derived.Test.YtdalghfhpekcfaaFlock
import Derived.Test.YtdalghfhpekcfaaFilled
import Derived.Test.YtdalghfhpekcfaaRound
import Derived.Test.YtdalghfhpekcfaaAwake
import Derived.Deep.RegionHeld3
import Derived.Deep.CutRange
namespace Go.Proofs.Ytdalghfhpekcfaa
open Go.RowKit Go.Shelf

/-- G, and whatever lies in W from n on. -/
def Snap (G : Nat → Option Obj) (n : Nat) (W : World) : Nat → Option Obj := fun k => if n ≤ k then W.heap[k]? else G k
theorem snap_new {G : Nat → Option Obj} {n g : Nat} {W : World} {o : Obj} (hg : n ≤ g) (h : W.heap[g]? = some o) : Snap G n W g = some o := by simp [Snap, hg, h]
theorem snap_sub {G : Nat → Option Obj} {n : Nat} {W : World} (hG : ∀ g o, G g = some o → g < n) : ∀ g o, G g = some o → Snap G n W g = some o := fun g o h => by
  have := hG g o h
  unfold Snap
  rw [if_neg (by omega)]
  exact h

theorem HerdU.snap {B : Nat} {w0 w w' : World} {F : Nat → Option (List (Int × Int))} {G : Nat → Option Obj} (h : HerdU B w0 F G w) (hb : Below w.heap.size w w') : HerdU B w0 F (Snap G w.heap.size w') w' := by
  have h' := h.step hb
  obtain ⟨V, h1, h2, h3⟩ := h.sets
  have h1' : ∀ p rs, F p = some rs → B ≤ p ∧ Canon rs ∧ Fits 0 255 rs ∧ SetU w' p (V p) rs ∧ ∀ k, (V p).ownBlock = some k → B ≤ k := fun p rs hp => by
    obtain ⟨k1, k2, k3, k4, k5⟩ := h1 p rs hp
    exact ⟨k1, k2, k3, k4.below hb, k5⟩
  refine ⟨h'.below, h'.room, fun k o hk => ?_, V, h1', h2, fun p rs k o hp hk => ?_⟩
  · unfold Snap at hk
    split at hk
    · exact hk
    · exact h'.kept k o hk
  · unfold Snap at hk
    split at hk
    · have l1 := h.lt hp
      exact ⟨by omega, fun e => by have := ((h1 p rs hp).2.2.2.1.row.lt k e).2; omega⟩
    · exact h3 p rs k o hp hk

theorem rowIn_snap {G : Nat → Option Obj} {n : Nat} {W : World} {e : TypeId} {k : IntKind} {v : Value} {rs : List (Int × Int)} (hr : W.ownsRow n e 2 v rs.length (enc k rs)) : RowIn (Snap G n W) e k v rs :=
  hr.2.imp id fun ⟨g, cap, cur, h1, h2, h3, h4⟩ => ⟨g, cap, cur, h1, snap_new h2 h3, h4⟩

/-- Two sets with one list of runs. -/
def Twin (w : World) (ps pc : Nat) (rs : List (Int × Int)) (G : Nat → Option Obj) (W : World) : Prop :=
  ∃ F, HerdU w.heap.size w F G W ∧ F ps = some rs ∧ F pc = some rs ∧ ps ≠ pc
theorem Twin.flock {w : World} {ps pc : Nat} {rs : List (Int × Int)} {G : Nat → Option Obj} {W : World} (h : Twin w ps pc rs G W) : Flock w ps pc rs G W := by
  obtain ⟨F, h1, h2, h3⟩ := h
  exact ⟨F, rs, h1, h2, h3⟩
theorem Twin.short {w : World} {ps pc : Nat} {rs : List (Int × Int)} {G : Nat → Option Obj} {W : World} (h : Twin w ps pc rs G W) : rs.length ≤ 128 := by
  obtain ⟨F, h1, h2, -⟩ := h
  exact h1.short h2
theorem Twin.step {w : World} {ps pc : Nat} {rs : List (Int × Int)} {G : Nat → Option Obj} {W W' : World} (h : Twin w ps pc rs G W) (hb : Below W.heap.size W W') : Twin w ps pc rs G W' := by
  obtain ⟨F, h1, h2⟩ := h
  exact ⟨F, h1.step hb, h2⟩

/-- What lies beside the sets. -/
structure Gear (N : Nat) (stop : Int) (ps sb bx : Nat) (v wv : Value) (rs : List (Int × Int)) (G : Nat → Option Obj) : Prop where
  stop : G N = some (.cells #[.int .i64 stop] 3 (0, 0))
  res : G (N + 1) = some (.cells #[.bool false] 4 (0, 0))
  s : G sb = some (.cells #[.pointer (some ⟨ps, 0, none⟩)] 28 (0, 0))
  all : G bx = some (.cells #[v] 30 (0, 0))
  row : RowIn G 33 .u8 v rs
  wrow : RowIn G 47 .i64 wv rs
theorem Gear.mono {N : Nat} {stop : Int} {ps sb bx : Nat} {v wv : Value} {rs : List (Int × Int)} {G G' : Nat → Option Obj} (h : Gear N stop ps sb bx v wv rs G) (hs : ∀ g o, G g = some o → G' g = some o) : Gear N stop ps sb bx v wv rs G' :=
  ⟨hs _ _ h.stop, hs _ _ h.res, hs _ _ h.s, hs _ _ h.all, h.row.mono hs, h.wrow.mono hs⟩

abbrev FillU (sv : Value) (w : World) : Prop := Calls Try.prog 13 #[sv] w fun e w' => ∃ p rs, e = .returned (.pointer (some ⟨p, 0, none⟩)) ∧ rs.length ≤ 40 ∧ LiveU w.heap.size w p rs w'

theorem wrapU {rs : List (Int × Int)} (hC : Canon rs) (hF : Fits 0 255 rs) (i : Nat) (h : i < rs.length) : IntKind.i64.wrap (lo rs i) = lo rs i ∧ IntKind.i64.wrap (hi rs i) = hi rs i := by
  have h1 := hF i h
  have h2 := hC.run i h
  exact ⟨wideU h1.1 (by omega), wideU (by omega) h1.2⟩


/-- The empty box of 'was'. -/
abbrev o44 : Obj := .cells #[.slice none 0 0] 44 (0, 0)
/-- Stop, result and s lie beside; the boxes of β are empty. -/
structure Base0 (w : World) (stop : Int) (ps sb : Nat) (β : List Nat) (G : Nat → Option Obj) : Prop where
  stop : G w.heap.size = some (.cells #[.int .i64 stop] 3 (0, 0))
  res : G (w.heap.size + 1) = some (.cells #[.bool false] 4 (0, 0))
  s : G sb = some (.cells #[.pointer (some ⟨ps, 0, none⟩)] 28 (0, 0))
  box : ∀ b ∈ β, w.heap.size ≤ b ∧ G b = some o44
theorem Base0.mono {w : World} {stop : Int} {ps sb : Nat} {β : List Nat} {G G' : Nat → Option Obj} (h : Base0 w stop ps sb β G) (hs : ∀ g o, G g = some o → G' g = some o) : Base0 w stop ps sb β G' :=
  ⟨hs _ _ h.stop, hs _ _ h.res, hs _ _ h.s, fun b hb => ⟨(h.box b hb).1, hs _ _ (h.box b hb).2⟩⟩
/-- One set alone. -/
def P0 (w : World) (stop : Int) (ps sb : Nat) (rs : List (Int × Int)) (β : List Nat) (u : World) : Prop := ∃ G F, HerdU w.heap.size w F G u ∧ F ps = some rs ∧ Base0 w stop ps sb β G
def PT (w : World) (stop : Int) (ps sb : Nat) (rs : List (Int × Int)) (β : List Nat) (pc : Nat) (u : World) : Prop := ∃ G, Twin w ps pc rs G u ∧ Base0 w stop ps sb β G
def PA (w : World) (stop : Int) (ps sb : Nat) (rs : List (Int × Int)) (β : List Nat) (pc bx : Nat) (av : Value) (u : World) : Prop := ∃ G, Twin w ps pc rs G u ∧ Base0 w stop ps sb β G ∧ G bx = some (.cells #[av] 30 (0, 0)) ∧ RowIn G 33 .u8 av rs
def PW (w : World) (stop : Int) (ps sb : Nat) (rs : List (Int × Int)) (β : List Nat) (pc bx : Nat) (av wv : Value) (u : World) : Prop := ∃ G, Twin w ps pc rs G u ∧ Base0 w stop ps sb β G ∧ Gear w.heap.size stop ps sb bx av wv rs G

theorem cons_box {G : Nat → Option Obj} {w u : World} (hw : w.heap.size ≤ u.heap.size) : ∀ b ∈ [u.heap.size], w.heap.size ≤ b ∧ Gb G u.heap.size o44 b = some o44 := fun b hb => by
  simp only [List.mem_singleton] at hb
  subst hb
  exact ⟨hw, Gb_self _ _ _⟩
section
variable {w : World} {stop : Int} {ps sb : Nat} {rs : List (Int × Int)} {β : List Nat} {pc bx : Nat} {av : Value} {u : World}
theorem P0.step {u' : World} (h : P0 w stop ps sb rs β u) (hb : Below u.heap.size u u') : P0 w stop ps sb rs β u' := by
  obtain ⟨G, F, h1, h2⟩ := h
  exact ⟨G, F, h1.step hb, h2⟩
theorem Twin.new {G : Nat → Option Obj} (h : Twin w ps pc rs G u) (o : Obj) : Twin w ps pc rs (Gb G u.heap.size o) (u.alloc o) ∧ (∀ g o', G g = some o' → Gb G u.heap.size o g = some o') ∧ w.heap.size ≤ u.heap.size := by
  obtain ⟨F, h1, h2⟩ := h
  exact ⟨⟨F, h1.side ((Below.refl _ _).alloc (Nat.le_refl _) _) (Nat.le_refl _) (heap_alloc_new u o), h2⟩, Gb_sub (fun g o hg => h1.ltG hg), h1.room⟩
theorem P0.box (h : P0 w stop ps sb rs [] u) : P0 w stop ps sb rs [u.heap.size] (u.alloc o44) := by
  obtain ⟨G, F, h1, h2, h3⟩ := h
  have hs : ∀ g o, G g = some o → Gb G u.heap.size o44 g = some o := Gb_sub (fun g o hg => h1.ltG hg)
  exact ⟨_, F, h1.side ((Below.refl _ _).alloc (Nat.le_refl _) _) (Nat.le_refl _) (heap_alloc_new u o44), h2, hs _ _ h3.stop, hs _ _ h3.res, hs _ _ h3.s, cons_box h1.room⟩
theorem PT.box (h : PT w stop ps sb rs [] pc u) : PT w stop ps sb rs [u.heap.size] pc (u.alloc o44) := by
  obtain ⟨G, h1, h3⟩ := h
  obtain ⟨k1, k2, k3⟩ := h1.new o44
  exact ⟨_, k1, k2 _ _ h3.stop, k2 _ _ h3.res, k2 _ _ h3.s, cons_box k3⟩
theorem PA.box (h : PA w stop ps sb rs [] pc bx av u) : PA w stop ps sb rs [u.heap.size] pc bx av (u.alloc o44) := by
  obtain ⟨G, h1, h3, h4, h5⟩ := h
  obtain ⟨k1, k2, k3⟩ := h1.new o44
  exact ⟨_, k1, ⟨k2 _ _ h3.stop, k2 _ _ h3.res, k2 _ _ h3.s, cons_box k3⟩, k2 _ _ h4, h5.mono k2⟩

/-- The cells that a call hands on. -/
def Cs (sb ps : Nat) (β : List Nat) (u : World) : Prop := u.cell? ⟨sb, 0, none⟩ = some (.pointer (some ⟨ps, 0, none⟩)) ∧ ∀ b ∈ β, u.cell? ⟨b, 0, none⟩ = some (.slice none 0 0) ∧ u.frozen? ⟨b, 0, none⟩ = false ∧ ¬ b = sb ∧ ¬ sb = b
theorem cs_of {G : Nat → Option Obj} (h : Base0 w stop ps sb β G) (hk : KeepsG G u) : Cs sb ps β u :=
  ⟨(box_cell (hk _ _ h.s)).1, fun b hb => by
    have h1 := (h.box b hb).2
    have hne : ¬ b = sb := fun e => by
      rw [e, h.s] at h1
      cases h1
    exact ⟨(box_cell (hk _ _ h1)).1, (box_cell (hk _ _ h1)).2, hne, fun e => hne e.symm⟩⟩

theorem callA (h : P0 w stop ps sb rs β u) : Calls Try.prog 19 #[.pointer (some ⟨ps, 0, none⟩)] u fun e w' => ∃ pc, e = .returned (.pointer (some ⟨pc, 0, none⟩)) ∧ Cs sb ps β w' ∧ Hid (PT w stop ps sb rs β pc w') := by
  obtain ⟨G, F, h1, h2, h3⟩ := h
  refine (h1.clone h2 (by have := h1.short h2; omega)).mono ?_
  rintro e w' ⟨pc, rfl, hh⟩
  obtain ⟨m1, m2⟩ := unhide hh
  have := h1.lt h2
  exact ⟨pc, rfl, cs_of h3 m2.kept, G, ⟨_, m2, by rw [at_other _ _ (by omega)]; exact h2, at_self _ _ _, by omega⟩, h3⟩
theorem callB (h : PT w stop ps sb rs β pc u) : Calls Try.prog 23 #[.pointer (some ⟨ps, 0, none⟩)] u fun e w' => ∃ (bx : Nat) (av : Value), e = .returned (.func (.func 90) #[] #[.pointer (some ⟨bx, 0, none⟩)]) ∧ Cs sb ps β w' ∧ Hid (PA w stop ps sb rs β pc bx av w') := by
  obtain ⟨G, ⟨F, h0, f1, f2, f3⟩, h3⟩ := h
  refine (h0.all f1 (by have := h0.short f1; omega)).mono ?_
  rintro e w' ⟨bx, av, rfl, hx⟩
  obtain ⟨m1, m2, m3, m4, m5⟩ := unhide hx
  have hsub := snap_sub (W := w') (n := u.heap.size) (fun g o hg => h0.ltG (g := g) (o := o) hg)
  have hs := h0.snap m5
  exact ⟨bx, av, rfl, cs_of (h3.mono hsub) hs.kept, _, ⟨F, hs, f1, f2, f3⟩, h3.mono hsub, snap_new m4 m1, rowIn_snap m2⟩
theorem callC (h : PA w stop ps sb rs β pc bx av u) : Calls Try.prog 24 #[.pointer (some ⟨ps, 0, none⟩)] u fun e w' => ∃ (aw : Option Addr) (cw : Nat), e = .returned (.slice aw rs.length cw) ∧ Cs sb ps β w' ∧ Hid (PW w stop ps sb rs β pc bx av (.slice aw rs.length cw) w') := by
  obtain ⟨G, ⟨F, h0, f1, f2, f3⟩, h3, g1, g2⟩ := h
  refine (h0.told f1 (by have := h0.short f1; omega)).mono ?_
  rintro e w' ⟨wv, rfl, hx⟩
  have m := unhide hx
  obtain ⟨aw, cw, rfl⟩ := m.shape
  have hsub := snap_sub (W := w') (n := u.heap.size) (fun g o hg => h0.ltG (g := g) (o := o) hg)
  have hs := h0.snap m.below
  have hr : w'.ownsRow u.heap.size 47 2 (.slice aw rs.length cw) rs.length (enc .i64 rs) := ⟨m.row.1, m.row.2.imp id (fun ⟨g, cap, cur, e, _, rest⟩ => ⟨g, cap, cur, e, m.blk g (by rw [e]; rfl), rest⟩)⟩
  have h3' := h3.mono hsub
  exact ⟨aw, cw, rfl, cs_of h3' hs.kept, _, ⟨F, hs, f1, f2, f3⟩, h3', h3'.stop, h3'.res, h3'.s, hsub _ _ g1, g2.mono hsub, rowIn_snap hr⟩
/-- Behind the store into the box. -/
theorem PW.last {wv : Value} (h : PW w stop ps sb rs [] pc bx av wv u) : ∃ G, Twin w ps pc rs G (u.alloc (.cells #[wv] 44)) ∧ Gear w.heap.size stop ps sb bx av wv rs G ∧ G u.heap.size = some (.cells #[wv] 44 (0, 0)) := by
  obtain ⟨G, h1, -, h4⟩ := h
  obtain ⟨k1, k2, k3⟩ := h1.new (.cells #[wv] 44 (0, 0))
  exact ⟨_, k1, h4.mono k2, Gb_self _ _ _⟩
theorem PW.stored {wv : Value} {b : Nat} (h : PW w stop ps sb rs [b] pc bx av wv u) : ∃ G, Twin w ps pc rs G (u.setCell ⟨b, 0, none⟩ wv) ∧ Gear w.heap.size stop ps sb bx av wv rs G ∧ G b = some (.cells #[wv] 44 (0, 0)) := by
  obtain ⟨G, ⟨F, h1, h2⟩, h3, h4⟩ := h
  obtain ⟨b1, b2⟩ := h3.box b (by simp)
  have hp := h1.poke (i := 0) b2 b1 wv
  have hne : ∀ (g : Nat) (cs : Array Value) (t : TypeId), t ≠ 44 → G g = some (.cells cs t (0, 0)) → (fun k => if k = b then some (.cells ((#[.slice none 0 0] : Array Value).setIfInBounds 0 wv) 44 (0, 0)) else G k) g = some (.cells cs t (0, 0)) := fun g cs t ht hg => by
    have : g ≠ b := fun e => by rw [e, b2] at hg; cases hg; exact ht rfl
    simp only [if_neg this]
    exact hg
  exact ⟨_, ⟨F, hp, h2⟩, ⟨hne _ _ _ (by decide) h4.stop, hne _ _ _ (by decide) h4.res, hne _ _ _ (by decide) h4.s, hne _ _ _ (by decide) h4.all, h4.row.move (fun g cs => hne g cs _ (by decide)), h4.wrow.move (fun g cs => hne g cs _ (by decide))⟩, by simp⟩
end

theorem equalIn_func {P : Program} (w : World) (d : Nat) (t : TypeId) (ps rs : Array TypeId) (vr : Bool) (f : Fn) (cb : Array Value) (h : P.underlying t = some (.func ps rs vr)) :
    (Op.equalIn (d + 1) t (.func f #[] cb) .nilFunc).run P w = .ok false w := by
  simp [Op.equalIn, run_underlying h]
theorem eql_func42 (f : Fn) (cb : Array Value) (w : World) : (binOp .eql 42 (.func f #[] cb) .nilFunc).run Try.prog w = .ok (.bool false) w := by
  simp only [binOp]
  simp [Op.equal, Op.maxDepth, equalIn_func w 9999 42 _ _ _ f cb Try.underlying42]

/-- The first of the two rows. -/
def O1 (w6 : World) (rs : List (Int × Int)) (v : Value) (u : World) : Prop := u.ownsRow w6.heap.size 33 2 v rs.length (enc .u8 rs) ∧ Below w6.heap.size w6 u
/-- Both. -/
def O2 (w6 : World) (rs : List (Int × Int)) (v1 v2 : Value) (u : World) : Prop := OneTwo w6 u u v1 v2 rs.length ∧ u.ownsRow 0 33 2 v2 rs.length (enc .u8 rs)

theorem row_weak {w : World} {B : Nat} {e : TypeId} {v : Value} {n : Nat} {xs : List Value} (h : w.ownsRow B e 2 v n xs) : w.ownsRow 0 e 2 v n xs := owns_weaken h
theorem row_slice {w : World} {B : Nat} {e : TypeId} {v : Value} {n : Nat} {xs : List Value} (h : w.ownsRow B e 2 v n xs) : ∃ a c, v = .slice a n c := by
  rcases h.2 with ⟨rfl, h3⟩ | ⟨g, cap, cur, rfl, -⟩
  · exact ⟨none, 0, by rw [h3]⟩
  · exact ⟨_, _, rfl⟩
theorem OneTwo.cells {w6 w8 wr : World} {v1 v2 : Value} {L : Nat} (h : OneTwo w6 w8 wr v1 v2 L) {k : Nat} (hk : k < L) :
    ∃ g c x0 x1, v1 = .slice (some ⟨g, 0, none⟩) L c ∧ wr.cell? ⟨g, k * 2, none⟩ = some x0 ∧ wr.cell? ⟨g, k * 2 + 1, none⟩ = some x1 ∧ ∀ o, wr.frozen? ⟨g, o, none⟩ = false := by
  obtain ⟨xs, hr⟩ := h.row
  have hc := @World.ownsRow.cells _ _ _ _ _ _ _ hr
  have hl := hr.1
  rcases hr.2 with ⟨-, h0⟩ | ⟨g, cap, cur, rfl, -, hg, -⟩
  · omega
  · have e0 : xs[k * 2]? = some xs[k * 2] := List.getElem?_eq_getElem (by omega)
    have e1 : xs[k * 2 + 1]? = some xs[k * 2 + 1] := List.getElem?_eq_getElem (by omega)
    have f0 := hc rfl _ _ e0
    have f1 := hc rfl _ _ e1
    rw [add_g] at f0 f1
    rw [Nat.zero_add] at f0 f1
    exact ⟨g, cap, _, _, rfl, f0, f1, fun o => frozen_of_row _ _ _ _ _ hg⟩
theorem Twin.runsH {w : World} {ps pc : Nat} {rs : List (Int × Int)} {G : Nat → Option Obj} {W : World} (h : Twin w ps pc rs G W) : Calls Try.prog 14 #[.pointer (some ⟨ps, 0, none⟩)] W fun e w' => ∃ v', e = .returned v' ∧ Hid (w'.ownsRow W.heap.size 33 2 v' rs.length (enc .u8 rs) ∧ Below W.heap.size W w') := by
  obtain ⟨F, h1, h2, -⟩ := h
  exact h1.runs h2 (by have := h1.short h2; omega)

theorem own_prefix {rs pre : List (Int × Int)} {x : Int × Int} (h : pre ++ [x] <+: rs) : pre.length < rs.length ∧ x.1 = lo rs pre.length ∧ x.2 = hi rs pre.length := by
  obtain ⟨t, rfl⟩ := h
  refine ⟨by simp, ?_, ?_⟩ <;> simp [lo, hi, List.getD_eq_getElem?_getD]

/-- The cells that a round of the range reads. -/
theorem own_cells {w W : World} {stop : Int} {ps pc sb bx wb tb nb cw i : Nat} {av : Value} {aw : Option Addr} {rs : List (Int × Int)} {G : Nat → Option Obj} {t m : Int} (h : Gear w.heap.size stop ps sb bx av (.slice aw i cw) rs G) (hwb : G wb = some (.cells #[.slice aw i cw] 44 (0, 0))) (hi1 : rs.length = i) (htb : w.heap.size ≤ tb ∧ ∀ g o, G g = some o → g < tb)
    (hnb : w.heap.size ≤ nb ∧ ∀ g o, Gb G tb (.cells #[.int .i64 t] 3 (0, 0)) g = some o → g < nb) (hF : Flock w ps pc rs (Gb (Gb G tb (.cells #[.int .i64 t] 3 (0, 0))) nb (.cells #[.int .i64 m] 3 (0, 0))) W) :
    ∃ g : Nat, W.cell? ⟨nb, 0, none⟩ = some (.int .i64 m) ∧ W.frozen? ⟨nb, 0, none⟩ = false ∧ W.cell? ⟨wb, 0, none⟩ = some (.slice aw i cw) ∧
      ((∀ k, k < i → aw = some ⟨g, 0, none⟩ ∧ W.cell? ⟨g, k * 2, none⟩ = some (.int .i64 (lo rs k)) ∧ W.cell? ⟨g, k * 2 + 1, none⟩ = some (.int .i64 (hi rs k))) ∧ (¬ nb = wb ∧ ¬ nb = sb ∧ ¬ nb = tb ∧ ¬ nb = w.heap.size ∧ (0 < i → ¬ nb = g)) ∧
      W.cell? ⟨sb, 0, none⟩ = some (.pointer (some ⟨ps, 0, none⟩)) ∧ W.cell? ⟨tb, 0, none⟩ = some (.int .i64 t) ∧ W.cell? ⟨w.heap.size, 0, none⟩ = some (.int .i64 stop) ∧ W.cell? ⟨w.heap.size + 1, 0, none⟩ = some (.bool false) ∧ W.frozen? ⟨w.heap.size + 1, 0, none⟩ = false) := by
  have hk := hF.keeps
  have s1 : ∀ g o, G g = some o → Gb G tb (.cells #[.int .i64 t] 3 (0, 0)) g = some o := Gb_sub htb.2
  have s2 : ∀ g o, Gb G tb (.cells #[.int .i64 t] 3 (0, 0)) g = some o → Gb (Gb G tb (.cells #[.int .i64 t] 3 (0, 0))) nb (.cells #[.int .i64 m] 3 (0, 0)) g = some o := Gb_sub hnb.2
  have hkG : KeepsG G W := fun g o hg => hk _ _ (s2 _ _ (s1 _ _ hg))
  have hl : ∀ g o, G g = some o → g < nb := fun g o hg => hnb.2 _ _ (s1 _ _ hg)
  have htn := hnb.2 tb _ (Gb_self _ _ _)
  have l1 := hl _ _ hwb
  have l2 := hl _ _ h.s
  have l3 := hl _ _ h.stop
  have hr := h.wrow.row hkG
  rw [hi1] at hr
  have hX : ∃ g : Nat, (∀ k, k < i → aw = some ⟨g, 0, none⟩ ∧ W.cell? ⟨g, k * 2, none⟩ = some (.int .i64 (lo rs k)) ∧ W.cell? ⟨g, k * 2 + 1, none⟩ = some (.int .i64 (hi rs k))) ∧ (0 < i → ¬ nb = g) := by
    rcases h.wrow with ⟨e, h0⟩ | ⟨g, cap, cur, e, hg, -⟩
    · exact ⟨0, fun k hk => by omega, fun h => by omega⟩
    · cases e
      exact ⟨g, fun k hk2 => ⟨rfl, owns_cells hr k hk2⟩, fun _ e => by have := hl _ _ hg; omega⟩
  obtain ⟨g, g1, g2⟩ := hX
  obtain ⟨c1, c2⟩ := box_cell (hk _ _ (Gb_self _ _ _))
  exact ⟨g, c1, c2, (box_cell (hkG _ _ hwb)).1, g1, ⟨by omega, by omega, by omega, by omega, g2⟩, (box_cell (hkG _ _ h.s)).1, (box_cell (hk _ _ (s2 _ _ (Gb_self _ _ _)))).1, (box_cell (hkG _ _ h.stop)).1, (box_cell (hkG _ _ h.res)).1, (box_cell (hkG _ _ h.res)).2⟩

theorem keeps_drewSet (W : World) (q : Nat) (a : Addr) (v : Value) : KeepsOthers W ((W.drewN q).setCell a v) := KeepsOthers.trans (B := W.drewN q) ⟨Nat.le_refl _, fun _ _ h _ => h⟩ (KeepsOthers.setCell _ _ _)

/-- Behind the range: n is the runs' number, or stop in the first turn. -/
theorem own_next {w W : World} {ps pc tb nb i : Nat} {rs pre : List (Int × Int)} {G : Nat → Option Obj} {t stop : Int} {I : List (Int × Int) → World → Prop} (hi1 : rs.length = i) (hI : ∀ pre W, I pre W → Flock w ps pc rs (Gb (Gb G tb (.cells #[.int .i64 t] 3 (0, 0))) nb (.cells #[.int .i64 (pre.length : Nat)] 3 (0, 0))) W)
    (h : pre = rs ∧ I pre W ∨ (∃ k, k ≤ rs.length ∧ pre = rs.take k) ∧ (t = 0 ∧ ((pre.length : Nat) : Int) = stop) ∧ I pre W) :
    ∃ m : Nat, Flock w ps pc rs (Gb (Gb G tb (.cells #[.int .i64 t] 3 (0, 0))) nb (.cells #[.int .i64 (m : Int)] 3 (0, 0))) W ∧ (m = i ∨ m ≤ i ∧ t = 0 ∧ (m : Int) = stop) := by
  rcases h with ⟨rfl, h⟩ | ⟨⟨k, hk, e⟩, ⟨h1, h2⟩, h⟩
  · exact ⟨_, hI _ _ h, .inl hi1⟩
  · exact ⟨_, hI _ _ h, .inr ⟨by rw [e, List.length_take]; omega, h1, h2⟩⟩

attribute [local go_sem] Oper.semAt_some

set_option maxHeartbeats 4000000 in
set_option maxRecDepth 100000 in
theorem own_any (sv : Value) (ab : Option Addr) (len cap : Nat) (la ha : Nat → Int) (stop : Int) (w : World) (HF : Hid (∀ w', Below w.heap.size w w' → FillU sv w'))
    (HB : Hid (∀ i, i < len → ∃ blk off, ab = some ⟨blk, off, none⟩ ∧ blk < w.heap.size ∧ w.cell? ⟨blk, off + i * 4 + 2, none⟩ = some (.int .i64 (la i)) ∧ w.cell? ⟨blk, off + i * 4 + 3, none⟩ = some (.int .i64 (ha i)))) :
    Calls Try.prog 8 #[sv, .slice ab len cap, .int .i64 stop] w fun e w' => e = .returned (.bool true) ∧ Below w.heap.size w w' := by
  have H2 : Hid (HerdU w.heap.size w (fun _ => none) (Snap (fun _ => none) w.heap.size ((w.alloc (.cells #[.int .i64 stop] 3)).alloc (.cells #[.bool false] 4))) ((w.alloc (.cells #[.int .i64 stop] 3)).alloc (.cells #[.bool false] 4))) := (herd_none w).snap (((Below.refl _ _).alloc (Nat.le_refl _) _).alloc (by simp) _)
  have HG2 : Hid (((w.alloc (.cells #[.int .i64 stop] 3)).alloc (.cells #[.bool false] 4)).heap[w.heap.size]? = some (.cells #[.int .i64 stop] 3 (0, 0)) ∧ ((w.alloc (.cells #[.int .i64 stop] 3)).alloc (.cells #[.bool false] 4)).heap[w.heap.size + 1]? = some (.cells #[.bool false] 4 (0, 0))) :=
    ⟨(heap_alloc_old _ _ (by simp)).trans (heap_alloc_new _ _), by have := heap_alloc_new (w.alloc (.cells #[.int .i64 stop] 3)) (.cells #[.bool false] 4); rwa [show (w.alloc (.cells #[.int .i64 stop] 3)).heap.size = w.heap.size + 1 from Array.size_push ..] at this⟩
  refine (callsIn_wide (n := 5)).1 ?_
  refine callsIn_of_wp_marks Try.func8 rfl trivial ?_ rfl
  simp only [Try.ntmps8, List.size_toArray, List.length_cons, List.length_nil, Nat.reduceAdd, Nat.reduceSub, Array.replicate_succ, Array.replicate_zero, List.push_toArray, List.append_toArray, List.nil_append, List.cons_append]
  refine wpIn_wide.2 ?_
  go_upto_region 1 with fail
  generalize ((w.alloc (.cells #[.int .i64 stop] 3)).alloc (.cells #[.bool false] 4)) = W2 at *
  have C2 := hide ((unhide H2).filled (unhide HF W2 (unhide H2).below))
  go_wp2_with fail
  refine (unhide C2).mono ?_
  rintro e w3 ⟨ps, rs, rfl, H3⟩
  clear C2 HF
  have H4 : Hid (P0 w stop ps w3.heap.size rs [] (w3.alloc (.cells #[.pointer (some ⟨ps, 0, none⟩)] 28))) := by
    obtain ⟨m1, m2, m3⟩ := unhide H3
    obtain ⟨g1, g2⟩ := unhide HG2
    have k1 := snap_new (G := fun _ => none) (n := w.heap.size) (Nat.le_refl _) g1
    have k2 := snap_new (G := fun _ => none) (n := w.heap.size) (Nat.le_succ _) g2
    have l1 := m3.ltG k1
    have l2 := m3.ltG k2
    refine ⟨_, _, m3.side ((Below.refl _ _).alloc (Nat.le_refl _) _) (Nat.le_refl _) (heap_alloc_new w3 _), at_self _ _ _, ?_, ?_, if_pos rfl, fun b hb => by simp at hb⟩
    · rw [if_neg (by omega)]; exact k1
    · rw [if_neg (by omega)]; exact k2
  clear H2 HG2 H3
  go_wp2_with fail
  obtain ⟨sb, hsb⟩ : ∃ sb, sb = w3.heap.size := ⟨_, rfl⟩
  rw [← hsb] at H4 ⊢
  clear hsb
  generalize (w3.alloc (.cells #[.pointer (some ⟨ps, 0, none⟩)] 28)) = W3 at *
  refine (awake_any W3).mono ?_
  rintro e w4 ⟨rfl, hb4⟩
  have H5 := hide ((unhide H4).step hb4)
  clear H4 hb4
  have c5 : w4.cell? ⟨sb, 0, none⟩ = some (.pointer (some ⟨ps, 0, none⟩)) := by
    obtain ⟨G, F, k1, k2, k3⟩ := unhide H5
    exact (cs_of k3 k1.kept).1
  have HSH : Hid (rs.length ≤ 128 ∧ Canon rs ∧ Fits 0 255 rs) := by
    obtain ⟨G, F, k1, k2, k3⟩ := unhide H5
    exact ⟨k1.short k2, k1.get k2⟩
  have CA0 : Hid (∀ q, Calls Try.prog 19 #[.pointer (some ⟨ps, 0, none⟩)] (w4.drewN q) fun e w' => ∃ pc, e = .returned (.pointer (some ⟨pc, 0, none⟩)) ∧ w'.cell? ⟨sb, 0, none⟩ = some (.pointer (some ⟨ps, 0, none⟩)) ∧ Hid (PT w stop ps sb rs [] pc w')) := fun q =>
    (callA ((unhide H5).step (below_drewN (Below.refl _ _) q))).mono fun e w' ⟨pc, h1, h2, h3⟩ => ⟨pc, h1, h2.1, h3⟩
  have CA1 : Hid (∀ q, Calls Try.prog 19 #[.pointer (some ⟨ps, 0, none⟩)] ((w4.drewN q).alloc o44) fun e w' => ∃ pc, e = .returned (.pointer (some ⟨pc, 0, none⟩)) ∧ w'.cell? ⟨sb, 0, none⟩ = some (.pointer (some ⟨ps, 0, none⟩)) ∧ w'.cell? ⟨w4.heap.size, 0, none⟩ = some (.slice none 0 0) ∧ w'.frozen? ⟨w4.heap.size, 0, none⟩ = false ∧ ¬ w4.heap.size = sb ∧ ¬ sb = w4.heap.size ∧ Hid (PT w stop ps sb rs [w4.heap.size] pc w')) := fun q =>
    (callA ((unhide H5).step (below_drewN (Below.refl _ _) q)).box).mono fun e w' ⟨pc, h1, h2, h3⟩ => ⟨pc, h1, h2.1, (h2.2 _ (by exact List.mem_singleton.2 rfl)).1, (h2.2 _ (by exact List.mem_singleton.2 rfl)).2.1, (h2.2 _ (by exact List.mem_singleton.2 rfl)).2.2.1, (h2.2 _ (by exact List.mem_singleton.2 rfl)).2.2.2, h3⟩
  have CB0 : Hid (∀ (u : World) (pc : Nat), Hid (PT w stop ps sb rs [] pc u) → Calls Try.prog 23 #[.pointer (some ⟨ps, 0, none⟩)] u fun e w' => ∃ (bx : Nat) (av : Value), e = .returned (.func (.func 90) #[] #[.pointer (some ⟨bx, 0, none⟩)]) ∧ w'.cell? ⟨sb, 0, none⟩ = some (.pointer (some ⟨ps, 0, none⟩)) ∧ Hid (PA w stop ps sb rs [] pc bx av w')) := fun u pc h =>
    (callB (unhide h)).mono fun e w' ⟨bx, av, h1, h2, h3⟩ => ⟨bx, av, h1, h2.1, h3⟩
  have CB1 : Hid (∀ (u : World) (pc : Nat), Hid (PT w stop ps sb rs [] pc u) → Calls Try.prog 23 #[.pointer (some ⟨ps, 0, none⟩)] (u.alloc o44) fun e w' => ∃ (bx : Nat) (av : Value), e = .returned (.func (.func 90) #[] #[.pointer (some ⟨bx, 0, none⟩)]) ∧ w'.cell? ⟨sb, 0, none⟩ = some (.pointer (some ⟨ps, 0, none⟩)) ∧ w'.cell? ⟨u.heap.size, 0, none⟩ = some (.slice none 0 0) ∧ w'.frozen? ⟨u.heap.size, 0, none⟩ = false ∧ ¬ u.heap.size = sb ∧ ¬ sb = u.heap.size ∧ Hid (PA w stop ps sb rs [u.heap.size] pc bx av w')) := fun u pc h =>
    (callB (unhide h).box).mono fun e w' ⟨bx, av, h1, h2, h3⟩ => ⟨bx, av, h1, h2.1, (h2.2 _ (by simp)).1, (h2.2 _ (by simp)).2.1, (h2.2 _ (by simp)).2.2.1, (h2.2 _ (by simp)).2.2.2, h3⟩
  have CB2 : Hid (∀ (u : World) (pc b : Nat), Hid (PT w stop ps sb rs [b] pc u) → Calls Try.prog 23 #[.pointer (some ⟨ps, 0, none⟩)] u fun e w' => ∃ (bx : Nat) (av : Value), e = .returned (.func (.func 90) #[] #[.pointer (some ⟨bx, 0, none⟩)]) ∧ w'.cell? ⟨sb, 0, none⟩ = some (.pointer (some ⟨ps, 0, none⟩)) ∧ w'.cell? ⟨b, 0, none⟩ = some (.slice none 0 0) ∧ w'.frozen? ⟨b, 0, none⟩ = false ∧ ¬ b = sb ∧ ¬ sb = b ∧ Hid (PA w stop ps sb rs [b] pc bx av w')) := fun u pc b h =>
    (callB (unhide h)).mono fun e w' ⟨bx, av, h1, h2, h3⟩ => ⟨bx, av, h1, h2.1, (h2.2 _ (by simp)).1, (h2.2 _ (by simp)).2.1, (h2.2 _ (by simp)).2.2.1, (h2.2 _ (by simp)).2.2.2, h3⟩
  have CC0 : Hid (∀ (u : World) (pc bx : Nat) (av : Value), Hid (PA w stop ps sb rs [] pc bx av u) → Calls Try.prog 24 #[.pointer (some ⟨ps, 0, none⟩)] u fun e w' => ∃ (aw : Option Addr) (cw : Nat), e = .returned (.slice aw rs.length cw) ∧ w'.cell? ⟨sb, 0, none⟩ = some (.pointer (some ⟨ps, 0, none⟩)) ∧ Hid (PW w stop ps sb rs [] pc bx av (.slice aw rs.length cw) w')) := fun u pc bx av h =>
    (callC (unhide h)).mono fun e w' ⟨aw, cw, h1, h2, h3⟩ => ⟨aw, cw, h1, h2.1, h3⟩
  have CC1 : Hid (∀ (u : World) (pc bx : Nat) (av : Value), Hid (PA w stop ps sb rs [] pc bx av u) → Calls Try.prog 24 #[.pointer (some ⟨ps, 0, none⟩)] (u.alloc o44) fun e w' => ∃ (aw : Option Addr) (cw : Nat), e = .returned (.slice aw rs.length cw) ∧ w'.cell? ⟨sb, 0, none⟩ = some (.pointer (some ⟨ps, 0, none⟩)) ∧ w'.cell? ⟨u.heap.size, 0, none⟩ = some (.slice none 0 0) ∧ w'.frozen? ⟨u.heap.size, 0, none⟩ = false ∧ ¬ u.heap.size = sb ∧ ¬ sb = u.heap.size ∧ Hid (PW w stop ps sb rs [u.heap.size] pc bx av (.slice aw rs.length cw) w')) := fun u pc bx av h =>
    (callC (unhide h).box).mono fun e w' ⟨aw, cw, h1, h2, h3⟩ => ⟨aw, cw, h1, h2.1, (h2.2 _ (by simp)).1, (h2.2 _ (by simp)).2.1, (h2.2 _ (by simp)).2.2.1, (h2.2 _ (by simp)).2.2.2, h3⟩
  have CC2 : Hid (∀ (u : World) (pc bx : Nat) (av : Value) (b : Nat), Hid (PA w stop ps sb rs [b] pc bx av u) → Calls Try.prog 24 #[.pointer (some ⟨ps, 0, none⟩)] u fun e w' => ∃ (aw : Option Addr) (cw : Nat), e = .returned (.slice aw rs.length cw) ∧ w'.cell? ⟨sb, 0, none⟩ = some (.pointer (some ⟨ps, 0, none⟩)) ∧ w'.cell? ⟨b, 0, none⟩ = some (.slice none 0 0) ∧ w'.frozen? ⟨b, 0, none⟩ = false ∧ ¬ b = sb ∧ ¬ sb = b ∧ Hid (PW w stop ps sb rs [b] pc bx av (.slice aw rs.length cw) w')) := fun u pc bx av b h =>
    (callC (unhide h)).mono fun e w' ⟨aw, cw, h1, h2, h3⟩ => ⟨aw, cw, h1, h2.1, (h2.2 _ (by simp)).1, (h2.2 _ (by simp)).2.1, (h2.2 _ (by simp)).2.2.1, (h2.2 _ (by simp)).2.2.2, h3⟩
  clear H5
  generalize hL : rs.length = L at *
  have HL := hide hL
  clear hL
  go_upto_region 4 with fail
  go_cut [8, 9, 10] from 28 to 33 (fun s8 s9 s10 wq => ∃ (pc bx wb cw : Nat) (av : Value) (aw : Option Addr), s8 = .pointer (some ⟨pc, 0, none⟩) ∧ s9 = .func (.func 90) #[] #[.pointer (some ⟨bx, 0, none⟩)] ∧ s10 = .pointer (some ⟨wb, 0, none⟩) ∧ Hid (∃ G, Twin w ps pc rs G wq ∧ Gear w.heap.size stop ps sb bx av (.slice aw L cw) rs G ∧ G wb = some (.cells #[.slice aw L cw] 44 (0, 0))))
  case first =>
    go_region_held3 (fun u => u.cell? ⟨sb, 0, none⟩ = some (.pointer (some ⟨ps, 0, none⟩))) (first | exact c5 | exact dd1 | exact (World.cell?_setCell_other _ _ _ _ (by simp [dd4, dd5])).trans dd1 | (go_keep; done)) (first
      | (go_at_call 19; refine (unhide CA0 _).mono ?_; rintro e w' ⟨pc, rfl, dd1, hT⟩)
      | (go_at_call 19; refine (unhide CA1 _).mono ?_; rintro e w' ⟨pc, rfl, dd1, dd2, dd3, dd4, dd5, hT⟩)
      | (go_at_call 23; refine (unhide CB0 _ _ (by assumption)).mono ?_; rintro e w' ⟨bx, av, rfl, dd1, hT⟩)
      | (go_at_call 23; refine (unhide CB1 _ _ (by assumption)).mono ?_; rintro e w' ⟨bx, av, rfl, dd1, dd2, dd3, dd4, dd5, hT⟩)
      | (go_at_call 23; refine (unhide CB2 _ _ _ (by assumption)).mono ?_; rintro e w' ⟨bx, av, rfl, dd1, dd2, dd3, dd4, dd5, hT⟩)
      | (go_at_call 24; refine (unhide CC0 _ _ _ _ (by assumption)).mono ?_; rintro e w' ⟨aw, cw, rfl, dd1, hT⟩)
      | (go_at_call 24; refine (unhide CC1 _ _ _ _ (by assumption)).mono ?_; rintro e w' ⟨aw, cw, rfl, dd1, dd2, dd3, dd4, dd5, hT⟩)
      | (go_at_call 24; refine (unhide CC2 _ _ _ _ _ (by assumption)).mono ?_; rintro e w' ⟨aw, cw, rfl, dd1, dd2, dd3, dd4, dd5, hT⟩))
    all_goals
      go_wp2_with fail
      go_meet
      case rel =>
        first
        | exact ⟨_, _, _, _, _, _, rfl, rfl, rfl, (unhide hT).last⟩
        | exact ⟨_, _, _, _, _, _, rfl, rfl, rfl, (unhide hT).stored⟩
  case rest =>
    clear CA0 CA1 CB0 CB1 CB2 CC0 CC1 CC2 c5
    obtain ⟨pc, bx, wb, cw, av, aw, rfl, rfl, rfl, HT⟩ := hcut
    obtain ⟨G, T5, hGear, hwb⟩ := unhide HT
    have qnil : ∀ u : World, (binOp .eql 42 (.func (.func 90) #[] #[.pointer (some ⟨bx, 0, none⟩)]) .nilFunc).run Try.prog u = .ok (.bool false) u := eql_func42 _ _
    have c7 : wc.cell? ⟨sb, 0, none⟩ = some (.pointer (some ⟨ps, 0, none⟩)) := (box_cell (T5.flock.keeps _ _ hGear.s)).1
    have HLL := unhide HL
    have CR0 : Hid (∀ q, Calls Try.prog 14 #[.pointer (some ⟨ps, 0, none⟩)] (wc.drewN q) fun e w' => ∃ (a1 : Option Addr) (c1 : Nat), e = .returned (.slice a1 L c1) ∧ w'.cell? ⟨sb, 0, none⟩ = some (.pointer (some ⟨ps, 0, none⟩)) ∧ Hid (O1 wc rs (.slice a1 L c1) w')) := fun q => by
      refine ((T5.step (below_drewN (Below.refl _ _) q)).runsH).mono ?_
      rintro e w' ⟨v', rfl, hh⟩
      obtain ⟨m1, m2⟩ := unhide hh
      have hb := below_undrew m2
      obtain ⟨a1, c1, rfl⟩ := row_slice m1
      rw [HLL] at m1 ⊢
      exact ⟨a1, c1, rfl, (box_cell ((T5.step hb).flock.keeps _ _ hGear.s)).1, by show _ ∧ _; rw [HLL]; exact ⟨m1, hb⟩⟩
    have CR1 : Hid (∀ (u : World) (v1 : Value), Hid (O1 wc rs v1 u) → Calls Try.prog 14 #[.pointer (some ⟨ps, 0, none⟩)] u fun e w' => ∃ (a2 : Option Addr) (c2 : Nat), e = .returned (.slice a2 L c2) ∧ w'.cell? ⟨sb, 0, none⟩ = some (.pointer (some ⟨ps, 0, none⟩)) ∧ Hid (O2 wc rs v1 (.slice a2 L c2) w')) := fun u v1 hh => by
      obtain ⟨r1, b1⟩ := unhide hh
      refine ((T5.step b1).runsH).mono ?_
      rintro e w' ⟨v', rfl, hh⟩
      obtain ⟨m1, m2⟩ := unhide hh
      have hb := b1.trans (m2.mono b1.size)
      obtain ⟨a2, c2, rfl⟩ := row_slice m1
      rw [HLL] at m1 ⊢
      refine ⟨a2, c2, rfl, (box_cell ((T5.step hb).flock.keeps _ _ hGear.s)).1, ?_⟩
      show _ ∧ _
      rw [HLL] at r1 ⊢
      refine ⟨⟨hb, ⟨_, row_kept2 (row_weak r1) (fun k hk => m2.block k (r1.lt k hk).2)⟩, fun k hk => (r1.lt k hk).1, fun k hk => ⟨rfl, fun e => ?_, (m1.lt k hk).2⟩⟩, row_weak m1⟩
      have := (r1.lt k e).2
      have := (m1.lt k hk).1
      omega
    have HG := hide (And.intro T5 (And.intro hGear hwb))
    clear HT T5 hGear hwb HLL
    go_upto_region 7 with fail
    go_cut [11, 12] from 34 to 43 (fun s11 s12 wq => ∃ (a1 a2 : Option Addr) (c1 c2 : Nat), s11 = .slice a1 L c1 ∧ s12 = .slice a2 L c2 ∧ Hid (O2 wc rs (.slice a1 L c1) (.slice a2 L c2) wq))
    case first =>
      go_region_held3 (fun u => u.cell? ⟨sb, 0, none⟩ = some (.pointer (some ⟨ps, 0, none⟩))) (first | exact c7 | exact dd1 | (go_keep; done)) (first
        | (go_at_call 14; refine (unhide CR1 _ _ (by assumption)).mono ?_; rintro e w' ⟨a2, c2, rfl, dd1, hT⟩)
        | (go_at_call 14; refine (unhide CR0 _).mono ?_; rintro e w' ⟨a1, c1, rfl, dd1, hT⟩))
      all_goals
        go_wp2_with fail
        go_meet
        case rel => exact ⟨_, _, _, _, rfl, rfl, hT⟩
    case rest =>
      rename World => w8
      obtain ⟨a1, a2, c1, c2, rfl, rfl, HO⟩ := hcut
      clear CR0 CR1 c7 qnil
      have hL6 : (L : Int) ≤ 128 := by have := (unhide HSH).1; omega
      have HO1 : Hid (OneTwo wc w8 w8 (.slice a1 L c1) (.slice a2 L c2) L ∧ w8.ownsRow 0 33 2 (.slice a2 L c2) L (enc .u8 rs)) := by
        have h := unhide HO
        unfold O2 at h
        rw [unhide HL] at h
        exact h
      clear HO
      go_wp2_with fail
      -- the first row is written
      go_loopw [46] (fun s46 wr => ∃ k : Nat, k ≤ L ∧ s46 = .int .i64 k ∧ Hid (OneTwo wc w8 wr (.slice a1 L c1) (.slice a2 L c2) L)) (fun s46 _ => L - (intOf s46).toNat)
      case atStart => exact ⟨0, Nat.zero_le _, rfl, (unhide HO1).1⟩
      case round =>
        obtain ⟨k, hk, rfl, HR⟩ := hrel
        by_cases hlt : k < L
        · have hltz : (k : Int) < (L : Int) := by omega
          obtain ⟨g, c', x0, x1, e1, f0, f1, fz⟩ := (unhide HR).cells hlt
          simp only [Value.slice.injEq, true_and] at e1
          obtain ⟨rfl, rfl⟩ := e1
          have z0 := fz (k * 2)
          have z1 := fz (k * 2 + 1)
          have HS := hide ((unhide HR).store (i := k) (.int .u8 7) (.int .u8 3))
          clear fz HR
          go_wp2_with fail
          go_roundw
          case rel => exact ⟨k + 1, by omega, by go_num, HS⟩
          case measure => simp [intOf]; omega
        · obtain rfl : k = L := by omega
          have HR1 := HR
          clear HR
          go_wp2_with fail
          -- the first row grows
          go_loopw [11, 14] (fun s11 s14 wr => ∃ (m c : Nat) (a : Option Addr), m ≤ 20 ∧ s14 = .int .i64 m ∧ s11 = .slice a (k + m) c ∧ Hid (OneTwo wc w8 wr (.slice a (k + m) c) (.slice a2 k c2) (k + m))) (fun _ s14 _ => 20 - (intOf s14).toNat)
          case atStart => exact ⟨0, _, _, by omega, rfl, rfl, HR1⟩
          case round =>
            obtain ⟨m, c, a, hm, rfl, rfl, HR⟩ := hrel
            by_cases hlt : m < 20
            · have hltz : (m : Int) < 20 := by omega
              obtain ⟨g', cap', w', hr, hN⟩ := (unhide HR).append 9 0 (by have := unhide HSH; omega)
              have HRn := hide hr
              clear hr HR
              go_wp2_with (at_builtin; refine Lib.wpList_append_run _ rfl _ _ 30 30 rfl (.slice a (k + m) c) (.slice (some ⟨wr.heap.size, 0, none⟩) 1 1) rfl rfl _ _ HRn.out ?_)
              go_roundw
              case rel => exact ⟨m + 1, _, _, by omega, by go_num, rfl, hN⟩
              case measure => simp [intOf]; omega
            · obtain rfl : m = 20 := by omega
              have c9 : wr.cell? ⟨wb, 0, none⟩ = some (.slice aw k cw) := by
                obtain ⟨t1, t2, t3⟩ := unhide HG
                exact (box_cell ((t1.step (unhide HR).below).flock.keeps _ _ t3)).1
              have H3 : Hid (∀ i, i < k → (∃ g, a2 = some ⟨g, 0, none⟩ ∧ wr.cell? ⟨g, i * 2, none⟩ = some (.int .u8 (lo rs i)) ∧ wr.cell? ⟨g, i * 2 + 1, none⟩ = some (.int .u8 (hi rs i))) ∧
                  (∃ g, aw = some ⟨g, 0, none⟩ ∧ wr.cell? ⟨g, i * 2, none⟩ = some (.int .i64 (lo rs i)) ∧ wr.cell? ⟨g, i * 2 + 1, none⟩ = some (.int .i64 (hi rs i))) ∧ IntKind.i64.wrap (lo rs i) = lo rs i ∧ IntKind.i64.wrap (hi rs i) = hi rs i) := fun i hi1 => by
                obtain ⟨t1, t2, t3⟩ := unhide HG
                have hLk := unhide HL
                obtain ⟨u1, u2⟩ := unhide HO1
                have r2 : wr.ownsRow 0 33 2 (.slice a2 k c2) k (enc .u8 rs) := row_kept2 u2 (fun j hj => ((unhide HR).two j hj).1)
                have r3 := t2.wrow.row (t1.step (unhide HR).below).flock.keeps
                rw [hLk] at r3
                refine ⟨?_, ?_, wrapU (unhide HSH).2.1 (unhide HSH).2.2 i (by omega)⟩
                · rcases r2.2 with ⟨-, h0⟩ | ⟨g, cap, cur, e, -⟩
                  · omega
                  · cases e
                    exact ⟨g, rfl, owns_cells r2 i hi1⟩
                · rcases r3.2 with ⟨-, h0⟩ | ⟨g, cap, cur, e, -⟩
                  · omega
                  · cases e
                    exact ⟨g, rfl, owns_cells r3 i hi1⟩
              have HR2 := HR
              clear HR HO1 HR1
              generalize hL2 : k + 20 = L2 at *
              have HL2 := hide hL2
              clear hL2
              go_wp2_with fail
              -- two and was
              go_loopw [64] (fun s64 wx => ∃ (i q : Nat), i ≤ k ∧ s64 = .int .i64 i ∧ wx = wr.drewN q) (fun s64 _ => k - (intOf s64).toNat)
              case atStart => exact ⟨0, 0, Nat.zero_le _, rfl, rfl⟩
              case round =>
                obtain ⟨i, q, hi1, rfl, rfl⟩ := hrel
                by_cases hlt : i < k
                · have hltz : (i : Int) < (k : Int) := by omega
                  obtain ⟨⟨g2, rfl, d0, d1⟩, ⟨g3, rfl, d2, d3⟩, w0', w1'⟩ := unhide H3 i hlt
                  have d0' : (wr.drewN q).cell? ⟨g2, i * 2, none⟩ = _ := d0
                  have d1' : (wr.drewN q).cell? ⟨g2, i * 2 + 1, none⟩ = _ := d1
                  have d2' : (wr.drewN q).cell? ⟨g3, i * 2, none⟩ = _ := d2
                  have d3' : (wr.drewN q).cell? ⟨g3, i * 2 + 1, none⟩ = _ := d3
                  have d4' : (wr.drewN q).cell? ⟨wb, 0, none⟩ = _ := c9
                  generalize lo rs i = x at *
                  generalize hi rs i = y at *
                  go_wp2_with fail
                  go_quiet (fail)
                  go_wp2_with fail
                  go_roundw
                  case rel => exact ⟨i + 1, _, by omega, by go_num, rfl⟩
                  case measure => simp [intOf]; omega
                · obtain rfl : i = k := by omega
                  have H4 : Hid (Flock w ps pc rs G (wr.drewN q)) := ((unhide HG).1.step (below_drewN (unhide HR2).below q)).flock
                  have HGear := hide (unhide HG).2
                  clear H3 c9 HR2 HG
                  generalize wr.drewN q = wy at *
                  go_wp2_with fail
                  -- the second script
                  go_loopw [16] (fun s16 wz => ∃ j : Nat, j ≤ len ∧ j ≤ 40 ∧ s16 = .int .i64 j ∧ Hid (Flock w ps pc rs G wz)) (fun s16 _ => 40 - (intOf s16).toNat)
                  case atStart => exact ⟨0, Nat.zero_le _, by omega, rfl, H4⟩
                  case round =>
                    obtain ⟨j, hj, hj40, rfl, HFl⟩ := hrel
                    by_cases hlt : j < len ∧ j < 40
                    · obtain ⟨h1, h2⟩ := hlt
                      have h1z : (j : Int) < (len : Int) := by omega
                      have h2z : (j : Int) < 40 := by omega
                      obtain ⟨blk, off, rfl, hblk, b1, b2⟩ := unhide HB j h1
                      have HBel := hide (unhide HFl).below
                      have s0 : wr.cell? ⟨sb, 0, none⟩ = some (.pointer (some ⟨ps, 0, none⟩)) := (box_cell ((unhide HFl).keeps _ _ (unhide HGear).1.s)).1
                      have s1 : wr.cell? ⟨blk, off + j * 4 + 2, none⟩ = some (.int .i64 (la j)) := ((unhide HFl).below.cell (by exact hblk)).trans b1
                      have s2 : wr.cell? ⟨blk, off + j * 4 + 3, none⟩ = some (.int .i64 (ha j)) := ((unhide HFl).below.cell (by exact hblk)).trans b2
                      have HCell : Hid (∀ u, Flock w ps pc rs G u → u.cell? ⟨sb, 0, none⟩ = some (.pointer (some ⟨ps, 0, none⟩)) ∧ u.cell? ⟨blk, off + j * 4 + 2, none⟩ = some (.int .i64 (la j)) ∧ u.cell? ⟨blk, off + j * 4 + 3, none⟩ = some (.int .i64 (ha j))) := fun u hu =>
                        ⟨(box_cell (hu.keeps _ _ (unhide HGear).1.s)).1, (hu.below.cell (by exact hblk)).trans b1, (hu.below.cell (by exact hblk)).trans b2⟩
                      generalize la j = x at *
                      generalize ha j = y at *
                      have CAd : Hid (∀ q, Calls Try.prog 25 #[.pointer (some ⟨ps, 0, none⟩), .int .u8 (IntKind.wrap .u8 x), .int .u8 (IntKind.wrap .u8 y)] (wr.drewN q) fun e w' => ∃ r, e = .returned (.bool r) ∧ (w'.cell? ⟨sb, 0, none⟩ = some (.pointer (some ⟨ps, 0, none⟩)) ∧ w'.cell? ⟨blk, off + j * 4 + 2, none⟩ = some (.int .i64 x) ∧ w'.cell? ⟨blk, off + j * 4 + 3, none⟩ = some (.int .i64 y)) ∧ Hid (Flock w ps pc rs G w')) := fun q =>
                        (((unhide HFl).step (below_drewN (Below.refl _ _) q)).add _ _ ⟨conv_u8 x, conv_u8 y⟩).mono fun e w' ⟨r, h1, h2⟩ => ⟨r, h1, unhide HCell w' (unhide h2).1, (unhide h2).1⟩
                      have CCt : Hid (∀ u q, Hid (Flock w ps pc rs G u) → Calls Try.prog 22 #[.pointer (some ⟨ps, 0, none⟩), .int .u8 (IntKind.wrap .u8 y), .int .u8 (IntKind.wrap .u8 x)] (u.drewN q) fun e w' => ∃ r, e = .returned (.bool r) ∧ (w'.cell? ⟨sb, 0, none⟩ = some (.pointer (some ⟨ps, 0, none⟩)) ∧ w'.cell? ⟨blk, off + j * 4 + 2, none⟩ = some (.int .i64 x) ∧ w'.cell? ⟨blk, off + j * 4 + 3, none⟩ = some (.int .i64 y)) ∧ Hid (Flock w ps pc rs G w')) := fun u q hu =>
                        (((unhide hu).step (below_drewN (Below.refl _ _) q)).cut _ _ ⟨conv_u8 y, conv_u8 x⟩).mono fun e w' ⟨r, h1, h2⟩ => ⟨r, h1, unhide HCell w' (unhide h2), h2⟩
                      clear HFl HCell b1 b2 hblk
                      go_upto_region 26 with fail
                      go_region_held3 (fun u => u.cell? ⟨sb, 0, none⟩ = some (.pointer (some ⟨ps, 0, none⟩)) ∧ u.cell? ⟨blk, off + j * 4 + 2, none⟩ = some (.int .i64 x) ∧ u.cell? ⟨blk, off + j * 4 + 3, none⟩ = some (.int .i64 y)) (first | exact ⟨s0, s1, s2⟩ | exact ⟨dd0, dd1, dd2⟩ | (go_keep; done)) ((go_at_call 25; refine (unhide CAd _).mono ?_; rintro e w' ⟨r, rfl, ⟨dd0, dd1, dd2⟩, hT⟩))
                      have CD := hide (fun q => unhide CCt w' q hT)
                      clear CAd CCt
                      go_upto_region 27 with fail
                      go_region_held3 (fun u => u.cell? ⟨sb, 0, none⟩ = some (.pointer (some ⟨ps, 0, none⟩)) ∧ u.cell? ⟨blk, off + j * 4 + 2, none⟩ = some (.int .i64 x) ∧ u.cell? ⟨blk, off + j * 4 + 3, none⟩ = some (.int .i64 y)) (first | exact ⟨ee0, ee1, ee2⟩ | exact ⟨dd0, dd1, dd2⟩ | (go_keep; done)) ((go_at_call 22; refine (unhide CD _).mono ?_; rintro e w2 ⟨r2, rfl, ⟨ee0, ee1, ee2⟩, hT2⟩))
                      clear CD hT
                      go_wp2_with fail
                      refine ⟨?_, ?measure⟩
                      · (repeat apply Exists.intro)
                        exact ⟨⟨j + 1, by omega, by omega, by go_num, hT2⟩, rfl⟩
                      case measure => simp [intOf]; omega
                    · have HFl0 := HFl
                      clear HFl
                      go_upto_region 24 with fail
                      go_cut [101] from 94 to 131 (fun s101 wq => s101 = .bool false ∧ wq = wr)
                      case first =>
                        by_cases h1 : j < len
                        · have h1z : (j : Int) < (len : Int) := by omega
                          obtain rfl : j = 40 := by omega
                          go_wp2_with fail
                          go_meet
                          case rel => exact ⟨rfl, rfl⟩
                        · have h1z : ¬ (j : Int) < (len : Int) := by omega
                          go_wp2_with fail
                          go_meet
                          case rel => exact ⟨rfl, rfl⟩
                      case rest =>
                        obtain ⟨rfl, rfl⟩ := hcut
                        go_upto_region 28 with fail
                        obtain ⟨tb, htb⟩ : ∃ tb, tb = wc.heap.size := ⟨_, rfl⟩
                        have HFt : Hid (Flock w ps pc rs (Gb G tb (.cells #[.int .i64 0] 3 (0, 0))) (wc.alloc (.cells #[.int .i64 0] 3))) := by
                          rw [htb]
                          exact (unhide HFl0).new _
                        have HTB : Hid (w.heap.size ≤ tb ∧ ∀ g o, G g = some o → g < tb) := ⟨by rw [htb]; exact (unhide HFl0).below.size, fun g o hg => by rw [htb]; exact (unhide HFl0).lt hg⟩
                        go_wp2_with fail
                        rw [← htb]
                        clear htb HFl0
                        generalize wc.alloc (.cells #[.int .i64 0] 3) = W0 at *
                        have t0 : W0.cell? ⟨tb, 0, none⟩ = some (.int .i64 0) := (box_cell ((unhide HFt).keeps _ _ (Gb_self _ _ _))).1
                        refine wp_loop_rounds 3 ?_
                        rw [rounds_succ]
                        go_upto_region 31 with fail
                        have HFn : Hid (Flock w ps pc rs (Gb (Gb G tb (.cells #[.int .i64 0] 3 (0, 0))) W0.heap.size (.cells #[.int .i64 0] 3 (0, 0))) (W0.alloc (.cells #[.int .i64 0] 3))) := (unhide HFt).new _
                        obtain ⟨nb, hnb⟩ : ∃ nb, nb = W0.heap.size := ⟨_, rfl⟩
                        rw [← hnb] at HFn
                        have HNB : Hid (w.heap.size ≤ nb ∧ ∀ g o, (Gb G tb (.cells #[.int .i64 0] 3 (0, 0))) g = some o → g < nb) := ⟨by rw [hnb]; exact (unhide HFt).below.size, fun g o hg => by rw [hnb]; exact (unhide HFt).lt hg⟩
                        go_upto_region 32 with fail
                        rw [← hnb]
                        clear hnb HFt
                        generalize W0.alloc (.cells #[.int .i64 0] 3) = u at *
                        clear t0 W0
                        go_wp2_with fail
                        have HGt : Hid (∀ g o, G g = some o → (Gb G tb (.cells #[.int .i64 0] 3 (0, 0))) g = some o) := Gb_sub (unhide HTB).2
                        have HGn : Hid (∀ m g o, (Gb G tb (.cells #[.int .i64 0] 3 (0, 0))) g = some o → (Gb (Gb G tb (.cells #[.int .i64 0] 3 (0, 0))) nb (.cells #[.int .i64 m] 3 (0, 0))) g = some o) := fun m => Gb_sub (unhide HNB).2
                        have hYB : Hid (∀ b, YB bx av b → ∃ o, G b = some o) := fun b hb => by
                          rcases hb with rfl | hb
                          · exact ⟨_, (unhide HGear).1.all⟩
                          · exact (unhide HGear).1.row.blk b hb
                        have hku : KeepsG G u := fun g o hg => (unhide HFn).keeps _ _ (unhide HGn _ _ _ (unhide HGt _ _ hg))
                        have hseq := values_stops 4 (by omega) bx av rs (by have := unhide HSH; have := unhide HL; omega) u (box_cell (hku _ _ (unhide HGear).1.all)).1 ((unhide HGear).1.row.row hku)
                        have hltu : Hid (∀ m g o, (Gb (Gb G tb (.cells #[.int .i64 0] 3 (0, 0))) nb (.cells #[.int .i64 m] 3 (0, 0))) g = some o → g < u.heap.size) := fun m g o hg => by
                          by_cases e : g = nb
                          · exact (unhide HFn).lt (by rw [e]; exact Gb_self _ _ _)
                          · rw [Gb_other _ _ e] at hg
                            exact (unhide HFn).lt (unhide HGn _ _ _ hg)
                        have hsu : w.heap.size ≤ u.heap.size := (unhide HFn).below.size
                        have hyu : ∀ b, YB bx av b → b < u.heap.size := fun b hb => by
                          obtain ⟨o, ho⟩ := unhide hYB b hb
                          exact unhide hltu 0 b o (unhide HGn _ _ _ (unhide HGt _ _ ho))
                        have hGu : Hid (∀ g o, G g = some o → g < u.heap.size) := fun g o hg => unhide hltu 0 g o (unhide HGn _ _ _ (unhide HGt _ _ hg))
                        clear hku
                        refine (wpIn_wide (n := 5)).1 ?_
                        refine range_boxed2 (F := Fence.wide) (n := 5) rfl (by omega) (gf := 90) (lb := #[.pointer (some ⟨bx, 0, none⟩)]) rfl trivial (enters_of Try.func90 (by kernel_rfl) rfl) hseq KX.trans (kx_put (w := u) hyu) (Below.refl _ _) (fun _ => rfl)
                          (fun pre W => Flock w ps pc rs (Gb (Gb G tb (.cells #[.int .i64 0] 3 (0, 0))) nb (.cells #[.int .i64 (pre.length : Nat)] 3 (0, 0))) W)
                          (fun pre W => ((0 : Int) = 0 ∧ ((pre.length : Nat) : Int) = stop) ∧ Flock w ps pc rs (Gb (Gb G tb (.cells #[.int .i64 0] 3 (0, 0))) nb (.cells #[.int .i64 (pre.length : Nat)] 3 (0, 0))) W)
                          (fun pre => ¬ pre <+: rs) 10
                          (fun s A B row hs hg hr => hs.grown hsu (unhide hltu _) hg hr)
                          (fun s A B row hs hg hr => ⟨hs.1, hs.2.grown hsu (unhide hltu _) hg hr⟩)
                          (unhide HFn) 19 33 (fun x => #[.int .u8 x.1, .int .u8 x.2])
                          (fun pre W o hf b hb => by
                            obtain ⟨o2, ho⟩ := unhide hYB b hb
                            exact heap_alloc_old _ _ (hf.lt (unhide HGn _ _ _ (unhide HGt _ _ ho))))
                          (fun pre ⟨k, _, e⟩ hb => hb (by rw [e]; exact List.take_prefix _ _))
                          (fun _ _ h => h)
                          ?assign ?body ?next
                        case assign =>
                          intro l x W K hK
                          gi_wp2
                          simpa using hK
                        case body =>
                          rintro l pre ⟨xi, xx⟩ rb W hFl hrb _
                          have r0 : W.cell? ⟨rb, 0, none⟩ = some (.int .u8 xi) := (cell_of_row W rb 0 _ 33 (0, 0) hrb).trans rfl
                          have r1 : W.cell? ⟨rb, 1, none⟩ = some (.int .u8 xx) := (cell_of_row W rb 1 _ 33 (0, 0) hrb).trans rfl
                          have hPre := own_prefix (rs := rs) (pre := pre) (x := (xi, xx))
                          obtain ⟨g0, n0, n1, b0, hrow⟩ := own_cells (unhide HGear).1 (unhide HGear).2 (unhide HL) (unhide HTB) (unhide HNB) hFl
                          have HFl := hide hFl
                          have HPre := hide hPre
                          obtain ⟨y1, hy1⟩ : ∃ y1, IntKind.i64.wrap xi = y1 := ⟨_, rfl⟩
                          obtain ⟨y2, hy2⟩ : ∃ y2, IntKind.i64.wrap xx = y2 := ⟨_, rfl⟩
                          clear hFl hPre hrb
                          obtain ⟨hc0, ⟨gb1, gb2, gb3, gb4, gb5⟩, s0, tc, sc, rc, rf⟩ := hrow
                          have HC0 := hide hc0
                          clear hc0
                          have CAd : Hid (∀ q, Calls Try.prog 25 #[.pointer (some ⟨ps, 0, none⟩), .int .u8 0, .int .u8 255] ((W.drewN q).setCell ⟨nb, 0, none⟩ (.int .i64 ((pre.length : Int) + 1))) fun e w' => ∃ r, e = .returned (.bool r) ∧ (w'.cell? ⟨nb, 0, none⟩ = some (.int .i64 ((pre.length : Int) + 1)) ∧ w'.cell? ⟨tb, 0, none⟩ = some (.int .i64 0) ∧ w'.cell? ⟨w.heap.size, 0, none⟩ = some (.int .i64 stop)) ∧ Hid (Flock w ps pc rs (Gb (Gb G tb (.cells #[.int .i64 0] 3 (0, 0))) nb (.cells #[.int .i64 ((pre.length : Int) + 1)] 3 (0, 0))) w' ∧ KeepsOthers W w' ∧ KX (YB bx av) W w')) := fun q => by
                            have h1 := ((unhide HFl).step (below_drewN (Below.refl _ _) q)).bump (unhide HNB).1 (.int .i64 ((pre.length : Int) + 1))
                            refine (h1.add 0 255 ⟨by omega, by omega⟩).mono ?_
                            rintro e w' ⟨r, rfl, hh⟩
                            obtain ⟨m1, m2⟩ := unhide hh
                            obtain ⟨g0, n0, n1, b0, -, -, -, tc, sc, -⟩ := own_cells (unhide HGear).1 (unhide HGear).2 (unhide HL) (unhide HTB) (unhide HNB) m1
                            refine ⟨r, rfl, ⟨n0, tc, sc⟩, m1, KeepsOthers.trans (keeps_drewSet W q _ _) m2, fun b hb => ?_⟩
                            obtain ⟨o, ho⟩ := unhide hYB b hb
                            have k1 := unhide HGt _ _ ho
                            exact (m1.keeps _ _ (unhide HGn _ _ _ k1)).trans ((unhide HFl).keeps _ _ (unhide HGn _ _ _ k1)).symm
                          by_cases hlen : pre.length < i
                          · have hz : ¬ (i : Int) ≤ (pre.length : Int) := by omega
                            have hz2 : (pre.length : Int) < (i : Int) := by omega
                            have hz6 : (pre.length : Int) < 1000 := by have := unhide HSH; omega
                            have hzn : ¬ i ≤ pre.length := by omega
                            have hzd : decide (i ≤ pre.length) = false := by simpa using hzn
                            obtain ⟨rfl, d0, d1⟩ := unhide HC0 _ hlen
                            have gb6 := gb5 (by omega)
                            have HLo : Hid (pre ++ [(xi, xx)] <+: rs → lo rs pre.length = y1 ∧ hi rs pre.length = y2) := fun hp => by
                              obtain ⟨p1, p2, p3⟩ := unhide HPre hp
                              obtain ⟨q1, q2⟩ := wrapU (unhide HSH).2.1 (unhide HSH).2.2 _ p1
                              simp only at p2 p3
                              rw [← hy1, ← hy2, p2, p3, q1, q2]
                              exact ⟨rfl, rfl⟩
                            generalize lo rs pre.length = z1 at *
                            generalize hi rs pre.length = z2 at *
                            clear gb5 HPre
                            by_cases e1 : z1 = y1
                            · by_cases e2 : z2 = y2
                              · subst e1 e2
                                clear HLo HC0
                                gi_wp2
                                refine region_quiet_round (by kernel_rfl) (by kernel_rfl) (by kernel_rfl) ?_
                                repeat (gi_big_quiet_step (fail))
                                refine wpQuietIn_nil ?_
                                intro _ hw'
                                obtain ⟨nq, rfl⟩ := hw'
                                clear hzn hzd hz hz2 hy1 hy2 r0 r1 d0 d1
                                gi_wp2
                                refine ⟨trivial, ((callsIn_wide.2 (unhide CAd nq)).inRound l).mono ?_⟩
                                rintro e w' ⟨r, rfl, ⟨nn, tt, ss⟩, hT⟩
                                clear CAd n0 n1 b0 s0 tc sc rc rf
                                have hlen1 : (((pre ++ [(xi, xx)]).length : Nat) : Int) = (pre.length : Int) + 1 := by simp
                                have HLN := hide hlen1
                                clear hlen1
                                by_cases hst : (pre.length : Int) + 1 = stop
                                · gi_wp2
                                  have h1 := (unhide hT).1
                                  rw [← unhide HLN] at h1 hst
                                  first
                                  | exact ⟨(unhide hT).2.1, .inl ⟨rfl, hst, h1⟩⟩
                                  | exact ⟨(unhide hT).2.1, .inl ⟨rfl, ⟨rfl, hst⟩, h1⟩⟩
                                · have hsd : (((pre.length : Int) + 1) == stop) = false := by simpa using hst
                                  gi_wp2
                                  have h1 := (unhide hT).1
                                  rw [← unhide HLN] at h1
                                  exact ⟨(unhide hT).2.1, (unhide hT).2.2, h1⟩
                              · have HN : Hid (¬ pre ++ [(xi, xx)] <+: rs) := fun hp => e2 (unhide HLo hp).2
                                have e3 : (y2 != z2) = true := by simpa using fun h => e2 h.symm
                                subst e1
                                clear HLo HC0 CAd
                                gi_wp2
                                refine region_quiet_round (by kernel_rfl) (by kernel_rfl) (by kernel_rfl) ?_
                                repeat (gi_big_quiet_step (fail))
                                refine wpQuietIn_nil ?_
                                intro _ hw'
                                obtain ⟨nq, rfl⟩ := hw'
                                gi_wp2
                                exact ⟨keeps_drewSet W nq _ _, .inr (unhide HN)⟩
                            · have HN : Hid (¬ pre ++ [(xi, xx)] <+: rs) := fun hp => e1 (unhide HLo hp).1
                              have e3 : (y1 != z1) = true := by simpa using fun h => e1 h.symm
                              clear HLo HC0 CAd
                              gi_wp2
                              refine region_quiet_round (by kernel_rfl) (by kernel_rfl) (by kernel_rfl) ?_
                              repeat (gi_big_quiet_step (fail))
                              refine wpQuietIn_nil ?_
                              intro _ hw'
                              obtain ⟨nq, rfl⟩ := hw'
                              gi_wp2
                              exact ⟨keeps_drewSet W nq _ _, .inr (unhide HN)⟩
                          · have hz : (i : Int) ≤ (pre.length : Int) := by omega
                            have HN : Hid (¬ pre ++ [(xi, xx)] <+: rs) := fun hp => by
                              have := (unhide HPre hp).1
                              have := unhide HL
                              omega
                            clear HC0 CAd HPre
                            gi_wp2
                            refine region_quiet_round (by kernel_rfl) (by kernel_rfl) (by kernel_rfl) ?_
                            repeat (gi_big_quiet_step (fail))
                            refine wpQuietIn_nil ?_
                            intro _ hw'
                            obtain ⟨nq, rfl⟩ := hw'
                            gi_wp2
                            exact ⟨keeps_drewSet W nq _ _, .inr (unhide HN)⟩
                        case next =>
                          rintro D pre W hD hcase hDk
                          have HM := hide (own_next (I := fun pre W => Flock w ps pc rs (Gb (Gb G tb (.cells #[.int .i64 0] 3 (0, 0))) nb (.cells #[.int .i64 (pre.length : Nat)] 3 (0, 0))) W) (unhide HL) (fun _ _ h => h) hcase)
                          clear hcase hseq hyu
                          obtain ⟨m, hFm, hm⟩ := unhide HM
                          obtain ⟨g0, n0, n1, b0, -, -, -, tc, sc, -⟩ := own_cells (unhide HGear).1 (unhide HGear).2 (unhide HL) (unhide HTB) (unhide HNB) hFm
                          have HFm := hide hFm
                          clear HM hFm
                          go_upto_region 39 with fail
                          go_cut [187] from 137 to 187 (fun s187 wq => s187 = .bool false ∧ wq = W)
                          case first =>
                            by_cases hmi : m = i
                            · subst hmi
                              go_wp2_with fail
                              go_meet
                              case rel => exact ⟨rfl, rfl⟩
                            · obtain ⟨hm1, ht0, hms⟩ := hm.resolve_left hmi
                              have hmd : (m == i) = false := by simpa using hmi
                              subst hms
                              go_wp2_with fail
                              go_meet
                              case rel => exact ⟨rfl, rfl⟩
                          case rest =>
                            obtain ⟨rfl, rfl⟩ := hcut
                            have HF2 : Hid (Flock w ps pc rs (Gb G D (.deferred (some []))) wc) := ((unhide HFm).learn hDk rfl).forget fun g o hg => by
                              by_cases e : g = D
                              · subst e
                                rw [Gb_self] at hg ⊢
                                exact hg
                              · rw [Gb_other _ _ e] at hg ⊢
                                exact unhide HGn _ _ _ (unhide HGt _ _ hg)
                            have HD : Hid (w.heap.size ≤ D ∧ ∀ g o, G g = some o → g < D) := ⟨Nat.le_trans hsu hD, fun g o hg => Nat.lt_of_lt_of_le (unhide hGu g o hg) hD⟩
                            clear HFm HGn HGt hltu hYB HNB hsu hDk hD hm n0 n1 b0 sc hGu
                            go_wp2_with fail
                            obtain ⟨G2, hG2⟩ : ∃ G2, G2 = Gb G D (.deferred (some [])) := ⟨_, rfl⟩
                            obtain ⟨tb2, htb2⟩ : ∃ tb2, tb2 = wc.heap.size := ⟨_, rfl⟩
                            rw [← htb2]
                            have HFt : Hid (Flock w ps pc rs (Gb G2 tb2 (.cells #[.int .i64 1] 3 (0, 0))) (wc.alloc (.cells #[.int .i64 1] 3))) := by
                              rw [hG2, htb2]
                              exact (unhide HF2).new _
                            have HTB2 : Hid (w.heap.size ≤ tb2 ∧ ∀ g o, G2 g = some o → g < tb2) := ⟨by rw [htb2]; exact (unhide HF2).below.size, fun g o hg => by rw [htb2]; rw [hG2] at hg; exact (unhide HF2).lt hg⟩
                            have hs2 : ∀ g o, G g = some o → G2 g = some o := by rw [hG2]; exact Gb_sub (unhide HD).2
                            have HGear2 : Hid (Gear w.heap.size stop ps sb bx av (.slice aw i cw) rs G2 ∧ G2 wb = some (.cells #[.slice aw i cw] 44 (0, 0))) := ⟨(unhide HGear).1.mono hs2, hs2 _ _ (unhide HGear).2⟩
                            have HD1 : Hid (G2 D = some (.deferred (some [])) ∧ w.heap.size ≤ D) := ⟨by rw [hG2]; exact Gb_self _ _ _, (unhide HD).1⟩
                            clear hs2 hG2 htb2 HF2 HD HGear HTB tc
                            generalize wc.alloc (.cells #[.int .i64 1] 3) = W0 at *
                            have t0 : W0.cell? ⟨tb2, 0, none⟩ = some (.int .i64 1) := (box_cell ((unhide HFt).keeps _ _ (Gb_self _ _ _))).1
                            rw [rounds_succ]
                            go_upto_region 31 with fail
                            have HFn : Hid (Flock w ps pc rs (Gb (Gb G2 tb2 (.cells #[.int .i64 1] 3 (0, 0))) W0.heap.size (.cells #[.int .i64 0] 3 (0, 0))) (W0.alloc (.cells #[.int .i64 0] 3))) := (unhide HFt).new _
                            obtain ⟨nb, hnb⟩ : ∃ nb, nb = W0.heap.size := ⟨_, rfl⟩
                            rw [← hnb] at HFn
                            have HNB : Hid (w.heap.size ≤ nb ∧ ∀ g o, (Gb G2 tb2 (.cells #[.int .i64 1] 3 (0, 0))) g = some o → g < nb) := ⟨by rw [hnb]; exact (unhide HFt).below.size, fun g o hg => by rw [hnb]; exact (unhide HFt).lt hg⟩
                            go_upto_region 32 with fail
                            rw [← hnb]
                            clear hnb HFt
                            generalize W0.alloc (.cells #[.int .i64 0] 3) = u at *
                            clear t0 W0
                            go_wp2_with fail
                            have HGt : Hid (∀ g o, G2 g = some o → (Gb G2 tb2 (.cells #[.int .i64 1] 3 (0, 0))) g = some o) := Gb_sub (unhide HTB2).2
                            have HGn : Hid (∀ m g o, (Gb G2 tb2 (.cells #[.int .i64 1] 3 (0, 0))) g = some o → (Gb (Gb G2 tb2 (.cells #[.int .i64 1] 3 (0, 0))) nb (.cells #[.int .i64 m] 3 (0, 0))) g = some o) := fun m => Gb_sub (unhide HNB).2
                            have hYB : Hid (∀ b, YB bx av b → ∃ o, G2 b = some o) := fun b hb => by
                              rcases hb with rfl | hb
                              · exact ⟨_, (unhide HGear2).1.all⟩
                              · exact (unhide HGear2).1.row.blk b hb
                            have hku : KeepsG G2 u := fun g o hg => (unhide HFn).keeps _ _ (unhide HGn _ _ _ (unhide HGt _ _ hg))
                            have hseq := values_stops 4 (by omega) bx av rs (by have := unhide HSH; have := unhide HL; omega) u (box_cell (hku _ _ (unhide HGear2).1.all)).1 ((unhide HGear2).1.row.row hku)
                            have hltu : Hid (∀ m g o, (Gb (Gb G2 tb2 (.cells #[.int .i64 1] 3 (0, 0))) nb (.cells #[.int .i64 m] 3 (0, 0))) g = some o → g < u.heap.size) := fun m g o hg => by
                              by_cases e : g = nb
                              · exact (unhide HFn).lt (by rw [e]; exact Gb_self _ _ _)
                              · rw [Gb_other _ _ e] at hg
                                exact (unhide HFn).lt (unhide HGn _ _ _ hg)
                            have hsu : w.heap.size ≤ u.heap.size := (unhide HFn).below.size
                            have hyu : ∀ b, YB bx av b → b < u.heap.size := fun b hb => by
                              obtain ⟨o, ho⟩ := unhide hYB b hb
                              exact unhide hltu 0 b o (unhide HGn _ _ _ (unhide HGt _ _ ho))
                            have hGu : Hid (∀ g o, G2 g = some o → g < u.heap.size) := fun g o hg => unhide hltu 0 g o (unhide HGn _ _ _ (unhide HGt _ _ hg))
                            clear hku
                            refine (wpIn_wide (n := 5)).1 ?_
                            refine range_boxed2 (F := Fence.wide) (n := 5) rfl (by omega) (gf := 90) (lb := #[.pointer (some ⟨bx, 0, none⟩)]) rfl trivial (enters_of Try.func90 (by kernel_rfl) rfl) hseq KX.trans (kx_put (w := u) hyu) (Below.refl _ _) (fun _ => rfl)
                              (fun pre W => Flock w ps pc rs (Gb (Gb G2 tb2 (.cells #[.int .i64 1] 3 (0, 0))) nb (.cells #[.int .i64 (pre.length : Nat)] 3 (0, 0))) W)
                              (fun pre W => ((1 : Int) = 0 ∧ ((pre.length : Nat) : Int) = stop) ∧ Flock w ps pc rs (Gb (Gb G2 tb2 (.cells #[.int .i64 1] 3 (0, 0))) nb (.cells #[.int .i64 (pre.length : Nat)] 3 (0, 0))) W)
                              (fun pre => ¬ pre <+: rs) 10
                              (fun s A B row hs hg hr => hs.grown hsu (unhide hltu _) hg hr)
                              (fun s A B row hs hg hr => ⟨hs.1, hs.2.grown hsu (unhide hltu _) hg hr⟩)
                              (unhide HFn) 19 33 (fun x => #[.int .u8 x.1, .int .u8 x.2])
                              (fun pre W o hf b hb => by
                                obtain ⟨o2, ho⟩ := unhide hYB b hb
                                exact heap_alloc_old _ _ (hf.lt (unhide HGn _ _ _ (unhide HGt _ _ ho))))
                              (fun pre ⟨k, _, e⟩ hb => hb (by rw [e]; exact List.take_prefix _ _))
                              (fun _ _ h => h)
                              ?assign ?body ?next
                            case assign =>
                              intro l x W K hK
                              gi_wp2
                              simpa using hK
                            case body =>
                              rintro l pre ⟨xi, xx⟩ rb W hFl hrb _
                              have r0 : W.cell? ⟨rb, 0, none⟩ = some (.int .u8 xi) := (cell_of_row W rb 0 _ 33 (0, 0) hrb).trans rfl
                              have r1 : W.cell? ⟨rb, 1, none⟩ = some (.int .u8 xx) := (cell_of_row W rb 1 _ 33 (0, 0) hrb).trans rfl
                              have hPre := own_prefix (rs := rs) (pre := pre) (x := (xi, xx))
                              obtain ⟨g0, n0, n1, b0, hrow⟩ := own_cells (unhide HGear2).1 (unhide HGear2).2 (unhide HL) (unhide HTB2) (unhide HNB) hFl
                              have HFl := hide hFl
                              have HPre := hide hPre
                              obtain ⟨y1, hy1⟩ : ∃ y1, IntKind.i64.wrap xi = y1 := ⟨_, rfl⟩
                              obtain ⟨y2, hy2⟩ : ∃ y2, IntKind.i64.wrap xx = y2 := ⟨_, rfl⟩
                              clear hFl hPre hrb
                              obtain ⟨hc0, ⟨gb1, gb2, gb3, gb4, gb5⟩, s0, tc, sc, rc, rf⟩ := hrow
                              have HC0 := hide hc0
                              clear hc0
                              have CAd : Hid (∀ q, Calls Try.prog 25 #[.pointer (some ⟨ps, 0, none⟩), .int .u8 0, .int .u8 255] ((W.drewN q).setCell ⟨nb, 0, none⟩ (.int .i64 ((pre.length : Int) + 1))) fun e w' => ∃ r, e = .returned (.bool r) ∧ (w'.cell? ⟨nb, 0, none⟩ = some (.int .i64 ((pre.length : Int) + 1)) ∧ w'.cell? ⟨tb2, 0, none⟩ = some (.int .i64 1) ∧ w'.cell? ⟨w.heap.size, 0, none⟩ = some (.int .i64 stop)) ∧ Hid (Flock w ps pc rs (Gb (Gb G2 tb2 (.cells #[.int .i64 1] 3 (0, 0))) nb (.cells #[.int .i64 ((pre.length : Int) + 1)] 3 (0, 0))) w' ∧ KeepsOthers W w' ∧ KX (YB bx av) W w')) := fun q => by
                                have h1 := ((unhide HFl).step (below_drewN (Below.refl _ _) q)).bump (unhide HNB).1 (.int .i64 ((pre.length : Int) + 1))
                                refine (h1.add 0 255 ⟨by omega, by omega⟩).mono ?_
                                rintro e w' ⟨r, rfl, hh⟩
                                obtain ⟨m1, m2⟩ := unhide hh
                                obtain ⟨g0, n0, n1, b0, -, -, -, tc, sc, -⟩ := own_cells (unhide HGear2).1 (unhide HGear2).2 (unhide HL) (unhide HTB2) (unhide HNB) m1
                                refine ⟨r, rfl, ⟨n0, tc, sc⟩, m1, KeepsOthers.trans (keeps_drewSet W q _ _) m2, fun b hb => ?_⟩
                                obtain ⟨o, ho⟩ := unhide hYB b hb
                                have k1 := unhide HGt _ _ ho
                                exact (m1.keeps _ _ (unhide HGn _ _ _ k1)).trans ((unhide HFl).keeps _ _ (unhide HGn _ _ _ k1)).symm
                              by_cases hlen : pre.length < i
                              · have hz : ¬ (i : Int) ≤ (pre.length : Int) := by omega
                                have hz2 : (pre.length : Int) < (i : Int) := by omega
                                have hz6 : (pre.length : Int) < 1000 := by have := unhide HSH; omega
                                have hzn : ¬ i ≤ pre.length := by omega
                                have hzd : decide (i ≤ pre.length) = false := by simpa using hzn
                                obtain ⟨rfl, d0, d1⟩ := unhide HC0 _ hlen
                                have gb6 := gb5 (by omega)
                                have HLo : Hid (pre ++ [(xi, xx)] <+: rs → lo rs pre.length = y1 ∧ hi rs pre.length = y2) := fun hp => by
                                  obtain ⟨p1, p2, p3⟩ := unhide HPre hp
                                  obtain ⟨q1, q2⟩ := wrapU (unhide HSH).2.1 (unhide HSH).2.2 _ p1
                                  simp only at p2 p3
                                  rw [← hy1, ← hy2, p2, p3, q1, q2]
                                  exact ⟨rfl, rfl⟩
                                generalize lo rs pre.length = z1 at *
                                generalize hi rs pre.length = z2 at *
                                clear gb5 HPre
                                by_cases e1 : z1 = y1
                                · by_cases e2 : z2 = y2
                                  · subst e1 e2
                                    clear HLo HC0
                                    gi_wp2
                                    refine region_quiet_round (by kernel_rfl) (by kernel_rfl) (by kernel_rfl) ?_
                                    repeat (gi_big_quiet_step (fail))
                                    refine wpQuietIn_nil ?_
                                    intro _ hw'
                                    obtain ⟨nq, rfl⟩ := hw'
                                    clear hzn hzd hz hz2 hy1 hy2 r0 r1 d0 d1
                                    gi_wp2
                                    refine ⟨trivial, ((callsIn_wide.2 (unhide CAd nq)).inRound l).mono ?_⟩
                                    rintro e w' ⟨r, rfl, ⟨nn, tt, ss⟩, hT⟩
                                    clear CAd n0 n1 b0 s0 tc sc rc rf
                                    have hlen1 : (((pre ++ [(xi, xx)]).length : Nat) : Int) = (pre.length : Int) + 1 := by simp
                                    have HLN := hide hlen1
                                    clear hlen1
                                    gi_wp2
                                    have h1 := (unhide hT).1
                                    rw [← unhide HLN] at h1
                                    exact ⟨(unhide hT).2.1, (unhide hT).2.2, h1⟩
                                  · have HN : Hid (¬ pre ++ [(xi, xx)] <+: rs) := fun hp => e2 (unhide HLo hp).2
                                    have e3 : (y2 != z2) = true := by simpa using fun h => e2 h.symm
                                    subst e1
                                    clear HLo HC0 CAd
                                    gi_wp2
                                    refine region_quiet_round (by kernel_rfl) (by kernel_rfl) (by kernel_rfl) ?_
                                    repeat (gi_big_quiet_step (fail))
                                    refine wpQuietIn_nil ?_
                                    intro _ hw'
                                    obtain ⟨nq, rfl⟩ := hw'
                                    gi_wp2
                                    exact ⟨keeps_drewSet W nq _ _, .inr (unhide HN)⟩
                                · have HN : Hid (¬ pre ++ [(xi, xx)] <+: rs) := fun hp => e1 (unhide HLo hp).1
                                  have e3 : (y1 != z1) = true := by simpa using fun h => e1 h.symm
                                  clear HLo HC0 CAd
                                  gi_wp2
                                  refine region_quiet_round (by kernel_rfl) (by kernel_rfl) (by kernel_rfl) ?_
                                  repeat (gi_big_quiet_step (fail))
                                  refine wpQuietIn_nil ?_
                                  intro _ hw'
                                  obtain ⟨nq, rfl⟩ := hw'
                                  gi_wp2
                                  exact ⟨keeps_drewSet W nq _ _, .inr (unhide HN)⟩
                              · have hz : (i : Int) ≤ (pre.length : Int) := by omega
                                have HN : Hid (¬ pre ++ [(xi, xx)] <+: rs) := fun hp => by
                                  have := (unhide HPre hp).1
                                  have := unhide HL
                                  omega
                                clear HC0 CAd HPre
                                gi_wp2
                                refine region_quiet_round (by kernel_rfl) (by kernel_rfl) (by kernel_rfl) ?_
                                repeat (gi_big_quiet_step (fail))
                                refine wpQuietIn_nil ?_
                                intro _ hw'
                                obtain ⟨nq, rfl⟩ := hw'
                                gi_wp2
                                exact ⟨keeps_drewSet W nq _ _, .inr (unhide HN)⟩
                            case next =>
                              rintro D2 pre W hD2 hcase hDk
                              have HM := hide (own_next (I := fun pre W => Flock w ps pc rs (Gb (Gb G2 tb2 (.cells #[.int .i64 1] 3 (0, 0))) nb (.cells #[.int .i64 (pre.length : Nat)] 3 (0, 0))) W) (unhide HL) (fun _ _ h => h) hcase)
                              clear hcase hseq hyu
                              obtain ⟨m, hFm, hm⟩ := unhide HM
                              obtain ⟨g0, n0, n1, b0, -, -, -, tc, sc, -⟩ := own_cells (unhide HGear2).1 (unhide HGear2).2 (unhide HL) (unhide HTB2) (unhide HNB) hFm
                              have HFm := hide hFm
                              clear HM hFm
                              go_upto_region 39 with fail
                              go_cut [187] from 137 to 187 (fun s187 wq => s187 = .bool false ∧ wq = W)
                              case first =>
                                by_cases hmi : m = i
                                · subst hmi
                                  go_wp2_with fail
                                  go_meet
                                  case rel => exact ⟨rfl, rfl⟩
                                · obtain ⟨hm1, ht0, hms⟩ := hm.resolve_left hmi
                                  have hmd : (m == i) = false := by simpa using hmi
                                  omega
                              case rest =>
                                obtain ⟨rfl, rfl⟩ := hcut
                                have HF2 : Hid (Flock w ps pc rs (Gb G2 D2 (.deferred (some []))) wc) := ((unhide HFm).learn hDk rfl).forget fun g o hg => by
                                  by_cases e : g = D2
                                  · subst e
                                    rw [Gb_self] at hg ⊢
                                    exact hg
                                  · rw [Gb_other _ _ e] at hg ⊢
                                    exact unhide HGn _ _ _ (unhide HGt _ _ hg)
                                have HD : Hid (w.heap.size ≤ D2 ∧ ∀ g o, G2 g = some o → g < D2) := ⟨Nat.le_trans hsu hD2, fun g o hg => Nat.lt_of_lt_of_le (unhide hGu g o hg) hD2⟩
                                clear HFm HGn HGt hltu hYB HNB hsu hDk hD2 hm n0 n1 b0 sc hGu
                                go_wp2_with fail
                                obtain ⟨G3, hG3⟩ : ∃ G3, G3 = Gb G2 D2 (.deferred (some [])) := ⟨_, rfl⟩
                                obtain ⟨tb3, htb3⟩ : ∃ tb3, tb3 = wc.heap.size := ⟨_, rfl⟩
                                rw [← htb3]
                                have HFt : Hid (Flock w ps pc rs (Gb G3 tb3 (.cells #[.int .i64 2] 3 (0, 0))) (wc.alloc (.cells #[.int .i64 2] 3))) := by
                                  rw [hG3, htb3]
                                  exact (unhide HF2).new _
                                have hs3 : ∀ g o, G2 g = some o → G3 g = some o := by rw [hG3]; exact Gb_sub (unhide HD).2
                                have hs4 : ∀ g o, G3 g = some o → Gb G3 tb3 (.cells #[.int .i64 2] 3 (0, 0)) g = some o := Gb_sub (fun g o hg => by rw [htb3]; rw [hG3] at hg; exact (unhide HF2).lt hg)
                                have HGear3 : Hid (Gear w.heap.size stop ps sb bx av (.slice aw i cw) rs G3 ∧ G3 wb = some (.cells #[.slice aw i cw] 44 (0, 0))) := ⟨(unhide HGear2).1.mono hs3, hs3 _ _ (unhide HGear2).2⟩
                                have HDD : Hid ((G3 D = some (.deferred (some [])) ∧ w.heap.size ≤ D) ∧ (G3 D2 = some (.deferred (some [])) ∧ w.heap.size ≤ D2) ∧ D ≠ D2) := ⟨⟨hs3 _ _ (unhide HD1).1, (unhide HD1).2⟩, ⟨by rw [hG3]; exact Gb_self _ _ _, (unhide HD).1⟩, by have := (unhide HD).2 D _ (unhide HD1).1; omega⟩
                                have HF : Hid (Flock w ps pc rs G3 (wc.alloc (.cells #[.int .i64 2] 3))) := (unhide HFt).forget hs4
                                have t0 : (wc.alloc (.cells #[.int .i64 2] 3)).cell? ⟨tb3, 0, none⟩ = some (.int .i64 2) := (box_cell ((unhide HFt).keeps _ _ (Gb_self _ _ _))).1
                                clear hs3 hs4 hG3 htb3 HF2 HD HGear2 HTB2 tc HD1 HFt
                                generalize wc.alloc (.cells #[.int .i64 2] 3) = W0 at *
                                rw [rounds_succ]
                                go_upto_region 43 with fail
                                clear t0
                                have HCell : Hid (∀ u, Flock w ps pc rs G3 u → u.cell? ⟨wb, 0, none⟩ = some (.slice aw i cw) ∧ u.cell? ⟨w.heap.size + 1, 0, none⟩ = some (.bool false) ∧ u.frozen? ⟨w.heap.size + 1, 0, none⟩ = false) := fun u hu =>
                                  ⟨(box_cell (hu.keeps _ _ (unhide HGear3).2)).1, (box_cell (hu.keeps _ _ (unhide HGear3).1.res)).1, (box_cell (hu.keeps _ _ (unhide HGear3).1.res)).2⟩
                                obtain ⟨c0, c1, c2⟩ := unhide HCell _ (unhide HF)
                                have gne : ¬ wb = w.heap.size + 1 := fun e => by
                                  have h1 := (unhide HGear3).2
                                  rw [e, (unhide HGear3).1.res] at h1
                                  cases h1
                                have gne2 : ¬ w.heap.size + 1 = wb := fun e => gne e.symm
                                obtain ⟨rfl⟩ : i + 20 = L2 := unhide HL2
                                have CT : Hid (∀ q, Calls Try.prog 24 #[.pointer (some ⟨pc, 0, none⟩)] (W0.drewN q) fun e w' => ∃ (a3 : Option Addr) (c3 : Nat), e = .returned (.slice a3 i c3) ∧ w'.cell? ⟨wb, 0, none⟩ = some (.slice aw i cw) ∧ Hid (Flock w ps pc rs G3 w' ∧ w'.ownsRow 0 47 2 (.slice a3 i c3) i (enc .i64 rs))) := fun q => by
                                  have hf := (unhide HF).step (below_drewN (Below.refl _ _) q)
                                  refine hf.toldC.mono ?_
                                  rintro e w' ⟨v', rfl, hh⟩
                                  have hN := unhide hh
                                  obtain ⟨a3, c3, rfl⟩ := hN.shape
                                  have hr := hN.row
                                  rw [unhide HL] at hr ⊢
                                  have hf2 := hf.step hN.below
                                  exact ⟨a3, c3, rfl, (unhide HCell _ hf2).1, hf2, hr⟩
                                have CS : Hid (∀ (u : World) (a3 : Option Addr) (c3 : Nat), Hid (Flock w ps pc rs G3 u ∧ u.ownsRow 0 47 2 (.slice a3 i c3) i (enc .i64 rs)) → Calls Try.prog 26 #[.slice a3 i c3, .slice aw i cw] u fun e w' => e = .returned (.bool true) ∧ w'.cell? ⟨wb, 0, none⟩ = some (.slice aw i cw) ∧ (w'.cell? ⟨w.heap.size + 1, 0, none⟩ = some (.bool false) ∧ w'.frozen? ⟨w.heap.size + 1, 0, none⟩ = false) ∧ Hid (Flock w ps pc rs G3 w')) := fun u a3 c3 hh => by
                                  obtain ⟨hf, hr⟩ := unhide hh
                                  have hw := (unhide HGear3).1.wrow.row hf.keeps
                                  have hLL := unhide HL
                                  have := unhide HSH
                                  refine (sameR u (va := .slice a3 i c3) (vb := .slice aw i cw) (rs := rs) (ss := rs) (by rw [hLL]; exact hr) hw (by omega)).mono ?_
                                  rintro e w' ⟨⟨r, rfl, hr2⟩, q, rfl⟩
                                  have hr3 : r = true := hr2.2 rfl
                                  subst hr3
                                  have hf2 := hf.step (below_drewN (Below.refl _ _) q)
                                  exact ⟨rfl, (unhide HCell _ hf2).1, (unhide HCell _ hf2).2, hf2⟩
                                have hwr : IntKind.i64.wrap ((i : Int) + 20) = (i : Int) + 20 := by
                                  have := unhide HSH
                                  rw [IntKind.wrap_i64]
                                  omega
                                clear HCell HF c1 c2
                                go_region_held3 (fun u => u.cell? ⟨wb, 0, none⟩ = some (.slice aw i cw)) (first | exact c0 | exact dd1 | (go_keep; done) | exact (World.cell?_setCell_other _ _ _ _ (by simp [gne, gne2])).trans dd1) (first
                                  | (go_at_call 24; refine (unhide CT _).mono ?_; rintro e w' ⟨a3, c3, rfl, dd1, hT⟩)
                                  | (go_at_call 26; refine (unhide CS _ _ _ (by assumption)).mono ?_; rintro e w' ⟨rfl, dd1, ⟨rc, rf⟩, hT⟩))
                                have HK : Hid ((w'.setCell ⟨w.heap.size + 1, 0, none⟩ (.bool true)).heap[D]? = some (.deferred (some [])) ∧ (w'.setCell ⟨w.heap.size + 1, 0, none⟩ (.bool true)).heap[D2]? = some (.deferred (some [])) ∧ Below w.heap.size w (w'.setCell ⟨w.heap.size + 1, 0, none⟩ (.bool true)) ∧ (w'.setCell ⟨w.heap.size + 1, 0, none⟩ (.bool true)).cell? ⟨w.heap.size + 1, 0, none⟩ = some (.bool true)) := by
                                  have hf := unhide hT
                                  obtain ⟨⟨d1, d2⟩, ⟨d3, d4⟩, d5⟩ := unhide HDD
                                  have hne : ∀ g, G3 g = some (.deferred (some [])) → g ≠ w.heap.size + 1 := fun g hg e => by
                                    rw [e, (unhide HGear3).1.res] at hg
                                    cases hg
                                  exact ⟨(Below.heap_setCell _ _ _ _ (hne D d1)).trans (hf.keeps _ _ d1), (Below.heap_setCell _ _ _ _ (hne D2 d3)).trans (hf.keeps _ _ d3), hf.below.setCell (p := ⟨w.heap.size + 1, 0, none⟩) (by show w.heap.size ≤ w.heap.size + 1; omega) _, World.cell?_setCell_same _ _ _ rc⟩
                                generalize (w'.setCell ⟨w.heap.size + 1, 0, none⟩ (.bool true)) = wz at *
                                clear CT CS hT
                                go_wp2_with fail
                                obtain ⟨k1, k2, k3, k4⟩ := unhide HK
                                obtain ⟨⟨-, d2⟩, ⟨-, d4⟩, d5⟩ := unhide HDD
                                have k1' : (wz.putObj D2 (.deferred none)).heap[D]? = some (.deferred (some [])) := (World.putObj_heap_other d5).trans k1
                                refine ⟨by simp, .inl ⟨_, _, rfl, run_takeDeferred k2, ⟨by simp, .inl ⟨_, _, rfl, run_takeDeferred k1', ?_⟩⟩⟩⟩
                                have h5 := cell_kept k4 (grownBy_putObj' _ D2 (.deferred none)) (fun r e => by cases e; exact ⟨_, k2, rfl⟩)
                                have h6 := cell_kept h5 (grownBy_putObj' _ D (.deferred none)) (fun r e => by cases e; exact ⟨_, k1', rfl⟩)
                                refine ⟨.bool true, ?_, rfl, (k3.trans (belowK_b (w := w) (Nat.le_refl _) _ D2 _ _ d4 k2 rfl rfl)).trans (belowK_b (w := w) (Nat.le_refl _) _ D _ _ d2 k1' rfl rfl)⟩
                                simp [results, Try.f8, go_sem, h6]
end Go.Proofs.Ytdalghfhpekcfaa

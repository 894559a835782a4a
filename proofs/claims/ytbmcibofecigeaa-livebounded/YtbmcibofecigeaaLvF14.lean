/- A field of an edge that is a value; a map's store in a region that draws. -/
import Derived.Test.YtbmcibofecigeaaLvD14
import Derived.Test.YtbmcibofecigeaaLvW14
import Derived.Deep.LoopGhost
import Derived.Test.YtbmcibofecigeaaAtF
namespace Go.Proofs.Ytbmcibofecigeaa

section
open Go.RowKit Go.Maps
structure GL (V : Int → Option Nat) (E : L14.Es) (O I : Int → List Int) (vs : List Int) (N : Nat) : Prop where
  nd : vs.Nodup
  mem : ∀ v, v ∈ vs ↔ V v ≠ none
  okV : ∀ v ∈ vs, okN v
  vl : vs.length ≤ N
  ed : ∀ e u v c, E e = some (u, v, c) → okN e ∧ u ∈ vs ∧ v ∈ vs
  out : ∀ u e, e ∈ O u ↔ ∃ v c, E e = some (u, v, c)
  inn : ∀ v e, e ∈ I v ↔ ∃ u c, E e = some (u, v, c)
  ro : ∀ u, Rising ltN (O u)
  ri : ∀ v, Rising ltN (I v)
  lo : ∀ u, (O u).length ≤ N
  li : ∀ v, (I v).length ≤ N
abbrev insL (l : List Int) (e : Int) : List Int := l.take (cnt ltN l e) ++ [e] ++ l.drop (cnt ltN l e)
abbrev cutL (l : List Int) (e : Int) : List Int := l.take (cnt ltN l e) ++ l.drop (cnt ltN l e + 1)
theorem insL_len (l : List Int) (e : Int) : (insL l e).length = l.length + 1 := by
  unfold insL
  rw [List.length_append, List.length_append, List.length_take, List.length_drop, List.length_singleton]
  have := cnt_le (lt := ltN) l e
  omega
section
variable {V : Int → Option Nat} {E : L14.Es} {O I : Int → List Int} {vs : List Int} {N : Nat}
theorem GL.at_ (h : GL V E O I vs N) {v : Int} (hv : v ∈ vs) : ∃ b, V v = some b := by
  cases q : V v with
  | none => exact absurd q ((h.mem v).1 hv)
  | some b => exact ⟨b, rfl⟩
theorem GL.more (h : GL V E O I vs N) {M : Nat} (hM : N ≤ M) : GL V E O I vs M := ⟨h.nd, h.mem, h.okV, Nat.le_trans h.vl hM, h.ed, h.out, h.inn, h.ro, h.ri, fun u => Nat.le_trans (h.lo u) hM, fun u => Nat.le_trans (h.li u) hM⟩
theorem putG_self {X : Type} (f : Int → Option X) (k : Int) (o : Option X) : putG f k o k = o := if_pos rfl
theorem putG_ne {X : Type} {f : Int → Option X} {k x : Int} {o : Option X} (h : x ≠ k) : putG f k o x = f x := if_neg h
theorem GL.put (h : GL V E O I vs N) {e u v : Int} {c : Nat} (hn : E e = none) (oe : okN e) (hu : u ∈ vs) (hv : v ∈ vs) : GL V (putG E e (some (u, v, c))) (updO O u (insL (O u) e)) (updO I v (insL (I v) e)) vs (N + 1) := by
  have hO : e ∉ O u := fun q => by obtain ⟨_, _, z⟩ := (h.out u e).1 q; rw [hn] at z; cases z
  have hI : e ∉ I v := fun q => by obtain ⟨_, _, z⟩ := (h.inn v e).1 q; rw [hn] at z; cases z
  obtain ⟨o1, o2⟩ := put_one (h.ro u) hO
  obtain ⟨i1, i2⟩ := put_one (h.ri v) hI
  have lO := insL_len (O u) e
  have lI := insL_len (I v) e
  have hlo := h.lo u
  have hli := h.li v
  refine ⟨h.nd, h.mem, h.okV, Nat.le_succ_of_le h.vl, fun d x y k q => ?_, fun x d => ?_, fun x d => ?_, fun x => ?_, fun x => ?_, fun x => ?_, fun x => ?_⟩
  · by_cases z : d = e
    · rw [z, putG_self] at q
      have q := Option.some.inj q
      have e1 : u = x := congrArg (·.1) q
      have e2 : v = y := congrArg (·.2.1) q
      rw [z, ← e1, ← e2]; exact ⟨oe, hu, hv⟩
    · rw [putG_ne z] at q; exact h.ed d x y k q
  · by_cases z : x = u
    · rw [z, updO_self, show insL (O u) e = _ from rfl, o2 d, h.out u d]
      by_cases y : d = e
      · rw [y, putG_self]; exact ⟨fun _ => ⟨v, c, rfl⟩, fun _ => .inl rfl⟩
      · rw [putG_ne y]; exact ⟨fun q => q.resolve_left y, fun q => .inr q⟩
    · rw [updO_ne z, h.out x d]
      by_cases y : d = e
      · rw [y, putG_self, hn]
        refine ⟨fun ⟨_, _, q⟩ => (by cases q), fun ⟨_, _, q⟩ => ?_⟩
        have e1 : u = x := congrArg (·.1) (Option.some.inj q)
        exact absurd e1.symm z
      · rw [putG_ne y]
  · by_cases z : x = v
    · rw [z, updO_self, show insL (I v) e = _ from rfl, i2 d, h.inn v d]
      by_cases y : d = e
      · rw [y, putG_self]; exact ⟨fun _ => ⟨u, c, rfl⟩, fun _ => .inl rfl⟩
      · rw [putG_ne y]; exact ⟨fun q => q.resolve_left y, fun q => .inr q⟩
    · rw [updO_ne z, h.inn x d]
      by_cases y : d = e
      · rw [y, putG_self, hn]
        refine ⟨fun ⟨_, _, q⟩ => (by cases q), fun ⟨_, _, q⟩ => ?_⟩
        have e1 : v = x := congrArg (·.2.1) (Option.some.inj q)
        exact absurd e1.symm z
      · rw [putG_ne y]
  · by_cases z : x = u
    · rw [z, updO_self]; exact o1
    · rw [updO_ne z]; exact h.ro x
  · by_cases z : x = v
    · rw [z, updO_self]; exact i1
    · rw [updO_ne z]; exact h.ri x
  · by_cases z : x = u
    · rw [z, updO_self, lO]; omega
    · rw [updO_ne z]; exact Nat.le_succ_of_le (h.lo x)
  · by_cases z : x = v
    · rw [z, updO_self, lI]; omega
    · rw [updO_ne z]; exact Nat.le_succ_of_le (h.li x)
theorem GL.cut (h : GL V E O I vs N) {e u v : Int} {c : Nat} (hn : E e = some (u, v, c)) : GL V (putG E e none) (updO O u (cutL (O u) e)) (updO I v (cutL (I v) e)) vs N := by
  obtain ⟨o1, o2, o3, -⟩ := cut_one linN (h.ro u) ((h.out u e).2 ⟨v, c, hn⟩)
  obtain ⟨i1, i2, i3, -⟩ := cut_one linN (h.ri v) ((h.inn v e).2 ⟨u, c, hn⟩)
  have hlo := h.lo u
  have hli := h.li v
  refine ⟨h.nd, h.mem, h.okV, h.vl, fun d x y k q => ?_, fun x d => ?_, fun x d => ?_, fun x => ?_, fun x => ?_, fun x => ?_, fun x => ?_⟩
  · by_cases z : d = e
    · rw [z, putG_self] at q; cases q
    · rw [putG_ne z] at q; exact h.ed d x y k q
  · by_cases z : x = u
    · rw [z, updO_self, show cutL (O u) e = _ from rfl, o2 d, h.out u d]
      by_cases y : d = e
      · rw [y, putG_self]; exact ⟨fun ⟨_, q⟩ => absurd rfl q, fun ⟨_, _, q⟩ => (by cases q)⟩
      · rw [putG_ne y]; exact ⟨fun ⟨q, _⟩ => q, fun q => ⟨q, y⟩⟩
    · rw [updO_ne z, h.out x d]
      by_cases y : d = e
      · rw [y, putG_self, hn]
        refine ⟨fun ⟨_, _, q⟩ => ?_, fun ⟨_, _, q⟩ => (by cases q)⟩
        have e1 : u = x := congrArg (·.1) (Option.some.inj q)
        exact absurd e1.symm z
      · rw [putG_ne y]
  · by_cases z : x = v
    · rw [z, updO_self, show cutL (I v) e = _ from rfl, i2 d, h.inn v d]
      by_cases y : d = e
      · rw [y, putG_self]; exact ⟨fun ⟨_, q⟩ => absurd rfl q, fun ⟨_, _, q⟩ => (by cases q)⟩
      · rw [putG_ne y]; exact ⟨fun ⟨q, _⟩ => q, fun q => ⟨q, y⟩⟩
    · rw [updO_ne z, h.inn x d]
      by_cases y : d = e
      · rw [y, putG_self, hn]
        refine ⟨fun ⟨_, _, q⟩ => ?_, fun ⟨_, _, q⟩ => (by cases q)⟩
        have e1 : v = x := congrArg (·.2.1) (Option.some.inj q)
        exact absurd e1.symm z
      · rw [putG_ne y]
  · by_cases z : x = u
    · rw [z, updO_self]; exact o1
    · rw [updO_ne z]; exact h.ro x
  · by_cases z : x = v
    · rw [z, updO_self]; exact i1
    · rw [updO_ne z]; exact h.ri x
  · by_cases z : x = u
    · rw [z, updO_self]
      show (cutL (O u) e).length ≤ N
      have : (cutL (O u) e).length + 1 = (O u).length := o3
      omega
    · rw [updO_ne z]; exact h.lo x
  · by_cases z : x = v
    · rw [z, updO_self]
      show (cutL (I v) e).length ≤ N
      have : (cutL (I v) e).length + 1 = (I v).length := i3
      omega
    · rw [updO_ne z]; exact h.li x
theorem GL.rew (h : GL V E O I vs N) {e u v : Int} {c c' : Nat} (hn : E e = some (u, v, c)) : GL V (putG E e (some (u, v, c'))) O I vs N := by
  have hE : ∀ d x y, (∃ k, putG E e (some (u, v, c')) d = some (x, y, k)) ↔ ∃ k, E d = some (x, y, k) := fun d x y => by
    by_cases z : d = e
    · rw [z, putG_self, hn]
      constructor
      · rintro ⟨k, q⟩
        have q := Option.some.inj q
        have e1 : u = x := congrArg (·.1) q
        have e2 : v = y := congrArg (·.2.1) q
        rw [e1, e2]; exact ⟨c, rfl⟩
      · rintro ⟨k, q⟩
        have q := Option.some.inj q
        have e1 : u = x := congrArg (·.1) q
        have e2 : v = y := congrArg (·.2.1) q
        rw [e1, e2]; exact ⟨c', rfl⟩
    · rw [putG_ne z]
  refine ⟨h.nd, h.mem, h.okV, h.vl, fun d x y k q => ?_, fun x d => ?_, fun x d => ?_, h.ro, h.ri, h.lo, h.li⟩
  · obtain ⟨k', q'⟩ := (hE d x y).1 ⟨k, q⟩
    exact h.ed d x y k' q'
  · rw [h.out x d]
    exact ⟨fun ⟨y, q⟩ => ⟨y, (hE d x y).2 q⟩, fun ⟨y, q⟩ => ⟨y, (hE d x y).1 q⟩⟩
  · rw [h.inn x d]
    exact ⟨fun ⟨y, q⟩ => ⟨y, (hE d y x).2 q⟩, fun ⟨y, q⟩ => ⟨y, (hE d y x).1 q⟩⟩
theorem GL.none_O (h : GL V E O I vs N) {v : Int} (hv : v ∉ vs) : O v = [] ∧ I v = [] := by
  constructor
  · cases q : O v with
    | nil => rfl
    | cons e l =>
      obtain ⟨_, _, z⟩ := (h.out v e).1 (by rw [q]; exact List.mem_cons_self ..)
      exact absurd (h.ed _ _ _ _ z).2.1 hv
  · cases q : I v with
    | nil => rfl
    | cons e l =>
      obtain ⟨_, _, z⟩ := (h.inn v e).1 (by rw [q]; exact List.mem_cons_self ..)
      exact absurd (h.ed _ _ _ _ z).2.2 hv
theorem GL.addV (h : GL V E O I vs N) {vs' : List Int} {v : Int} {b : Nat} (ov : okN v) (hnd : vs'.Nodup) (hm : ∀ x, x ∈ vs' ↔ x = v ∨ x ∈ vs) (hl : vs'.length ≤ N + 1) : GL (fun x => if x = v then some b else V x) E O I vs' (N + 1) := by
  refine ⟨hnd, fun x => ?_, fun x hx => ?_, hl, fun d x y k q => ?_, h.out, h.inn, h.ro, h.ri, fun u => Nat.le_succ_of_le (h.lo u), fun u => Nat.le_succ_of_le (h.li u)⟩
  · rw [hm x]
    by_cases z : x = v
    · rw [if_pos z]; exact ⟨fun _ q => (by cases q), fun _ => .inl z⟩
    · rw [if_neg z, h.mem x]; exact ⟨fun q => q.resolve_left z, fun q => .inr q⟩
  · rcases (hm x).1 hx with z | z
    · rw [z]; exact ov
    · exact h.okV x z
  · obtain ⟨a1, a2, a3⟩ := h.ed d x y k q
    exact ⟨a1, (hm x).2 (.inr a2), (hm y).2 (.inr a3)⟩
theorem GL.delV (h : GL V E O I vs N) {vs' : List Int} {v : Int} (hnd : vs'.Nodup) (hm : ∀ x, x ∈ vs' ↔ x ≠ v ∧ x ∈ vs) (hl : vs'.length ≤ N) (hO : O v = []) (hI : I v = []) : GL (fun x => if x = v then none else V x) E O I vs' N := by
  refine ⟨hnd, fun x => ?_, fun x hx => h.okV x ((hm x).1 hx).2, hl, fun d x y k q => ?_, h.out, h.inn, h.ro, h.ri, h.lo, h.li⟩
  · rw [hm x]
    by_cases z : x = v
    · rw [if_pos z]; exact ⟨fun q => absurd z q.1, fun q => absurd rfl q⟩
    · rw [if_neg z, h.mem x]; exact ⟨fun q => q.2, fun q => ⟨z, q⟩⟩
  · obtain ⟨a1, a2, a3⟩ := h.ed d x y k q
    refine ⟨a1, (hm x).2 ⟨fun z => ?_, a2⟩, (hm y).2 ⟨fun z => ?_, a3⟩⟩
    · have : d ∈ O v := (h.out v d).2 ⟨y, k, by rw [← z]; exact q⟩
      rw [hO] at this; cases this
    · have : d ∈ I v := (h.inn v d).2 ⟨x, k, by rw [← z]; exact q⟩
      rw [hI] at this; cases this
end
theorem sub_len : ∀ {l m : List Int}, l.Nodup → (∀ x ∈ l, x ∈ m) → l.length ≤ m.length
  | [], _, _, _ => Nat.zero_le _
  | x :: l, m, hn, hs => by
    obtain ⟨h1, h2⟩ := List.nodup_cons.1 hn
    have hx := hs x (List.mem_cons_self ..)
    have := sub_len (m := m.erase x) h2 (fun y hy => (List.mem_erase_of_ne (fun z => h1 (by rw [← z]; exact hy))).2 (hs y (List.mem_cons_of_mem _ hy)))
    rw [List.length_erase_of_mem hx] at this
    have := List.length_pos_of_mem hx
    rw [List.length_cons]; omega
/-- What is found is a vertex. -/
theorem found_in {E : L14.Es} {s : Int} {T : L14.Tr} {Q : Int → Prop} {rest vs : List Int} {V : Int → Option Nat} {O I : Int → List Int} {N : Nat} (h : L14.Lv E s T Q rest) (hG : GL V E O I vs N) (hs : s ∈ vs) {v : Int} (hv : L14.fnd T v = true) : v ∈ vs := by
  by_cases z : v = s
  · rw [z]; exact hs
  · obtain ⟨u, c, g1, -⟩ := h.hang v hv z
    exact (hG.ed _ _ _ _ g1).2.2
end

section
open Go.RowKit Go.Maps
attribute [local go_sem] run_storeF
/-- What stays in a repair. -/
structure RX where
  N0 : Nat
  ph : Nat
  L : Lab
  p : Nat
  mv : Nat
  me : Nat
  s : Int
  tc : Int
  V : Int → Option Nat
  nv : Nat
  E : L14.Es
  ne : Nat
  O : Int → List Int
  I : Int → List Int
  vs : List Int
  K : Nat
  N : Nat
structure XG (X : RX) : Prop where
  gl : GL X.V X.E X.O X.I X.vs X.N
  src : X.s ∈ X.vs
  nn : X.N ≤ 200
  kk : X.K < 1000000000000
/-- The tree beside the heap, rest being left to be gone along. -/
structure SS [Inhabited EntF] (X : RX) (w0 w : World) (T0 T : L14.Tr) (ms : List EntF) (nn : Nat) (P : List Int) (mx : Nat) (rest : List Int) : Prop where
  lh : LH X.N0 X.L w X.p X.mv X.me X.s X.tc X.V X.nv X.E X.ne T X.O X.I X.ph ms nn
  lv : L14.Lv X.E X.s T (QK ms) rest
  od : OrdL T ms P mx
  kk : nn + muL X.vs T ≤ X.K
  mo : MonoL T0 T
  tu : Tou X.N0 X.L w0 w
section
variable [Inhabited EntF] {X : RX} {w0 w : World} {T0 T : L14.Tr} {ms : List EntF} {nn : Nat} {P : List Int} {mx : Nat} {rest : List Int}
theorem SS.below {w' : World} (h : SS X w0 w T0 T ms nn P mx rest) (hb : Below w.heap.size w w') : SS X w0 w' T0 T ms nn P mx rest := ⟨h.lh.below hb, h.lv, h.od, h.kk, h.mo, h.tu.trans (turned_of_below hb)⟩
/-- What an offer leaves. -/
def OffX (X : RX) (w0 : World) (T0 T : L14.Tr) (ms : List EntF) (P : List Int) (mx : Nat) (rest : List Int) (w' : World) : Prop :=
  ∃ T' ms' nn', SS X w0 w' T0 T' ms' nn' P mx rest ∧ (∀ z ∈ P, T' z = T z) ∧ ((T' = T ∧ ms' = ms) ∨ GainL T T')
theorem offerX (hX : XG X) {e u v : Int} {c : Nat} (h : SS X w0 w T0 T ms nn P mx (e :: rest)) (hE : X.E e = some (u, v, c)) (hmx : L14.fnd T u = true → mx ≤ L14.cst T u) :
    Calls Try.prog 49 #[.pointer (some ⟨X.p, 0, none⟩), .pointer (some ⟨X.ph, 0, none⟩), .int .i64 e] w fun r w' => r = .returned (.tuple #[]) ∧ Hid (OffX X w0 T0 T ms P mx rest w') := by
  obtain ⟨oe, hu, hv⟩ := hX.gl.ed e u v c hE
  obtain ⟨bu, eu⟩ := hX.gl.at_ hu
  obtain ⟨bv, ev⟩ := hX.gl.at_ hv
  refine (vofferT h.lh h.lv h.od hE eu ev oe (hX.gl.okV u hu) (hX.gl.okV v hv) hX.gl.nd hv h.kk hX.kk hmx).mono ?_
  rintro r w' ⟨rfl, H⟩
  obtain ⟨T', ms', nn', a1, a2, a3, a4, a5, a6, a7, a8⟩ := unhide H
  exact ⟨rfl, T', ms', nn', ⟨a1, a2, a3, a4, h.mo.trans a5, h.tu.trans a8⟩, a6, a7⟩
theorem SS.in_ (hX : XG X) (h : SS X w0 w T0 T ms nn P mx rest) {v : Int} (hv : L14.fnd T v = true) : v ∈ X.vs := found_in h.lv hX.gl hX.src hv
theorem SS.plen (hX : XG X) (h : SS X w0 w T0 T ms nn P mx rest) : P.length ≤ X.vs.length := sub_len h.od.nd (fun v hv => h.in_ hX (h.od.pf v hv).1)
/-- What Pop leaves. -/
def PopX (X : RX) (w0 : World) (T0 : L14.Tr) (Z : Prop) (n : Nat) (a : Int) (b : Bool) (w' : World) : Prop :=
  (b = true ∧ ¬ Z ∧ ∃ T ms nn P, SS X w0 w' T0 T ms nn (a :: P) (L14.cst T a) (X.O a) ∧ P.length = n) ∨ (b = false ∧ (Z → n = 0) ∧ ∃ T nn P mx, SS X w0 w' T0 T [] nn P mx [] ∧ P.length = n ∧ (∀ v ∈ P, L14.fnd T v = true))
theorem popX (hX : XG X) (h : SS X w0 w T0 T ms nn P mx []) {Z : Prop} {n : Nat} (hn : P.length = n) (hz : Z → ms = [] ∧ n = 0) :
    Calls Try.prog 67 #[.pointer (some ⟨X.ph, 0, none⟩)] w fun e w' => ∃ a c b, e = .returned (.tuple #[.int .i64 a, .float .f32 c, .bool b]) ∧ Hid (PopX X w0 T0 Z n a b w') := by
  refine (popL h.lh (by have := h.kk; have := hX.kk; omega)).mono ?_
  rintro e w' ⟨a, c, b, rfl, H⟩
  refine ⟨a, c, b, rfl, ?_⟩
  obtain ⟨hb, x, hx, ha, hle, hl, ht⟩ | ⟨hb, hm, hw⟩ := unhide H
  · refine .inl ⟨hb, fun z => ?_, T, without x.key ms, nn, P, ?_, hn⟩
    · rw [(hz z).1] at hx; cases hx
    · subst ha
      have hcl : ∀ y ∈ ms, y.rank ≤ 2139095040 := fun y hy => by rw [h.od.rk y hy]; exact h.lv.le_ _
      have hle2 : ∀ y ∈ ms, x.rank ≤ y.rank := fun y hy => by
        have := hle y hy
        unfold gf at this
        rw [show cfl x.rank = x.rank from Nat.min_eq_left (hcl x hx), show cfl y.rank = y.rank from Nat.min_eq_left (hcl y hy)] at this
        omega
      refine ⟨hl, lv_congr (h.lv.pop (v := x.key) (outs := X.O x.key) (fun e u c he => (hX.gl.out _ _).2 ⟨u, c, he⟩)) (fun u => qk_without), h.od.pop h.lv.qf hx hle2, h.kk, h.mo, h.tu.trans ht⟩
  · subst hm hw
    exact .inr ⟨hb, fun z => (hz z).2, T, nn, P, mx, h, hn, fun v hv => (h.od.pf v hv).1⟩
/-- A vertex's row of numbers stays as it is. -/
theorem LH.row {N0 : Nat} {L : Lab} {p mv me : Nat} {s tc : Int} {V : Int → Option Nat} {nv : Nat} {E : L14.Es} {ne : Nat} {O I : Int → List Int} {ph : Nat} (h : LH N0 L w p mv me s tc V nv E ne T O I ph ms nn) {v : Int} {b : Nat} (hv : V v = some b) :
    ∃ ov, w.cell? ⟨b, 0, none⟩ = some ov ∧ ∀ W, Tou N0 L w W → NRow W ov (O v) := by
  obtain ⟨ov, iv, g1, g2, g3, -, g5, -⟩ := h.lv.sp v b hv
  refine ⟨ov, (cellsSp g1).1, fun W ht => nrow_kept g3 (fun d e => ht.block d (g3.lt d e).2 (fun z => ?_))⟩
  have hd := g5 d e
  rcases z with ⟨u, z⟩ | z
  · rw [hd] at z
    have := congrArg (·.1) (Option.some.inj z)
    cases this
  · rw [z.2] at hd; cases hd
/-- What spread leaves. -/
def SprX (X : RX) (w0 : World) (T0 : L14.Tr) (Z : Prop) (n : Nat) (w' : World) : Prop :=
  (Z → n = 0) ∧ ∃ T nn P mx, SS X w0 w' T0 T [] nn P mx [] ∧ P.length = n ∧ ∀ v ∈ P, L14.fnd T v = true
set_option maxHeartbeats 4000000 in
set_option maxRecDepth 100000 in
theorem vspreadT (hX : XG X) (h : SS X w0 w T0 T ms nn [] 0 []) :
    Calls Try.prog 50 #[.pointer (some ⟨X.p, 0, none⟩), .pointer (some ⟨X.ph, 0, none⟩)] w fun e w' => ∃ n : Nat, e = .returned (.int .i64 n) ∧ Hid (SprX X w0 T0 (ms = []) n w') := by
  have C1 := hide (popX hX h (Z := ms = []) (n := 0) rfl (fun z => ⟨z, rfl⟩))
  have HX := hide hX
  obtain ⟨Z, hZ⟩ : ∃ Z, Z = (ms = []) := ⟨_, rfl⟩
  rw [← hZ] at C1 ⊢
  obtain ⟨M, hM⟩ : ∃ M, M = X.vs.length := ⟨_, rfl⟩
  have HM : Hid (M = X.vs.length ∧ M ≤ 1000) := ⟨hM, by rw [hM]; exact by have := hX.gl.vl; have := hX.nn; omega⟩
  clear h hX hZ hM
  go_enter Try.func50, Try.ntmps50
  go_wp2_with fail
  refine (unhide C1).mono ?_
  rintro e w1 ⟨a1, c1, b1, rfl, H1⟩
  clear C1
  go_wp2_with fail
  go_loopw [5, 6, 8] (fun s5 s6 s8 wr => ∃ (n : Nat) (a : Int) (b : Bool), s5 = .int .i64 n ∧ s6 = .int .i64 a ∧ s8 = .bool b ∧ Hid (n ≤ M ∧ PopX X w0 T0 Z n a b wr)) (fun s5 _ _ _ => M + 1 - (intOf s5).toNat)
  case atStart => exact ⟨0, a1, b1, rfl, rfl, rfl, Nat.zero_le _, unhide H1⟩
  case round =>
    clear H1
    obtain ⟨n, a, b, rfl, rfl, rfl, HI⟩ := hrel
    cases b with
    | false =>
      have HE : Hid (SprX X w0 T0 Z n wr) := by
        obtain ⟨-, ⟨z, -⟩ | ⟨-, h1, T, nn, P, mx, h2, h3, h4⟩⟩ := unhide HI
        · cases z
        · exact ⟨h1, T, nn, P, mx, h2, h3, h4⟩
      clear HI
      go_wp2_with fail
      go_ret
      exact ⟨n, rfl, HE⟩
    | true =>
      rename World => wo
      obtain ⟨hnM, ⟨-, hZ, T1, ms1, nn1, P1, h1, h2⟩ | ⟨z, -⟩⟩ := unhide HI
      case inr => cases z
      have hX := unhide HX
      have hpl := h1.plen hX
      rw [List.length_cons, h2] at hpl
      have hfa := (h1.od.pf a (List.mem_cons_self ..)).1
      have hav := h1.in_ hX hfa
      obtain ⟨ba, hba⟩ := hX.gl.at_ hav
      obtain ⟨ov, k0, hrow⟩ := h1.lh.row hba
      have hr0 := hrow wo (Turned.refl _ _)
      obtain ⟨xa, xc, ex, -⟩ := brow_shape hr0
      obtain ⟨xn, hxn⟩ : ∃ xn, xn = (X.O a).length := ⟨_, rfl⟩
      rw [← hxn] at ex
      subst ex
      have hlk := h1.lh.lv.lookV (hX.gl.okV a hav)
      rw [hba] at hlk
      have hlk' : (Instr.lookup 48 (.map (some X.mv)) (.int .i64 a) false).run Try.prog wo = .ok (.pointer (some ⟨ba, 0, none⟩)) wo := hlk
      obtain ⟨-, kb, -, -, -⟩ := cellsL h1.lh.lv.box
      obtain ⟨n1, hn1⟩ : ∃ n1, n1 = n + 1 := ⟨_, rfl⟩
      have zw : wrap64 ((n : Int) + 1) = (n1 : Int) := by have := (unhide HM).2; unfold wrap64; omega
      have HN : Hid (n1 = n + 1 ∧ n1 ≤ M ∧ ¬ Z ∧ xn = (X.O a).length ∧ xn ≤ 1000) := ⟨hn1, by have := (unhide HM).1; omega, hZ, hxn, by have := hX.gl.lo a; have := hX.nn; omega⟩
      have HROW := hide hrow
      have HS : Hid (∃ T ms nn P, SS X w0 wo T0 T ms nn (a :: P) (L14.cst T a) ((X.O a).drop 0) ∧ P.length = n ∧ Turned (fun b => (∃ v, X.L b = some (4, v)) ∨ (X.N0 ≤ b ∧ X.L b = none)) wo wo) := ⟨T1, ms1, nn1, P1, h1, h2, Turned.refl _ _⟩
      clear HI hnM hZ h1 h2 hX hpl hfa hav hba hrow hr0 hxn hlk hn1
      go_wp2_with fail
      rw [zw]
      clear zw k0 kb hlk'
      go_loopw [36] (fun s36 wr => ∃ (k : Nat), s36 = .int .i64 k ∧ Hid (k ≤ xn ∧ Turned (fun b => (∃ v, X.L b = some (4, v)) ∨ (X.N0 ≤ b ∧ X.L b = none)) wo wr ∧ ∃ T ms nn P, SS X w0 wr T0 T ms nn (a :: P) (L14.cst T a) ((X.O a).drop k) ∧ P.length = n)) (fun s36 _ => xn - (intOf s36).toNat)
      case atStart =>
        obtain ⟨T, ms, nn, P, g1, g2, g3⟩ := unhide HS
        exact ⟨0, rfl, Nat.zero_le _, g3, T, ms, nn, P, g1, g2⟩
      case round =>
        clear HS
        obtain ⟨k, rfl, HI⟩ := hrel
        obtain ⟨i1, i2, T, ms, nn, P, i3, i4⟩ := unhide HI
        obtain ⟨n1', n2, n3, n4, n5⟩ := unhide HN
        by_cases hlt : k < xn
        · obtain ⟨e, he⟩ : ∃ e, (X.O a)[k]? = some e := ⟨_, List.getElem?_eq_getElem (by omega)⟩
          have hdr : (X.O a).drop k = e :: (X.O a).drop (k + 1) := by
            have hl := (List.getElem?_eq_some_iff.1 he)
            rw [List.drop_eq_getElem_cons hl.1, hl.2]
          rw [hdr] at i3
          obtain ⟨v, c, hE⟩ := ((unhide HX).gl.out a e).1 (List.mem_of_getElem? he)
          have hrw := unhide HROW wr i2
          obtain ⟨g, rfl⟩ := brow_some hrw (by omega)
          have kk := brow_at hrw he
          have C2 := hide (offerX (unhide HX) i3 hE (fun _ => Nat.le_refl _))
          obtain ⟨k1, hk1⟩ : ∃ k1, k1 = k + 1 := ⟨_, rfl⟩
          have zk : wrap64 ((k : Int) + 1) = (k1 : Int) := by unfold wrap64; omega
          have z1 : (k : Int) < (xn : Int) := by omega
          have HJ : Hid (k1 = k + 1 ∧ k1 ≤ xn ∧ xn - k1 < xn - k ∧ P.length = n ∧ Turned (fun b => (∃ v, X.L b = some (4, v)) ∨ (X.N0 ≤ b ∧ X.L b = none)) wo wr) := ⟨hk1, by omega, by omega, i4, i2⟩
          have HTT : Hid (∀ w2, OffX X wr T T ms (a :: P) (L14.cst T a) ((X.O a).drop (k + 1)) w2 → Turned (fun b => (∃ v, X.L b = some (4, v)) ∨ (X.N0 ≤ b ∧ X.L b = none)) wo w2) := fun w2 ⟨_, _, _, q, _⟩ => i2.trans q.tu
          have i5 : SS X wr wr T T ms nn (a :: P) (L14.cst T a) (e :: (X.O a).drop (k + 1)) := ⟨i3.lh, i3.lv, i3.od, i3.kk, MonoL.refl _, Turned.refl _ _⟩
          have C3 := hide (offerX (unhide HX) i5 hE (fun _ => Nat.le_refl _))
          have HMT : Hid (MonoL T0 T ∧ Tou X.N0 X.L w0 wr) := ⟨i3.mo, i3.tu⟩
          clear C2 HI i1 i2 i3 i4 i5 n1' n2 n3 n4 n5 hlt he hdr hE hrw hk1
          go_wp2_with fail
          refine (unhide C3).mono ?_
          rintro r w2 ⟨rfl, H2⟩
          have HQ : Hid (Turned (fun b => (∃ v, X.L b = some (4, v)) ∨ (X.N0 ≤ b ∧ X.L b = none)) wo w2 ∧ ∃ T ms nn P, SS X w0 w2 T0 T ms nn (a :: P) (L14.cst T a) ((X.O a).drop k1) ∧ P.length = n) := by
            refine ⟨unhide HTT w2 (unhide H2), ?_⟩
            obtain ⟨T', ms', nn', q1, q2, -⟩ := unhide H2
            have ea : L14.cst T' a = L14.cst T a := by unfold L14.cst; rw [q2 a (List.mem_cons_self ..)]
            rw [(unhide HJ).1]
            refine ⟨T', ms', nn', P, ⟨q1.lh, q1.lv, by rw [ea]; exact q1.od, q1.kk, (unhide HMT).1.trans q1.mo, (unhide HMT).2.trans q1.tu⟩, (unhide HJ).2.2.2.1⟩
          clear C3 H2 HTT HMT kk
          go_wp2_with fail
          (try rw [zk])
          exact ⟨⟨k1, rfl, (unhide HJ).2.1, unhide HQ⟩, by have := unhide HJ; simp [intOf]; omega⟩
        · have z1 : ¬ (k : Int) < (xn : Int) := by omega
          rw [List.drop_eq_nil_of_le (by omega)] at i3
          have C2 := hide (popX (unhide HX) i3 (Z := Z) (n := n1) (by rw [List.length_cons, i4, n1']) (fun z => absurd z n3))
          have HJ : Hid (n1 ≤ M ∧ n1 = n + 1) := ⟨n2, n1'⟩
          clear HI i1 i2 i3 i4 n1' n2 n3 n4 n5 hlt
          go_wp2_with fail
          refine (unhide C2).mono ?_
          rintro r w2 ⟨a2, c2, b2, rfl, H2⟩
          clear C2
          go_wp2_with fail
          exact ⟨⟨n1, a2, b2, rfl, rfl, rfl, (unhide HJ).1, unhide H2⟩, by have := unhide HJ; simp [intOf]; omega⟩
end
end

section
open Go.RowKit Go.Maps
attribute [local go_sem] run_storeF
theorem lessB14 : LessF (.func (.func 41) #[] #[]) gf := ⟨41, #[], rfl, enters_of Try.func41 (by kernel_rfl) rfl, fun x y w => by
  have h := before_cost (a := cfl x) (b := cfl y) (Nat.min_le_right _ _) (Nat.min_le_right _ _) w
  have e : decide (cfl x < cfl y) = decide (gf x < gf y) := by unfold gf; exact decide_eq_decide.2 (by omega)
  rw [e] at h
  exact h⟩
theorem muL_le {T : L14.Tr} (hT : ∀ v, L14.cst T v ≤ 2139095040) : ∀ vs : List Int, muL vs T ≤ 4294967296 * vs.length
  | [] => Nat.zero_le _
  | v :: vs => by
    have := muL_le hT vs
    have h1 : costL T v ≤ 4294967296 := by
      unfold costL
      have := hT v
      split
      · omega
      · exact Nat.le_refl _
    unfold muL at *
    rw [List.map_cons, List.sum_cons, List.length_cons, Nat.mul_succ]; omega
section
variable {L : Lab} {w w' : World} {p mv me : Nat} {s tc : Int} {V : Int → Option Nat} {nv : Nat} {E : L14.Es} {ne : Nat} {T : L14.Tr} {O I : Int → List Int} {vs : List Int} {N : Nat}
abbrev rx (n0 ph : Nat) (L : Lab) (p mv me : Nat) (s tc : Int) (V : Int → Option Nat) (nv : Nat) (E : L14.Es) (ne : Nat) (T : L14.Tr) (O I : Int → List Int) (vs : List Int) (N : Nat) : RX := ⟨n0, ph, L, p, mv, me, s, tc, V, nv, E, ne, O, I, vs, muL vs T, N⟩
theorem rx_good {n0 ph : Nat} (hG : GL V E O I vs N) (hs : s ∈ vs) (hN : N ≤ 200) (hT : ∀ v, L14.cst T v ≤ 2139095040) : XG (rx n0 ph L p mv me s tc V nv E ne T O I vs N) :=
  ⟨hG, hs, hN, by
    have h1 := muL_le hT vs
    have h2 := hG.vl
    show muL vs T < 1000000000000
    omega⟩
theorem tou_ch {n : Nat} (hn : n = w.heap.size) (h : Tou n L w w') : ChL L w L w' := ⟨fun _ _ => rfl, h.os, h.tape, h.output, h.size, fun b hb q => h.block b hb (fun z => by
  rcases z with ⟨v, z⟩ | z
  · rw [z] at q; exact q (fun y => by cases y)
  · omega)⟩
end
section
variable [Inhabited EntF] {L : Lab} {w w' : World} {p mv me : Nat} {s tc : Int} {V : Int → Option Nat} {nv : Nat} {E : L14.Es} {ne : Nat} {T : L14.Tr} {O I : Int → List Int} {vs : List Int} {N : Nat} {rest : List Int}
theorem newX (h : LvS L w p mv me s tc V nv E ne T O I) (hLv : L14.Lv E s T (fun _ => False) rest) :
    Calls Try.prog 48 #[.func (.func 41) #[] #[]] w fun e w' => ∃ ph, e = .returned (.pointer (some ⟨ph, 0, none⟩)) ∧ Hid (SS (rx w.heap.size ph L p mv me s tc V nv E ne T O I vs N) w w' T T [] 0 [] 0 rest) := by
  refine (newOnF 41 w lessB14).mono ?_
  rintro e w' ⟨rfl, hb, F, ho, hF⟩
  refine ⟨_, rfl, ⟨⟨h.at_.below hb, ⟨F, ho, fun b q => ⟨h.fr b (hF b q), hF b q⟩⟩, Nat.le_refl _, fun b q => h.fr b (Nat.le_trans hb.size q), hb.size⟩, lv_congr hLv (fun u => ⟨fun ⟨_, q, _⟩ => (by cases q), fun q => q.elim⟩), OrdL.start T, by show 0 + muL vs T ≤ muL vs T; omega, MonoL.refl _, turned_of_below hb⟩⟩
/-- What a repair leaves. -/
def RepA (L : Lab) (w : World) (p mv me : Nat) (s tc : Int) (V : Int → Option Nat) (nv : Nat) (E : L14.Es) (ne : Nat) (T : L14.Tr) (O I : Int → List Int) (n : Nat) (w' : World) : Prop :=
  ∃ T', LvS L w' p mv me s tc V nv E ne T' O I ∧ L14.Right E s T' ∧ ChL L w L w' ∧ MonoL T T' ∧ ∃ P : List Int, P.Nodup ∧ P.length = n ∧ (∀ v ∈ P, L14.fnd T' v = true) ∧ (0 < n → GainL T T')
theorem SS.rep {n0 ph : Nat} {w0 : World} {T0 T' : L14.Tr} {nn : Nat} {P : List Int} {mx n : Nat} (hn : n0 = w0.heap.size) (h : SS (rx n0 ph L p mv me s tc V nv E ne T O I vs N) w0 w' T0 T' [] nn P mx []) (hP : P.length = n) (hf : ∀ v ∈ P, L14.fnd T' v = true) (hz : 0 < n → GainL T0 T') : RepA L w0 p mv me s tc V nv E ne T0 O I n w' :=
  ⟨T', ⟨h.lh.lv, h.lh.nw⟩, h.lv.done (fun v ⟨_, q, _⟩ => (by cases q)), tou_ch hn h.tu, h.mo, P, h.od.nd, hP, hf, hz⟩
set_option maxHeartbeats 1000000 in
theorem vapproachT (h : LvS L w p mv me s tc V nv E ne T O I) (hG : GL V E O I vs N) (hs : s ∈ vs) (hN : N ≤ 200) {e u v : Int} {c : Nat} (hLv : L14.Lv E s T (fun _ => False) [e]) (hE : E e = some (u, v, c)) :
    Calls Try.prog 32 #[.pointer (some ⟨p, 0, none⟩), .int .i64 e] w fun r w' => ∃ n : Nat, r = .returned (.int .i64 n) ∧ Hid (RepA L w p mv me s tc V nv E ne T O I n w') := by
  have C1 := hide (newX (vs := vs) (N := N) h hLv)
  have HX : Hid (∀ ph, XG (rx w.heap.size ph L p mv me s tc V nv E ne T O I vs N)) := fun ph => rx_good hG hs hN hLv.le_
  have HE := hide hE
  clear h hG hs hN hLv hE
  go_enter Try.func32, Try.ntmps32
  go_wp2_with fail
  refine (unhide C1).mono ?_
  rintro r w1 ⟨ph, rfl, H1⟩
  have C2 := hide (offerX (unhide HX ph) (unhide H1) (unhide HE) (fun _ => Nat.zero_le _))
  clear C1 H1
  go_wp2_with fail
  refine (unhide C2).mono ?_
  rintro r w2 ⟨rfl, H2⟩
  clear C2
  obtain ⟨T', ms', nn', q1, -, q3⟩ := unhide H2
  have C3 := hide (vspreadT (unhide HX ph) q1)
  have HZ : Hid ((T' = T ∧ ms' = []) ∨ GainL T T') := q3
  have q4 : SS (rx w.heap.size ph L p mv me s tc V nv E ne T O I vs N) w2 w2 T' T' ms' nn' [] 0 [] := ⟨q1.lh, q1.lv, q1.od, q1.kk, MonoL.refl _, Turned.refl _ _⟩
  have C4 := hide (vspreadT (unhide HX ph) q4)
  have HQ : Hid (MonoL T T' ∧ Tou w.heap.size L w w2) := ⟨q1.mo, q1.tu⟩
  clear H2 q1 q3 q4 C3
  go_wp2_with fail
  refine (unhide C4).mono ?_
  rintro r w3 ⟨n, rfl, H3⟩
  have HA : Hid (RepA L w p mv me s tc V nv E ne T O I n w3) := by
    obtain ⟨h1, T2, nn2, P2, mx2, h2, h3, h4⟩ := unhide H3
    have h5 : SS (rx w.heap.size ph L p mv me s tc V nv E ne T O I vs N) w w3 T T2 [] nn2 P2 mx2 [] := ⟨h2.lh, h2.lv, h2.od, h2.kk, (unhide HQ).1.trans h2.mo, (unhide HQ).2.trans h2.tu⟩
    refine h5.rep rfl h3 h4 (fun hpos => ?_)
    rcases unhide HZ with ⟨-, z⟩ | z
    · have := h1 z; omega
    · exact z.after h2.mo
  clear C4 H3 HQ HZ HX HE
  go_wp2_with fail
  go_ret
  exact ⟨n, rfl, HA⟩
end
end

section
theorem run_fieldE0 (u v c : Value) (w : World) : (Instr.field 73 (.agg #[u, v, c]) 0).run Try.prog w = .ok u w := by kernel_rfl
theorem run_fieldE1 (u v c : Value) (w : World) : (Instr.field 73 (.agg #[u, v, c]) 1).run Try.prog w = .ok v w := by kernel_rfl
theorem step_mapUpdate_run {P : Program} {ops : Array Oper} {o : Oper} {a : Act} {w : World} {K : Act → World → Prop} {Q : Exit → Act → World → Prop} {E : Prop}
    (hg : o.guard = none) (m k x : Operand) (t : TypeId) (hop : o.op = Op.mapUpdate t m k x) (v1 v2 v3 : Value) (h1 : a.eval m = v1) (h2 : a.eval k = v2) (h3 : a.eval x = v3) (w' : World)
    (hrun : (Instr.mapUpdate t v1 v2 v3).run P w = .ok () w') (hd : o.dst = none) (hK : K a w') :
    if Region.wanted o (yielded ops a.tmps) = true then Oper.wp P o a w K Q else E := by
  have hw : Region.wanted o (yielded ops a.tmps) = true := by simp [Region.wanted, hg]
  rw [if_pos hw]
  unfold Oper.wp
  simp only [execOp, hop, Sem.run_bind, Sem.run_pure, Result.andThen_ok, h1, h2, h3, hrun]
  show K (a.put o.dst undef) w'
  rw [hd]; exact hK
end

end Go.Proofs.Ytbmcibofecigeaa

import PyProof.Rows.All
import Wide.All
import OpenK.AllK
import Wide.FinOn
import HandS.ForExc
import HandS.Comp
import HandS.Iter
import HandS.Text
import HandS.Dict
import HandS.Wide
import HandS.Gcd
import HandS.IsInst
import HandS.NoneIn
import HandS.Zip
import HandS.TupAny
import HandS.ExcOwn
import HandS.AnyAll
import HandS.More
import HandS.Style
import HandS.Deep
import HandS.Sort
import HandS.TryMany
import HandS.FStr
import HandS.StrMore
import HandS.RaiseMore
import KE.KMathG
import HandS.ExcInit
import HandS.ExcField
import HandS.GenList
import PyProof.TupleOfGen
import KE.GoesEnum
import PyProof.ReprRoads
import HandS.EndTab
import HandS.TupMul
import HandS.Codes
import PyProof.ExcBaseAll.ValueError
import HandS.ForMost
import PySem.Challenge.RW_fastestalong_k13_lengths_directions_and
set_option Elab.async false
set_option linter.all false
set_option autoImplicit false
set_option maxRecDepth 100000
set_option maxHeartbeats 4000000
/-! Readings of bodies over plain data: what a def does told without any heap. -/
namespace Fw
open PySem PySem.Spec PyProof.Rows L2

abbrev D := PyData
abbrev Fg := PySem.W.Frag

/-! ### heaps that grow -/
def Ex (H H' : Hp) : Prop := ∀ a o, H a = some o → H' a = some o
theorem Ex.rfl {H : Hp} : Ex H H := fun _ _ h => h
theorem Ex.trans {H H1 H2 : Hp} (a : Ex H H1) (b : Ex H1 H2) : Ex H H2 := fun x o h => b x o (a x o h)
theorem Ex.new {H : Hp} {p : Addr} {o : HO} (h : H p = none) : Ex H (upd H p o) := fun a u e => by
  rw [upd_ne (ne_of_none e h)]
  exact e
theorem Ex.back {H H' : Hp} {p : Addr} (e : Ex H H') (h : H' p = none) : H p = none := by
  cases h1 : H p with
  | none => rfl
  | some o =>
    rw [e p o h1] at h
    cases h
theorem Ex.sqL {K : Fg} {H H' : Hp} {a : Addr} {xs : List V} (e : Ex H H') (h : SqL K H a xs) : SqL K H' a xs := by
  rcases h with (h | ⟨o, h⟩) | h
  · exact .inl (.inl (e _ _ h))
  · exact .inl (.inr ⟨o, e _ _ h⟩)
  · exact .inr h
theorem Ex.sqT {K : Fg} {H H' : Hp} {a : Addr} {xs : List V} (e : Ex H H') (h : SqT K H a xs) : SqT K H' a xs := by
  rcases h with (h | ⟨o, h⟩) | h
  · exact .inl (.inl (e _ _ h))
  · exact .inl (.inr ⟨o, e _ _ h⟩)
  · exact .inr h
mutual
theorem Ex.dp {K : Fg} {H H' : Hp} (e : Ex H H') : ∀ {v : V} {d : D}, Dp K H v d → Dp K H' v d
  | _, _, .non => .non
  | _, _, .bl b => .bl b
  | _, _, .int i => .int i
  | _, _, .str x => .str x
  | _, _, .lst h a => .lst (e.sqL h) (e.dps a)
  | _, _, .tup h a => .tup (e.sqT h) (e.dps a)
theorem Ex.dps {K : Fg} {H H' : Hp} (e : Ex H H') : ∀ {vs : List V} {ds : List D}, DpAll K H vs ds → DpAll K H' vs ds
  | _, _, .nil => .nil
  | _, _, .cons h t => .cons (e.dp h) (e.dps t)
end
section
variable {K : Fg} {H : Hp}
theorem dps_len : ∀ {vs : List V} {ds : List D}, DpAll K H vs ds → vs.length = ds.length
  | _, _, .nil => rfl
  | _, _, .cons _ t => by simp [dps_len t]
theorem dps_get : ∀ {vs : List V} {ds : List D} {i : Nat} {d : D}, DpAll K H vs ds → ds[i]? = some d → ∃ v, vs[i]? = some v ∧ Dp K H v d
  | _, _, _, _, .nil, e => by simp at e
  | _, _, 0, _, .cons h _, e => by simp at e; subst e; exact ⟨_, rfl, h⟩
  | _, _, i + 1, d, .cons _ t, e => by
    obtain ⟨v, h1, h2⟩ := dps_get (i := i) (d := d) t (by simpa using e)
    exact ⟨v, by simpa using h1, h2⟩
theorem dps_get' : ∀ {vs : List V} {ds : List D} {i : Nat} {v : V}, DpAll K H vs ds → vs[i]? = some v → ∃ d, ds[i]? = some d ∧ Dp K H v d
  | _, _, _, _, .nil, e => by simp at e
  | _, _, 0, _, .cons h _, e => by simp at e; subst e; exact ⟨_, rfl, h⟩
  | _, _, i + 1, v, .cons _ t, e => by
    obtain ⟨d, h1, h2⟩ := dps_get' (i := i) (v := v) t (by simpa using e)
    exact ⟨d, by simpa using h1, h2⟩
theorem dps_app : ∀ {vs ws : List V} {ds es : List D}, DpAll K H vs ds → DpAll K H ws es → DpAll K H (vs ++ ws) (ds ++ es)
  | _, _, _, _, .nil, s => s
  | _, _, _, _, .cons h t, s => .cons h (dps_app t s)
theorem dps_drop : ∀ {vs : List V} {ds : List D} (n : Nat), DpAll K H vs ds → DpAll K H (vs.drop n) (ds.drop n)
  | _, _, 0, h => h
  | _, _, _ + 1, .nil => .nil
  | _, _, n + 1, .cons _ t => dps_drop n t
theorem dps_take : ∀ {vs : List V} {ds : List D} (n : Nat), DpAll K H vs ds → DpAll K H (vs.take n) (ds.take n)
  | _, _, 0, _ => .nil
  | _, _, _ + 1, .nil => .nil
  | _, _, n + 1, .cons h t => .cons h (dps_take n t)
theorem dps_set {v : V} {d : D} (h : Dp K H v d) : ∀ {vs : List V} {ds : List D} (n : Nat), DpAll K H vs ds → DpAll K H (vs.set n v) (ds.set n d)
  | _, _, _, .nil => .nil
  | _, _, 0, .cons _ t => .cons h t
  | _, _, n + 1, .cons a t => .cons a (dps_set h n t)
theorem dps_rev : ∀ {vs : List V} {ds : List D}, DpAll K H vs ds → DpAll K H vs.reverse ds.reverse
  | _, _, .nil => .nil
  | _, _, .cons h t => by
    rw [List.reverse_cons, List.reverse_cons]
    exact dps_app (dps_rev t) (.cons h .nil)
end

/-- the plain data B and the heap H grow; what is new in B is new in H -/
structure Gr (B H B' H' : Hp) : Prop where
  bb : Ex B B'
  hh : Ex H H'
  bh : Ex B' H'
  ne : ∀ a, H a ≠ none → B' a = B a
theorem Gr.rfl {B H : Hp} (e : Ex B H) : Gr B H B H := ⟨Ex.rfl, Ex.rfl, e, fun _ _ => Eq.refl _⟩
theorem Gr.trans {B H B1 H1 B2 H2 : Hp} (a : Gr B H B1 H1) (b : Gr B1 H1 B2 H2) : Gr B H B2 H2 :=
  ⟨a.bb.trans b.bb, a.hh.trans b.hh, b.bh, fun x h => (b.ne x (fun z => h (by
    cases e : H x with
    | none => rfl
    | some o => rw [a.hh x o e] at z; cases z))).trans (a.ne x h)⟩
theorem Gr.new {B H : Hp} {p : Addr} {o : HO} (e : Ex B H) (h : H p = none) : Gr B H (upd B p o) (upd H p o) :=
  ⟨Ex.new (e.back h), Ex.new h, fun a u q => by
    by_cases c : a = p
    · subst c
      rw [upd_same] at q ⊢
      exact q
    · rw [upd_ne c] at q ⊢
      exact e a u q, fun a q => upd_ne (fun z => q (z ▸ h))⟩
/-- a new thing in H that B does not take up -/
theorem Gr.own {B H : Hp} {p : Addr} {o : HO} (e : Ex B H) (h : H p = none) : Gr B H B (upd H p o) :=
  ⟨Ex.rfl, Ex.new h, e.trans (Ex.new h), fun _ _ => Eq.refl _⟩

/-! ### the spring: a list of a list and two ints, drawn from -/
structure Spr (H : Hp) (p g : Addr) : Prop where
  ne : p ≠ g
  at_ : ∃ m c : Int, H p = some (.lst [.ref g, .int m, .int c]) ∧ 0 ≤ m ∧ m < 2 ^ 61
  gr : ∃ gs : List Int, H g = some (.lst (gs.map V.int)) ∧ (∀ x ∈ gs, 0 ≤ x) ∧ gs.length ≤ 1000
/-- the tables of code objects that may grow -/
class Tabs where
  tb : List Addr
abbrev SA := Option (Addr × Addr)
def SprO1 (H : Hp) : SA → Prop
  | none => True
  | some (p, g) => Spr H p g
def SprF1 (B : Hp) : SA → Prop
  | none => True
  | some (p, g) => B p = none ∧ B g = none
def has1 : SA → Addr → Prop
  | none, _ => False
  | some (p, g), a => a = p ∨ a = g
def SprO [Tabs] (H : Hp) (S : SA) : Prop := SprO1 H S ∧ ∀ P ∈ Tabs.tb, GxR.TabG H P
def SprF [Tabs] (B : Hp) (S : SA) : Prop := SprF1 B S ∧ ∀ P ∈ Tabs.tb, B P = none
def SA.has [Tabs] (S : SA) (a : Addr) : Prop := has1 S a ∨ a ∈ Tabs.tb
variable [Tabs]
theorem SprO1.get {H : Hp} {S : SA} {a : Addr} (h : SprO1 H S) (q : has1 S a) : ∃ xs, H a = some (.lst xs) := by
  rcases S with _ | ⟨p, g⟩
  · exact q.elim
  · obtain ⟨_, ⟨m, c, e, _⟩, ⟨gs, e2, _⟩⟩ := (show Spr H p g from h)
    rcases q with rfl | rfl
    · exact ⟨_, e⟩
    · exact ⟨_, e2⟩
theorem SprO.get {H : Hp} {S : SA} {a : Addr} (h : SprO H S) (q : S.has a) : H a ≠ none := by
  rcases q with q | q
  · obtain ⟨xs, e⟩ := h.1.get q
    rw [e]; exact fun z => nomatch z
  · obtain ⟨ps, e, _⟩ := h.2 a q
    rw [e]; exact fun z => nomatch z
theorem SprO1.kept {H H' : Hp} {S : SA} (h : SprO1 H S) (e : ∀ a, has1 S a → H' a = H a) : SprO1 H' S := by
  rcases S with _ | ⟨p, g⟩
  · trivial
  · obtain ⟨n, ⟨m, c, e1, b⟩, ⟨gs, e2, b2⟩⟩ := (show Spr H p g from h)
    exact ⟨n, ⟨m, c, (e p (.inl rfl)).trans e1, b⟩, ⟨gs, (e g (.inr rfl)).trans e2, b2⟩⟩
theorem SprO.kept {H H' : Hp} {S : SA} (h : SprO H S) (e : ∀ a, S.has a → H' a = H a) : SprO H' S :=
  ⟨h.1.kept fun a q => e a (.inl q), fun P q => by
    obtain ⟨ps, z, t⟩ := h.2 P q
    exact ⟨ps, (e P (.inr q)).trans z, t⟩⟩
theorem SprF1.kept {B B' : Hp} {S : SA} (h : SprF1 B S) (e : ∀ a, has1 S a → B' a = B a) : SprF1 B' S := by
  rcases S with _ | ⟨p, g⟩
  · trivial
  · exact ⟨(e p (.inl rfl)).trans h.1, (e g (.inr rfl)).trans h.2⟩
theorem SprF.kept {B B' : Hp} {S : SA} (h : SprF B S) (e : ∀ a, S.has a → B' a = B a) : SprF B' S :=
  ⟨h.1.kept fun a q => e a (.inl q), fun P q => (e P (.inr q)).trans (h.2 P q)⟩
/-- as Gr, the spring drawn from -/
structure GrS (S : SA) (B H B' H' : Hp) : Prop where
  bb : Ex B B'
  hh : ∀ a o, H a = some o → ¬ S.has a → H' a = some o
  bh : Ex B' H'
  ne : ∀ a, H a ≠ none → B' a = B a
  sp : SprO H' S
theorem Gr.s {S : SA} {B H B' H' : Hp} (g : Gr B H B' H') (h : SprO H S) : GrS S B H B' H' :=
  ⟨g.bb, fun a o e _ => g.hh a o e, g.bh, g.ne, h.kept fun a q => by
    cases e : H a with
    | none => exact absurd e (h.get q)
    | some o => exact g.hh a o e⟩
theorem GrS.ex {S : SA} {B H B' H' : Hp} (g : GrS S B H B' H') {a : Addr} (h : H a ≠ none) : H' a ≠ none := by
  cases e : H a with
  | none => exact absurd e h
  | some o =>
    by_cases c : S.has a
    · exact g.sp.get c
    · rw [g.hh a o e c]; exact fun z => nomatch z
theorem GrS.trans {S : SA} {B H B1 H1 B2 H2 : Hp} (a : GrS S B H B1 H1) (b : GrS S B1 H1 B2 H2) : GrS S B H B2 H2 :=
  ⟨a.bb.trans b.bb, fun x o e n => b.hh x o (a.hh x o e n) n, b.bh, fun x h => (b.ne x (a.ex h)).trans (a.ne x h), b.sp⟩

/-! ### what the slots hold, told as data -/
inductive Sl where
  | un | p (d : D) | o (ds : List D) | s | k (n : Nat) (f : Str → Option D) | x (a : Addr) (cls : Value) (d : Option Addr) (x : Str × Option (Str × D))
abbrev En := List Sl
/-- what is raised, told as data: the class by its name in the module, and the one field -/
abbrev XD := Str × Option (Str × D)
def XR (K : Fg) (B H : Hp) (x : XD) (cls : Value) (d : Option Addr) : Prop := PySem.W.nsIn K mainGlobals x.1 = some (some cls) ∧ match x.2 with
  | none => d = none
  | some (f, dd) => ∃ a v, d = some a ∧ B a = some (.xd [(f, v)]) ∧ Dp K B v dd
theorem XR.mono {K : Fg} {B B' H H' : Hp} {x : XD} {cls : Value} {d : Option Addr} (e : Ex B B') (h : XR K B H x cls d) : XR K B' H' x cls d := by
  obtain ⟨x1, x2⟩ := x
  obtain ⟨h1, h2⟩ := h
  refine ⟨h1, ?_⟩
  cases x2 with
  | none => exact h2
  | some fd =>
    obtain ⟨a, v, h3, h4, h5⟩ := h2
    exact ⟨a, v, h3, e _ _ h4, e.dp h5⟩
/-- what a table's key holds -/
def OD (K : Fg) (B : Hp) : Option V → Option D → Prop
  | none, none => True
  | some v, some d => Dp K B v d
  | _, _ => False
theorem OD.mono {K : Fg} {B B' : Hp} (e : Ex B B') : ∀ {v : Option V} {d : Option D}, OD K B v d → OD K B' v d
  | none, none, _ => trivial
  | some _, some _, h => e.dp h
  | none, some _, h => h.elim
  | some _, none, h => h.elim
abbrev KOk (K : Fg) (B : Hp) (kw : List (Key × V)) (f : Str → Option D) : Prop := ∀ x, OD K B (valV kw (.inr x)) (f x)
inductive Env (K : Fg) (S : SA) (B H : Hp) : L2.St → En → List Addr → Prop
  | nil : Env K S B H [] [] []
  | un {x : Option V} {σ : L2.St} {es : En} {fp : List Addr} : Env K S B H σ es fp → Env K S B H (x :: σ) (.un :: es) fp
  | p {v : V} {d : D} {σ : L2.St} {es : En} {fp : List Addr} : Dp K B v d → Env K S B H σ es fp → Env K S B H (some v :: σ) (.p d :: es) fp
  | o {a : Addr} {xs : List V} {ds : List D} {σ : L2.St} {es : En} {fp : List Addr} : H a = some (.lst xs) → DpAll K B xs ds → Env K S B H σ es fp → Env K S B H (some (.ref a) :: σ) (.o ds :: es) (a :: fp)
  | s {q g : Addr} {σ : L2.St} {es : En} {fp : List Addr} : S = some (q, g) → Env K S B H σ es fp → Env K S B H (some (.ref q) :: σ) (.s :: es) fp
  | k {a : Addr} {kw : List (Key × V)} {n : Nat} {f : Str → Option D} {σ : L2.St} {es : En} {fp : List Addr} : H a = some (.dK kw) → kw.length ≤ n → KOk K B kw f → Env K S B H σ es fp → Env K S B H (some (.ref a) :: σ) (.k n f :: es) (a :: fp)
  | x {a : Addr} {cls : Value} {d : Option Addr} {y : XD} {σ : L2.St} {es : En} {fp : List Addr} : XR K B B y cls d → Env K S B H σ es fp → Env K S B H (some (.ref a) :: σ) (.x a cls d y :: es) fp
section
variable {K : Fg} {S : SA} {B H B' H' : Hp} {σ : L2.St} {es : En} {fp : List Addr}
theorem Env.mono (h : Env K S B H σ es fp) (e : Ex B B') (k : ∀ a ∈ fp, H' a = H a) : Env K S B' H' σ es fp := by
  induction h with
  | nil => exact .nil
  | un _ ih => exact .un (ih k)
  | p d _ ih => exact .p (e.dp d) (ih k)
  | o h1 h2 _ ih => exact .o ((k _ List.mem_cons_self).trans h1) (e.dps h2) (ih fun a q => k a (List.mem_cons_of_mem _ q))
  | s q _ ih => exact .s q (ih k)
  | k h1 h2 h3 _ ih => exact .k ((k _ List.mem_cons_self).trans h1) h2 (fun x => (h3 x).mono e) (ih fun a q => k a (List.mem_cons_of_mem _ q))
  | x h1 _ ih => exact .x (h1.mono e) (ih k)
theorem Env.live (h : Env K S B H σ es fp) : ∀ a ∈ fp, H a ≠ none := by
  induction h with
  | nil => intro a q; cases q
  | un _ ih => exact ih
  | p _ _ ih => exact ih
  | o h1 _ _ ih =>
    intro a q
    rcases List.mem_cons.mp q with rfl | q
    · rw [h1]; exact fun z => nomatch z
    · exact ih a q
  | s _ _ ih => exact ih
  | k h1 _ _ _ ih =>
    intro a q
    rcases List.mem_cons.mp q with rfl | q
    · rw [h1]; exact fun z => nomatch z
    · exact ih a q
  | x _ _ ih => exact ih
theorem Env.len (h : Env K S B H σ es fp) : σ.length = es.length := by
  induction h with
  | nil => rfl
  | un _ ih => simp [ih]
  | p _ _ ih => simp [ih]
  | o _ _ _ ih => simp [ih]
  | s _ _ ih => simp [ih]
  | k _ _ _ _ ih => simp [ih]
  | x _ _ ih => simp [ih]
theorem Env.getP (h : Env K S B H σ es fp) : ∀ {i : Nat} {d : D}, es[i]? = some (.p d) → ∃ v, σ[i]? = some (some v) ∧ Dp K B v d := by
  induction h with
  | nil => intro i d e; simp at e
  | un _ ih => intro i d e; cases i with
    | zero => simp at e
    | succ i => simpa using ih (by simpa using e)
  | p q _ ih => intro i d e; cases i with
    | zero => simp at e; subst e; exact ⟨_, rfl, q⟩
    | succ i => simpa using ih (by simpa using e)
  | o _ _ _ ih => intro i d e; cases i with
    | zero => simp at e
    | succ i => simpa using ih (by simpa using e)
  | s _ _ ih => intro i d e; cases i with
    | zero => simp at e
    | succ i => simpa using ih (by simpa using e)
  | k _ _ _ _ ih => intro i d e; cases i with
    | zero => simp at e
    | succ i => simpa using ih (by simpa using e)
  | x _ _ ih => intro i d e; cases i with
    | zero => simp at e
    | succ i => simpa using ih (by simpa using e)
theorem Env.getO (h : Env K S B H σ es fp) : ∀ {i : Nat} {ds : List D}, es[i]? = some (.o ds) → ∃ a xs, σ[i]? = some (some (.ref a)) ∧ H a = some (.lst xs) ∧ DpAll K B xs ds ∧ a ∈ fp := by
  induction h with
  | nil => intro i d e; simp at e
  | un _ ih => intro i d e; cases i with
    | zero => simp at e
    | succ i => simpa using ih (by simpa using e)
  | p q _ ih => intro i d e; cases i with
    | zero => simp at e
    | succ i => simpa using ih (by simpa using e)
  | o h1 h2 _ ih => intro i d e; cases i with
    | zero => simp at e; subst e; exact ⟨_, _, rfl, h1, h2, List.mem_cons_self⟩
    | succ i =>
      obtain ⟨a, xs, q1, q2, q3, q4⟩ := ih (i := i) (by simpa using e)
      exact ⟨a, xs, by simpa using q1, q2, q3, List.mem_cons_of_mem _ q4⟩
  | s _ _ ih => intro i d e; cases i with
    | zero => simp at e
    | succ i => simpa using ih (by simpa using e)
  | k _ _ _ _ ih => intro i d e; cases i with
    | zero => simp at e
    | succ i =>
      obtain ⟨a, xs, q1, q2, q3, q4⟩ := ih (i := i) (by simpa using e)
      exact ⟨a, xs, by simpa using q1, q2, q3, List.mem_cons_of_mem _ q4⟩
  | x _ _ ih => intro i d e; cases i with
    | zero => simp at e
    | succ i => simpa using ih (by simpa using e)
theorem Env.getS (h : Env K S B H σ es fp) : ∀ {i : Nat}, es[i]? = some .s → ∃ q g, σ[i]? = some (some (.ref q)) ∧ S = some (q, g) := by
  induction h with
  | nil => intro i e; simp at e
  | un _ ih => intro i e; cases i with
    | zero => simp at e
    | succ i => simpa using ih (by simpa using e)
  | p q _ ih => intro i e; cases i with
    | zero => simp at e
    | succ i => simpa using ih (by simpa using e)
  | o _ _ _ ih => intro i e; cases i with
    | zero => simp at e
    | succ i => simpa using ih (by simpa using e)
  | s q _ ih => intro i e; cases i with
    | zero => exact ⟨_, _, rfl, q⟩
    | succ i => simpa using ih (by simpa using e)
  | k _ _ _ _ ih => intro i e; cases i with
    | zero => simp at e
    | succ i => simpa using ih (by simpa using e)
  | x _ _ ih => intro i e; cases i with
    | zero => simp at e
    | succ i => simpa using ih (by simpa using e)
/-- the table of a slot -/
theorem Env.getK (h : Env K S B H σ es fp) : ∀ {i : Nat} {n : Nat} {f : Str → Option D}, es[i]? = some (.k n f) → ∃ a kw, σ[i]? = some (some (.ref a)) ∧ H a = some (.dK kw) ∧ kw.length ≤ n ∧ KOk K B kw f ∧ a ∈ fp := by
  induction h with
  | nil => intro i n f e; simp at e
  | un _ ih => intro i n f e; cases i with
    | zero => simp at e
    | succ i => simpa using ih (by simpa using e)
  | p q _ ih => intro i n f e; cases i with
    | zero => simp at e
    | succ i => simpa using ih (by simpa using e)
  | o h1 h2 _ ih => intro i n f e; cases i with
    | zero => simp at e
    | succ i =>
      obtain ⟨a, xs, q1, q2, q3, q4, q5⟩ := ih (i := i) (by simpa using e)
      exact ⟨a, xs, by simpa using q1, q2, q3, q4, List.mem_cons_of_mem _ q5⟩
  | s _ _ ih => intro i n f e; cases i with
    | zero => simp at e
    | succ i => simpa using ih (by simpa using e)
  | k h1 h2 h3 _ ih => intro i n f e; cases i with
    | zero =>
      simp at e
      obtain ⟨rfl, rfl⟩ := e
      exact ⟨_, _, rfl, h1, h2, h3, List.mem_cons_self⟩
    | succ i =>
      obtain ⟨a, xs, q1, q2, q3, q4, q5⟩ := ih (i := i) (by simpa using e)
      exact ⟨a, xs, by simpa using q1, q2, q3, q4, List.mem_cons_of_mem _ q5⟩
  | x _ _ ih => intro i n f e; cases i with
    | zero => simp at e
    | succ i => simpa using ih (by simpa using e)
/-- the exception of a slot -/
theorem Env.getX (h : Env K S B H σ es fp) : ∀ {i : Nat} {a : Addr} {cls : Value} {d : Option Addr} {y : XD}, es[i]? = some (.x a cls d y) → σ[i]? = some (some (.ref a)) ∧ XR K B B y cls d := by
  induction h with
  | nil => intro i a cls d y e; simp at e
  | un _ ih => intro i a cls d y e; cases i with
    | zero => simp at e
    | succ i => simpa using ih (by simpa using e)
  | p q _ ih => intro i a cls d y e; cases i with
    | zero => simp at e
    | succ i => simpa using ih (by simpa using e)
  | o h1 h2 _ ih => intro i a cls d y e; cases i with
    | zero => simp at e
    | succ i => simpa using ih (by simpa using e)
  | s _ _ ih => intro i a cls d y e; cases i with
    | zero => simp at e
    | succ i => simpa using ih (by simpa using e)
  | k _ _ _ _ ih => intro i a cls d y e; cases i with
    | zero => simp at e
    | succ i => simpa using ih (by simpa using e)
  | x h1 _ ih => intro i a cls d y e; cases i with
    | zero =>
      simp at e
      obtain ⟨rfl, rfl, rfl, rfl⟩ := e
      exact ⟨rfl, h1⟩
    | succ i => simpa using ih (by simpa using e)
/-- a slot gets a value of plain data; what it held is let go -/
theorem Env.setP {v : V} {d : D} (hv : Dp K B v d) (h : Env K S B H σ es fp) : ∀ (i : Nat), ∃ fp', Env K S B H (σ.set i (some v)) (es.set i (.p d)) fp' ∧ fp'.Sublist fp := by
  induction h with
  | nil => intro i; exact ⟨[], by simpa using Env.nil, List.Sublist.refl _⟩
  | un q ih => intro i; cases i with
    | zero => exact ⟨_, .p hv q, List.Sublist.refl _⟩
    | succ i => obtain ⟨f, a, b⟩ := ih i; exact ⟨f, .un a, b⟩
  | p q1 q ih => intro i; cases i with
    | zero => exact ⟨_, .p hv q, List.Sublist.refl _⟩
    | succ i => obtain ⟨f, a, b⟩ := ih i; exact ⟨f, .p q1 a, b⟩
  | o q1 q2 q ih => intro i; cases i with
    | zero => exact ⟨_, .p hv q, List.sublist_cons_self _ _⟩
    | succ i => obtain ⟨f, a, b⟩ := ih i; exact ⟨_, .o q1 q2 a, b.cons_cons _⟩
  | s q1 q ih => intro i; cases i with
    | zero => exact ⟨_, .p hv q, List.Sublist.refl _⟩
    | succ i => obtain ⟨f, a, b⟩ := ih i; exact ⟨f, .s q1 a, b⟩
  | k q1 q2 q3 q ih => intro i; cases i with
    | zero => exact ⟨_, .p hv q, List.sublist_cons_self _ _⟩
    | succ i => obtain ⟨f, a, b⟩ := ih i; exact ⟨_, .k q1 q2 q3 a, b.cons_cons _⟩
  | x q1 q ih => intro i; cases i with
    | zero => exact ⟨_, .p hv q, List.Sublist.refl _⟩
    | succ i => obtain ⟨f, a, b⟩ := ih i; exact ⟨f, .x q1 a, b⟩
theorem Env.setU (x : Option V) (h : Env K S B H σ es fp) : ∀ (i : Nat), ∃ fp', Env K S B H (σ.set i x) (es.set i .un) fp' ∧ fp'.Sublist fp := by
  induction h with
  | nil => intro i; exact ⟨[], by simpa using Env.nil, List.Sublist.refl _⟩
  | un q ih => intro i; cases i with
    | zero => exact ⟨_, .un q, List.Sublist.refl _⟩
    | succ i => obtain ⟨f, a, b⟩ := ih i; exact ⟨f, .un a, b⟩
  | p q1 q ih => intro i; cases i with
    | zero => exact ⟨_, .un q, List.Sublist.refl _⟩
    | succ i => obtain ⟨f, a, b⟩ := ih i; exact ⟨f, .p q1 a, b⟩
  | o q1 q2 q ih => intro i; cases i with
    | zero => exact ⟨_, .un q, List.sublist_cons_self _ _⟩
    | succ i => obtain ⟨f, a, b⟩ := ih i; exact ⟨_, .o q1 q2 a, b.cons_cons _⟩
  | s q1 q ih => intro i; cases i with
    | zero => exact ⟨_, .un q, List.Sublist.refl _⟩
    | succ i => obtain ⟨f, a, b⟩ := ih i; exact ⟨f, .s q1 a, b⟩
  | k q1 q2 q3 q ih => intro i; cases i with
    | zero => exact ⟨_, .un q, List.sublist_cons_self _ _⟩
    | succ i => obtain ⟨f, a, b⟩ := ih i; exact ⟨_, .k q1 q2 q3 a, b.cons_cons _⟩
  | x q1 q ih => intro i; cases i with
    | zero => exact ⟨_, .un q, List.Sublist.refl _⟩
    | succ i => obtain ⟨f, a, b⟩ := ih i; exact ⟨f, .x q1 a, b⟩
/-- a slot gets the exception that is caught -/
theorem Env.setX {a : Addr} {cls : Value} {d : Option Addr} {y : XD} (hv : XR K B B y cls d) (h : Env K S B H σ es fp) : ∀ (i : Nat), ∃ fp', Env K S B H (σ.set i (some (.ref a))) (es.set i (.x a cls d y)) fp' ∧ fp'.Sublist fp := by
  induction h with
  | nil => intro i; exact ⟨[], by simpa using Env.nil, List.Sublist.refl _⟩
  | un q ih => intro i; cases i with
    | zero => exact ⟨_, .x hv q, List.Sublist.refl _⟩
    | succ i => obtain ⟨f, a, b⟩ := ih i; exact ⟨f, .un a, b⟩
  | p q1 q ih => intro i; cases i with
    | zero => exact ⟨_, .x hv q, List.Sublist.refl _⟩
    | succ i => obtain ⟨f, a, b⟩ := ih i; exact ⟨f, .p q1 a, b⟩
  | o q1 q2 q ih => intro i; cases i with
    | zero => exact ⟨_, .x hv q, List.sublist_cons_self _ _⟩
    | succ i => obtain ⟨f, a, b⟩ := ih i; exact ⟨_, .o q1 q2 a, b.cons_cons _⟩
  | s q1 q ih => intro i; cases i with
    | zero => exact ⟨_, .x hv q, List.Sublist.refl _⟩
    | succ i => obtain ⟨f, a, b⟩ := ih i; exact ⟨f, .s q1 a, b⟩
  | k q1 q2 q3 q ih => intro i; cases i with
    | zero => exact ⟨_, .x hv q, List.sublist_cons_self _ _⟩
    | succ i => obtain ⟨f, a, b⟩ := ih i; exact ⟨_, .k q1 q2 q3 a, b.cons_cons _⟩
  | x q1 q ih => intro i; cases i with
    | zero => exact ⟨_, .x hv q, List.Sublist.refl _⟩
    | succ i => obtain ⟨f, a, b⟩ := ih i; exact ⟨f, .x q1 a, b⟩
/-- a slot gets a list of its own, at an address that no slot owns -/
theorem Env.setO {a : Addr} {xs : List V} {ds : List D} (h1 : H a = some (.lst xs)) (h2 : DpAll K B xs ds) (h : Env K S B H σ es fp) (hf : a ∉ fp) (hd : fp.Nodup) : ∀ (i : Nat), i < es.length → ∃ fp', Env K S B H (σ.set i (some (.ref a))) (es.set i (.o ds)) fp' ∧ fp'.Nodup ∧ ∀ b ∈ fp', b = a ∨ b ∈ fp := by
  induction h with
  | nil => intro i l; simp at l
  | un q ih => intro i l; cases i with
    | zero => exact ⟨_, .o h1 h2 q, List.nodup_cons.mpr ⟨hf, hd⟩, fun b hb => List.mem_cons.mp hb⟩
    | succ i => obtain ⟨f, x, y, z⟩ := ih hf hd i (by simpa using l); exact ⟨f, .un x, y, z⟩
  | p q1 q ih => intro i l; cases i with
    | zero => exact ⟨_, .o h1 h2 q, List.nodup_cons.mpr ⟨hf, hd⟩, fun b hb => List.mem_cons.mp hb⟩
    | succ i => obtain ⟨f, x, y, z⟩ := ih hf hd i (by simpa using l); exact ⟨f, .p q1 x, y, z⟩
  | @o a1 _ _ _ _ _ q1 q2 q ih => intro i l; cases i with
    | zero => exact ⟨_, .o h1 h2 q, List.nodup_cons.mpr ⟨fun z => hf (List.mem_cons_of_mem _ z), (List.nodup_cons.mp hd).2⟩, fun b hb => (List.mem_cons.mp hb).imp_right (List.mem_cons_of_mem _)⟩
    | succ i =>
      obtain ⟨f, x, y, z⟩ := ih (fun z => hf (List.mem_cons_of_mem _ z)) (List.nodup_cons.mp hd).2 i (by simpa using l)
      refine ⟨_, .o q1 q2 x, List.nodup_cons.mpr ⟨fun w => ?_, y⟩, fun b hb => ?_⟩
      · rcases z _ w with e | e
        · exact hf (e ▸ List.mem_cons_self)
        · exact (List.nodup_cons.mp hd).1 e
      · rcases List.mem_cons.mp hb with e | e
        · exact .inr (e ▸ List.mem_cons_self)
        · exact (z b e).imp_right (List.mem_cons_of_mem _)
  | s q1 q ih => intro i l; cases i with
    | zero => exact ⟨_, .o h1 h2 q, List.nodup_cons.mpr ⟨hf, hd⟩, fun b hb => List.mem_cons.mp hb⟩
    | succ i => obtain ⟨f, x, y, z⟩ := ih hf hd i (by simpa using l); exact ⟨f, .s q1 x, y, z⟩
  | @k a1 _ _ _ _ _ _ q1 q2 q3 q ih => intro i l; cases i with
    | zero => exact ⟨_, .o h1 h2 q, List.nodup_cons.mpr ⟨fun z => hf (List.mem_cons_of_mem _ z), (List.nodup_cons.mp hd).2⟩, fun b hb => (List.mem_cons.mp hb).imp_right (List.mem_cons_of_mem _)⟩
    | succ i =>
      obtain ⟨f, x, y, z⟩ := ih (fun z => hf (List.mem_cons_of_mem _ z)) (List.nodup_cons.mp hd).2 i (by simpa using l)
      refine ⟨_, .k q1 q2 q3 x, List.nodup_cons.mpr ⟨fun w => ?_, y⟩, fun b hb => ?_⟩
      · rcases z _ w with e | e
        · exact hf (e ▸ List.mem_cons_self)
        · exact (List.nodup_cons.mp hd).1 e
      · rcases List.mem_cons.mp hb with e | e
        · exact .inr (e ▸ List.mem_cons_self)
        · exact (z b e).imp_right (List.mem_cons_of_mem _)
  | x q1 q ih => intro i l; cases i with
    | zero => exact ⟨_, .o h1 h2 q, List.nodup_cons.mpr ⟨hf, hd⟩, fun b hb => List.mem_cons.mp hb⟩
    | succ i => obtain ⟨f, x, y, z⟩ := ih hf hd i (by simpa using l); exact ⟨f, .x q1 x, y, z⟩
/-- a slot gets a table of its own, at an address that no slot owns -/
theorem Env.setK {a : Addr} {kw : List (Key × V)} {n0 : Nat} {f0 : Str → Option D} (h1 : H a = some (.dK kw)) (h0 : kw.length ≤ n0) (h2 : KOk K B kw f0) (h : Env K S B H σ es fp) (hf : a ∉ fp) (hd : fp.Nodup) : ∀ (i : Nat), i < es.length → ∃ fp', Env K S B H (σ.set i (some (.ref a))) (es.set i (.k n0 f0)) fp' ∧ fp'.Nodup ∧ ∀ b ∈ fp', b = a ∨ b ∈ fp := by
  induction h with
  | nil => intro i l; simp at l
  | un q ih => intro i l; cases i with
    | zero => exact ⟨_, .k h1 h0 h2 q, List.nodup_cons.mpr ⟨hf, hd⟩, fun b hb => List.mem_cons.mp hb⟩
    | succ i => obtain ⟨f, x, y, z⟩ := ih hf hd i (by simpa using l); exact ⟨f, .un x, y, z⟩
  | p q1 q ih => intro i l; cases i with
    | zero => exact ⟨_, .k h1 h0 h2 q, List.nodup_cons.mpr ⟨hf, hd⟩, fun b hb => List.mem_cons.mp hb⟩
    | succ i => obtain ⟨f, x, y, z⟩ := ih hf hd i (by simpa using l); exact ⟨f, .p q1 x, y, z⟩
  | @o a1 _ _ _ _ _ q1 q2 q ih => intro i l; cases i with
    | zero => exact ⟨_, .k h1 h0 h2 q, List.nodup_cons.mpr ⟨fun z => hf (List.mem_cons_of_mem _ z), (List.nodup_cons.mp hd).2⟩, fun b hb => (List.mem_cons.mp hb).imp_right (List.mem_cons_of_mem _)⟩
    | succ i =>
      obtain ⟨f, x, y, z⟩ := ih (fun z => hf (List.mem_cons_of_mem _ z)) (List.nodup_cons.mp hd).2 i (by simpa using l)
      refine ⟨_, .o q1 q2 x, List.nodup_cons.mpr ⟨fun w => ?_, y⟩, fun b hb => ?_⟩
      · rcases z _ w with e | e
        · exact hf (e ▸ List.mem_cons_self)
        · exact (List.nodup_cons.mp hd).1 e
      · rcases List.mem_cons.mp hb with e | e
        · exact .inr (e ▸ List.mem_cons_self)
        · exact (z b e).imp_right (List.mem_cons_of_mem _)
  | s q1 q ih => intro i l; cases i with
    | zero => exact ⟨_, .k h1 h0 h2 q, List.nodup_cons.mpr ⟨hf, hd⟩, fun b hb => List.mem_cons.mp hb⟩
    | succ i => obtain ⟨f, x, y, z⟩ := ih hf hd i (by simpa using l); exact ⟨f, .s q1 x, y, z⟩
  | @k a1 _ _ _ _ _ _ q1 q2 q3 q ih => intro i l; cases i with
    | zero => exact ⟨_, .k h1 h0 h2 q, List.nodup_cons.mpr ⟨fun z => hf (List.mem_cons_of_mem _ z), (List.nodup_cons.mp hd).2⟩, fun b hb => (List.mem_cons.mp hb).imp_right (List.mem_cons_of_mem _)⟩
    | succ i =>
      obtain ⟨f, x, y, z⟩ := ih (fun z => hf (List.mem_cons_of_mem _ z)) (List.nodup_cons.mp hd).2 i (by simpa using l)
      refine ⟨_, .k q1 q2 q3 x, List.nodup_cons.mpr ⟨fun w => ?_, y⟩, fun b hb => ?_⟩
      · rcases z _ w with e | e
        · exact hf (e ▸ List.mem_cons_self)
        · exact (List.nodup_cons.mp hd).1 e
      · rcases List.mem_cons.mp hb with e | e
        · exact .inr (e ▸ List.mem_cons_self)
        · exact (z b e).imp_right (List.mem_cons_of_mem _)
  | x q1 q ih => intro i l; cases i with
    | zero => exact ⟨_, .k h1 h0 h2 q, List.nodup_cons.mpr ⟨hf, hd⟩, fun b hb => List.mem_cons.mp hb⟩
    | succ i => obtain ⟨f, x, y, z⟩ := ih hf hd i (by simpa using l); exact ⟨f, .x q1 x, y, z⟩
/-- the list that a slot owns is changed -/
theorem Env.wrO {xs : List V} {ds : List D} (h2 : DpAll K B xs ds) (h : Env K S B H σ es fp) (hd : fp.Nodup) : ∀ {i : Nat} {ds0 : List D}, es[i]? = some (.o ds0) → ∃ a, σ[i]? = some (some (.ref a)) ∧ a ∈ fp ∧ Env K S B (upd H a (.lst xs)) σ (es.set i (.o ds)) fp := by
  induction h with
  | nil => intro i d e; simp at e
  | un q ih => intro i d e; cases i with
    | zero => simp at e
    | succ i => obtain ⟨a, x, y, z⟩ := ih hd (i := i) (by simpa using e); exact ⟨a, by simpa using x, y, .un z⟩
  | p q1 q ih => intro i d e; cases i with
    | zero => simp at e
    | succ i => obtain ⟨a, x, y, z⟩ := ih hd (i := i) (by simpa using e); exact ⟨a, by simpa using x, y, .p q1 z⟩
  | @o a1 ys cs σ1 es1 fp1 q1 q2 q ih => intro i d e; cases i with
    | zero => exact ⟨a1, rfl, List.mem_cons_self, .o upd_same h2 (q.mono Ex.rfl fun b hb => upd_ne fun z => (List.nodup_cons.mp hd).1 (z ▸ hb))⟩
    | succ i =>
      obtain ⟨a, x, y, z⟩ := ih (List.nodup_cons.mp hd).2 (i := i) (by simpa using e)
      exact ⟨a, by simpa using x, List.mem_cons_of_mem _ y, .o ((upd_ne fun w => (List.nodup_cons.mp hd).1 (by rw [w]; exact y)).trans q1) q2 z⟩
  | s q1 q ih => intro i d e; cases i with
    | zero => simp at e
    | succ i => obtain ⟨a, x, y, z⟩ := ih hd (i := i) (by simpa using e); exact ⟨a, by simpa using x, y, .s q1 z⟩
  | @k a1 _ _ _ _ _ _ q1 q2 q3 q ih => intro i d e; cases i with
    | zero => simp at e
    | succ i =>
      obtain ⟨a, x, y, z⟩ := ih (List.nodup_cons.mp hd).2 (i := i) (by simpa using e)
      exact ⟨a, by simpa using x, List.mem_cons_of_mem _ y, .k ((upd_ne fun w => (List.nodup_cons.mp hd).1 (by rw [w]; exact y)).trans q1) q2 q3 z⟩
  | x q1 q ih => intro i d e; cases i with
    | zero => simp at e
    | succ i => obtain ⟨a, x, y, z⟩ := ih hd (i := i) (by simpa using e); exact ⟨a, by simpa using x, y, .x q1 z⟩
/-- the table that a slot owns is changed -/
theorem Env.wrK {kw : List (Key × V)} {n1 : Nat} {f1 : Str → Option D} (h0 : kw.length ≤ n1) (h2 : KOk K B kw f1) (h : Env K S B H σ es fp) (hd : fp.Nodup) : ∀ {i : Nat} {n0 : Nat} {f0 : Str → Option D}, es[i]? = some (.k n0 f0) → ∃ a, σ[i]? = some (some (.ref a)) ∧ a ∈ fp ∧ Env K S B (upd H a (.dK kw)) σ (es.set i (.k n1 f1)) fp := by
  induction h with
  | nil => intro i n0 f0 e; simp at e
  | un q ih => intro i n0 f0 e; cases i with
    | zero => simp at e
    | succ i => obtain ⟨a, x, y, z⟩ := ih hd (i := i) (by simpa using e); exact ⟨a, by simpa using x, y, .un z⟩
  | p q1 q ih => intro i n0 f0 e; cases i with
    | zero => simp at e
    | succ i => obtain ⟨a, x, y, z⟩ := ih hd (i := i) (by simpa using e); exact ⟨a, by simpa using x, y, .p q1 z⟩
  | @o a1 ys cs σ1 es1 fp1 q1 q2 q ih => intro i n0 f0 e; cases i with
    | zero => simp at e
    | succ i =>
      obtain ⟨a, x, y, z⟩ := ih (List.nodup_cons.mp hd).2 (i := i) (by simpa using e)
      exact ⟨a, by simpa using x, List.mem_cons_of_mem _ y, .o ((upd_ne fun w => (List.nodup_cons.mp hd).1 (by rw [w]; exact y)).trans q1) q2 z⟩
  | s q1 q ih => intro i n0 f0 e; cases i with
    | zero => simp at e
    | succ i => obtain ⟨a, x, y, z⟩ := ih hd (i := i) (by simpa using e); exact ⟨a, by simpa using x, y, .s q1 z⟩
  | @k a1 _ _ _ _ _ _ q1 q2 q3 q ih => intro i n0 f0 e; cases i with
    | zero => exact ⟨a1, rfl, List.mem_cons_self, .k upd_same h0 h2 (q.mono Ex.rfl fun b hb => upd_ne fun z => (List.nodup_cons.mp hd).1 (z ▸ hb))⟩
    | succ i =>
      obtain ⟨a, x, y, z⟩ := ih (List.nodup_cons.mp hd).2 (i := i) (by simpa using e)
      exact ⟨a, by simpa using x, List.mem_cons_of_mem _ y, .k ((upd_ne fun w => (List.nodup_cons.mp hd).1 (by rw [w]; exact y)).trans q1) q2 q3 z⟩
  | x q1 q ih => intro i n0 f0 e; cases i with
    | zero => simp at e
    | succ i => obtain ⟨a, x, y, z⟩ := ih hd (i := i) (by simpa using e); exact ⟨a, by simpa using x, y, .x q1 z⟩
end
end Fw
namespace Fw
variable [Tabs]
open PySem PySem.Spec L2

/-- what a body knows of its heap: from (B0, H0), at its call, to (B, H) -/
structure Sim (K : Fg) (S : SA) (B0 H0 : Hp) (σ : L2.St) (es : En) (B H : Hp) : Prop where
  gs : GrS S B0 H0 B H
  sf : SprF B S
  s0 : ∀ a, S.has a → H0 a ≠ none
  env : ∃ fp, Env K S B H σ es fp ∧ fp.Nodup ∧ ∀ a ∈ fp, B a = none ∧ H0 a = none
section
variable {K : Fg} {S : SA} {B0 H0 B H B' H' : Hp} {σ : L2.St} {es : En}
theorem Sim.bh (s : Sim K S B0 H0 σ es B H) : Ex B H := s.gs.bh
theorem Sim.step (s : Sim K S B0 H0 σ es B H) (g : GrS S B H B' H') : Sim K S B0 H0 σ es B' H' := by
  obtain ⟨fp, e, n, f⟩ := s.env
  refine ⟨s.gs.trans g, ?_, s.s0, fp, e.mono g.bb fun a q => ?_, n, fun a q => ⟨(g.ne a (e.live a q)).trans (f a q).1, (f a q).2⟩⟩
  · exact s.sf.kept fun a q => g.ne a (SprO.get s.gs.sp q)
  · cases c : H a with
    | none => exact absurd c (e.live a q)
    | some o => exact g.hh a o c fun z => s.s0 a z (f a q).2
theorem Sim.gr (s : Sim K S B0 H0 σ es B H) (g : Gr B H B' H') : GrS S B H B' H' := g.s s.gs.sp
theorem Sim.rfl (s : Sim K S B0 H0 σ es B H) : GrS S B H B H := (Gr.rfl s.bh).s s.gs.sp
theorem Sim.setP (s : Sim K S B0 H0 σ es B H) {v : V} {d : D} (h : Dp K B v d) (i : Nat) : Sim K S B0 H0 (σ.set i (some v)) (es.set i (.p d)) B H := by
  obtain ⟨fp, e, n, f⟩ := s.env
  obtain ⟨fp', e', sub⟩ := e.setP h i
  exact ⟨s.gs, s.sf, s.s0, fp', e', sub.nodup n, fun a q => f a (sub.subset q)⟩
theorem Sim.setU (s : Sim K S B0 H0 σ es B H) (x : Option V) (i : Nat) : Sim K S B0 H0 (σ.set i x) (es.set i .un) B H := by
  obtain ⟨fp, e, n, f⟩ := s.env
  obtain ⟨fp', e', sub⟩ := e.setU x i
  exact ⟨s.gs, s.sf, s.s0, fp', e', sub.nodup n, fun a q => f a (sub.subset q)⟩
theorem Sim.setX (s : Sim K S B0 H0 σ es B H) {a : Addr} {cls : Value} {d : Option Addr} {y : XD} (h : XR K B B y cls d) (i : Nat) : Sim K S B0 H0 (σ.set i (some (.ref a))) (es.set i (.x a cls d y)) B H := by
  obtain ⟨fp, e, n, f⟩ := s.env
  obtain ⟨fp', e', sub⟩ := e.setX h i
  exact ⟨s.gs, s.sf, s.s0, fp', e', sub.nodup n, fun a q => f a (sub.subset q)⟩
/-- a new list of the body's own -/
theorem Sim.setO (s : Sim K S B0 H0 σ es B H) {a : Addr} {xs : List V} {ds : List D} (h0 : H0 a = none) (hb : B a = none) (h1 : H a = some (.lst xs)) (h2 : DpAll K B xs ds) (hf : ∀ fp, Env K S B H σ es fp → (∀ b ∈ fp, B b = none ∧ H0 b = none) → ∃ fp', Env K S B H σ es fp' ∧ fp'.Nodup ∧ a ∉ fp' ∧ ∀ b ∈ fp', B b = none ∧ H0 b = none) (i : Nat) (hi : i < es.length) :
    Sim K S B0 H0 (σ.set i (some (.ref a))) (es.set i (.o ds)) B H := by
  obtain ⟨fp, e, n, f⟩ := s.env
  obtain ⟨fq, e, n, nf, f⟩ := hf fp e f
  obtain ⟨fp', e', n', sub⟩ := e.setO h1 h2 nf n i hi
  refine ⟨s.gs, s.sf, s.s0, fp', e', n', fun b q => ?_⟩
  rcases sub b q with rfl | q
  · exact ⟨hb, h0⟩
  · exact f b q
/-- a list is laid anew and taken by a slot -/
theorem Sim.newO (s : Sim K S B0 H0 σ es B H) {a : Addr} {xs : List V} {ds : List D} (hn : H a = none) (h2 : DpAll K B xs ds) (i : Nat) (hi : i < es.length) :
    Sim K S B0 H0 (σ.set i (some (.ref a))) (es.set i (.o ds)) B (upd H a (.lst xs)) := by
  have s1 := s.step (s.gr (Gr.own (o := .lst xs) s.bh hn))
  have h0 : H0 a = none := by
    cases e : H0 a with
    | none => rfl
    | some o => exact absurd hn (s.gs.ex (by rw [e]; exact fun z => nomatch z))
  refine s1.setO h0 (s.bh.back hn) upd_same h2 (fun _ _ _ => ?_) i hi
  obtain ⟨fp, e, n, f⟩ := s.env
  have na : a ∉ fp := fun z => e.live a z hn
  exact ⟨fp, e.mono Ex.rfl fun b q => upd_ne fun z => na (z ▸ q), n, na, f⟩
/-- the list of a slot becomes another one -/
theorem Sim.wrO (s : Sim K S B0 H0 σ es B H) {xs : List V} {ds ds0 : List D} (h2 : DpAll K B xs ds) {i : Nat} (hi : es[i]? = some (.o ds0)) {a : Addr} (ha : σ[i]? = some (some (.ref a))) :
    Sim K S B0 H0 σ (es.set i (.o ds)) B (upd H a (.lst xs)) := by
  obtain ⟨fp, e, n, f⟩ := s.env
  obtain ⟨a', q1, q2, q3⟩ := e.wrO h2 n hi
  rw [ha] at q1
  obtain rfl : a = a' := by injection (Option.some.inj q1)  with z; injection z
  have fa := f a q2
  have nS : ¬ S.has a := fun z => s.s0 a z fa.2
  refine ⟨⟨s.gs.bb, fun b o h0 hs => ?_, fun b o hb => ?_, s.gs.ne, s.gs.sp.kept fun b hb => upd_ne fun z => nS (z ▸ hb)⟩, s.sf, s.s0, fp, q3, n, f⟩
  · rw [upd_ne fun z => by rw [z, fa.2] at h0; cases h0]
    exact s.gs.hh b o h0 hs
  · rw [upd_ne fun z => by rw [z, fa.1] at hb; cases hb]
    exact s.gs.bh b o hb
/-- a new table of the body's own -/
theorem Sim.setK (s : Sim K S B0 H0 σ es B H) {a : Addr} {kw : List (Key × V)} {n1 : Nat} {f1 : Str → Option D} (h0 : H0 a = none) (hb : B a = none) (h1 : H a = some (.dK kw)) (hz : kw.length ≤ n1) (h2 : KOk K B kw f1) (hf : ∀ fp, Env K S B H σ es fp → (∀ b ∈ fp, B b = none ∧ H0 b = none) → ∃ fp', Env K S B H σ es fp' ∧ fp'.Nodup ∧ a ∉ fp' ∧ ∀ b ∈ fp', B b = none ∧ H0 b = none) (i : Nat) (hi : i < es.length) :
    Sim K S B0 H0 (σ.set i (some (.ref a))) (es.set i (.k n1 f1)) B H := by
  obtain ⟨fp, e, n, f⟩ := s.env
  obtain ⟨fq, e, n, nf, f⟩ := hf fp e f
  obtain ⟨fp', e', n', sub⟩ := e.setK h1 hz h2 nf n i hi
  refine ⟨s.gs, s.sf, s.s0, fp', e', n', fun b q => ?_⟩
  rcases sub b q with rfl | q
  · exact ⟨hb, h0⟩
  · exact f b q
/-- a table is laid anew and taken by a slot -/
theorem Sim.newK (s : Sim K S B0 H0 σ es B H) {a : Addr} {kw : List (Key × V)} {n1 : Nat} {f1 : Str → Option D} (hn : H a = none) (hz : kw.length ≤ n1) (h2 : KOk K B kw f1) (i : Nat) (hi : i < es.length) :
    Sim K S B0 H0 (σ.set i (some (.ref a))) (es.set i (.k n1 f1)) B (upd H a (.dK kw)) := by
  have s1 := s.step (s.gr (Gr.own (o := .dK kw) s.bh hn))
  have h0 : H0 a = none := by
    cases e : H0 a with
    | none => rfl
    | some o => exact absurd hn (s.gs.ex (by rw [e]; exact fun z => nomatch z))
  refine s1.setK h0 (s.bh.back hn) upd_same hz h2 (fun _ _ _ => ?_) i hi
  obtain ⟨fp, e, n, f⟩ := s.env
  have na : a ∉ fp := fun z => e.live a z hn
  exact ⟨fp, e.mono Ex.rfl fun b q => upd_ne fun z => na (z ▸ q), n, na, f⟩
/-- the table of a slot becomes another one -/
theorem Sim.wrK (s : Sim K S B0 H0 σ es B H) {kw : List (Key × V)} {n1 n0 : Nat} {f1 f0 : Str → Option D} (hz : kw.length ≤ n1) (h2 : KOk K B kw f1) {i : Nat} (hi : es[i]? = some (.k n0 f0)) {a : Addr} (ha : σ[i]? = some (some (.ref a))) :
    Sim K S B0 H0 σ (es.set i (.k n1 f1)) B (upd H a (.dK kw)) := by
  obtain ⟨fp, e, n, f⟩ := s.env
  obtain ⟨a', q1, q2, q3⟩ := e.wrK hz h2 n hi
  rw [ha] at q1
  obtain rfl : a = a' := by injection (Option.some.inj q1)  with z; injection z
  have fa := f a q2
  have nS : ¬ S.has a := fun z => s.s0 a z fa.2
  refine ⟨⟨s.gs.bb, fun b o h0 hs => ?_, fun b o hb => ?_, s.gs.ne, s.gs.sp.kept fun b hb => upd_ne fun z => nS (z ▸ hb)⟩, s.sf, s.s0, fp, q3, n, f⟩
  · rw [upd_ne fun z => by rw [z, fa.2] at h0; cases h0]
    exact s.gs.hh b o h0 hs
  · rw [upd_ne fun z => by rw [z, fa.1] at hb; cases hb]
    exact s.gs.bh b o hb
/-- the list of a slot is taken up by the plain data: nothing writes it any more -/
theorem Env.frz {fp : List Addr} (h : Env K S B H σ es fp) (n : fp.Nodup) : ∀ {i : Nat} {ds : List D}, es[i]? = some (.o ds) → ∃ a xs fp', σ[i]? = some (some (.ref a)) ∧ H a = some (.lst xs) ∧ DpAll K B xs ds ∧ a ∈ fp ∧ a ∉ fp' ∧ fp'.Sublist fp ∧
    (∀ B', Ex B B' → Dp K B' (.ref a) (.list ds) → Env K S B' H σ (es.set i (.p (.list ds))) fp') := by
  induction h with
  | nil => intro i ds e; simp at e
  | un q ih => intro i ds e; cases i with
    | zero => simp at e
    | succ i =>
      obtain ⟨a, xs, f, h1, h2, h3, h4, h5, h6, h7⟩ := ih n (i := i) (by simpa using e)
      exact ⟨a, xs, f, by simpa using h1, h2, h3, h4, h5, h6, fun B' x y => .un (h7 B' x y)⟩
  | p q1 q ih => intro i ds e; cases i with
    | zero => simp at e
    | succ i =>
      obtain ⟨a, xs, f, h1, h2, h3, h4, h5, h6, h7⟩ := ih n (i := i) (by simpa using e)
      exact ⟨a, xs, f, by simpa using h1, h2, h3, h4, h5, h6, fun B' x y => .p (x.dp q1) (h7 B' x y)⟩
  | o q1 q2 q ih => intro i ds e; cases i with
    | zero =>
      simp at e
      subst e
      exact ⟨_, _, _, rfl, q1, q2, List.mem_cons_self, (List.nodup_cons.mp n).1, List.sublist_cons_self _ _, fun B' x y => .p y (q.mono x fun _ _ => rfl)⟩
    | succ i =>
      obtain ⟨a, xs, f, h1, h2, h3, h4, h5, h6, h7⟩ := ih (List.nodup_cons.mp n).2 (i := i) (by simpa using e)
      refine ⟨a, xs, _, by simpa using h1, h2, h3, List.mem_cons_of_mem _ h4, fun z => ?_, h6.cons_cons _, fun B' x y => .o q1 (x.dps q2) (h7 B' x y)⟩
      rcases List.mem_cons.mp z with z | z
      · exact (List.nodup_cons.mp n).1 (z ▸ h4)
      · exact h5 z
  | s q1 q ih => intro i ds e; cases i with
    | zero => simp at e
    | succ i =>
      obtain ⟨a, xs, f, h1, h2, h3, h4, h5, h6, h7⟩ := ih n (i := i) (by simpa using e)
      exact ⟨a, xs, f, by simpa using h1, h2, h3, h4, h5, h6, fun B' x y => .s q1 (h7 B' x y)⟩
  | k q1 q2 q3 q ih => intro i ds e; cases i with
    | zero => simp at e
    | succ i =>
      obtain ⟨a, xs, f, h1, h2, h3, h4, h5, h6, h7⟩ := ih (List.nodup_cons.mp n).2 (i := i) (by simpa using e)
      refine ⟨a, xs, _, by simpa using h1, h2, h3, List.mem_cons_of_mem _ h4, fun z => ?_, h6.cons_cons _, fun B' x y => .k q1 q2 (fun w => (q3 w).mono x) (h7 B' x y)⟩
      rcases List.mem_cons.mp z with z | z
      · exact (List.nodup_cons.mp n).1 (z ▸ h4)
      · exact h5 z
  | x q1 q ih => intro i ds e; cases i with
    | zero => simp at e
    | succ i =>
      obtain ⟨a, xs, f, h1, h2, h3, h4, h5, h6, h7⟩ := ih n (i := i) (by simpa using e)
      exact ⟨a, xs, f, by simpa using h1, h2, h3, h4, h5, h6, fun B' x y => .x (q1.mono x) (h7 B' x y)⟩
theorem Sim.frz (s : Sim K S B0 H0 σ es B H) {i : Nat} {ds : List D} (hi : es[i]? = some (.o ds)) : ∃ B', Ex B B' ∧ Sim K S B0 H0 σ (es.set i (.p (.list ds))) B' H := by
  obtain ⟨fp, e, n, f⟩ := s.env
  obtain ⟨a, xs, fp', h1, h2, h3, h4, h5, h6, h7⟩ := e.frz n hi
  have fa := f a h4
  have eb : Ex B (upd B a (.lst xs)) := Ex.new fa.1
  have nS : ¬ S.has a := fun z => s.s0 a z fa.2
  have dp : Dp K (upd B a (.lst xs)) (.ref a) (.list ds) := .lst (SqL.of upd_same) (eb.dps h3)
  have nu : ∀ b, b ≠ a → upd B a (.lst xs) b = B b := fun b z => upd_ne z
  refine ⟨_, eb, ⟨s.gs.bb.trans eb, s.gs.hh, fun b o q => ?_, fun b q => ?_, s.gs.sp⟩, ?_, s.s0, fp', h7 _ eb dp, h6.nodup n, fun b q => ?_⟩
  · by_cases c : b = a
    · subst c
      rw [upd_same] at q
      rw [h2]; exact q
    · rw [upd_ne c] at q
      exact s.gs.bh b o q
  · have c : b ≠ a := fun z => q (z ▸ fa.2)
    rw [upd_ne c]
    exact s.gs.ne b q
  · exact s.sf.kept fun b q => nu b fun z => nS (z ▸ q)
  · have c : b ≠ a := fun z => h5 (z ▸ q)
    rw [upd_ne c]
    exact f b (h6.subset q)
end

/-! ### readings over data -/
abbrev XP := XD → Prop
abbrev DE := En → (D → Prop) → XP → Prop
abbrev DT := En → (Bool → Prop) → XP → Prop
abbrev DA := En → (List D → Prop) → XP → Prop
structure Eo where
  nx : En → Prop
  rt : D → Prop
  bk : En → Prop := fun _ => False
  ct : En → Prop := fun _ => False
  xx : XD → En → Prop
abbrev DS := Eo → En → Prop

structure SE (K : Fg) (W : WX) (te : TE) (me : DE) : Prop where
  run : ∀ {S : SA} {B0 H0 B H : Hp} {σ : L2.St} {es : En}, Sim K S B0 H0 σ es B H → ∀ (P : D → Prop) (X : XP) (Q : VK), me es P X →
    (∀ d v B' H', P d → GrS S B H B' H' → Dp K B' v d → Q v H') → (∀ x cls dd B' H', X x → GrS S B H B' H' → XR K B' H' x cls dd → W cls dd σ H') → te σ H Q
structure ST (K : Fg) (W : WX) (te : TT) (me : DT) : Prop where
  run : ∀ {S : SA} {B0 H0 B H : Hp} {σ : L2.St} {es : En}, Sim K S B0 H0 σ es B H → ∀ (P : Bool → Prop) (X : XP) (Q : Bool → Hp → Prop), me es P X →
    (∀ b B' H', P b → GrS S B H B' H' → Q b H') → (∀ x cls dd B' H', X x → GrS S B H B' H' → XR K B' H' x cls dd → W cls dd σ H') → te σ H Q
structure SAr (K : Fg) (W : WX) (te : TA) (me : DA) : Prop where
  run : ∀ {S : SA} {B0 H0 B H : Hp} {σ : L2.St} {es : En}, Sim K S B0 H0 σ es B H → ∀ (P : List D → Prop) (X : XP) (Q : List V → Hp → Prop), me es P X →
    (∀ ds vs B' H', P ds → GrS S B H B' H' → DpAll K B' vs ds → Q vs H') → (∀ x cls dd B' H', X x → GrS S B H B' H' → XR K B' H' x cls dd → W cls dd σ H') → te σ H Q
structure SS (K : Fg) (W : WX) (ts : TS) (ms : DS) : Prop where
  run : ∀ {S : SA} {B0 H0 B H : Hp} {σ : L2.St} {es : En}, Sim K S B0 H0 σ es B H → ∀ (E : Eo) (Z : Ends), ms E es →
    (∀ σ' es' B' H', E.nx es' → Sim K S B0 H0 σ' es' B' H' → Ex B B' → Z.nx σ' H') → (∀ σ' es' d v B' H', E.rt d → Sim K S B0 H0 σ' es' B' H' → Dp K B' v d → Z.rt v H') →
    (∀ σ' es' B' H', E.bk es' → Sim K S B0 H0 σ' es' B' H' → Ex B B' → Z.bk σ' H') → (∀ σ' es' B' H', E.ct es' → Sim K S B0 H0 σ' es' B' H' → Ex B B' → Z.ct σ' H') →
    (∀ x cls dd σ' es' B' H', E.xx x es' → Sim K S B0 H0 σ' es' B' H' → Ex B B' → XR K B' H' x cls dd → W cls dd σ' H') → ts Z σ H
/-- a target: it takes a value of plain data -/
abbrev DG := D → En → (En → Prop) → Prop
abbrev DGs := List D → En → (En → Prop) → Prop
structure SG (K : Fg) (tg : TG) (mg : DG) (vs : List Nat) : Prop where
  run : ∀ {S : SA} {B0 H0 B H : Hp} {σ : L2.St} {es : En} {v : V} {d : D}, Sim K S B0 H0 σ es B H → Dp K B v d → ∀ (P : En → Prop) (Q : L2.St → Hp → Prop), mg d es P →
    (∀ σ' es', P es' → Sim K S B0 H0 σ' es' B H → (∀ ws, vs ⊆ ws → wipe σ' ws = wipe σ ws) → Q σ' H) → tg v σ H Q
structure SGs (K : Fg) (tg : TGs) (mg : DGs) (vs : List Nat) : Prop where
  run : ∀ {S : SA} {B0 H0 B H : Hp} {σ : L2.St} {es : En} {us : List V} {ds : List D}, Sim K S B0 H0 σ es B H → DpAll K B us ds → ∀ (P : En → Prop) (Q : L2.St → Hp → Prop), mg ds es P →
    (∀ σ' es', P es' → Sim K S B0 H0 σ' es' B H → (∀ ws, vs ⊆ ws → wipe σ' ws = wipe σ ws) → Q σ' H) → tg us σ H Q

/-- a piece of syntax and its reading over data -/
def XE (X : Cx) (K : Fg) (W : WX) (e : Expr) (te : TE) (me : DE) : Prop := PE X e te ∧ SE K W te me
def XT (X : Cx) (K : Fg) (W : WX) (e : Expr) (te : TT) (me : DT) : Prop := PT X e te ∧ ST K W te me
def XW (X : Cx) (K : Fg) (W : WX) (e : Expr) (te : TT) (me : DT) : Prop := PW X e te ∧ ST K W te me
def XA (X : Cx) (K : Fg) (W : WX) (es : List Expr) (te : TA) (me : DA) : Prop := PA X es te ∧ SAr K W te me
def XK' (X : Cx) (K : Fg) (W : WX) (es : List Keyword) (te : TA) (me : DA) : Prop := PK X es te ∧ SAr K W te me
def XS (X : Cx) (K : Fg) (W : WX) (s : Stmt) (ts : TS) (ms : DS) : Prop := PS X s ts ∧ SS K W ts ms
def XB (X : Cx) (K : Fg) (W : WX) (s : List Stmt) (ts : TS) (ms : DS) : Prop := PSs X s ts ∧ SS K W ts ms
def XG (X : Cx) (K : Fg) (e : Expr) (tg : TG) (mg : DG) (vs : List Nat) : Prop := PG X e tg ∧ SG K tg mg vs
def XGs (X : Cx) (K : Fg) (es : List Expr) (tg : TGs) (mg : DGs) (vs : List Nat) : Prop := PGs X es tg ∧ SGs K tg mg vs
/-- .. whose answer is a list that nobody else has -/
structure SN (K : Fg) (W : WX) (te : TE) (mn : DA) : Prop where
  run : ∀ {S : SA} {B0 H0 B H : Hp} {σ : L2.St} {es : En}, Sim K S B0 H0 σ es B H → ∀ (P : List D → Prop) (X : XP) (Q : VK), mn es P X →
    (∀ ds p xs B' H', P ds → GrS S B H B' H' → H p = none → B' p = none → H' p = some (.lst xs) → DpAll K B' xs ds → Q (.ref p) H') → (∀ x cls dd B' H', X x → GrS S B H B' H' → XR K B' H' x cls dd → W cls dd σ H') → te σ H Q
def XN (X : Cx) (K : Fg) (W : WX) (e : Expr) (te : TE) (mn : DA) : Prop := PE X e te ∧ SN K W te mn
/-- a pair of grown heaps, the new list then taken up -/
theorem GrS.frz {S : SA} {B H B' H' : Hp} {p : Addr} {xs : List V} (g : GrS S B H B' H') (hn : H p = none) (hb : B' p = none) (h : H' p = some (.lst xs)) : GrS S B H (upd B' p (.lst xs)) H' :=
  ⟨g.bb.trans (Ex.new hb), g.hh, fun a o q => by
    by_cases c : a = p
    · subst c
      rw [upd_same] at q
      rw [h]; exact q
    · rw [upd_ne c] at q
      exact g.bh a o q, fun a q => by
    have c : a ≠ p := fun z => q (z ▸ hn)
    rw [upd_ne c]
    exact g.ne a q, g.sp⟩
def dNew (mn : DA) : DE := fun es P X => mn es (fun ds => P (.list ds)) X
theorem se_new {K : Fg} {W : WX} {te : TE} {mn : DA} (h : SN K W te mn) : SE K W te (dNew mn) := ⟨fun s P X Q q k kx => h.run s _ X _ q (fun ds p xs B' H' hp g hn hb hh dp =>
  k _ _ _ _ hp (g.frz hn hb hh) (.lst (SqL.of upd_same) ((Ex.new hb).dps dp))) kx⟩
theorem xe_new {X : Cx} {K : Fg} {W : WX} {e : Expr} {te : TE} {mn : DA} (h : XN X K W e te mn) : XE X K W e te (dNew mn) := ⟨h.1, se_new h.2⟩

/-! ### names, constants -/
def dVar (i : Nat) : DE := fun es P _ => ∃ d, es[i]? = some (.p d) ∧ P d
def dC (d : D) : DE := fun _ P _ => P d
theorem se_var {K : Fg} {W : WX} {i : Nat} : SE K W (tVar i) (dVar i) := ⟨fun s P X Q h k _ => by
  obtain ⟨d, e, p⟩ := h
  obtain ⟨fp, env, _⟩ := s.env
  obtain ⟨v, e2, dp⟩ := env.getP e
  exact ⟨v, e2, k d v _ _ p s.rfl dp⟩⟩
theorem se_c {K : Fg} {W : WX} {v : V} {d : D} (h : ∀ B, Dp K B v d) : SE K W (tC v) (dC d) := ⟨fun s P X Q h2 k _ => k d v _ _ h2 s.rfl (h _)⟩
section
variable {X : Cx} {K : Fg} {W : WX} {pos : Pos}
theorem xe_var (i : Nat) {x : Str} (hN : X.N[i]? = some x := by rfl) (hv : Vis X.env.scope x := by first | exact Or.inl rfl | exact Or.inr (Or.inl rfl) | exact Or.inr (Or.inr rfl)) (hd : (x == ("__debug__" : Str)) = false := by decide)
    (hcd : (x == ("__classdict__" : Str)) = false := by decide) : XE X K W (.Name x pos) (tVar i) (dVar i) := ⟨pe_var hN hv hd hcd, se_var⟩
theorem xe_int {i : Int} {j : Nat} : XE X K W (.Constant (.int i) j pos) (tC (.int i)) (dC (.int i)) := ⟨pe_int, se_c fun _ => .int i⟩
theorem xe_bl {b : Bool} {j : Nat} : XE X K W (.Constant (.bool b) j pos) (tC (.bl b)) (dC (.bool b)) := ⟨pe_bl, se_c fun _ => .bl b⟩
theorem xe_non {j : Nat} : XE X K W (.Constant .none j pos) (tC .non) (dC .none) := ⟨pe_non, se_c fun _ => .non⟩
theorem xe_str {x : Str} {j : Nat} : XE X K W (.Constant (.str x) j pos) (tC (.str x)) (dC (.str x)) := ⟨pe_str, se_c fun _ => .str x⟩
theorem xe_glob {x : Str} {v : V} {d : D} {u : Value} (hm : X.mg x = some u) (r : RelV v u) (h : ∀ B, Dp K B v d) (hg : Gl X x := by rfl) (hd : (x == ("__debug__" : Str)) = false := by decide) : XE X K W (.Name x pos) (tC v) (dC d) := ⟨pe_glob hg hm r hd, se_c h⟩
end
end Fw
namespace Fw
variable [Tabs]
open PySem PySem.Spec L2

/-- what a body's derivation leans on -/
structure Ctx (X : Cx) (K : Fg) (W : WX) (k : Nat) : Prop where
  hK : X.K = K
  tk : Takes X W
  po : PassesOwn (model X.prog X.w) X.A X.env X.xe
  hr : Room k X.A
  calm : X.calm = true
  nd : X.N.Nodup

/-! ### operations on two values -/
abbrev D2 := D → D → (D → Prop) → Prop
structure RS (K : Fg) (r : R2) (rd : D2) : Prop where
  run : ∀ {B H : Hp} {x y : V} {dx dy : D}, Ex B H → Dp K B x dx → Dp K B y dy → ∀ (P : D → Prop) (Q : VK), rd dx dy P → (∀ d v B' H', P d → Gr B H B' H' → Dp K B' v d → Q v H') → r x y H Q
def dOp (rd : D2) (ma mb : DE) : DE := fun es P X => ma es (fun a => mb es (fun b => rd a b P) X) X
theorem se_op {K : Fg} {W : WX} {r : R2} {rd : D2} {ta tb : TE} {ma mb : DE} (hr : RS K r rd) (ha : SE K W ta ma) (hb : SE K W tb mb) : SE K W (tOp r ta tb) (dOp rd ma mb) := ⟨fun s P X Q h k kx => by
  refine ha.run s _ X _ h (fun a v B1 H1 h1 g1 d1 => ?_) kx
  refine hb.run (s.step g1) _ X _ h1 (fun b u B2 H2 h2 g2 d2 => ?_) (fun x c dd B' H' hx g r => kx x c dd B' H' hx (g1.trans g) r)
  exact hr.run g2.bh (g2.bb.dp d1) d2 P Q h2 fun d z B3 H3 p g3 d3 => k d z B3 H3 p (g1.trans (g2.trans ((s.step (g1.trans g2)).gr g3))) d3⟩
theorem RS.or {K : Fg} {r r' : R2} {rd rd' : D2} (a : RS K r rd) (b : RS K r' rd') : RS K (fun x y H Q => r x y H Q ∨ r' x y H Q) (fun x y P => rd x y P ∨ rd' x y P) := ⟨fun e h1 h2 P Q h k => by
  rcases h with h | h
  · exact .inl (a.run e h1 h2 P Q h k)
  · exact .inr (b.run e h1 h2 P Q h k)⟩
theorem opr_or {X : Cx} {f : Value → Value → Sem Value} {r r' : R2} (a : OpR X f r) (b : OpR X f r') : OpR X f (fun x y H Q => r x y H Q ∨ r' x y H Q) := fun pins s σ H x y v u Q I rx ry h => by
  rcases h with h | h
  · exact a pins s σ H x y v u Q I rx ry h
  · exact b pins s σ H x y v u Q I rx ry h

/-- two ints -/
def dI (C : Int → Int → Prop) (g : Int → Int → D) : D2
  | .int i, .int j, P => C i j ∧ P (g i j)
  | _, _, _ => False
theorem rs_I {K : Fg} {C : Int → Int → Prop} {g : Int → Int → V} {gd : Int → Int → D} (h : ∀ B i j, Dp K B (g i j) (gd i j)) : RS K (rI C g) (dI C gd) := ⟨fun {B H x y dx dy} e h1 h2 P Q q k => by
  cases h1 <;> cases h2 <;> try exact q.elim
  exact ⟨_, _, rfl, rfl, q.1, k _ _ _ _ q.2 (Gr.rfl e) (h _ _ _)⟩⟩
theorem rs_I0 {K : Fg} {g : Int → Int → V} {gd : Int → Int → D} (h : ∀ B i j, Dp K B (g i j) (gd i j)) : RS K (rI0 g) (dI (fun _ _ => True) gd) := ⟨fun {B H x y dx dy} e h1 h2 P Q q k => by
  cases h1 <;> cases h2 <;> try exact q.elim
  exact ⟨_, _, rfl, rfl, k _ _ _ _ q.2 (Gr.rfl e) (h _ _ _)⟩⟩
theorem RS.of {K : Fg} {r : R2} {rd rd' : D2} (a : RS K r rd) (h : ∀ x y P, rd' x y P → rd x y P) : RS K r rd' := ⟨fun e h1 h2 P Q q k => a.run e h1 h2 P Q (h _ _ _ q) k⟩

/-! #### + -/
def dAdd : D2
  | .int i, .int j, P => P (.int (i + j))
  | .str a, .str b, P => a.length + b.length ≤ 16777216 ∧ P (.str (a ++ b))
  | .list a, .list b, P => a.length + b.length ≤ 16777216 ∧ P (.list (a ++ b))
  | .tuple a, .tuple b, P => a.length + b.length ≤ 16777216 ∧ P (.tuple (a ++ b))
  | _, _, _ => False
def rStrs : R2 := fun x y H Q => ∃ i j, x = .str i ∧ y = .str j ∧ i.length + j.length ≤ sizeLine ∧ Q (.str (i ++ j)) H
def rLists (K : Fg) : R2 := fun x y H Q => ∃ l b xs zs, x = .ref l ∧ y = .ref b ∧ SqL K H l xs ∧ SqL K H b zs ∧ xs.length + zs.length ≤ sizeLine ∧ ∀ p, H p = none → Q (.ref p) (upd H p (.lst (xs ++ zs)))
theorem op_lists {X : Cx} : OpR X (binaryOp .Add) (rLists X.K) := by
  intro pins s σ H x y v u Q I rx ry h
  obtain ⟨l, b, xs, zs, rfl, rfl, hH, hB, hz, q⟩ := h
  cases rx
  cases ry
  obtain ⟨its, r, ⟨⟨cls, dd, data, sl⟩, n, ho, hc, _, hd⟩, z⟩ := I.list hH
  obtain ⟨its2, r2, ⟨⟨cls2, dd2, data2, sl2⟩, n2, ho2, hc2, _, hd2⟩, z2⟩ := I.list hB
  simp only at hc hd hc2 hd2
  subst hc hd hc2 hd2
  have hl := r.length
  have hl2 := r2.length
  have e : its.toArray ++ its2.toArray = (its ++ its2).toArray := by simp
  refine concat_meets ⟨_, ho, rfl⟩ ⟨_, ho2, rfl⟩ noFill_list_add seq_list_add PySem.F.slot_list_add PySem.F.entry_list_add (PySem.F.args_list_add_2 _ _)
    (PyProof.Rows.list_addW l b its.toArray its2.toArray n n2 dd dd2 sl sl2 (by rw [List.size_toArray, List.size_toArray]; omega)) ⟨ho, ho2, ?_⟩
  rw [e]
  exact ⟨.ref _, _, I.lnew (t' := s.toks) (r.append r2) (by rw [List.length_append]; omega), rfl, q _ I.fresh⟩
theorem sz_eq : sizeLine = 16777216 := by decide
def rAddA (K : Fg) : R2 := fun x y H Q => (rI0 (fun i j => .int (i + j))) x y H Q ∨ (rStrs x y H Q ∨ (rLists K x y H Q ∨ rCatA K x y H Q))
theorem op_addA {X : Cx} : OpR X (binaryOp .Add) (rAddA X.K) := opr_or op_add (opr_or op_add_str (opr_or op_lists op_catA))
theorem rs_add {K : Fg} : RS K (rAddA K) dAdd := ⟨fun {B H x y dx dy} e h1 h2 P Q q k => by
  cases h1 <;> cases h2 <;> try exact q.elim
  · exact .inl ⟨_, _, rfl, rfl, k _ _ _ _ q (Gr.rfl e) (.int _)⟩
  · exact .inr (.inl ⟨_, _, rfl, rfl, by rw [sz_eq]; exact q.1, k _ _ _ _ q.2 (Gr.rfl e) (.str _)⟩)
  · rename_i a xs ds s1 t1 b ys es s2 t2
    have l1 := dps_len t1
    have l2 := dps_len t2
    refine .inr (.inr (.inl ⟨_, _, _, _, rfl, rfl, e.sqL s1, e.sqL s2, by rw [sz_eq, l1, l2]; exact q.1, fun p hp => ?_⟩))
    exact k _ _ _ _ q.2 (Gr.new e hp) (.lst (SqL.of upd_same) (dps_app ((Ex.new (e.back hp)).dps t1) ((Ex.new (e.back hp)).dps t2)))
  · rename_i a xs ds s1 t1 b ys es s2 t2
    have l1 := dps_len t1
    have l2 := dps_len t2
    refine .inr (.inr (.inr ⟨_, _, _, _, rfl, rfl, e.sqT s1, e.sqT s2, by rw [sz_eq, l1, l2]; exact q.1, fun z => ?_, fun _ z => ?_, fun _ _ p hp => ?_⟩))
    · subst z
      cases t1
      exact k _ _ _ _ q.2 (Gr.rfl e) (.tup s2 t2)
    · subst z
      cases t2
      have q2 := q.2
      rw [List.append_nil] at q2
      exact k _ _ _ _ q2 (Gr.rfl e) (.tup s1 t1)
    · exact k _ _ _ _ q.2 (Gr.new e hp) (.tup (SqT.of upd_same) (dps_app ((Ex.new (e.back hp)).dps t1) ((Ex.new (e.back hp)).dps t2)))⟩

/-! #### - * // % ** of ints -/
def dSub : D2 := dI (fun _ _ => True) fun i j => .int (i - j)
def MulOk (i j : Int) : Prop := IntMulOk i j
def dMul : D2 := dI MulOk fun i j => .int (i * j)
def DivOk (_ j : Int) : Prop := j ≠ 0 ∧ j.natAbs.log2 < 9000
def dFdiv : D2 := dI DivOk fun i j => .int (i.fdiv j)
def dMod : D2 := dI (fun _ j => j ≠ 0) fun i j => .int (i.fmod j)
def dPow : D2 := dI CPow fun i j => .int (i ^ j.toNat)
theorem op_mulG {X : Cx} : OpR X (binaryOp .Mult) (rI MulOk fun i j => .int (i * j)) := opI fun _ _ _ _ _ _ _ hc q => PyProof.Rows.mul_int q hc
theorem op_fdivG {X : Cx} : OpR X (binaryOp .FloorDiv) (rI DivOk fun i j => .int (i.fdiv j)) := opI fun _ _ _ _ _ _ _ hc q => PyProof.Rows.floordiv_int hc.1 q (.inl (PyProof.noPylong_of_log2 hc.2))
theorem rs_sub {K : Fg} : RS K (rI0 fun i j => .int (i - j)) dSub := rs_I0 fun _ _ _ => .int _
theorem rs_mul {K : Fg} : RS K (rI MulOk fun i j => .int (i * j)) dMul := rs_I fun _ _ _ => .int _
theorem rs_fdiv {K : Fg} : RS K (rI DivOk fun i j => .int (i.fdiv j)) dFdiv := rs_I fun _ _ _ => .int _
theorem rs_mod {K : Fg} : RS K (rI (fun _ j => j ≠ 0) fun i j => .int (i.fmod j)) dMod := rs_I fun _ _ _ => .int _
theorem rs_pow {K : Fg} : RS K (rI CPow fun i j => .int (i ^ j.toNat)) dPow := rs_I fun _ _ _ => .int _
theorem MulOk.l {i j : Int} (h : -(2 ^ 64) < i ∧ i < 2 ^ 64) : MulOk i j := CMul.ok (.inl h)
theorem MulOk.r {i j : Int} (h : -(2 ^ 64) < j ∧ j < 2 ^ 64) : MulOk i j := CMul.ok (.inr h)
theorem MulOk.w {i j : Int} {a b : Nat} (ha : i.natAbs < 2 ^ a) (hb : j.natAbs < 2 ^ b) (h0 : 0 < a) (h1 : 0 < b) (h : a + b ≤ 1000000) : MulOk i j := (wide_mul ha hb h0 h1 h).ok
theorem DivOk.w {i j : Int} {b : Nat} (h : j ≠ 0) (hb : j.natAbs < 2 ^ b) (h0 : 0 < b) (h9 : b ≤ 9000) : DivOk i j := ⟨h, Nat.lt_of_lt_of_le (PySem.Flt.log2_lt_of h0 hb) h9⟩

/-! #### comparisons -/
def dLt : D2 := dI (fun _ _ => True) fun i j => .bool (decide (i < j))
def dLe : D2 := dI (fun _ _ => True) fun i j => .bool (decide (i ≤ j))
def dGt : D2 := dI (fun _ _ => True) fun i j => .bool (decide (j < i))
def dGe : D2 := dI (fun _ _ => True) fun i j => .bool (decide (j ≤ i))
theorem rs_lt {K : Fg} : RS K (rI0 fun i j => .bl (decide (i < j))) dLt := rs_I0 fun _ _ _ => .bl _
theorem rs_le {K : Fg} : RS K (rI0 fun i j => .bl (decide (i ≤ j))) dLe := rs_I0 fun _ _ _ => .bl _
theorem rs_gt {K : Fg} : RS K (rI0 fun i j => .bl (decide (j < i))) dGt := rs_I0 fun _ _ _ => .bl _
theorem rs_ge {K : Fg} : RS K (rI0 fun i j => .bl (decide (j ≤ i))) dGe := rs_I0 fun _ _ _ => .bl _
def dEq : D2 := fun a b P => SeqAt.shaped a = true ∧ SeqAt.shaped b = true ∧ P (.bool (PyData.eqv a b))
def dNe : D2 := fun a b P => SeqAt.shaped a = true ∧ SeqAt.shaped b = true ∧ P (.bool (!PyData.eqv a b))
theorem rs_eq {K : Fg} : RS K (rEqD K) dEq := ⟨fun e h1 h2 P Q q k => ⟨_, _, e.dp h1, e.dp h2, q.1, q.2.1, k _ _ _ _ q.2.2 (Gr.rfl e) (.bl _)⟩⟩
theorem rs_ne {K : Fg} : RS K (rNeD K) dNe := ⟨fun e h1 h2 P Q q k => ⟨_, _, e.dp h1, e.dp h2, q.1, q.2.1, k _ _ _ _ q.2.2 (Gr.rfl e) (.bl _)⟩⟩
/-! #### is, is not: of None, of truths -/
def isN : D → Bool
  | .none => true
  | _ => false
theorem isN_v {K : Fg} {B : Hp} {v : V} {d : D} (h : Dp K B v d) : decide (v = .non) = isN d := by cases h <;> simp [isN]
def rIsA : R2 := fun x y H Q => (y = .non ∧ Q (.bl (decide (x = .non))) H) ∨ rIsB x y H Q
def rNotA : R2 := fun x y H Q => (y = .non ∧ Q (.bl (!decide (x = .non))) H) ∨ rNotB x y H Q
def dIsO : D2
  | a, .none, P => P (.bool (isN a))
  | .bool a, .bool b, P => P (.bool (decide (a = b)))
  | _, _, _ => False
def dNotO : D2
  | a, .none, P => P (.bool (!isN a))
  | .bool a, .bool b, P => P (.bool (!decide (a = b)))
  | _, _, _ => False
theorem op_isA {X : Cx} : OpR X (compareOp .Is) rIsA := opr_or op_isN op_isBl
theorem op_notA {X : Cx} : OpR X (compareOp .IsNot) rNotA := opr_or op_notN op_notBl
theorem rs_is {K : Fg} : RS K rIsA dIsO := ⟨fun {B H x y dx dy} e h1 h2 P Q q k => by
  cases h2 with
  | non => exact .inl ⟨rfl, by rw [isN_v h1]; exact k _ _ _ _ (show P (.bool (isN dx)) by cases h1 <;> exact q) (Gr.rfl e) (.bl _)⟩
  | bl b => cases h1 with
    | bl a => exact .inr ⟨_, _, rfl, rfl, k _ _ _ _ q (Gr.rfl e) (.bl _)⟩
    | _ => exact q.elim
  | _ => cases h1 <;> exact q.elim⟩
theorem rs_isnot {K : Fg} : RS K rNotA dNotO := ⟨fun {B H x y dx dy} e h1 h2 P Q q k => by
  cases h2 with
  | non => exact .inl ⟨rfl, by rw [isN_v h1]; exact k _ _ _ _ (show P (.bool (!isN dx)) by cases h1 <;> exact q) (Gr.rfl e) (.bl _)⟩
  | bl b => cases h1 with
    | bl a => exact .inr ⟨_, _, rfl, rfl, k _ _ _ _ q (Gr.rfl e) (.bl _)⟩
    | _ => exact q.elim
  | _ => cases h1 <;> exact q.elim⟩
/-! #### items -/
def dIx : D2
  | .list ds, .int i, P => ∃ d, atI ds i = some d ∧ P d
  | .tuple ds, .int i, P => ∃ d, atI ds i = some d ∧ P d
  | .str z, .int i, P => z.length ≤ 16777216 ∧ ∃ c, atI z.cps.toList i = some c ∧ P (.str ⟨#[c]⟩)
  | _, _, _ => False
theorem atI_dp {K : Fg} {B : Hp} {vs : List V} {ds : List D} {i : Int} {d : D} (h : DpAll K B vs ds) (e : atI ds i = some d) : ∃ v, atI vs i = some v ∧ Dp K B v d := by
  have l := dps_len h
  unfold atI at e ⊢
  rw [l]
  cases q : ixN ds.length i with
  | none => rw [q] at e; cases e
  | some j => rw [q] at e; exact dps_get h e
theorem rs_ix {K : Fg} : RS K (rIx K) dIx := ⟨fun {B H x y dx dy} e h1 h2 P Q q k => by
  cases h1 <;> cases h2 <;> try exact q.elim
  · obtain ⟨c, z, w⟩ := q.2
    exact .inr (.inr ⟨_, _, _, rfl, rfl, by rw [sz_eq]; exact q.1, z, k _ _ _ _ w (Gr.rfl e) (.str _)⟩)
  · rename_i s1 t1 i
    obtain ⟨d, z, w⟩ := q
    obtain ⟨v, z2, dv⟩ := atI_dp t1 z
    exact .inl ⟨_, _, _, _, rfl, rfl, e.sqL s1, z2, k _ _ _ _ w (Gr.rfl e) dv⟩
  · rename_i s1 t1 i
    obtain ⟨d, z, w⟩ := q
    obtain ⟨v, z2, dv⟩ := atI_dp t1 z
    exact .inr (.inl ⟨_, _, _, _, rfl, rfl, e.sqT s1, z2, k _ _ _ _ w (Gr.rfl e) dv⟩)⟩
section
variable {X : Cx} {K : Fg} {W : WX} {a b : Expr} {ma mb : DE} {pos : Pos}
variable {ta tb : TE}
theorem xe_op {op : Operator} {r : R2} {rd : D2} (ho : OpR X (binaryOp op) r) (hr : RS K r rd) (ha : XE X K W a ta ma) (hb : XE X K W b tb mb) : XE X K W (.BinOp a op b pos) (tOp r ta tb) (dOp rd ma mb) := ⟨pe_op ho ha.1 hb.1, se_op hr ha.2 hb.2⟩
theorem xe_add {k0 : Nat} (C : Ctx X K W k0) (ha : XE X K W a ta ma) (hb : XE X K W b tb mb) : XE X K W (.BinOp a .Add b pos) (tOp (rAddA K) ta tb) (dOp dAdd ma mb) := by
  have hK := C.hK
  subst hK
  exact xe_op op_addA rs_add ha hb
theorem xe_sub (ha : XE X K W a ta ma) (hb : XE X K W b tb mb) : XE X K W (.BinOp a .Sub b pos) (tOp (rI0 fun i j => .int (i - j)) ta tb) (dOp dSub ma mb) := xe_op op_sub rs_sub ha hb
theorem xe_mul (ha : XE X K W a ta ma) (hb : XE X K W b tb mb) : XE X K W (.BinOp a .Mult b pos) (tOp (rI MulOk fun i j => .int (i * j)) ta tb) (dOp dMul ma mb) := xe_op op_mulG rs_mul ha hb
theorem xe_fdiv (ha : XE X K W a ta ma) (hb : XE X K W b tb mb) : XE X K W (.BinOp a .FloorDiv b pos) (tOp (rI DivOk fun i j => .int (i.fdiv j)) ta tb) (dOp dFdiv ma mb) := xe_op op_fdivG rs_fdiv ha hb
theorem xe_mod (ha : XE X K W a ta ma) (hb : XE X K W b tb mb) : XE X K W (.BinOp a .Mod b pos) (tOp (rI (fun _ j => j ≠ 0) fun i j => .int (i.fmod j)) ta tb) (dOp dMod ma mb) := xe_op op_modN rs_mod ha hb
theorem xe_pow (ha : XE X K W a ta ma) (hb : XE X K W b tb mb) : XE X K W (.BinOp a .Pow b pos) (tOp (rI CPow fun i j => .int (i ^ j.toNat)) ta tb) (dOp dPow ma mb) := xe_op op_pow rs_pow ha hb
theorem xe_cmp {op : CmpOp} {r : R2} {rd : D2} (ho : OpR X (compareOp op) r) (hr : RS K r rd) (ha : XE X K W a ta ma) (hb : XE X K W b tb mb) (hm : behindInMarks op b = false := by exact nomark _) : XE X K W (.Compare a [op] [b] pos) (tOp r ta tb) (dOp rd ma mb) := ⟨pe_cmpR ho ha.1 hb.1 hm, se_op hr ha.2 hb.2⟩
theorem xe_eqD {k0 : Nat} (C : Ctx X K W k0) (ha : XE X K W a ta ma) (hb : XE X K W b tb mb) (hm : behindInMarks .Eq b = false := by exact nomark _) : XE X K W (.Compare a [.Eq] [b] pos) (tOp (rEqD K) ta tb) (dOp dEq ma mb) := by
  have hK := C.hK
  subst hK
  exact xe_cmp (op_eqD C.hr.units) rs_eq ha hb hm
theorem xe_neD {k0 : Nat} (C : Ctx X K W k0) (ha : XE X K W a ta ma) (hb : XE X K W b tb mb) (hm : behindInMarks .NotEq b = false := by exact nomark _) : XE X K W (.Compare a [.NotEq] [b] pos) (tOp (rNeD K) ta tb) (dOp dNe ma mb) := by
  have hK := C.hK
  subst hK
  exact xe_cmp (op_neD C.hr.units) rs_ne ha hb hm
theorem xe_ix {k0 : Nat} (C : Ctx X K W k0) (ha : XE X K W a ta ma) (hb : XE X K W b tb mb) (hs : PlainIx b := by exact fun _ _ => rfl) : XE X K W (.Subscript a b pos) (tOp (rIx K) ta tb) (dOp dIx ma mb) := by
  have hK := C.hK
  subst hK
  exact ⟨pe_ix ix_seq ha.1 hb.1 hs, se_op rs_ix ha.2 hb.2⟩
end
/-! #### one value: -a, not -/
def dNeg (ma : DE) : DE := fun es P X => ma es (fun d => match d with
  | .int i => P (.int (-i))
  | _ => False) X
theorem xe_neg {X : Cx} {K : Fg} {W : WX} {a : Expr} {ta : TE} {ma : DE} {pos : Pos} (ha : XE X K W a ta ma) : XE X K W (.UnaryOp .USub a pos) (tUn (rU fun i => .int (-i)) ta) (dNeg ma) := by
  refine ⟨pe_un un_neg ha.1, ⟨fun s P X Q h k kx => ha.2.run s _ X _ h (fun d v B' H' p g dv => ?_) kx⟩⟩
  cases dv <;> try exact p.elim
  exact ⟨_, rfl, k _ _ _ _ p g (.int _)⟩
end Fw
namespace Fw
variable [Tabs]
open PySem PySem.Spec L2

/-! ### tests -/
def dTest (ma : DE) : DT := fun es P X => ma es (fun d => match d with
  | .bool b => P b
  | _ => False) X
def truD : D → (Bool → Prop) → Prop
  | .none, P => P false
  | .bool b, P => P b
  | .int i, P => P (i != 0)
  | .str z, P => z.length ≤ 16777216 ∧ P ((z.length : Int) != 0)
  | .list ds, P => P (!ds.isEmpty)
  | .tuple ds, P => P (!ds.isEmpty)
  | _, _ => False
def dTruth (ma : DE) : DT := fun es P X => ma es (fun d => truD d P) X
def dNotT (ma : DT) : DT := fun es P X => ma es (fun b => P (!b)) X
def dAndT (ma mb : DT) : DT := fun es P X => ma es (fun b => if b = true then mb es P X else P false) X
def dOrT (ma mb : DT) : DT := fun es P X => ma es (fun b => if b = true then P true else mb es P X) X
def dAndV (ma mb : DE) : DE := fun es P X => ma es (fun d => match d with
  | .bool b => if b = true then mb es P X else P (.bool false)
  | _ => False) X
def dOrV (ma mb : DE) : DE := fun es P X => ma es (fun d => match d with
  | .bool b => if b = true then P (.bool true) else mb es P X
  | _ => False) X
def dNotV (ma : DE) : DE := fun es P X => ma es (fun d => match d with
  | .bool b => P (.bool (!b))
  | _ => False) X
def dIf (mt : DT) (ma mb : DE) : DE := fun es P X => mt es (fun b => if b = true then ma es P X else mb es P X) X
section
variable {K : Fg} {W : WX} {ta tb : TE} {ma mb : DE} {t u : TT} {mt mu : DT}
theorem st_B (h : SE K W ta ma) : ST K W (tB ta) (dTest ma) := ⟨fun s P X Q q k kx => h.run s _ X _ q (fun d v B' H' p g dv => by
  cases dv <;> try exact p.elim
  exact ⟨_, rfl, k _ _ _ p g⟩) kx⟩
theorem st_T (h : SE K W ta ma) : ST K W (tTest ta) (dTest ma) := ⟨fun s P X Q q k kx => h.run s _ X _ q (fun d v B' H' p g dv => by
  cases dv <;> try exact p.elim
  exact ⟨_, rfl, k _ _ _ p g⟩) kx⟩
theorem empty_eq {B : Hp} {vs : List V} {ds : List D} (h : DpAll K B vs ds) : (!vs.isEmpty) = !ds.isEmpty := by cases h <;> rfl
theorem st_truth (h : SE K W ta ma) : ST K W (fun σ H Q => ta σ H fun x H' => ∃ k, TruV K x H' k ∧ Q k H') (dTruth ma) := ⟨fun s P X Q q k kx => h.run s _ X _ q (fun d v B' H' p g dv => by
  cases dv with
  | non => exact ⟨_, rfl, k _ _ _ p g⟩
  | bl b => exact ⟨_, rfl, k _ _ _ p g⟩
  | int i => exact ⟨_, rfl, k _ _ _ p g⟩
  | str z => exact ⟨_, ⟨by rw [sz_eq]; exact p.1, rfl⟩, k _ _ _ p.2 g⟩
  | lst s1 t1 => exact ⟨_, .inl ⟨_, g.bh.sqL s1, (empty_eq t1).symm⟩, k _ _ _ p g⟩
  | tup s1 t1 => exact ⟨_, .inr (.inl ⟨_, g.bh.sqT s1, (empty_eq t1).symm⟩), k _ _ _ p g⟩) kx⟩
theorem st_not (h : ST K W t mt) : ST K W (tNot t) (dNotT mt) := ⟨fun s P X Q q k kx => h.run s _ X _ q (fun b B' H' p g => k _ _ _ p g) kx⟩
theorem st_and (h : ST K W t mt) (h2 : ST K W u mu) : ST K W (tAnd t u) (dAndT mt mu) := ⟨fun s P X Q q k kx => h.run s _ X _ q (fun b B' H' p g => by
  cases b with
  | true => exact h2.run (s.step g) P X Q p (fun b B2 H2 p2 g2 => k _ _ _ p2 (g.trans g2)) (fun x c dd B2 H2 hx g2 r => kx x c dd B2 H2 hx (g.trans g2) r)
  | false => exact k _ _ _ p g) kx⟩
theorem st_or (h : ST K W t mt) (h2 : ST K W u mu) : ST K W (tOr t u) (dOrT mt mu) := ⟨fun s P X Q q k kx => h.run s _ X _ q (fun b B' H' p g => by
  cases b with
  | true => exact k _ _ _ p g
  | false => exact h2.run (s.step g) P X Q p (fun b B2 H2 p2 g2 => k _ _ _ p2 (g.trans g2)) (fun x c dd B2 H2 hx g2 r => kx x c dd B2 H2 hx (g.trans g2) r)) kx⟩
theorem se_and (h : SE K W ta ma) (h2 : SE K W tb mb) : SE K W (tAndV ta tb) (dAndV ma mb) := ⟨fun s P X Q q k kx => h.run s _ X _ q (fun d v B' H' p g dv => by
  cases dv <;> try exact p.elim
  rename_i b
  cases b with
  | true => exact ⟨_, rfl, h2.run (s.step g) P X Q p (fun d v B2 H2 p2 g2 => k _ _ _ _ p2 (g.trans g2)) (fun x c dd B2 H2 hx g2 r => kx x c dd B2 H2 hx (g.trans g2) r)⟩
  | false => exact ⟨_, rfl, k _ _ _ _ p g (.bl _)⟩) kx⟩
theorem se_or (h : SE K W ta ma) (h2 : SE K W tb mb) : SE K W (tOrV ta tb) (dOrV ma mb) := ⟨fun s P X Q q k kx => h.run s _ X _ q (fun d v B' H' p g dv => by
  cases dv <;> try exact p.elim
  rename_i b
  cases b with
  | true => exact ⟨_, rfl, k _ _ _ _ p g (.bl _)⟩
  | false => exact ⟨_, rfl, h2.run (s.step g) P X Q p (fun d v B2 H2 p2 g2 => k _ _ _ _ p2 (g.trans g2)) (fun x c dd B2 H2 hx g2 r => kx x c dd B2 H2 hx (g.trans g2) r)⟩) kx⟩
theorem se_not (h : SE K W ta ma) : SE K W (tNotV ta) (dNotV ma) := ⟨fun s P X Q q k kx => h.run s _ X _ q (fun d v B' H' p g dv => by
  cases dv <;> try exact p.elim
  exact ⟨_, rfl, k _ _ _ _ p g (.bl _)⟩) kx⟩
theorem se_if (h : ST K W t mt) (h1 : SE K W ta ma) (h2 : SE K W tb mb) : SE K W (tIf t ta tb) (dIf mt ma mb) := ⟨fun s P X Q q k kx => h.run s _ X _ q (fun b B' H' p g => by
  cases b with
  | true => exact h1.run (s.step g) P X Q p (fun d v B2 H2 p2 g2 => k _ _ _ _ p2 (g.trans g2)) (fun x c dd B2 H2 hx g2 r => kx x c dd B2 H2 hx (g.trans g2) r)
  | false => exact h2.run (s.step g) P X Q p (fun d v B2 H2 p2 g2 => k _ _ _ _ p2 (g.trans g2)) (fun x c dd B2 H2 hx g2 r => kx x c dd B2 H2 hx (g.trans g2) r)) kx⟩
end
section
variable {X : Cx} {K : Fg} {W : WX} {a b c : Expr} {rest : List Expr} {ma mb : DE} {mt mu : DT} {pos : Pos} {ta tb : TE} {tt tu : TT}
theorem xt_val (ha : XE X K W a ta ma) (he : ∀ whole, isTrue a X.env whole = (do let v ← whole; standAt a.pos; holding [v] (truthy v)) := by intro _; rfl) : XT X K W a (tB ta) (dTest ma) := ⟨pt_val ha.1 he, st_B ha.2⟩
theorem xt_truth {k0 : Nat} (C : Ctx X K W k0) (ha : XE X K W a ta ma) (he : ∀ whole, isTrue a X.env whole = (do let v ← whole; standAt a.pos; holding [v] (truthy v)) := by intro _; rfl) : XT X K W a (fun σ H Q => ta σ H fun x H' => ∃ k, TruV K x H' k ∧ Q k H') (dTruth ma) := by
  have hK := C.hK
  subst hK
  exact ⟨pt_truth ha.1 he, st_truth ha.2⟩
theorem xt_cmp {op : CmpOp} {r : R2} {rd : D2} (ho : OpR X (compareOp op) r) (hr : RS K r rd) (ha : XE X K W a ta ma) (hb : XE X K W b tb mb) (hm : behindInMarks op b = false := by exact nomark _) : XT X K W (.Compare a [op] [b] pos) (tTest (tOp r ta tb)) (dTest (dOp rd ma mb)) := ⟨pt_cmpR ho ha.1 hb.1 hm, st_T (se_op hr ha.2 hb.2)⟩
theorem xt_eqD {k0 : Nat} (C : Ctx X K W k0) (ha : XE X K W a ta ma) (hb : XE X K W b tb mb) (hm : behindInMarks .Eq b = false := by exact nomark _) : XT X K W (.Compare a [.Eq] [b] pos) (tTest (tOp (rEqD K) ta tb)) (dTest (dOp dEq ma mb)) := by
  have hK := C.hK
  subst hK
  exact xt_cmp (op_eqD C.hr.units) rs_eq ha hb hm
theorem xt_neD {k0 : Nat} (C : Ctx X K W k0) (ha : XE X K W a ta ma) (hb : XE X K W b tb mb) (hm : behindInMarks .NotEq b = false := by exact nomark _) : XT X K W (.Compare a [.NotEq] [b] pos) (tTest (tOp (rNeD K) ta tb)) (dTest (dOp dNe ma mb)) := by
  have hK := C.hK
  subst hK
  exact xt_cmp (op_neD C.hr.units) rs_ne ha hb hm
theorem xt_not (ha : XT X K W a tt mt) : XT X K W (.UnaryOp .Not a pos) (tNot tt) (dNotT mt) := ⟨pt_not ha.1, st_not ha.2⟩
theorem xw_and1 (ha : XT X K W a tt mt) : XW X K W (.BoolOp .And [a] pos) tt mt := ⟨pw_and1 ha.1, ha.2⟩
theorem xw_or1 (ha : XT X K W a tt mt) : XW X K W (.BoolOp .Or [a] pos) tt mt := ⟨pw_or1 ha.1, ha.2⟩
theorem xw_and (ha : XT X K W a tt mt) (hb : XW X K W (.BoolOp .And (b :: rest) pos) tu mu) : XW X K W (.BoolOp .And (a :: b :: rest) pos) (tAnd tt tu) (dAndT mt mu) := ⟨pw_and ha.1 hb.1, st_and ha.2 hb.2⟩
theorem xw_or (ha : XT X K W a tt mt) (hb : XW X K W (.BoolOp .Or (b :: rest) pos) tu mu) : XW X K W (.BoolOp .Or (a :: b :: rest) pos) (tOr tt tu) (dOrT mt mu) := ⟨pw_or ha.1 hb.1, st_or ha.2 hb.2⟩
theorem xt_w (h : XW X K W a tt mt) : XT X K W a tt mt := ⟨h.1.pt, h.2⟩
theorem xe_one {op : BoolOp} (h : XE X K W a ta ma) : XE X K W (.BoolOp op [a] pos) ta ma := ⟨pe_one h.1, h.2⟩
theorem xe_and (ha : XE X K W a ta ma) (hb : XE X K W (.BoolOp .And (b :: rest) pos) tb mb) : XE X K W (.BoolOp .And (a :: b :: rest) pos) (tAndV ta tb) (dAndV ma mb) := ⟨pe_and ha.1 hb.1, se_and ha.2 hb.2⟩
theorem xe_or (ha : XE X K W a ta ma) (hb : XE X K W (.BoolOp .Or (b :: rest) pos) tb mb) : XE X K W (.BoolOp .Or (a :: b :: rest) pos) (tOrV ta tb) (dOrV ma mb) := ⟨pe_or ha.1 hb.1, se_or ha.2 hb.2⟩
theorem xe_not (ha : XE X K W a ta ma) : XE X K W (.UnaryOp .Not a pos) (tNotV ta) (dNotV ma) := ⟨pe_not ha.1, se_not ha.2⟩
theorem xe_if (hc : XT X K W c tt mt) (ha : XE X K W a ta ma) (hb : XE X K W b tb mb) : XE X K W (.IfExp c a b pos) (tIf tt ta tb) (dIf mt ma mb) := ⟨pe_ifExp hc.1 ha.1 hb.1, se_if hc.2 ha.2 hb.2⟩
end

/-! ### arguments, displays -/
def dNil : DA := fun _ P _ => P []
def dCons (ma : DE) (mr : DA) : DA := fun es P X => ma es (fun d => mr es (fun ds => P (d :: ds)) X) X
def dTup (ma : DA) : DE := fun es P X => ma es (fun ds => ds.length ≤ 16777216 ∧ P (.tuple ds)) X
def dLst (ma : DA) : DE := fun es P X => ma es (fun ds => ds.length ≤ 16777216 ∧ P (.list ds)) X
section
variable {K : Fg} {W : WX} {te : TE} {me : DE} {ta : TA} {ma : DA}
theorem sa_nil : SAr K W tNil dNil := ⟨fun s P X Q q k _ => k [] [] _ _ q s.rfl .nil⟩
theorem sa_cons (h : SE K W te me) (hr : SAr K W ta ma) : SAr K W (tCons te ta) (dCons me ma) := ⟨fun s P X Q q k kx => h.run s _ X _ q (fun d v B1 H1 p g dv =>
  hr.run (s.step g) _ X _ p (fun ds vs B2 H2 p2 g2 dvs => k _ _ _ _ p2 (g.trans g2) (.cons (g2.bb.dp dv) dvs)) (fun x c dd B2 H2 hx g2 r => kx x c dd B2 H2 hx (g.trans g2) r)) kx⟩
theorem se_tup (h : SAr K W ta ma) : SE K W (tTup ta) (dTup ma) := ⟨fun s P X Q q k kx => h.run s _ X _ q (fun ds vs B1 H1 p g dvs =>
  ⟨by rw [sz_eq, dps_len dvs]; exact p.1, fun a ha => k _ _ _ _ p.2 (g.trans ((s.step g).gr (Gr.new g.bh ha))) (.tup (SqT.of upd_same) ((Ex.new (g.bh.back ha)).dps dvs))⟩) kx⟩
theorem se_lst (h : SAr K W ta ma) : SE K W (tLst ta) (dLst ma) := ⟨fun s P X Q q k kx => h.run s _ X _ q (fun ds vs B1 H1 p g dvs =>
  ⟨by rw [sz_eq, dps_len dvs]; exact p.1, fun a ha => k _ _ _ _ p.2 (g.trans ((s.step g).gr (Gr.new g.bh ha))) (.lst (SqL.of upd_same) ((Ex.new (g.bh.back ha)).dps dvs))⟩) kx⟩
end
section
variable {X : Cx} {K : Fg} {W : WX} {e : Expr} {es : List Expr} {te : TE} {ta : TA} {me : DE} {ma : DA} {pos kpos : Pos} {nm : Option Str} {kws : List Keyword}
theorem xa_nil : XA X K W [] tNil dNil := ⟨pa_nil, sa_nil⟩
theorem xa_cons (ha : XE X K W e te me) (hr : XA X K W es ta ma) (hs : starEach (e :: es) X.env = (false, eval e X.env) :: starEach es X.env := by rfl) : XA X K W (e :: es) (tCons te ta) (dCons me ma) := ⟨pa_cons ha.1 hr.1 hs, sa_cons ha.2 hr.2⟩
theorem xk_nil : XK' X K W [] tNil dNil := ⟨pk_nil, sa_nil⟩
theorem xk_cons (ha : XE X K W e te me) (hr : XK' X K W kws ta ma) : XK' X K W (⟨nm, e, kpos⟩ :: kws) (tCons te ta) (dCons me ma) := ⟨pk_cons ha.1 hr.1, sa_cons ha.2 hr.2⟩
theorem xe_tup {k : Nat} (h : XA X K W es ta ma) : XE X K W (.Tuple es k pos) (tTup ta) (dTup ma) := ⟨pe_tup h.1, se_tup h.2⟩
theorem xe_lst (h : XA X K W es ta ma) : XE X K W (.List es pos) (tLst ta) (dLst ma) := ⟨pe_lst h.1, se_lst h.2⟩
end

/-! ### built-ins by their values -/
abbrev D1 := List D → (D → Prop) → Prop
structure RC (K : Fg) (r : List V → Hp → VK → Prop) (rd : D1) : Prop where
  run : ∀ {B H : Hp} {vs : List V} {ds : List D}, Ex B H → DpAll K B vs ds → ∀ (P : D → Prop) (Q : VK), rd ds P → (∀ d v B' H', P d → Gr B H B' H' → Dp K B' v d → Q v H') → r vs H Q
def dCB (rd : D1) (ma : DA) : DE := fun es P X => ma es (fun ds => rd ds P) X
theorem se_cb {K : Fg} {W : WX} {r : List V → Hp → VK → Prop} {rd : D1} {ta : TA} {ma : DA} (hr : RC K r rd) (h : SAr K W ta ma) : SE K W (tCB r ta) (dCB rd ma) := ⟨fun s P X Q q k kx => h.run s _ X _ q (fun ds vs B1 H1 p g dvs =>
  hr.run g.bh dvs P Q p fun d v B2 H2 p2 g2 dv => k _ _ _ _ p2 (g.trans ((s.step g).gr g2)) dv) kx⟩
section
variable {X : Cx} {K : Fg} {W : WX} {e : Expr} {es : List Expr} {ma : DA} {p pos : Pos} {x : Str} {id T : String} {r : List V → Hp → VK → Prop} {rd : D1}
variable {ta : TA}
theorem xe_cb (hc : CallR X (.builtin id) r) (hr : RC K r rd) (hm : X.mg x = none) (hv : bootBuiltins x = some (.builtin id)) (ha : XA X K W (e :: es) ta ma) (hg : Gl X x := by rfl) (hn : x ≠ "__name__" := by decide) (hdb : (x == ("__debug__" : Str)) = false := by decide)
    (he : starEach (e :: es) X.env = (false, eval e X.env) :: starEach es X.env := by rfl) (hpl : (backTo pos (starEach es X.env)).any (·.1) = false := by rfl) : XE X K W (.Call (.Name x p) (e :: es) [] pos) (tCB r ta) (dCB rd ma) := ⟨pe_callB hc hg hm hv ha.1 hn hdb he hpl, se_cb hr ha.2⟩
theorem xe_cty (hc : CallR X (.type T) r) (hr : RC K r rd) (hm : X.mg x = none) (hv : bootBuiltins x = some (.type T)) (ha : XA X K W (e :: es) ta ma) (hg : Gl X x := by rfl) (hn : x ≠ "__name__" := by decide) (hdb : (x == ("__debug__" : Str)) = false := by decide)
    (he : starEach (e :: es) X.env = (false, eval e X.env) :: starEach es X.env := by rfl) (hpl : (backTo pos (starEach es X.env)).any (·.1) = false := by rfl) : XE X K W (.Call (.Name x p) (e :: es) [] pos) (tCB r ta) (dCB rd ma) := ⟨pe_callTy hc hg hm hv ha.1 hn hdb he hpl, se_cb hr ha.2⟩
/-- a module's name for a built-in: math.gcd and the like -/
theorem xe_cfun (hc : CallR X (.builtin id) r) (hr : RC K r rd) (hm : X.mg x = some (.builtin id)) (ha : XA X K W (e :: es) ta ma) (hg : Gl X x := by rfl) (hdb : (x == ("__debug__" : Str)) = false := by decide)
    (he : starEach (e :: es) X.env = (false, eval e X.env) :: starEach es X.env := by rfl) (hpl : (backTo pos (starEach es X.env)).any (·.1) = false := by rfl) : XE X K W (.Call (.Name x p) (e :: es) [] pos) (tCB r ta) (dCB rd ma) := ⟨pe_callBfun hc hg hm ha.1 hdb he hpl, se_cb hr ha.2⟩
end

/-! ### a def's promise over data -/
abbrev Spc := List D → (D → Prop) → XP → Prop
def spD (K : Fg) (p : Spc) : Sp := fun vs H Q E => ∃ B ds P X, Ex B H ∧ DpAll K B vs ds ∧ (SprO H none ∧ SprF B none) ∧ p ds P X ∧ (∀ d v B' H', P d → GrS none B H B' H' → Dp K B' v d → Q v H') ∧ ∀ x cls dd B' H', X x → GrS none B H B' H' → XR K B' H' x cls dd → E cls dd H'
/-- .. of one that draws from the spring, its first parameter -/
def spS (K : Fg) (p : Spc) : Sp := fun vs H Q E => ∃ B q g vr ds P X, vs = .ref q :: vr ∧ Ex B H ∧ DpAll K B vr ds ∧ (SprO H (some (q, g)) ∧ SprF B (some (q, g))) ∧ p ds P X ∧ (∀ d v B' H', P d → GrS (some (q, g)) B H B' H' → Dp K B' v d → Q v H') ∧
  ∀ x cls dd B' H', X x → GrS (some (q, g)) B H B' H' → XR K B' H' x cls dd → E cls dd H'
/-- growth that leaves the spring as it is -/
theorem GrS.up {S : SA} {B H B' H' : Hp} (g : GrS none B H B' H') (h : SprO H S) : GrS S B H B' H' :=
  ⟨g.bb, fun a o e n => g.hh a o e fun z => n (z.elim (fun q => q.elim) .inr), g.bh, g.ne, ⟨h.1.kept fun a q => by
    obtain ⟨xs, e⟩ := h.1.get q
    rw [e]
    refine g.hh a _ e fun z => ?_
    rcases z with z | z
    · exact z.elim
    · obtain ⟨ps, e2, _⟩ := h.2 a z
      rw [e] at e2
      exact (nomatch e2), g.sp.2⟩⟩
theorem Sim.tb {K : Fg} {S : SA} {B0 H0 B H : Hp} {σ : L2.St} {es : En} (s : Sim K S B0 H0 σ es B H) : SprO H none ∧ SprF B none := ⟨⟨trivial, s.gs.sp.2⟩, trivial, s.sf.2⟩
def dCall (p : Spc) (ma : DA) : DE := fun es P X => ma es (fun ds => p ds P X) X
def dCallS (i : Nat) (p : Spc) (ma : DA) : DE := fun es P X => es[i]? = some .s ∧ ma es (fun ds => p ds P X) X
theorem se_call {K : Fg} {W : WX} {p : Spc} {ta : TA} {ma : DA} (h : SAr K W ta ma) : SE K W (tCallS (spD K p) (WE W) ta) (dCall p ma) := ⟨fun s P X Q q k kx => h.run s _ X _ q (fun ds vs B1 H1 p1 g dvs =>
  ⟨B1, ds, P, X, g.bh, dvs, (s.step g).tb, p1, fun d v B' H' p2 g2 dv => k _ _ _ _ p2 (g.trans (g2.up g.sp)) dv, fun x c dd B' H' hx g2 r => kx x c dd B' H' hx (g.trans (g2.up g.sp)) r⟩) kx⟩
theorem se_callS {K : Fg} {W : WX} {i : Nat} {p : Spc} {ta : TA} {ma : DA} (h : SAr K W ta ma) : SE K W (tCallS (spS K p) (WE W) (tCons (tVar i) ta)) (dCallS i p ma) := ⟨fun {S B0 H0 B H σ es} s P X Q q k kx => by
  obtain ⟨fp, env, _⟩ := s.env
  obtain ⟨a, g0, e1, rfl⟩ := env.getS q.1
  refine ⟨_, e1, h.run s _ X _ q.2 (fun ds vs B1 H1 p1 g dvs => ?_) kx⟩
  have s1 := s.step g
  exact ⟨B1, a, g0, vs, ds, P, X, rfl, g.bh, dvs, ⟨g.sp, s1.sf⟩, p1, fun d v B' H' p2 g2 dv => k _ _ _ _ p2 (g.trans g2) dv, fun x c dd B' H' hx g2 r => kx x c dd B' H' hx (g.trans g2) r⟩⟩

/-- a def that stands behind the top and keeps its promise -/
structure Def (P : Program) (w : World) (K : Fg) (mg : Str → Option Value) (base : Heap) (k : Nat) (x : Str) (ps : List Str) (sp : Sp) : Prop where
  ex : ∃ f fd, FnOk P w K mg base (L2.CX P w) k f fd ps sp ∧ mg x = some (.ref f) ∧ PySem.W.keepIn K (.ref f) = true ∧ Binds K fd ps []
section
variable {X : Cx} {K : Fg} {W : WX} {k j : Nat} {ps : List Str} {sp : Sp} {x y : Str} {p q pos : Pos} {e : Expr} {es : List Expr} {ma : DA} {pr : Spc}
variable {ta : TA}
theorem xe_call (C : Ctx X K W k) (G : Def X.prog X.w K X.mg X.base j x ps (spD K pr)) (hj : j ≤ k) (ha : XA X K W (e :: es) ta ma) (hg : Gl X x := by rfl) (hdb : (x == ("__debug__" : Str)) = false := by decide)
    (he : starEach (e :: es) X.env = (false, eval e X.env) :: starEach es X.env := by rfl) (hpl : (backTo pos (starEach es X.env)).any (·.1) = false := by rfl) : XE X K W (.Call (.Name x p) (e :: es) [] pos) (tCallS (spD K pr) (WE W) ta) (dCall pr ma) := by
  have hK := C.hK
  subst hK
  obtain ⟨f, fd, G, hm, hk, hb⟩ := G.ex
  exact ⟨pe_callS G (C.hr.mono hj) hg hm hk hb (fun σ => passAt C.tk σ) ha.1 hdb he hpl, se_call ha.2⟩
theorem xe_callS (C : Ctx X K W k) (G : Def X.prog X.w K X.mg X.base j x ps (spS K pr)) (hj : j ≤ k) (i : Nat) (ha : XA X K W es ta ma) (hN : X.N[i]? = some y := by rfl) (hv : Vis X.env.scope y := by first | exact Or.inl rfl | exact Or.inr (Or.inl rfl) | exact Or.inr (Or.inr rfl)) (hg : Gl X x := by rfl) (hdb : (x == ("__debug__" : Str)) = false := by decide)
    (hd : (y == ("__debug__" : Str)) = false := by decide) (hcd : (y == ("__classdict__" : Str)) = false := by decide)
    (he : starEach (.Name y q :: es) X.env = (false, eval (.Name y q) X.env) :: starEach es X.env := by rfl) (hpl : (backTo pos (starEach es X.env)).any (·.1) = false := by rfl) : XE X K W (.Call (.Name x p) (.Name y q :: es) [] pos) (tCallS (spS K pr) (WE W) (tCons (tVar i) ta)) (dCallS i pr ma) := by
  have hK := C.hK
  subst hK
  obtain ⟨f, fd, G, hm, hk, hb⟩ := G.ex
  exact ⟨pe_callS G (C.hr.mono hj) hg hm hk hb (fun σ => passAt C.tk σ) (pa_cons (pe_var hN hv hd hcd) ha.1 he) hdb he hpl, se_callS ha.2⟩
end

/-! ### calls with keywords alone -/
def tCallKS (n : Nat) (sp : Sp) (gV : List V → List V) (W : WX) (tk : TA) : TE := fun σ H Q => tk σ H fun zs H2 => zs.length = n ∧ sp (gV zs) H2 Q (fun cls d H => W cls d σ H)
/-- how the keywords ks fill all the parameters ps: the permutation g -/
structure KB (K : Fg) (fd : FuncData) (ps ks : List Str) (g : ∀ {α : Type}, List α → List α) : Prop where
  to : ∀ (s : Shared) (ws : List Value), K.In s.heap → ws.length = ks.length → BindsTo s fd ⟨[], ks.zip ws⟩ (ps.zip (g ws)) ∧ (g ws).length = ps.length
  rel : ∀ {zs : List V} {ws : List Value}, zs.length = ks.length → Vals zs ws → Vals (g zs) (g ws)
  dp : ∀ {B : Hp} {zs : List V} {ds : List D}, zs.length = ks.length → DpAll K B zs ds → DpAll K B (g zs) (g ds)
structure DefK (P : Program) (w : World) (K : Fg) (mg : Str → Option Value) (base : Heap) (k : Nat) (x : Str) (ps ks : List Str) (g : ∀ {α : Type}, List α → List α) (sp : Sp) : Prop where
  ex : ∃ f fd, FnOk P w K mg base (L2.CX P w) k f fd ps sp ∧ mg x = some (.ref f) ∧ PySem.W.keepIn K (.ref f) = true ∧ KB K fd ps ks g
def dCallK (n : Nat) (g : List D → List D) (p : Spc) (ma : DA) : DE := fun es P X => ma es (fun ds => ds.length = n ∧ p (g ds) P X) X
section
variable {X : Cx} {K : Fg} {W : WX} {k j : Nat} {ps ks : List Str} {g : ∀ {α : Type}, List α → List α} {x : Str} {p pos : Pos} {kws : List Keyword} {ma : DA} {pr : Spc}
theorem xe_callK {t1 : TA} (C : Ctx X K W k) (G : DefK X.prog X.w K X.mg X.base j x ps ks g (spD K pr)) (hj : j ≤ k) (ha : XK' X K W kws t1 ma) (hg : Gl X x := by rfl) (hdb : (x == ("__debug__" : Str)) = false := by decide)
    (hall : (backToKw pos (keywordEach kws X.env)).all (·.1.isSome) = true := by rfl) (hks : (backToKw pos (keywordEach kws X.env)).filterMap (·.1) = ks := by rfl)
    (hpl : ((backTo pos (starEach [] X.env)).any (·.1) || (backToKw pos (keywordEach kws X.env)).any (·.1.isNone)) = false := by rfl) : XE X K W (.Call (.Name x p) [] kws pos) (tCallKS ks.length (spD K pr) g W t1) (dCallK ks.length g pr ma) := by
  have hK := C.hK
  subst hK
  obtain ⟨f, fd, F, hm, hk, hb⟩ := G.ex
  refine ⟨⟨fun pins s σ H Q I h => ?_⟩, ⟨fun s P Y Q q k kx => ?_⟩⟩
  · refine wpAny_Call_Name_kw (ld_glob I hg hm ?_ hdb)
    refine PySem.W.callWith_KW0 (h₀ := X.base) I.ok.mod.kin hk hall (thn (ha.1.run pos pins s σ H _ I h) fun ws s2 ⟨zs, H2, I2, rz, hl, q2⟩ => ⟨I2.kIn, ?_⟩) hpl
    rw [hks]
    obtain ⟨bt, gl⟩ := hb.to s2 ws I2.kIn (by rw [← rz.length]; exact hl)
    refine wpAny_call (codeAny_mono (F.run X.A X.stack s2 H2 ⟨[], ks.zip ws⟩ (g ws) (g zs) Q (fun cls d H => W cls d σ H) (C.hr.mono hj) I2.env0 bt (hb.rel hl rz) q2) fun r s' hq => ?_)
    cases r with
    | error e => exact passAt C.tk σ pins H2 s2 e s' I2 hq
    | ok fl =>
      cases fl with
      | ret u => exact I2.after hq
      | next => exact False.elim hq
      | brk => exact False.elim hq
      | cont => exact False.elim hq
  · refine ha.2.run s _ Y _ q (fun ds vs B1 H1 p1 g1 dvs => ?_) kx
    have hl : vs.length = ks.length := by rw [dps_len dvs]; exact p1.1
    exact ⟨hl, B1, g ds, P, Y, g1.bh, hb.dp hl dvs, (s.step g1).tb, p1.2, fun d v B' H' p2 g2 dv => k _ _ _ _ p2 (g1.trans (g2.up g1.sp)) dv, fun x c dd B' H' hx g2 r => kx x c dd B' H' hx (g1.trans (g2.up g1.sp)) r⟩
end
end Fw
namespace Fw
variable [Tabs]
open PySem PySem.Spec L2

/-! ### targets -/
def gP (i : Nat) : DG := fun d es P => P (es.set i (.p d))
def gT (t : DGs) : DG := fun d es P => match d with
  | .tuple ds => t ds es P
  | _ => False
def gL (t : DGs) : DG := fun d es P => match d with
  | .list ds => t ds es P
  | _ => False
def gsNil : DGs := fun ds es P => ds = [] ∧ P es
def gsCons (t : DG) (u : DGs) : DGs := fun ds es P => match ds with
  | d :: r => t d es (fun es' => u r es' P)
  | [] => False
def gN (n : Nat) (t : DGs) : DGs := fun ds es P => ds.length = n ∧ t ds es P
theorem wipe_set {σ : L2.St} {i : Nat} {v : Option V} : ∀ {ws : List Nat}, i ∈ ws → wipe (σ.set i v) ws = wipe σ ws
  | [], h => by cases h
  | w :: ws, h => by
    unfold wipe
    by_cases c : i ∈ ws
    · rw [wipe_set c]
    · have e : i = w := by
        rcases List.mem_cons.mp h with z | z
        · exact z
        · exact absurd z c
      subst e
      have q : ∀ ws : List Nat, i ∉ ws → wipe (σ.set i v) ws = (wipe σ ws).set i v := by
        intro ws
        induction ws with
        | nil => intro _; rfl
        | cons a r ih =>
          intro n
          unfold wipe
          rw [ih fun z => n (List.mem_cons_of_mem _ z), List.set_comm _ _ fun z => n (by rw [z]; exact List.mem_cons_self)]
      rw [q ws c, List.set_set]
section
variable {K : Fg} {tg : TG} {mg : DG} {tgs : TGs} {mgs : DGs} {vs ws : List Nat} {n : Nat}
theorem sg_name (i : Nat) : SG K (gName i) (gP i) [i] := ⟨fun s h P Q q k => k _ _ q (s.setP h i) fun ws w => wipe_set (w List.mem_cons_self)⟩
theorem sgs_nil : SGs K gNil gsNil [] := ⟨fun s h P Q q k => by
  obtain ⟨rfl, q⟩ := q
  cases h
  exact ⟨rfl, k _ _ q s fun _ _ => rfl⟩⟩
theorem sgs_cons (h1 : SG K tg mg vs) (h2 : SGs K tgs mgs ws) : SGs K (gCons tg tgs) (gsCons mg mgs) (vs ++ ws) := ⟨fun s h P Q q k => by
  cases h with
  | nil => exact q.elim
  | cons a b => exact ⟨_, _, rfl, h1.run s a _ _ q fun σ' es' p s1 w1 => h2.run s1 b P Q p fun σ2 es2 p2 s2 w2 => k _ _ p2 s2 fun us hs => (w2 us fun x hx => hs (List.mem_append_right _ hx)).trans (w1 us fun x hx => hs (List.mem_append_left _ hx))⟩⟩
theorem sg_tup (h : SGs K tgs mgs vs) : SG K (gTup K n tgs) (gT (gN n mgs)) vs := ⟨fun s dv P Q q k => by
  cases dv <;> try exact q.elim
  rename_i s1 t1
  exact ⟨_, _, rfl, s.bh.sqT s1, (dps_len t1).trans q.1, h.run s t1 P Q q.2 k⟩⟩
theorem sg_lst (h : SGs K tgs mgs vs) : SG K (gUnl K n tgs) (gL (gN n mgs)) vs := ⟨fun s dv P Q q k => by
  cases dv <;> try exact q.elim
  rename_i s1 t1
  exact ⟨_, _, rfl, s.bh.sqL s1, (dps_len t1).trans q.1, h.run s t1 P Q q.2 k⟩⟩
end
section
variable {X : Cx} {K : Fg} {W : WX} {k : Nat} {e : Expr} {es : List Expr} {mg : DG} {mgs : DGs} {vs ws : List Nat} {pos : Pos} {kt n : Nat}
variable {tg : TG} {tgs : TGs}
theorem xg_name (i : Nat) {x : Str} (nd : X.N.Nodup) (hi : X.N[i]? = some x := by rfl) (hx : Loc X.env.scope x := by first | exact Or.inl rfl | exact Or.inr rfl) (hf : X.fn x = true ∨ X.env.scope.names.lookup x = some .local := by first | exact .inl rfl | exact .inr rfl) : XG X K (.Name x pos) (gName i) (gP i) [i] := ⟨pg_name nd hi hx hf, sg_name i⟩
theorem xgs_nil : XGs X K [] gNil gsNil [] := ⟨pgs_nil, sgs_nil⟩
theorem xg_tup {k0 : Nat} (C : Ctx X K W k0) (h : XGs X K es tgs mgs vs) (hn : (assignEach es X.env).length = n := by rfl) (hst : (assignEach es X.env).findIdx? (·.1) = none := by rfl) : XG X K (.Tuple es kt pos) (gTup K n tgs) (gT (gN n mgs)) vs := by
  have hK := C.hK
  subst hK
  exact ⟨pg_tup C.calm h.1 hn hst, sg_tup h.2⟩
theorem xg_lst {k0 : Nat} (C : Ctx X K W k0) (h : XGs X K es tgs mgs vs) (hn : (assignEach es X.env).length = n := by rfl) (hst : (assignEach es X.env).findIdx? (·.1) = none := by rfl) : XG X K (.Tuple es kt pos) (gUnl K n tgs) (gL (gN n mgs)) vs := by
  have hK := C.hK
  subst hK
  exact ⟨pg_unl C.calm h.1 hn hst, sg_lst h.2⟩
theorem xgs_cons (h1 : XG X K e tg mg vs) (h2 : XGs X K es tgs mgs ws) (hp : PG X e tg → PGs X es tgs → PGs X (e :: es) (gCons tg tgs)) : XGs X K (e :: es) (gCons tg tgs) (gsCons mg mgs) (vs ++ ws) := ⟨hp h1.1 h2.1, sgs_cons h1.2 h2.2⟩
end

/-! ### statements -/
def dSkip : DS := fun E es => E.nx es
def dSeq (a b : DS) : DS := fun E es => a { E with nx := b E } es
def dRet (me : DE) : DS := fun E es => me es E.rt (fun x => E.xx x es)
def dRetN : DS := fun E _ => E.rt .none
def dDrop (me : DE) : DS := fun E es => me es (fun _ => E.nx es) (fun x => E.xx x es)
def dAsg (me : DE) (mg : DG) : DS := fun E es => me es (fun d => mg d es E.nx) (fun x => E.xx x es)
def dIfS (mt : DT) (a b : DS) : DS := fun E es => mt es (fun c => if c = true then a E es else b E es) (fun x => E.xx x es)
def dBrk : DS := fun E es => E.bk es
def dCnt : DS := fun E es => E.ct es
def dPar (i j : Nat) (ma : DA) : DS := fun E es => ma es (fun ds => match ds with
  | [a, b] => E.nx ((es.set i (.p a)).set j (.p b))
  | _ => False) (fun x => E.xx x es)
def dAug (i : Nat) (rd : D2) (me : DE) : DS := fun E es => ∃ d, es[i]? = some (.p d) ∧ me es (fun b => rd d b (fun z => E.nx (es.set i (.p z)))) (fun x => E.xx x es)
def dAsgO (i : Nat) (mn : DA) : DS := fun E es => mn es (fun ds => i < es.length ∧ E.nx (es.set i (.o ds))) (fun x => E.xx x es)
def dFrz (i : Nat) (ms : DS) : DS := fun E es => ∃ ds, es[i]? = some (.o ds) ∧ ms E (es.set i (.p (.list ds)))
def dApp (i : Nat) (me : DE) : DS := fun E es => ∃ ds, es[i]? = some (.o ds) ∧ me es (fun d => ds.length < 16777216 ∧ E.nx (es.set i (.o (ds ++ [d])))) (fun x => E.xx x es)
def dPut (i : Nat) (me mi : DE) : DS := fun E es => ∃ ds, es[i]? = some (.o ds) ∧ me es (fun d => mi es (fun k => match k with
  | .int n => ∃ j, ixN ds.length n = some j ∧ E.nx (es.set i (.o (ds.set j d)))
  | _ => False) (fun x => E.xx x es)) (fun x => E.xx x es)
section
variable {K : Fg} {W : WX} {te : TE} {me : DE} {ta : TA} {ma mn : DA} {t u : TS} {mt mu : DS} {c : TT} {mc : DT} {tg : TG} {mg : DG} {vs : List Nat}
theorem ss_skip : SS K W tNext dSkip := ⟨fun s E Z h kn _ _ _ _ => kn _ _ _ _ h s Ex.rfl⟩
theorem ss_brk : SS K W tBreak dBrk := ⟨fun s E Z h _ _ kb _ _ => kb _ _ _ _ h s Ex.rfl⟩
theorem ss_cnt : SS K W tCont dCnt := ⟨fun s E Z h _ _ _ kc _ => kc _ _ _ _ h s Ex.rfl⟩
theorem ss_seq (h1 : SS K W t mt) (h2 : SS K W u mu) : SS K W (tSeq t u) (dSeq mt mu) := ⟨fun s E Z h kn kr kb kc kx =>
  h1.run s { E with nx := mu E } _ h (fun σ1 es1 B1 H1 p s1 e1 => h2.run s1 E Z p (fun a b c d e f g => kn a b c d e f (e1.trans g)) kr (fun a b c d e f g => kb a b c d e f (e1.trans g)) (fun a b c d e f g => kc a b c d e f (e1.trans g)) (fun x c d a b e f q s g r => kx x c d a b e f q s (e1.trans g) r)) kr kb kc kx⟩
theorem ss_ret (h : SE K W te me) : SS K W (tRet te) (dRet me) := ⟨fun s E Z q _ kr _ _ kx => h.run s _ _ _ q (fun d v B' H' p g dv => kr _ _ _ _ _ _ p (s.step g) dv) fun x cls dd B' H' hx g r => kx _ _ _ _ _ _ _ hx (s.step g) g.bb r⟩
theorem ss_retN : SS K W tRetN dRetN := ⟨fun s E Z q _ kr _ _ _ => kr _ _ _ _ _ _ q s .non⟩
theorem ss_drop (h : SE K W te me) : SS K W (tDrop te) (dDrop me) := ⟨fun s E Z q kn _ _ _ kx => h.run s _ _ _ q (fun d v B' H' p g dv => kn _ _ _ _ p (s.step g) g.bb) fun x cls dd B' H' hx g r => kx _ _ _ _ _ _ _ hx (s.step g) g.bb r⟩
theorem ss_asg (h : SE K W te me) (hg : SG K tg mg vs) : SS K W (tAsg te tg) (dAsg me mg) := ⟨fun s E Z q kn _ _ _ kx => h.run s _ _ _ q (fun d v B' H' p g dv => hg.run (s.step g) dv _ _ p fun σ' es' p' s' _ => kn _ _ _ _ p' s' g.bb) fun x cls dd B' H' hx g r => kx _ _ _ _ _ _ _ hx (s.step g) g.bb r⟩
theorem ss_if (h : ST K W c mc) (h1 : SS K W t mt) (h2 : SS K W u mu) : SS K W (tIfS c t u) (dIfS mc mt mu) := ⟨fun s E Z q kn kr kb kc kx => h.run s _ _ _ q (fun b B' H' p g => by
  cases b with
  | true => exact h1.run (s.step g) E Z p (fun a b c d e f w => kn a b c d e f (g.bb.trans w)) kr (fun a b c d e f w => kb a b c d e f (g.bb.trans w)) (fun a b c d e f w => kc a b c d e f (g.bb.trans w)) (fun x c d a b e f q s w r => kx x c d a b e f q s (g.bb.trans w) r)
  | false => exact h2.run (s.step g) E Z p (fun a b c d e f w => kn a b c d e f (g.bb.trans w)) kr (fun a b c d e f w => kb a b c d e f (g.bb.trans w)) (fun a b c d e f w => kc a b c d e f (g.bb.trans w)) (fun x c d a b e f q s w r => kx x c d a b e f q s (g.bb.trans w) r)) fun x cls dd B' H' hx g r => kx _ _ _ _ _ _ _ hx (s.step g) g.bb r⟩
theorem ss_par {i j : Nat} (h : SAr K W ta ma) : SS K W (tPar i j ta) (dPar i j ma) := ⟨fun s E Z q kn _ _ _ kx => h.run s _ _ _ q (fun ds vs B' H' p g dvs => by
  cases dvs with
  | nil => exact p.elim
  | cons a r => cases r with
    | nil => exact p.elim
    | cons b r => cases r with
      | nil => exact ⟨_, _, rfl, kn _ _ _ _ p (((s.step g).setP a i).setP b j) g.bb⟩
      | cons _ _ => exact p.elim) fun x cls dd B' H' hx g r => kx _ _ _ _ _ _ _ hx (s.step g) g.bb r⟩
theorem ss_asgO {i : Nat} (h : SN K W te mn) : SS K W (tAsg te (gName i)) (dAsgO i mn) := ⟨fun {S B0 H0 B H σ es} s E Z q kn _ _ _ kx => h.run s _ _ _ q (fun ds p xs B' H' q1 g hn hb hh dp => by
  have s1 := s.step g
  have h0 : H0 p = none := by
    cases e : H0 p with
    | none => rfl
    | some o => exact absurd hn (s.gs.ex (by rw [e]; exact fun z => nomatch z))
  refine kn _ _ _ _ q1.2 (s1.setO h0 hb hh dp (fun _ _ _ => ?_) i q1.1) g.bb
  obtain ⟨fp, e, n, f⟩ := s.env
  have na : p ∉ fp := fun z => e.live p z hn
  refine ⟨fp, e.mono g.bb fun a z => ?_, n, na, fun a z => ⟨(g.ne a (e.live a z)).trans (f a z).1, (f a z).2⟩⟩
  cases c : H a with
  | none => exact absurd c (e.live a z)
  | some o => exact g.hh a o c fun w => s.s0 a w (f a z).2) fun x cls dd B' H' hx g r => kx _ _ _ _ _ _ _ hx (s.step g) g.bb r⟩
theorem ss_frz (i : Nat) (h : SS K W t mt) : SS K W t (dFrz i mt) := ⟨fun s E Z q kn kr kb kc kx => by
  obtain ⟨ds, e, q⟩ := q
  obtain ⟨B', eb, s'⟩ := s.frz e
  exact h.run s' E Z q (fun a b c d e f w => kn a b c d e f (eb.trans w)) kr (fun a b c d e f w => kb a b c d e f (eb.trans w)) (fun a b c d e f w => kc a b c d e f (eb.trans w)) (fun x c d a b e f q s w r => kx x c d a b e f q s (eb.trans w) r)⟩
theorem Sim.getO {S : SA} {B0 H0 B H : Hp} {σ : L2.St} {es : En} (s : Sim K S B0 H0 σ es B H) {i : Nat} {ds : List D} (h : es[i]? = some (.o ds)) : ∃ a xs, σ[i]? = some (some (.ref a)) ∧ H a = some (.lst xs) ∧ DpAll K B xs ds := by
  obtain ⟨fp, e, _⟩ := s.env
  obtain ⟨a, xs, h1, h2, h3, _⟩ := e.getO h
  exact ⟨a, xs, h1, h2, h3⟩
theorem ss_app {i : Nat} (h : SE K W te me) : SS K W (tDrop (tBM K "list" rAppend (tVar i) (tCons te tNil))) (dApp i me) := ⟨fun {S B0 H0 B H σ es} s E Z q kn _ _ _ kx => by
  obtain ⟨ds, e, q⟩ := q
  obtain ⟨a, xs, h1, h2, h3⟩ := s.getO e
  refine ⟨_, h1, .inl ⟨rfl, _, SqL.of h2⟩, h.run s _ _ _ q (fun d v B' H' p g dv => ?_) fun x cls dd B' H' hx g r => kx _ _ _ _ _ _ _ hx (s.step g) g.bb r⟩
  have s1 := s.step g
  obtain ⟨a', xs', h1', h2', h3'⟩ := s1.getO e
  rw [h1] at h1'
  obtain rfl : a = a' := by injection (Option.some.inj h1') with z; injection z
  exact ⟨a, xs', v, rfl, rfl, h2', by rw [sz_eq, dps_len h3']; exact p.1, kn _ _ _ _ p.2 (s1.wrO (dps_app h3' (.cons dv .nil)) e h1) g.bb⟩⟩
theorem ss_put {i : Nat} {ti : TE} {mi : DE} (h : SE K W te me) (hi : SE K W ti mi) : SS K W (tAsg te (gSub (tVar i) ti rSetL)) (dPut i me mi) := ⟨fun {S B0 H0 B H σ es} s E Z q kn _ _ _ kx => by
  obtain ⟨ds, e, q⟩ := q
  obtain ⟨a, xs, h1, h2, h3⟩ := s.getO e
  refine h.run s _ _ _ q (fun d v B' H' p g dv => ?_) fun x cls dd B' H' hx g r => kx _ _ _ _ _ _ _ hx (s.step g) g.bb r
  refine ⟨_, h1, hi.run (s.step g) _ _ _ p (fun k u B2 H2 p2 g2 du => ?_) fun x cls dd B2 H2 hx g2 r => kx _ _ _ _ _ _ _ hx ((s.step g).step g2) (g.bb.trans g2.bb) r⟩
  cases du <;> try exact p2.elim
  obtain ⟨j, hj, p2⟩ := p2
  have s2 := (s.step g).step g2
  obtain ⟨a', xs', h1', h2', h3'⟩ := s2.getO e
  rw [h1] at h1'
  obtain rfl : a = a' := by injection (Option.some.inj h1') with z; injection z
  exact ⟨a, xs', _, j, rfl, rfl, h2', by rw [dps_len h3']; exact hj, kn _ _ _ _ p2 (s2.wrO (dps_set (g2.bb.dp dv) j h3') e h1) (g.bb.trans g2.bb)⟩⟩
theorem sn_lst (h : SAr K W ta ma) : SN K W (tLst ta) (fun es P X => ma es (fun ds => ds.length ≤ 16777216 ∧ P ds) X) := ⟨fun s P X Q q k kx => h.run s _ X _ q (fun ds vs B1 H1 p g dvs =>
  ⟨by rw [sz_eq, dps_len dvs]; exact p.1, fun a ha => k _ _ _ _ _ p.2 (g.trans ((s.step g).gr (Gr.own g.bh ha))) (by
    cases c : (_ : Hp) a with
    | none => exact c
    | some o => exact absurd ha (g.ex (by rw [c]; exact fun z => nomatch z))) (g.bh.back ha) upd_same dvs⟩) kx⟩
end
section
variable {X : Cx} {K : Fg} {W : WX} {k : Nat} {e a : Expr} {es : List Expr} {s : Stmt} {rest body orelse : List Stmt} {me mi : DE} {ma mn : DA} {ms mr : DS} {mc : DT} {mg : DG} {vs : List Nat} {pos pos' px py pt : Pos} {x y : Str}
variable {te ti : TE} {ta : TA} {t u : TS} {tc : TT} {g : TG}
theorem xb_nil : XB X K W [] tNext dSkip := ⟨pss_nil, ss_skip⟩
theorem xb_cons (h1 : XS X K W s t ms) (h2 : XB X K W rest u mr) : XB X K W (s :: rest) (tSeq t u) (dSeq ms mr) := ⟨pss_cons h1.1 h2.1, ss_seq h1.2 h2.2⟩
theorem xb_one (h1 : XS X K W s t ms) : XB X K W [s] t ms := ⟨pss_one h1.1, h1.2⟩
theorem xs_pass : XS X K W (.Pass pos) tNext dSkip := ⟨ps_pass, ss_skip⟩
theorem xs_brk : XS X K W (.Break pos) tBreak dBrk := ⟨ps_break, ss_brk⟩
theorem xs_cnt : XS X K W (.Continue pos) tCont dCnt := ⟨ps_continue, ss_cnt⟩
theorem xs_ret (h : XE X K W e te me) : XS X K W (.Return (some e) pos) (tRet te) (dRet me) := ⟨ps_ret h.1, ss_ret h.2⟩
theorem xs_retN : XS X K W (.Return none pos) tRetN dRetN := ⟨ps_retN, ss_retN⟩
theorem xs_expr (h : XE X K W e te me) (hs : swapsWith e none pos.line X.env = pure false := by rfl) : XS X K W (.Expr e pos) (tDrop te) (dDrop me) := ⟨ps_expr h.1 hs, ss_drop h.2⟩
theorem xs_asg {tg : Expr} (h : XE X K W e te me) (hg : XG X K tg g mg vs) (hp : PE X e te → PG X tg g → PS X (.Assign [tg] e pos) (tAsg te g)) : XS X K W (.Assign [tg] e pos) (tAsg te g) (dAsg me mg) := ⟨hp h.1 hg.1, ss_asg h.2 hg.2⟩
theorem xs_set (i : Nat) (nd : X.N.Nodup) (h : XE X K W e te me) (hi : X.N[i]? = some x := by rfl) (hx : Loc X.env.scope x := by first | exact Or.inl rfl | exact Or.inr rfl) (hs : swapsWith e (some (.Name x pos')) pos.line X.env = pure false := by rfl) (hf : X.fn x = true ∨ X.env.scope.names.lookup x = some .local := by first | exact .inl rfl | exact .inr rfl) :
    XS X K W (.Assign [.Name x pos'] e pos) (tAsg te (gName i)) (dAsg me (gP i)) := ⟨ps_set nd hi hx h.1 hs hf, ss_asg h.2 (sg_name i)⟩
theorem xs_setO (i : Nat) (nd : X.N.Nodup) (h : XN X K W e te mn) (hi : X.N[i]? = some x := by rfl) (hx : Loc X.env.scope x := by first | exact Or.inl rfl | exact Or.inr rfl) (hs : swapsWith e (some (.Name x pos')) pos.line X.env = pure false := by rfl) (hf : X.fn x = true ∨ X.env.scope.names.lookup x = some .local := by first | exact .inl rfl | exact .inr rfl) :
    XS X K W (.Assign [.Name x pos'] e pos) (tAsg te (gName i)) (dAsgO i mn) := ⟨ps_set nd hi hx h.1 hs hf, ss_asgO h.2⟩
/-- the same where the statement has a rule of its own (a comprehension stored) -/
theorem xs_setR {k0 : Nat} (C : Ctx X K W k0) (i : Nat) {st : Stmt} (hp : PS X st (tAsg te (gName i))) (h : SE K W te me) : XS X K W st (tAsg te (gName i)) (dAsg me (gP i)) := by
  have hK := C.hK
  subst hK
  exact ⟨hp, ss_asg h (sg_name i)⟩
theorem xs_setOR {k0 : Nat} (C : Ctx X K W k0) (i : Nat) {st : Stmt} (hp : PS X st (tAsg te (gName i))) (h : SN K W te mn) : XS X K W st (tAsg te (gName i)) (dAsgO i mn) := by
  have hK := C.hK
  subst hK
  exact ⟨hp, ss_asgO h⟩
theorem xs_frz (i : Nat) (h : XS X K W s t ms) : XS X K W s t (dFrz i ms) := ⟨h.1, ss_frz i h.2⟩
theorem xs_if (hc : XT X K W e tc mc) (h1 : XB X K W body t ms) (h2 : XB X K W orelse u mr) : XS X K W (.If e body orelse pos) (tIfS tc t u) (dIfS mc ms mr) := ⟨ps_if hc.1 h1.1 h2.1, ss_if hc.2 h1.2 h2.2⟩
theorem xs_app {k0 : Nat} (C : Ctx X K W k0) (i : Nat) {st : Stmt} (h : XE X K W e te me) (hp : PE X e te → PS X st (tDrop (tBM K "list" rAppend (tVar i) (tCons te tNil)))) : XS X K W st (tDrop (tBM K "list" rAppend (tVar i) (tCons te tNil))) (dApp i me) := by
  have hK := C.hK
  subst hK
  exact ⟨hp h.1, ss_app h.2⟩
theorem xs_put (i : Nat) {st : Stmt} (h : XE X K W e te me) (hi : XE X K W a ti mi) (hp : PE X e te → PE X a ti → PS X st (tAsg te (gSub (tVar i) ti rSetL))) : XS X K W st (tAsg te (gSub (tVar i) ti rSetL)) (dPut i me mi) := ⟨hp h.1 hi.1, ss_put h.2 hi.2⟩
theorem xs_par (i j : Nat) {st : Stmt} {b : Expr} (h : XA X K W [a, b] ta ma) (hp : PA X [a, b] ta → PS X st (tPar i j ta)) : XS X K W st (tPar i j ta) (dPar i j ma) := ⟨hp h.1, ss_par h.2⟩
theorem xn_lst (h : XA X K W es ta ma) : XN X K W (.List es pos) (tLst ta) (fun es P X => ma es (fun ds => ds.length ≤ 16777216 ∧ P ds) X) := ⟨pe_lst h.1, sn_lst h.2⟩
end
end Fw
namespace Fw
variable [Tabs]
open PySem PySem.Spec L2

/-! ### what is walked -/
structure ItOk (K : Fg) (J : It) (B1 : Hp) (ds : List D) : Prop where
  go : ∀ {B H : Hp} {i : Nat}, Ex B1 B → Ex B H → i < ds.length → J.go i H ∧ ∀ x H', J.yld i H x H' → ∃ d B', ds[i]? = some d ∧ Gr B H B' H' ∧ Dp K B' x d
  stop : ∀ {B H : Hp}, Ex B1 B → Ex B H → J.stop ds.length H
structure SI (K : Fg) (W : WX) (wi : TI) (mi : DA) : Prop where
  run : ∀ {S : SA} {B0 H0 B H : Hp} {σ : L2.St} {es : En}, Sim K S B0 H0 σ es B H → ∀ (P : List D → Prop) (X : XP) (R : It → Hp → Prop), mi es P X →
    (∀ ds J B' H', P ds → GrS S B H B' H' → ItOk K J B' ds → R J H') → (∀ x cls dd B' H', X x → GrS S B H B' H' → XR K B' H' x cls dd → W cls dd σ H') → wi σ H R
def XI (X : Cx) (K : Fg) (W : WX) (tg iter : Expr) (wi : TI) (mi : DA) : Prop := PI X tg iter wi ∧ SI K W wi mi
def iL (me : DE) : DA := fun es P X => me es (fun d => match d with
  | .list ds => P ds
  | _ => False) X
def iT (me : DE) : DA := fun es P X => me es (fun d => match d with
  | .tuple ds => P ds
  | _ => False) X
def intsFrom (lo : Int) (n : Nat) : List D := (List.range n).map fun (k : Nat) => PyData.int (lo + k)
def iR1 (ma : DA) : DA := fun es P X => ma es (fun ds => match ds with
  | [.int n] => n < 2 ^ 62 ∧ -(2 ^ 62) ≤ n ∧ P (intsFrom 0 n.toNat)
  | _ => False) X
def iR2 (ma : DA) : DA := fun es P X => ma es (fun ds => match ds with
  | [.int a, .int b] => (-(2 ^ 62) ≤ a ∧ a < 2 ^ 62 ∧ -(2 ^ 62) ≤ b ∧ b < 2 ^ 62) ∧ P (intsFrom a (b - a).toNat)
  | _ => False) X
def iE (ma : DA) : DA := fun es P X => ma es (fun ds => match ds with
  | [.list xs] => P (xs.mapIdx fun i x => PyData.tuple [.int i, x])
  | _ => False) X
def zipD (xs ys : List D) : List D := List.zipWith (fun x y => PyData.tuple [x, y]) xs ys
def iZ (ma : DA) : DA := fun es P X => ma es (fun ds => match ds with
  | [.list xs, .list ys] => P (zipD xs ys)
  | [.tuple xs, .tuple ys] => P (zipD xs ys)
  | _ => False) X
def iS (me : DE) : DA := fun es P X => me es (fun d => match d with
  | .str z => P (z.cps.toList.map fun c => PyData.str ⟨#[c]⟩)
  | _ => False) X
section
variable {K : Fg} {W : WX} {te : TE} {me : DE} {ta : TA} {ma : DA}
theorem dps_some {B : Hp} {vs : List V} {ds : List D} {i : Nat} (h : DpAll K B vs ds) (l : i < ds.length) : ∃ v d, vs[i]? = some v ∧ ds[i]? = some d ∧ Dp K B v d := by
  obtain ⟨v, e, q⟩ := dps_get h (List.getElem?_eq_getElem l)
  exact ⟨v, _, e, List.getElem?_eq_getElem l, q⟩
theorem it_list {a : Addr} {xs : List V} {ds : List D} {B : Hp} (h : SqL K B a xs) (t : DpAll K B xs ds) : ItOk K (Itl K a) B ds :=
  ⟨fun {B2 H i} e1 e2 l => by
    obtain ⟨v, d, q1, q2, q3⟩ := dps_some t l
    refine ⟨⟨xs, v, (e1.trans e2).sqL h, q1⟩, fun x H' y => ?_⟩
    obtain ⟨rfl, y⟩ := y
    have z := y xs ((e1.trans e2).sqL h)
    rw [q1] at z
    cases z
    exact ⟨d, B2, q2, Gr.rfl e2, e1.dp q3⟩, fun e1 e2 => ⟨xs, (e1.trans e2).sqL h, by rw [dps_len t]; exact Nat.le_refl _⟩⟩
theorem it_tup {a : Addr} {xs : List V} {ds : List D} {B : Hp} (h : SqT K B a xs) (t : DpAll K B xs ds) : ItOk K (Itt K a) B ds :=
  ⟨fun {B2 H i} e1 e2 l => by
    obtain ⟨v, d, q1, q2, q3⟩ := dps_some t l
    refine ⟨⟨xs, v, (e1.trans e2).sqT h, q1⟩, fun x H' y => ?_⟩
    obtain ⟨rfl, y⟩ := y
    have z := y xs ((e1.trans e2).sqT h)
    rw [q1] at z
    cases z
    exact ⟨d, B2, q2, Gr.rfl e2, e1.dp q3⟩, fun e1 e2 => ⟨xs, (e1.trans e2).sqT h, by rw [dps_len t]; exact Nat.le_refl _⟩⟩
theorem it_rng {lo : Int} {n : Nat} {B : Hp} : ItOk K (Itr lo n) B (intsFrom lo n) :=
  ⟨fun {B2 H i} e1 e2 l => by
    have l' : i < n := by simpa [intsFrom] using l
    refine ⟨l', fun x H' y => ?_⟩
    obtain ⟨rfl, rfl⟩ := y
    exact ⟨.int (lo + i), B2, by simp [intsFrom, l'], Gr.rfl e2, .int _⟩, fun _ _ => by show n ≤ _; simp [intsFrom]⟩
theorem it_enum {a : Addr} {xs : List V} {ds : List D} {B : Hp} (h : SqL K B a xs) (t : DpAll K B xs ds) : ItOk K (Ite K a) B (ds.mapIdx fun i x => PyData.tuple [.int i, x]) :=
  ⟨fun {B2 H i} e1 e2 l => by
    have l' : i < ds.length := by simpa using l
    obtain ⟨v, d, q1, q2, q3⟩ := dps_some t l'
    refine ⟨⟨xs, v, (e1.trans e2).sqL h, q1⟩, fun x H' y => ?_⟩
    obtain ⟨T, x', rfl, hT, rfl, y⟩ := y
    have z := y xs ((e1.trans e2).sqL h)
    rw [q1] at z
    cases z
    exact ⟨.tuple [.int i, d], _, by simp [q2], Gr.new e2 hT, .tup (SqT.of upd_same) (.cons (.int _) (.cons ((Ex.new (e2.back hT)).dp (e1.dp q3)) .nil))⟩,
   fun e1 e2 => ⟨xs, (e1.trans e2).sqL h, by simp [dps_len t]⟩⟩
theorem zip_get {xs ys : List D} {i : Nat} (h : i < (zipD xs ys).length) : i < xs.length ∧ i < ys.length := by
  simp [zipD] at h
  omega
theorem it_zipL {a b : Addr} {xs ys : List V} {ds es : List D} {B : Hp} (h : SqL K B a xs) (t : DpAll K B xs ds) (h2 : SqL K B b ys) (t2 : DpAll K B ys es) : ItOk K (Itz K a b) B (zipD ds es) :=
  ⟨fun {B2 H i} e1 e2 l => by
    obtain ⟨l1, l2⟩ := zip_get l
    obtain ⟨v, d, q1, q2, q3⟩ := dps_some t l1
    obtain ⟨v', d', r1, r2, r3⟩ := dps_some t2 l2
    refine ⟨⟨xs, ys, v, v', (e1.trans e2).sqL h, (e1.trans e2).sqL h2, q1, r1⟩, fun x H' y => ?_⟩
    obtain ⟨T, x', y', rfl, hT, rfl, y1, y2⟩ := y
    have z := y1 xs ((e1.trans e2).sqL h)
    rw [q1] at z
    cases z
    have z := y2 ys ((e1.trans e2).sqL h2)
    rw [r1] at z
    cases z
    have en := Ex.new (o := .tup [v, v']) (e2.back hT)
    exact ⟨.tuple [d, d'], _, by simp [zipD, List.getElem?_zipWith, q2, r2], Gr.new e2 hT, .tup (SqT.of upd_same) (.cons (en.dp (e1.dp q3)) (.cons (en.dp (e1.dp r3)) .nil))⟩,
   fun e1 e2 => ⟨xs, ys, (e1.trans e2).sqL h, (e1.trans e2).sqL h2, by simp only [zipD, List.length_zipWith, dps_len t, dps_len t2]; omega⟩⟩
theorem it_zipT {a b : Addr} {xs ys : List V} {ds es : List D} {B : Hp} (h : SqT K B a xs) (t : DpAll K B xs ds) (h2 : SqT K B b ys) (t2 : DpAll K B ys es) : ItOk K (RZ.ItzT K a b) B (zipD ds es) :=
  ⟨fun {B2 H i} e1 e2 l => by
    obtain ⟨l1, l2⟩ := zip_get l
    obtain ⟨v, d, q1, q2, q3⟩ := dps_some t l1
    obtain ⟨v', d', r1, r2, r3⟩ := dps_some t2 l2
    refine ⟨⟨xs, ys, v, v', (e1.trans e2).sqT h, (e1.trans e2).sqT h2, q1, r1⟩, fun x H' y => ?_⟩
    obtain ⟨T, x', y', rfl, hT, rfl, y1, y2⟩ := y
    have z := y1 xs ((e1.trans e2).sqT h)
    rw [q1] at z
    cases z
    have z := y2 ys ((e1.trans e2).sqT h2)
    rw [r1] at z
    cases z
    have en := Ex.new (o := .tup [v, v']) (e2.back hT)
    exact ⟨.tuple [d, d'], _, by simp [zipD, List.getElem?_zipWith, q2, r2], Gr.new e2 hT, .tup (SqT.of upd_same) (.cons (en.dp (e1.dp q3)) (.cons (en.dp (e1.dp r3)) .nil))⟩,
   fun e1 e2 => ⟨xs, ys, (e1.trans e2).sqT h, (e1.trans e2).sqT h2, by simp only [zipD, List.length_zipWith, dps_len t, dps_len t2]; omega⟩⟩
theorem si_list (h : SE K W te me) : SI K W (iList K te) (iL me) := ⟨fun s P X R q k kx => h.run s _ X _ q (fun d v B' H' p g dv => by
  cases dv <;> try exact p.elim
  rename_i s1 t1
  exact ⟨_, rfl, ⟨_, g.bh.sqL s1⟩, k _ _ _ _ p g (it_list s1 t1)⟩) kx⟩
theorem si_tup (h : SE K W te me) : SI K W (iTup K te) (iT me) := ⟨fun s P X R q k kx => h.run s _ X _ q (fun d v B' H' p g dv => by
  cases dv <;> try exact p.elim
  rename_i s1 t1
  exact ⟨_, rfl, ⟨_, g.bh.sqT s1⟩, k _ _ _ _ p g (it_tup s1 t1)⟩) kx⟩
theorem si_rng1 (h : SAr K W ta ma) : SI K W (iRng1 ta) (iR1 ma) := ⟨fun s P X R q k kx => h.run s _ X _ q (fun ds vs B' H' p g dvs => by
  cases dvs with
  | nil => exact p.elim
  | cons a r => cases r with
    | cons _ _ => cases a <;> exact p.elim
    | nil => cases a <;> first | exact p.elim | exact ⟨_, rfl, p.2.1, p.1, k _ _ _ _ p.2.2 g it_rng⟩) kx⟩
theorem si_rng2 (h : SAr K W ta ma) : SI K W (iRng2 ta) (iR2 ma) := ⟨fun s P X R q k kx => h.run s _ X _ q (fun ds vs B' H' p g dvs => by
  cases dvs with
  | nil => exact p.elim
  | cons a r => cases r with
    | nil => cases a <;> exact p.elim
    | cons b r => cases r with
      | cons _ _ => cases a <;> cases b <;> exact p.elim
      | nil => cases a <;> cases b <;> first | exact p.elim | exact ⟨_, _, rfl, p.1, k _ _ _ _ p.2 g it_rng⟩) kx⟩
theorem si_enum (h : SAr K W ta ma) : SI K W (iEnum K ta) (iE ma) := ⟨fun s P X R q k kx => h.run s _ X _ q (fun ds vs B' H' p g dvs => by
  cases dvs with
  | nil => exact p.elim
  | cons a r => cases r with
    | cons _ _ => cases a <;> exact p.elim
    | nil => cases a with
      | lst s1 t1 => exact ⟨_, _, rfl, g.bh.sqL s1, k _ _ _ _ p g (it_enum s1 t1)⟩
      | _ => exact p.elim) kx⟩
theorem si_zip (h : SAr K W ta ma) : SI K W (RZ.iZipA K ta) (iZ ma) := ⟨fun s P X R q k kx => h.run s _ X _ q (fun ds vs B' H' p g dvs => by
  cases dvs with
  | nil => exact p.elim
  | cons a r => cases r with
    | nil => cases a <;> exact p.elim
    | cons b r => cases r with
      | cons _ _ => cases a <;> cases b <;> exact p.elim
      | nil => cases a with
        | lst s1 t1 => cases b with
          | lst s2 t2 => exact ⟨_, _, _, _, rfl, .inl ⟨g.bh.sqL s1, g.bh.sqL s2, k _ _ _ _ p g (it_zipL s1 t1 s2 t2)⟩⟩
          | _ => exact p.elim
        | tup s1 t1 => cases b with
          | tup s2 t2 => exact ⟨_, _, _, _, rfl, .inr ⟨g.bh.sqT s1, g.bh.sqT s2, k _ _ _ _ p g (it_zipT s1 t1 s2 t2)⟩⟩
          | _ => exact p.elim
        | _ => cases b <;> exact p.elim) kx⟩
end
section
variable {X : Cx} {K : Fg} {W : WX} {tg e e2 : Expr} {te : TE} {me : DE} {ta : TA} {ma : DA} {p pos tpos : Pos} {elts : List Expr} {kk : Nat}
theorem xi_list {k0 : Nat} (C : Ctx X K W k0) (h : XE X K W e te me) : XI X K W tg e (iList K te) (iL me) := by
  have hK := C.hK
  subst hK
  exact ⟨pi_list h.1, si_list h.2⟩
theorem xi_tup {k0 : Nat} (C : Ctx X K W k0) (h : XE X K W e te me) : XI X K W tg e (iTup K te) (iT me) := by
  have hK := C.hK
  subst hK
  exact ⟨pi_tup h.1, si_tup h.2⟩
theorem se_nil {X : Cx} : starEach [] X.env = [] := rfl
theorem xi_range1 (hm : X.mg "range" = none) (h : XA X K W [e] ta ma) (hg : Gl X "range" := by rfl) (hs : starEach [e] X.env = (false, eval e X.env) :: starEach [] X.env := by rfl) : XI X K W tg (.Call (.Name "range" p) [e] [] pos) (iRng1 ta) (iR1 ma) := ⟨pi_range1 hg hm h.1 (hs.trans (by rw [se_nil])), si_rng1 h.2⟩
theorem xi_range2 (hm : X.mg "range" = none) (h : XA X K W [e, e2] ta ma) (hg : Gl X "range" := by rfl) (hs : starEach [e, e2] X.env = (false, eval e X.env) :: starEach [e2] X.env := by rfl) (hs2 : starEach [e2] X.env = (false, eval e2 X.env) :: starEach [] X.env := by rfl) : XI X K W tg (.Call (.Name "range" p) [e, e2] [] pos) (iRng2 ta) (iR2 ma) :=
  ⟨pi_range2 hg hm h.1 (hs.trans (by rw [hs2, se_nil])) (hs2.trans (by rw [se_nil])), si_rng2 h.2⟩
theorem xi_enum {k0 : Nat} (C : Ctx X K W k0) (hm : X.mg "enumerate" = none) (h : XA X K W [e] ta ma) (hg : Gl X "enumerate" := by rfl) (hs : starEach [e] X.env = (false, eval e X.env) :: starEach [] X.env := by rfl) : XI X K W (.Tuple elts kk tpos) (.Call (.Name "enumerate" p) [e] [] pos) (iEnum K ta) (iE ma) := by
  have hK := C.hK
  subst hK
  exact ⟨pi_enum hg hm h.1 (hs.trans (by rw [se_nil])), si_enum h.2⟩
theorem xi_zip {k0 : Nat} (C : Ctx X K W k0) (hm : X.mg "zip" = none) (h : XA X K W [e, e2] ta ma) (hg : Gl X "zip" := by rfl) (hs : starEach [e, e2] X.env = (false, eval e X.env) :: starEach [e2] X.env := by rfl) (hpl : (backTo pos (starEach [e2] X.env)).any (·.1) = false := by rfl) : XI X K W (.Tuple elts kk tpos) (.Call (.Name "zip" p) [e, e2] [] pos) (RZ.iZipA K ta) (iZ ma) := by
  have hK := C.hK
  subst hK
  exact ⟨RZ.pi_zipA hg hm h.1 hs hpl, si_zip h.2⟩
end

/-! ### for -/
def forGo (mg : DG) (mb : DS) (E : Eo) : List D → En → Prop
  | [], es => E.nx es
  | d :: r, es => mg d es (fun es' => mb { E with nx := forGo mg mb E r, ct := forGo mg mb E r, bk := E.nx } es')
def dFor (mi : DA) (mg : DG) (mb : DS) : DS := fun E es => mi es (fun ds => forGo mg mb E ds es) (fun x => E.xx x es)
theorem ss_for {K : Fg} {W : WX} {wi : TI} {mi : DA} {g : TG} {mg : DG} {vs : List Nat} {tb : TS} {mb : DS} (hi : SI K W wi mi) (hg : SG K g mg vs) (hb : SS K W tb mb) : SS K W (tFor wi g tb) (dFor mi mg mb) := ⟨fun {S B0 H0 B H σ es} s E Z q kn kr kb kc kx => by
  refine hi.run s _ _ _ q (fun ds J B1 H1 p g1 it => ?_) fun x cls dd B' H' hx g r => kx _ _ _ _ _ _ _ hx (s.step g) g.bb r
  refine ⟨fun i m σ' H' => m = ds.length - i ∧ i ≤ ds.length ∧ ∃ es' B', forGo mg mb E (ds.drop i) es' ∧ Sim K S B0 H0 σ' es' B' H' ∧ Ex B1 B', ⟨_, rfl, Nat.zero_le _, es, B1, p, s.step g1, Ex.rfl⟩, ?_⟩
  rintro i m σ' H' ⟨rfl, hl, es', B', f, s', e1⟩
  by_cases c : i < ds.length
  · obtain ⟨h1, h2⟩ := it.go e1 s'.bh c
    refine .inr ⟨h1, fun σ2 H2 => ∃ es2 B2, forGo mg mb E (ds.drop (i + 1)) es2 ∧ Sim K S B0 H0 σ2 es2 B2 H2 ∧ Ex B1 B2, fun σ2 H2 z => ⟨ds.length - (i + 1), by omega, rfl, c, z⟩, fun x H2 y => ?_⟩
    obtain ⟨d, B2, ed, gr, dx⟩ := h2 x H2 y
    rw [List.drop_eq_getElem_cons c] at f
    have e3 : ds[i] = d := by
      rw [List.getElem?_eq_getElem c] at ed
      exact Option.some.inj ed
    rw [e3] at f
    have s2 := s'.step (s'.gr gr)
    have e2 : Ex B1 B2 := e1.trans gr.bb
    refine hg.run s2 dx _ _ f fun σ3 es3 p3 s3 _ => ?_
    exact hb.run s3 _ _ p3 (fun σ4 es4 B4 H4 p4 s4 e4 => ⟨es4, B4, p4, s4, e2.trans e4⟩) kr (fun σ4 es4 B4 H4 p4 s4 e4 => kn _ _ _ _ p4 s4 (g1.bb.trans (e2.trans e4))) (fun σ4 es4 B4 H4 p4 s4 e4 => ⟨es4, B4, p4, s4, e2.trans e4⟩) (fun x c d a b e f q s w r => kx x c d a b e f q s (g1.bb.trans (e2.trans w)) r)
  · have e : i = ds.length := by omega
    subst e
    rw [List.drop_length] at f
    exact .inl ⟨it.stop e1 s'.bh, kn _ _ _ _ f s' (g1.bb.trans e1)⟩⟩

/-! ### while -/
def dWhile (mt : DT) (mb : DS) : DS := fun E es => ∃ (I : En → Prop) (μ : En → Nat), I es ∧ ∀ es, I es → mt es (fun b => if b = true then mb { E with nx := fun es' => I es' ∧ μ es' < μ es, ct := fun es' => I es' ∧ μ es' < μ es, bk := E.nx } es else E.nx es) (fun x => E.xx x es)
theorem ss_while {K : Fg} {W : WX} {tc : TT} {mc : DT} {tb : TS} {mb : DS} (hc : ST K W tc mc) (hb : SS K W tb mb) : SS K W (tWhile tc tb) (dWhile mc mb) := ⟨fun {S B0 H0 B H σ es} s E Z q kn kr kb kc kx => by
  obtain ⟨I, μ, i0, turn⟩ := q
  refine ⟨fun m σ' H' => ∃ es' B', m = μ es' ∧ I es' ∧ Sim K S B0 H0 σ' es' B' H' ∧ Ex B B', ⟨_, es, B, rfl, i0, s, Ex.rfl⟩, ?_⟩
  rintro m σ' H' ⟨es', B', rfl, i1, s', e1⟩
  refine hc.run s' _ _ _ (turn es' i1) (fun b B2 H2 p g => ?_) fun x cls dd B' H' hx g r => kx _ _ _ _ _ _ _ hx (s'.step g) (e1.trans g.bb) r
  have s2 := s'.step g
  have e2 := e1.trans g.bb
  cases b with
  | false => exact kn _ _ _ _ p s2 e2
  | true =>
    refine ⟨fun σ3 H3 => ∃ es3 B3, (I es3 ∧ μ es3 < μ es') ∧ Sim K S B0 H0 σ3 es3 B3 H3 ∧ Ex B B3, fun σ3 H3 ⟨es3, B3, ⟨j, l⟩, z, w⟩ => ⟨_, l, es3, B3, rfl, j, z, w⟩, ?_⟩
    exact hb.run s2 _ _ p (fun σ4 es4 B4 H4 p4 s4 e4 => ⟨es4, B4, p4, s4, e2.trans e4⟩) kr (fun σ4 es4 B4 H4 p4 s4 e4 => kn _ _ _ _ p4 s4 (e2.trans e4)) (fun σ4 es4 B4 H4 p4 s4 e4 => ⟨es4, B4, p4, s4, e2.trans e4⟩) (fun x c d a b e f q s w r => kx x c d a b e f q s (e2.trans w) r)⟩
section
variable {X : Cx} {K : Fg} {W : WX} {k : Nat} {tg iter e : Expr} {wi : TI} {mi : DA} {g : TG} {mg : DG} {vs : List Nat} {body : List Stmt} {tb : TS} {mb : DS} {tc : TT} {mc : DT} {pos : Pos}
theorem xs_for (C : Ctx X K W k) (hi : XI X K W tg iter wi mi) (hg : XG X K tg g mg vs) (hb : XB X K W body tb mb) (hs : ∀ x, foldedSetIterable iter X.env x = pure x := by intro _; rfl) : XS X K W (.For tg iter body [] pos) (tFor wi g tb) (dFor mi mg mb) := ⟨ps_for C.po C.calm hi.1 hg.1 hb.1 hs, ss_for hi.2 hg.2 hb.2⟩
theorem xs_while (C : Ctx X K W k) (hc : XT X K W e tc mc) (hb : XB X K W body tb mb) : XS X K W (.While e body [] pos) (tWhile tc tb) (dWhile mc mb) := ⟨ps_while C.po hc.1 hb.1, ss_while hc.2 hb.2⟩
end
end Fw
namespace Fw
variable [Tabs]
open PySem PySem.Spec L2

/-! ### comprehensions -/
abbrev WF : WX := fun _ _ _ _ => False
def wipeE (es : En) : List Nat → En
  | [] => es
  | v :: vs => (wipeE es vs).set v .un
theorem Sim.wipe {K : Fg} {S : SA} {B0 H0 B H : Hp} {σ : L2.St} {es : En} (s : Sim K S B0 H0 σ es B H) : ∀ vs : List Nat, Sim K S B0 H0 (L2.wipe σ vs) (wipeE es vs) B H
  | [] => s
  | v :: vs => (Sim.wipe s vs).setU none v
def lcGo (mg : DG) (mt : DT) (me : DE) (es0 : En) : List D → List D → (List D → Prop) → Prop
  | [], acc, P => P acc
  | d :: r, acc, P => mg d es0 (fun es1 => mt es1 (fun b => if b = true then me es1 (fun y => acc.length < 16777216 ∧ lcGo mg mt me es0 r (acc ++ [y]) P) (fun _ => False) else lcGo mg mt me es0 r acc P) (fun _ => False))
def dLc (mi : DA) (mg : DG) (mt : DT) (me : DE) (vs : List Nat) : DA := fun es P X => mi es (fun ds => lcGo mg mt me (wipeE es vs) ds [] P) X
theorem GrS.poke {S : SA} {B H B' H' : Hp} {p : Addr} {o : HO} (g : GrS S B H B' H') (hn : H p = none) (hb : B' p = none) (nS : ¬ S.has p) : GrS S B H B' (upd H' p o) :=
  ⟨g.bb, fun a u q n => by
    rw [upd_ne (ne_of_none q hn)]
    exact g.hh a u q n, fun a u q => by
    rw [upd_ne (ne_of_none q hb)]
    exact g.bh a u q, g.ne, g.sp.kept fun a q => upd_ne fun z => nS (z ▸ q)⟩
theorem sn_lc {K : Fg} {W : WX} {wi : TI} {mi : DA} {g : TG} {mg : DG} {vs0 vs : List Nat} {tt : TT} {mt : DT} {te : TE} {me : DE} (hi : SI K W wi mi) (hg : SG K g mg vs0) (hv : vs0 ⊆ vs) (ht : ST K WF tt mt) (he : SE K WF te me) :
    SN K W (tLc wi g tt te vs) (dLc mi mg mt me vs) := ⟨fun {S B0 H0 B H σ es} s P X Q q k kx => by
  refine hi.run s _ _ _ q (fun ds J B1 H1 p g1 it => ?_) kx
  have s1 := s.step g1
  intro L hL
  have nS : ¬ S.has L := fun z => (SprO.get s1.gs.sp z) hL
  have sw := s1.wipe vs
  have hB1 : B1 L = none := s1.bh.back hL
  refine ⟨fun i m H' => m = ds.length - i ∧ i ≤ ds.length ∧ ∃ B' xs acc, lcGo mg mt me (wipeE es vs) (ds.drop i) acc P ∧ GrS S B1 H1 B' H' ∧ H' L = some (.lst xs) ∧ DpAll K B' xs acc ∧ B' L = none,
    ⟨_, rfl, Nat.zero_le _, B1, [], [], p, s1.rfl.poke hL hB1 nS, upd_same, .nil, hB1⟩, ?_⟩
  rintro i m H' ⟨rfl, hl, B', xs, acc, f, gr, hx, dx, hb⟩
  by_cases c : i < ds.length
  · obtain ⟨h1, h2⟩ := it.go gr.bb gr.bh c
    refine .inr ⟨h1, fun H2 => ∃ B2 xs acc, lcGo mg mt me (wipeE es vs) (ds.drop (i + 1)) acc P ∧ GrS S B1 H1 B2 H2 ∧ H2 L = some (.lst xs) ∧ DpAll K B2 xs acc ∧ B2 L = none, fun H2 z => ⟨ds.length - (i + 1), by omega, rfl, c, z⟩, fun x H2 y => ?_⟩
    obtain ⟨d, B2, ed, gx, dv⟩ := h2 x H2 y
    rw [List.drop_eq_getElem_cons c] at f
    have e3 : ds[i] = d := by
      rw [List.getElem?_eq_getElem c] at ed
      exact Option.some.inj ed
    rw [e3] at f
    have sw' := sw.step gr
    have gx' := sw'.gr gx
    have s2 := sw'.step gx'
    have hx2 : H2 L = some (.lst xs) := gx.hh L _ hx
    have hb2 : B2 L = none := (gx.ne L (by rw [hx]; exact fun z => nomatch z)).trans hb
    refine hg.run s2 dv _ _ f fun σ3 es3 p3 s3 wp => ⟨(wp vs hv).trans ?_, ?_⟩
    · have : ∀ ws : List Nat, L2.wipe (L2.wipe σ ws) ws = L2.wipe σ ws := by
        intro ws
        induction ws with
        | nil => rfl
        | cons a r ih =>
          have e : ∀ (τ : L2.St) (us : List Nat), L2.wipe (τ.set a none) us = (L2.wipe τ us).set a none := by
            intro τ us
            induction us with
            | nil => rfl
            | cons b us ih2 =>
              show (L2.wipe (τ.set a none) us).set b none = ((L2.wipe τ us).set b none).set a none
              rw [ih2]
              by_cases z : a = b
              · rw [z]
              · rw [List.set_comm _ _ z]
          show (L2.wipe ((L2.wipe σ r).set a none) r).set a none = (L2.wipe σ r).set a none
          rw [e, ih, List.set_set]
      exact this vs
    refine ht.run s3 _ _ _ p3 (fun b B4 H4 p4 g4 => ?_) fun _ _ _ _ _ h => h.elim
    have hx4 : H4 L = some (.lst xs) := g4.hh L _ hx2 nS
    have hb4 : B4 L = none := (g4.ne L (by rw [hx2]; exact fun z => nomatch z)).trans hb2
    have gg := gr.trans (gx'.trans g4)
    cases b with
    | false => exact ⟨B4, xs, acc, p4, gg, hx4, g4.bb.dps (gx.bb.dps dx), hb4⟩
    | true =>
      refine he.run (s3.step g4) _ _ _ p4 (fun y v B5 H5 p5 g5 dy => ?_) fun _ _ _ _ _ h => h.elim
      have hx5 : H5 L = some (.lst xs) := g5.hh L _ hx4 nS
      have hb5 : B5 L = none := (g5.ne L (by rw [hx4]; exact fun z => nomatch z)).trans hb4
      have dx5 := g5.bb.dps (g4.bb.dps (gx.bb.dps dx))
      exact ⟨xs, hx5, by rw [sz_eq, dps_len dx5]; exact p5.1, B5, _, _, p5.2, (gg.trans g5).poke hL hb5 nS, upd_same, dps_app dx5 (.cons dy .nil), hb5⟩
  · have e : i = ds.length := by omega
    subst e
    rw [List.drop_length] at f
    refine .inl ⟨it.stop gr.bb gr.bh, k _ _ _ _ _ f (g1.trans gr) ?_ hb hx dx⟩
    cases z : H L with
    | none => rfl
    | some o => exact absurd hL (g1.ex (by rw [z]; exact fun w => nomatch w))⟩
def mYes : DT := fun _ P _ => P true
def XTs (X : Cx) (K : Fg) (W : WX) (ifs : List Expr) (tt : TT) (mt : DT) : Prop := PTs X ifs tt ∧ ST K W tt mt
theorem xts_nil {X : Cx} {K : Fg} {W : WX} : XTs X K W [] tYes mYes := ⟨pts_nil, ⟨fun s P X Q q k _ => k _ _ _ q s.rfl⟩⟩
theorem xts_one {X : Cx} {K : Fg} {W : WX} {c : Expr} {tt : TT} {mt : DT} (h : XT X K W c tt mt) : XTs X K W [c] tt mt := ⟨pts_one h.1, h.2⟩
theorem Ctx.blk {X : Cx} {K : Fg} {W : WX} {k : Nat} (C : Ctx X K W k) {s : Shared} {H : Hp} {scope : Scope} {cenv : PySem.Env} {fp : List Addr} : Ctx (X.blk s H scope cenv fp) K WF k :=
  ⟨C.hK, takes0, PassesOwn.never, C.hr, C.calm, C.nd⟩
section
variable {X : Cx} {K : Fg} {W : WX} {k : Nat} {elt tg iter : Expr} {ifs : List Expr} {scope : Scope} {own : List (Str × Nat)} {pos spos py : Pos} {wi : TI} {mi : DA} {g : TG} {mg : DG} {vs0 : List Nat} {tt : TT} {mt : DT} {te : TE} {me : DE} {y : Str}
theorem xn_lc {vs : List Nat} (C : Ctx X K W k) (hi : XI X K W tg iter wi mi) (ok : BlkOk X.N X.env.scope scope own)
    (hg : ∀ (s : Shared) (H : Hp) (c : Addr) (cl : List (Str × Addr)) (fp : List Addr), Ctx (X.blk s H scope (compEnvC scope cl c X.env) fp) K WF k → XG (X.blk s H scope (compEnvC scope cl c X.env) fp) K tg g mg vs0) (ht : ∀ (s : Shared) (H : Hp) (c : Addr) (cl : List (Str × Addr)) (fp : List Addr), Ctx (X.blk s H scope (compEnvC scope cl c X.env) fp) K WF k → XTs (X.blk s H scope (compEnvC scope cl c X.env) fp) K WF ifs tt mt)
    (he : ∀ (s : Shared) (H : Hp) (c : Addr) (cl : List (Str × Addr)) (fp : List Addr), Ctx (X.blk s H scope (compEnvC scope cl c X.env) fp) K WF k → XE (X.blk s H scope (compEnvC scope cl c X.env) fp) K WF elt te me) (hvs : own.map (·.2) = vs) (hv : vs0 ⊆ vs) (hs : ∀ x, foldedSetIterable iter X.env x = pure x) :
    XN X K W (.ListComp elt [⟨tg, iter, ifs, 0⟩] scope pos) (tLc wi g tt te vs) (dLc mi mg mt me vs) := by
  subst hvs
  exact ⟨pe_lc C.calm C.nd hi.1 ok (fun s H c cl fp => (hg s H c cl fp C.blk).1) (fun s H c cl fp => (ht s H c cl fp C.blk).1) (fun s H c cl fp => (he s H c cl fp C.blk).1) hs,
   sn_lc hi.2 (hg X.s_0 X.H_0 0 [] [] C.blk).2 hv (ht X.s_0 X.H_0 0 [] [] C.blk).2 (he X.s_0 X.H_0 0 [] [] C.blk).2⟩
/-- y = [..]: the list is the slot's own -/
theorem xs_lcO {vs : List Nat} (C : Ctx X K W k) (i : Nat) (hy : X.N[i]? = some y) (hyl : X.env.scope.names.lookup y = some .local) (hsw : swapsWith (.ListComp elt [⟨tg, iter, ifs, 0⟩] scope pos) (some (.Name y py)) spos.line X.env = pure true) (hi : XI X K W tg iter wi mi) (ok : BlkOk X.N X.env.scope scope own)
    (hg : ∀ (s : Shared) (H : Hp) (c : Addr) (cl : List (Str × Addr)) (fp : List Addr), Ctx (X.blk s H scope (compEnvC scope cl c X.env) fp) K WF k → XG (X.blk s H scope (compEnvC scope cl c X.env) fp) K tg g mg vs0) (ht : ∀ (s : Shared) (H : Hp) (c : Addr) (cl : List (Str × Addr)) (fp : List Addr), Ctx (X.blk s H scope (compEnvC scope cl c X.env) fp) K WF k → XTs (X.blk s H scope (compEnvC scope cl c X.env) fp) K WF ifs tt mt)
    (he : ∀ (s : Shared) (H : Hp) (c : Addr) (cl : List (Str × Addr)) (fp : List Addr), Ctx (X.blk s H scope (compEnvC scope cl c X.env) fp) K WF k → XE (X.blk s H scope (compEnvC scope cl c X.env) fp) K WF elt te me) (hvs : own.map (·.2) = vs) (hv : vs0 ⊆ vs) (hs : ∀ x, foldedSetIterable iter X.env x = pure x) :
    XS X K W (.Assign [.Name y py] (.ListComp elt [⟨tg, iter, ifs, 0⟩] scope pos) spos) (tAsg (tLc wi g tt te vs) (gName i)) (dAsgO i (dLc mi mg mt me vs)) := by
  subst hvs
  exact ⟨ps_setLc C.calm C.nd hy hyl hsw hi.1 ok (fun s H c cl fp => (hg s H c cl fp C.blk).1) (fun s H c cl fp => (ht s H c cl fp C.blk).1) (fun s H c cl fp => (he s H c cl fp C.blk).1) hs,
   ss_asgO (sn_lc hi.2 (hg X.s_0 X.H_0 0 [] [] C.blk).2 hv (ht X.s_0 X.H_0 0 [] [] C.blk).2 (he X.s_0 X.H_0 0 [] [] C.blk).2)⟩
/-- y = [..]: the list is plain data at once -/
theorem xs_lc {vs : List Nat} (C : Ctx X K W k) (i : Nat) (hy : X.N[i]? = some y) (hyl : X.env.scope.names.lookup y = some .local) (hsw : swapsWith (.ListComp elt [⟨tg, iter, ifs, 0⟩] scope pos) (some (.Name y py)) spos.line X.env = pure true) (hi : XI X K W tg iter wi mi) (ok : BlkOk X.N X.env.scope scope own)
    (hg : ∀ (s : Shared) (H : Hp) (c : Addr) (cl : List (Str × Addr)) (fp : List Addr), Ctx (X.blk s H scope (compEnvC scope cl c X.env) fp) K WF k → XG (X.blk s H scope (compEnvC scope cl c X.env) fp) K tg g mg vs0) (ht : ∀ (s : Shared) (H : Hp) (c : Addr) (cl : List (Str × Addr)) (fp : List Addr), Ctx (X.blk s H scope (compEnvC scope cl c X.env) fp) K WF k → XTs (X.blk s H scope (compEnvC scope cl c X.env) fp) K WF ifs tt mt)
    (he : ∀ (s : Shared) (H : Hp) (c : Addr) (cl : List (Str × Addr)) (fp : List Addr), Ctx (X.blk s H scope (compEnvC scope cl c X.env) fp) K WF k → XE (X.blk s H scope (compEnvC scope cl c X.env) fp) K WF elt te me) (hvs : own.map (·.2) = vs) (hv : vs0 ⊆ vs) (hs : ∀ x, foldedSetIterable iter X.env x = pure x) :
    XS X K W (.Assign [.Name y py] (.ListComp elt [⟨tg, iter, ifs, 0⟩] scope pos) spos) (tAsg (tLc wi g tt te vs) (gName i)) (dAsg (dNew (dLc mi mg mt me vs)) (gP i)) := by
  subst hvs
  exact ⟨ps_setLc C.calm C.nd hy hyl hsw hi.1 ok (fun s H c cl fp => (hg s H c cl fp C.blk).1) (fun s H c cl fp => (ht s H c cl fp C.blk).1) (fun s H c cl fp => (he s H c cl fp C.blk).1) hs,
   ss_asg (se_new (sn_lc hi.2 (hg X.s_0 X.H_0 0 [] [] C.blk).2 hv (ht X.s_0 X.H_0 0 [] [] C.blk).2 (he X.s_0 X.H_0 0 [] [] C.blk).2)) (sg_name i)⟩
end

/-! ### a list of a slot's own, looked at -/
def flatD : D → Bool
  | .none => true
  | .bool _ => true
  | .int _ => true
  | .str _ => true
  | _ => false
theorem flat_dp {K : Fg} {B B' : Hp} {v : V} {d : D} (f : flatD d = true) (h : Dp K B v d) : Dp K B' v d := by
  cases h <;> first | exact .non | exact .bl _ | exact .int _ | exact .str _ | cases f
def hideB (B H B2 : Hp) : Hp := fun b => match B b, H b with
  | none, some _ => none
  | _, _ => B2 b
theorem hide_gr {S : SA} {B H B' B2 H2 : Hp} (e : Ex B B') (g : GrS S B' H B2 H2) (bh : Ex B H) : GrS S B H (hideB B H B2) H2 :=
  ⟨fun a o q => by
    unfold hideB
    rw [q]
    exact g.bb a o (e a o q), g.hh, fun a o q => by
    unfold hideB at q
    split at q
    · cases q
    · exact g.bh a o q, fun a q => by
    unfold hideB
    cases c : B a with
    | some o => exact g.bb a o (e a o c)
    | none =>
      cases z : H a with
      | none => exact absurd z q
      | some u => rfl, g.sp⟩
def dLook (i : Nat) (me : DE) : DE := fun es P X => ∃ ds, es[i]? = some (.o ds) ∧ me (es.set i (.p (.list ds))) (fun d => flatD d = true ∧ P d) (fun x => x.2 = none ∧ X x)
def dLookT (i : Nat) (mt : DT) : DT := fun es P X => ∃ ds, es[i]? = some (.o ds) ∧ mt (es.set i (.p (.list ds))) P (fun x => x.2 = none ∧ X x)
def dIxO (i : Nat) (mb : DE) : DE := fun es P X => ∃ ds, es[i]? = some (.o ds) ∧ mb es (fun k => match k with
  | .int n => ∃ d, atI ds n = some d ∧ P d
  | _ => False) X
section
variable {K : Fg} {W : WX} {te : TE} {me : DE} {tt : TT} {mt : DT}
theorem se_look (i : Nat) (h : SE K W te me) : SE K W te (dLook i me) := ⟨fun s P X Q q k kx => by
  obtain ⟨ds, e, q⟩ := q
  obtain ⟨B', eb, s'⟩ := s.frz e
  refine h.run s' _ _ _ q (fun d v B2 H2 p g dv => k _ _ _ _ p.2 (hide_gr eb g s.bh) (flat_dp p.1 dv)) fun x cls dd B2 H2 hx g r => kx _ _ _ _ _ hx.2 (hide_gr eb g s.bh) ?_
  obtain ⟨r1, r2⟩ := r
  refine ⟨r1, ?_⟩
  rw [hx.1] at r2 ⊢
  exact r2⟩
theorem st_look (i : Nat) (h : ST K W tt mt) : ST K W tt (dLookT i mt) := ⟨fun s P X Q q k kx => by
  obtain ⟨ds, e, q⟩ := q
  obtain ⟨B', eb, s'⟩ := s.frz e
  refine h.run s' _ _ _ q (fun b B2 H2 p g => k _ _ _ p (hide_gr eb g s.bh)) fun x cls dd B2 H2 hx g r => kx _ _ _ _ _ hx.2 (hide_gr eb g s.bh) ?_
  obtain ⟨r1, r2⟩ := r
  refine ⟨r1, ?_⟩
  rw [hx.1] at r2 ⊢
  exact r2⟩
theorem se_ixO {i : Nat} (h : SE K W te me) : SE K W (tOp (rIx K) (tVar i) te) (dIxO i me) := ⟨fun {S B0 H0 B H σ es} s P X Q q k kx => by
  obtain ⟨ds, e, q⟩ := q
  obtain ⟨a, xs, h1, h2, h3⟩ := s.getO e
  refine ⟨_, h1, h.run s _ _ _ q (fun d v B' H' p g dv => ?_) kx⟩
  cases dv <;> try exact p.elim
  obtain ⟨d, z, w⟩ := p
  obtain ⟨a', xs', h1', h2', h3'⟩ := (s.step g).getO e
  rw [h1] at h1'
  obtain rfl : a = a' := by injection (Option.some.inj h1') with z; injection z
  obtain ⟨v, z2, dv⟩ := atI_dp h3' z
  exact .inl ⟨_, _, _, _, rfl, rfl, SqL.of h2', z2, k _ _ _ _ w g dv⟩⟩
end
section
variable {X : Cx} {K : Fg} {W : WX} {e a b : Expr} {te : TE} {me : DE} {tt : TT} {mt : DT} {pos pb : Pos} {x : Str}
theorem xe_look (i : Nat) (h : XE X K W e te me) : XE X K W e te (dLook i me) := ⟨h.1, se_look i h.2⟩
theorem xt_look (i : Nat) (h : XT X K W e tt mt) : XT X K W e tt (dLookT i mt) := ⟨h.1, st_look i h.2⟩
theorem xe_ixO {k0 : Nat} (C : Ctx X K W k0) (i : Nat) (h : XE X K W b te me) (hN : X.N[i]? = some x := by rfl) (hv : Vis X.env.scope x := by first | exact Or.inl rfl | exact Or.inr (Or.inl rfl) | exact Or.inr (Or.inr rfl)) (hd : (x == ("__debug__" : Str)) = false := by decide)
    (hcd : (x == ("__classdict__" : Str)) = false := by decide) (hs : PlainIx b := by exact fun _ _ => rfl) : XE X K W (.Subscript (.Name x pb) b pos) (tOp (rIx K) (tVar i) te) (dIxO i me) := by
  have hK := C.hK
  subst hK
  exact ⟨pe_ix ix_seq (pe_var hN hv hd hcd) h.1 hs, se_ixO h.2⟩
end

/-! ### built-ins -/
def bLen : D1
  | [.str z], P => z.length ≤ 16777216 ∧ P (.int z.length)
  | [.list ds], P => P (.int ds.length)
  | [.tuple ds], P => P (.int ds.length)
  | _, _ => False
def bAbs : D1
  | [.int i], P => P (.int (if i < 0 then -i else i))
  | _, _ => False
def bInt : D1
  | [.int i], P => P (.int i)
  | [.bool b], P => P (.int (if b then 1 else 0))
  | _, _ => False
def bTuple : D1
  | [.list ds], P => P (.tuple ds)
  | [.tuple ds], P => P (.tuple ds)
  | _, _ => False
def bList : D1
  | [.list ds], P => P (.list ds)
  | [.tuple ds], P => P (.list ds)
  | _, _ => False
def bAll : D1
  | [.list ds], P => ∃ bs : List Bool, ds = bs.map PyData.bool ∧ P (.bool (bs.all id))
  | _, _ => False
def bAny : D1
  | [.list ds], P => ∃ bs : List Bool, ds = bs.map PyData.bool ∧ P (.bool (bs.any id))
  | _, _ => False
def bMin : D1
  | [.int i, .int j], P => P (.int (if j < i then j else i))
  | _, _ => False
def bMax : D1
  | [.int i, .int j], P => P (.int (if j > i then j else i))
  | _, _ => False
def bGcd : D1
  | [.int i, .int j], P => P (.int ((Nat.gcd i.natAbs j.natAbs : Nat) : Int))
  | _, _ => False
section
variable {K : Fg}
theorem rc1 {r : List V → Hp → VK → Prop} {rd : D1} (h0 : ∀ P, ¬ rd [] P) (h2 : ∀ a b l P, ¬ rd (a :: b :: l) P)
    (h : ∀ {B H : Hp} {v : V} {d : D}, Ex B H → Dp K B v d → ∀ (P : D → Prop) (Q : VK), rd [d] P → (∀ d v B' H', P d → Gr B H B' H' → Dp K B' v d → Q v H') → r [v] H Q) : RC K r rd := ⟨fun e dp P Q q k => by
  cases dp with
  | nil => exact (h0 _ q).elim
  | cons a t => cases t with
    | nil => exact h e a P Q q k
    | cons b t => exact (h2 _ _ _ _ q).elim⟩
theorem rc_len : RC K (fun xs H Q => ∃ x n, xs = [x] ∧ LenV K x H n ∧ Q (.int n) H) bLen := rc1 (fun _ q => q) (fun a b l _ q => by cases a <;> exact q) fun e dv P Q q k => by
  cases dv <;> try exact q.elim
  · exact ⟨_, _, rfl, ⟨by rw [sz_eq]; exact q.1, rfl⟩, k _ _ _ _ q.2 (Gr.rfl e) (.int _)⟩
  · rename_i s1 t1
    exact ⟨_, _, rfl, .inl ⟨_, e.sqL s1, (dps_len t1).symm⟩, k _ _ _ _ q (Gr.rfl e) (.int _)⟩
  · rename_i s1 t1
    exact ⟨_, _, rfl, .inr ⟨_, e.sqT s1, (dps_len t1).symm⟩, k _ _ _ _ q (Gr.rfl e) (.int _)⟩
theorem rc_abs : RC K (fun xs H Q => ∃ i, xs = [.int i] ∧ Q (.int (if i < 0 then -i else i)) H) bAbs := rc1 (fun _ q => q) (fun a b l _ q => by cases a <;> exact q) fun e dv P Q q k => by
  cases dv <;> try exact q.elim
  exact ⟨_, rfl, k _ _ _ _ q (Gr.rfl e) (.int _)⟩
theorem rc_int : RC K (fun xs H Q => (∃ i, xs = [.int i] ∧ Q (.int i) H) ∨ ∃ k, xs = [.bl k] ∧ Q (.int (if k then 1 else 0)) H) bInt := rc1 (fun _ q => q) (fun a b l _ q => by cases a <;> exact q) fun e dv P Q q k => by
  cases dv <;> try exact q.elim
  · exact .inr ⟨_, rfl, k _ _ _ _ q (Gr.rfl e) (.int _)⟩
  · exact .inl ⟨_, rfl, k _ _ _ _ q (Gr.rfl e) (.int _)⟩
theorem rc_tuple : RC K (fun xs H Q => ∃ p ys, xs = [.ref p] ∧ ((SqL K H p ys ∧ ∀ l, H l = none → Q (.ref l) (upd H l (.tup ys))) ∨ (SqT K H p ys ∧ Q (.ref p) H))) bTuple := rc1 (fun _ q => q) (fun a b l _ q => by cases a <;> exact q) fun e dv P Q q k => by
  cases dv <;> try exact q.elim
  · rename_i s1 t1
    exact ⟨_, _, rfl, .inl ⟨e.sqL s1, fun l hl => k _ _ _ _ q (Gr.new e hl) (.tup (SqT.of upd_same) ((Ex.new (e.back hl)).dps t1))⟩⟩
  · rename_i s1 t1
    exact ⟨_, _, rfl, .inr ⟨e.sqT s1, k _ _ _ _ q (Gr.rfl e) (.tup s1 t1)⟩⟩
theorem rc_list : RC K (fun xs H Q => ∃ p ys, xs = [.ref p] ∧ (SqL K H p ys ∨ SqT K H p ys) ∧ ∀ l, H l = none → Q (.ref l) (upd H l (.lst ys))) bList := rc1 (fun _ q => q) (fun a b l _ q => by cases a <;> exact q) fun e dv P Q q k => by
  cases dv <;> try exact q.elim
  · rename_i s1 t1
    exact ⟨_, _, rfl, .inl (e.sqL s1), fun l hl => k _ _ _ _ q (Gr.new e hl) (.lst (SqL.of upd_same) ((Ex.new (e.back hl)).dps t1))⟩
  · rename_i s1 t1
    exact ⟨_, _, rfl, .inr (e.sqT s1), fun l hl => k _ _ _ _ q (Gr.new e hl) (.lst (SqL.of upd_same) ((Ex.new (e.back hl)).dps t1))⟩
theorem dps_bl {B : Hp} : ∀ {xs : List V} {bs : List Bool}, DpAll K B xs (bs.map PyData.bool) → xs = bs.map V.bl
  | _, [], h => by cases h; rfl
  | _, b :: bs, h => by
    cases h with
    | cons a t =>
      cases a
      rw [dps_bl t]
      rfl
theorem rc_all : RC K (rAll K) bAll := rc1 (fun _ q => q) (fun a b l _ q => by cases a <;> exact q) fun e dv P Q q k => by
  cases dv <;> try exact q.elim
  rename_i s1 t1
  obtain ⟨bs, rfl, q⟩ := q
  have z := dps_bl t1
  subst z
  exact ⟨_, bs, rfl, e.sqL s1, k _ _ _ _ q (Gr.rfl e) (.bl _)⟩
theorem rc_any : RC K (rAny K) bAny := rc1 (fun _ q => q) (fun a b l _ q => by cases a <;> exact q) fun e dv P Q q k => by
  cases dv <;> try exact q.elim
  rename_i s1 t1
  obtain ⟨bs, rfl, q⟩ := q
  have z := dps_bl t1
  subst z
  exact ⟨_, bs, rfl, e.sqL s1, k _ _ _ _ q (Gr.rfl e) (.bl _)⟩
theorem rc2 {r : List V → Hp → VK → Prop} {rd : D1} {g : Int → Int → D} (hrd : ∀ ds P, rd ds P → ∃ i j, ds = [.int i, .int j] ∧ P (g i j))
    (h : ∀ {B H : Hp} {i j : Int}, Ex B H → ∀ (Q : VK), (∀ v B' H', Gr B H B' H' → Dp K B' v (g i j) → Q v H') → r [.int i, .int j] H Q) : RC K r rd := ⟨fun e dp P Q q k => by
  obtain ⟨i, j, rfl, p⟩ := hrd _ _ q
  cases dp with
  | cons a t => cases t with
    | cons b t =>
      cases t
      cases a
      cases b
      exact h e Q fun v B' H' g1 dv => k _ _ _ _ p g1 dv⟩
theorem d2_cases {rd : D1} {g : Int → Int → D} (h : ∀ i j P, rd [.int i, .int j] P → P (g i j)) (hn : ∀ ds P, rd ds P → ∃ i j : Int, ds = [.int i, .int j]) : ∀ ds P, rd ds P → ∃ i j, ds = [.int i, .int j] ∧ P (g i j) := fun ds P q => by
  obtain ⟨i, j, rfl⟩ := hn ds P q
  exact ⟨i, j, rfl, h i j P q⟩
theorem two_ints {rd : D1} {g : Int → Int → D} (e : rd = fun ds P => match ds with
  | [.int i, .int j] => P (g i j)
  | _ => False) : ∀ ds P, rd ds P → ∃ i j, ds = [.int i, .int j] ∧ P (g i j) := fun ds P q => by
  subst e
  split at q
  · exact ⟨_, _, rfl, q⟩
  · exact q.elim
theorem rc_gcd : RC K rGcd bGcd := rc2 (g := fun i j => .int ((Nat.gcd i.natAbs j.natAbs : Nat) : Int)) (two_ints (by funext ds P; unfold bGcd; split <;> simp_all)) fun e Q k => ⟨_, _, rfl, k _ _ _ (Gr.rfl e) (.int _)⟩
theorem rc_min : RC K (fun xs H Q => ∃ i j, xs = [.int i, .int j] ∧ Q (.int (if j < i then j else i)) H) bMin := rc2 (g := fun i j => .int (if j < i then j else i)) (two_ints (by funext ds P; unfold bMin; split <;> simp_all)) fun e Q k => ⟨_, _, rfl, k _ _ _ (Gr.rfl e) (.int _)⟩
theorem rc_max : RC K (fun xs H Q => ∃ i j, xs = [.int i, .int j] ∧ Q (.int (if j > i then j else i)) H) bMax := rc2 (g := fun i j => .int (if j > i then j else i)) (two_ints (by funext ds P; unfold bMax; split <;> simp_all)) fun e Q k => ⟨_, _, rfl, k _ _ _ (Gr.rfl e) (.int _)⟩
end

/-! #### kinds -/
def tyD : D → String
  | .none => "NoneType"
  | .bool _ => "bool"
  | .int _ => "int"
  | .str _ => "str"
  | .list _ => "list"
  | .tuple _ => "tuple"
  | .dict _ => "dict"
theorem ty_b {K : Fg} {B : Hp} {v : V} {d : D} (h : Dp K B v d) : TyB K B v (tyD d) := by
  cases h with
  | non => exact .non
  | bl b => exact .bl b
  | int i => exact .int i
  | str x => exact .str x
  | lst s _ => exact .lst s
  | tup s _ => exact .tup s
theorem Ex.tyb {K : Fg} {B H : Hp} {v : V} {d : D} (e : Ex B H) (h : Dp K B v d) : TyB K H v (tyD d) := ty_b (e.dp h)
def dType (T : String) (me : DE) : DE := fun es P X => me es (fun d => P (.bool (decide (tyD d = T)))) X
def dNType (T : String) (me : DE) : DE := fun es P X => me es (fun d => P (.bool (!decide (tyD d = T)))) X
section
variable {X : Cx} {K : Fg} {W : WX} {a : Expr} {te : TE} {me : DE} {p p2 pos pos2 : Pos} {T : String} {x : Str}
/-- type(a) is T -/
theorem xe_typeIs {k0 : Nat} (C : Ctx X K W k0) (hm : X.mg "type" = none) (hmT : X.mg x = none) (hv : bootBuiltins x = some (.type T)) (ha : XE X K W a te me) (hg : Gl X "type" := by rfl) (hgT : Gl X x := by rfl) (hn : x ≠ "__name__" := by decide) (hd : (x == ("__debug__" : Str)) = false := by decide)
    (na : starEach [a] X.env = (false, eval a X.env) :: starEach [] X.env := by rfl) (hpl : (backTo pos (starEach [] X.env)).any (·.1) = false := by rfl) :
    XE X K W (.Compare (.Call (.Name "type" p) [a] [] pos) [.Is] [.Name x p2] pos2) (tOp (fun x y H Q => ∃ a b, x = .ty a ∧ y = .ty b ∧ Q (.bl (decide (a = b))) H) (tCB (rTyp K) (tCons te tNil)) (tC (.ty T))) (dType T me) := by
  have hK := C.hK
  subst hK
  refine ⟨pe_cmpR op_isTyB (pe_callTy call_type1 hg hm (by decide +kernel) (pa_cons ha.1 pa_nil na) (by decide) (by decide) na hpl) (pe_bltn hgT hmT hv rfl hn hd) (nomark _), ⟨fun s P X Q q k kx => ha.2.run s _ X _ q (fun d v B' H' p g dv => ?_) kx⟩⟩
  exact ⟨v, _, rfl, g.bh.tyb dv, _, _, rfl, rfl, k _ _ _ _ p g (.bl _)⟩
theorem xe_typeNot {k0 : Nat} (C : Ctx X K W k0) (hm : X.mg "type" = none) (hmT : X.mg x = none) (hv : bootBuiltins x = some (.type T)) (ha : XE X K W a te me) (hg : Gl X "type" := by rfl) (hgT : Gl X x := by rfl) (hn : x ≠ "__name__" := by decide) (hd : (x == ("__debug__" : Str)) = false := by decide)
    (na : starEach [a] X.env = (false, eval a X.env) :: starEach [] X.env := by rfl) (hpl : (backTo pos (starEach [] X.env)).any (·.1) = false := by rfl) :
    XE X K W (.Compare (.Call (.Name "type" p) [a] [] pos) [.IsNot] [.Name x p2] pos2) (tOp rNT (tCB (rTyp K) (tCons te tNil)) (tC (.ty T))) (dNType T me) := by
  have hK := C.hK
  subst hK
  refine ⟨pe_cmpR op_notTyB (pe_callTy call_type1 hg hm (by decide +kernel) (pa_cons ha.1 pa_nil na) (by decide) (by decide) na hpl) (pe_bltn hgT hmT hv rfl hn hd) (nomark _), ⟨fun s P X Q q k kx => ha.2.run s _ X _ q (fun d v B' H' p g dv => ?_) kx⟩⟩
  exact ⟨v, _, rfl, g.bh.tyb dv, _, _, rfl, rfl, k _ _ _ _ p g (.bl _)⟩
end

section
variable {X : Cx} {K : Fg} {W : WX} {a : Expr} {te : TE} {me : DE} {p p2 pos pos2 : Pos} {T : String} {x : Str}
/-- the same as tests -/
theorem xt_typeIs {k0 : Nat} (C : Ctx X K W k0) (hm : X.mg "type" = none) (hmT : X.mg x = none) (hv : bootBuiltins x = some (.type T)) (ha : XE X K W a te me) (hg : Gl X "type" := by rfl) (hgT : Gl X x := by rfl) (hn : x ≠ "__name__" := by decide) (hd : (x == ("__debug__" : Str)) = false := by decide)
    (na : starEach [a] X.env = (false, eval a X.env) :: starEach [] X.env := by rfl) (hpl : (backTo pos (starEach [] X.env)).any (·.1) = false := by rfl) :
    XT X K W (.Compare (.Call (.Name "type" p) [a] [] pos) [.Is] [.Name x p2] pos2) (tTest (tOp (fun x y H Q => ∃ a b, x = .ty a ∧ y = .ty b ∧ Q (.bl (decide (a = b))) H) (tCB (rTyp K) (tCons te tNil)) (tC (.ty T)))) (dTest (dType T me)) := by
  have hK := C.hK
  subst hK
  exact ⟨pt_cmpR op_isTyB (pe_callTy call_type1 hg hm (by decide +kernel) (pa_cons ha.1 pa_nil na) (by decide) (by decide) na hpl) (pe_bltn hgT hmT hv rfl hn hd) (nomark _), st_T (xe_typeIs (pos := pos) (pos2 := pos2) (p := p) (p2 := p2) C hm hmT hv ha hg hgT hn hd na hpl).2⟩
theorem xt_typeNot {k0 : Nat} (C : Ctx X K W k0) (hm : X.mg "type" = none) (hmT : X.mg x = none) (hv : bootBuiltins x = some (.type T)) (ha : XE X K W a te me) (hg : Gl X "type" := by rfl) (hgT : Gl X x := by rfl) (hn : x ≠ "__name__" := by decide) (hd : (x == ("__debug__" : Str)) = false := by decide)
    (na : starEach [a] X.env = (false, eval a X.env) :: starEach [] X.env := by rfl) (hpl : (backTo pos (starEach [] X.env)).any (·.1) = false := by rfl) :
    XT X K W (.Compare (.Call (.Name "type" p) [a] [] pos) [.IsNot] [.Name x p2] pos2) (tTest (tOp rNT (tCB (rTyp K) (tCons te tNil)) (tC (.ty T)))) (dTest (dNType T me)) := by
  have hK := C.hK
  subst hK
  exact ⟨pt_cmpR op_notTyB (pe_callTy call_type1 hg hm (by decide +kernel) (pa_cons ha.1 pa_nil na) (by decide) (by decide) na hpl) (pe_bltn hgT hmT hv rfl hn hd) (nomark _), st_T (xe_typeNot (pos := pos) (pos2 := pos2) (p := p) (p2 := p2) C hm hmT hv ha hg hgT hn hd na hpl).2⟩
end
end Fw
namespace Fw
variable [Tabs]
open PySem PySem.Spec L2

/-! ### isinstance -/
theorem tyx_of {K : Fg} {B : Hp} {v : V} {d : D} (h : Dp K B v d) : TyX K B v (.type (tyD d)) := by
  cases h with
  | non => exact .base .non
  | bl b => exact .base (.bl b)
  | int i => exact .base (.int i)
  | str x => exact .base (.str x)
  | lst s _ =>
    rcases s with (s | ⟨o, s⟩) | ⟨o, its, n, s, c, _⟩
    · exact .base (.lst s)
    · exact .base (.frz s)
    · exact .kList s c
  | tup s _ =>
    rcases s with (s | ⟨o, s⟩) | ⟨o, its, n, s, c, _⟩
    · exact .base (.tup s)
    · exact .fTuple s
    · exact .kTuple s c
def isB (a T : String) : Bool := decide (a = T) || (decide (a = "bool") && decide (T = "int"))
theorem kit_names : ∀ a ∈ ["NoneType", "bool", "int", "str", "list", "tuple", "dict"], ∀ T ∈ ["bool", "int", "str", "tuple", "list"], kitB a T = some (isB a T) := by decide +kernel
theorem ty_mem (d : D) : tyD d ∈ ["NoneType", "bool", "int", "str", "list", "tuple", "dict"] := by cases d <;> simp [tyD]
theorem kit_all (d : D) {T : String} (hT : T ∈ ["bool", "int", "str", "tuple", "list"]) : kitB (tyD d) T = some (isB (tyD d) T) := kit_names _ (ty_mem d) _ hT
def dIs (T : String) (me : DE) : DE := fun es P X => me es (fun d => P (.bool (isB (tyD d) T))) X
def dIs2 (T U : String) (me : DE) : DE := fun es P X => me es (fun d => P (.bool (isB (tyD d) T || isB (tyD d) U))) X
section
variable {X : Cx} {K : Fg} {W : WX} {a : Expr} {te : TE} {me : DE} {p p2 p3 pos pos2 : Pos} {T U : String} {x y : Str} {k2 : Nat}
theorem xe_isi {k0 : Nat} (C : Ctx X K W k0) (hT : T ∈ ["bool", "int", "str", "tuple", "list"]) (hm : X.mg "isinstance" = none) (hmT : X.mg x = none) (hv : bootBuiltins x = some (.type T)) (ha : XE X K W a te me) (hg : Gl X "isinstance" := by rfl) (hgT : Gl X x := by rfl) (hn : x ≠ "__name__" := by decide) (hd : (x == ("__debug__" : Str)) = false := by decide)
    (na : starEach [a, .Name x p2] X.env = (false, eval a X.env) :: starEach [.Name x p2] X.env := by rfl) (nb : starEach [.Name x p2] X.env = (false, eval (.Name x p2) X.env) :: starEach [] X.env := by rfl) (hpl : (backTo pos (starEach [.Name x p2] X.env)).any (·.1) = false := by rfl) :
    XE X K W (.Call (.Name "isinstance" p) [a, .Name x p2] [] pos) (tCB (rIsi K) (tCons te (tCons (tC (.ty T)) tNil))) (dIs T me) := by
  have hK := C.hK
  subst hK
  refine ⟨pe_callB call_isi hg hm (by decide +kernel) (pa_cons ha.1 (pa_cons (pe_bltn hgT hmT hv rfl hn hd) pa_nil nb) na) (by decide) (by decide) na hpl, ⟨fun s P X Q q k kx => ha.2.run s _ X _ q (fun d v B' H' p g dv => ?_) kx⟩⟩
  exact ⟨v, _, _, _, _, rfl, .ty T, tyx_of (g.bh.dp dv), kit_ty (kit_all d hT), k _ _ _ _ p g (.bl _)⟩
theorem xe_isi2 {k0 : Nat} (C : Ctx X K W k0) (hT : T ∈ ["bool", "int", "str", "tuple", "list"]) (hU : U ∈ ["bool", "int", "str", "tuple", "list"]) (hm : X.mg "isinstance" = none) (hmT : X.mg x = none) (hmU : X.mg y = none) (hv : bootBuiltins x = some (.type T)) (hw : bootBuiltins y = some (.type U)) (ha : XE X K W a te me)
    (hg : Gl X "isinstance" := by rfl) (hgT : Gl X x := by rfl) (hgU : Gl X y := by rfl) (hn : x ≠ "__name__" := by decide) (hd : (x == ("__debug__" : Str)) = false := by decide) (hn2 : y ≠ "__name__" := by decide) (hd2 : (y == ("__debug__" : Str)) = false := by decide)
    (na : starEach [a, .Tuple [.Name x p2, .Name y p3] k2 pos2] X.env = (false, eval a X.env) :: starEach [.Tuple [.Name x p2, .Name y p3] k2 pos2] X.env := by rfl) (nb : starEach [.Tuple [.Name x p2, .Name y p3] k2 pos2] X.env = (false, eval (.Tuple [.Name x p2, .Name y p3] k2 pos2) X.env) :: starEach [] X.env := by rfl)
    (nx : starEach [.Name x p2, .Name y p3] X.env = (false, eval (.Name x p2) X.env) :: starEach [.Name y p3] X.env := by rfl) (ny : starEach [.Name y p3] X.env = (false, eval (.Name y p3) X.env) :: starEach [] X.env := by rfl) (hpl : (backTo pos (starEach [.Tuple [.Name x p2, .Name y p3] k2 pos2] X.env)).any (·.1) = false := by rfl) :
    XE X K W (.Call (.Name "isinstance" p) [a, .Tuple [.Name x p2, .Name y p3] k2 pos2] [] pos) (tCB (rIsiT K) (tCons te (tCons (tTup (tCons (tC (.ty T)) (tCons (tC (.ty U)) tNil))) tNil))) (dIs2 T U me) := by
  have hK := C.hK
  subst hK
  refine ⟨pe_callB call_isiT hg hm (by decide +kernel) (pa_cons ha.1 (pa_cons (pe_tup (pa_cons (pe_bltn hgT hmT hv rfl hn hd) (pa_cons (pe_bltn hgU hmU hw rfl hn2 hd2) pa_nil ny) nx)) pa_nil nb) na) (by decide) (by decide) na hpl, ⟨fun s P X Q q k kx => ha.2.run s _ X _ q (fun d v B' H' p g dv => ?_) kx⟩⟩
  refine ⟨by rw [sz_eq]; show 2 ≤ 16777216; decide, fun t ht => ?_⟩
  have g2 : Gr B' H' B' (upd H' t (.tup [.ty T, .ty U])) := Gr.own g.bh ht
  exact ⟨v, t, _, _, _, _, rfl, upd_same, .cons (.ty T) (.cons (.ty U) .nil), tyx_of (g2.bh.dp dv), kitAny_cons (kit_ty (kit_all d hT)) (fun e1 => by
    refine kitAny_cons (kit_ty (kit_all d hU)) (fun e2 => ?_) (fun e2 => ?_)
    · rw [e1, e2]; exact kitAny_nil
    · rw [e1, e2]; rfl) (fun e1 => by rw [e1]; rfl), k _ _ _ _ p (g.trans ((s.step g).gr g2)) (.bl _)⟩
end

/-! ### slices -/
def cutD (xs : List D) (lo hi : Option Int) : List D := (xs.drop (HT.sIx xs.length 0 lo)).take (HT.sIx xs.length xs.length hi - HT.sIx xs.length 0 lo)
abbrev DO := En → (Option Int → Prop) → XP → Prop
def dNoPart : DO := fun _ P _ => P none
def dPart (me : DE) : DO := fun es P X => me es (fun d => match d with
  | .int i => P (some i)
  | _ => False) X
structure SO (K : Fg) (W : WX) (te : TO) (me : DO) : Prop where
  run : ∀ {S : SA} {B0 H0 B H : Hp} {σ : L2.St} {es : En}, Sim K S B0 H0 σ es B H → ∀ (P : Option Int → Prop) (X : XP) (Q : Option Int → Hp → Prop), me es P X →
    (∀ o B' H', P o → GrS S B H B' H' → Q o H') → (∀ x cls dd B' H', X x → GrS S B H B' H' → XR K B' H' x cls dd → W cls dd σ H') → te σ H Q
def XO (X : Cx) (K : Fg) (W : WX) (o : Option Expr) (te : TO) (me : DO) : Prop := PO X o te ∧ SO K W te me
def slD (d : D) (lo hi : Option Int) (P : D → Prop) : Prop := match d with
  | .list ds => P (.list (cutD ds lo hi))
  | .tuple ds => P (.tuple (cutD ds lo hi))
  | .str z => z.length ≤ 16777216 ∧ P (.str (cutS z lo hi))
  | _ => False
def dSl (me : DE) (ml mh : DO) : DE := fun es P X => me es (fun d => ml es (fun lo => mh es (fun hi => slD d lo hi P) X) X) X
def rSlU (K : Fg) : V → Option Int → Option Int → Hp → VK → Prop := fun x lo hi H Q => rSlL K x lo hi H Q ∨ (rSlA K x lo hi H Q ∨ rSlS x lo hi H Q)
theorem sl_u {X : Cx} : SlR X (rSlU X.K) := sl_list.or (sl_tupA.or sl_str)
theorem cut_dp {K : Fg} {B : Hp} {vs : List V} {ds : List D} (h : DpAll K B vs ds) (lo hi : Option Int) : DpAll K B (cutV vs lo hi) (cutD ds lo hi) := by
  unfold cutV cutD
  rw [dps_len h]
  exact dps_take _ (dps_drop _ h)
theorem cut_all {ds : List D} {lo hi : Option Int} (h : HT.sIx ds.length 0 lo = 0 ∧ HT.sIx ds.length ds.length hi = ds.length) : cutD ds lo hi = ds := by
  unfold cutD
  rw [h.1, h.2]
  simp
section
variable {X : Cx} {K : Fg} {W : WX} {e a : Expr} {te : TE} {me : DE} {tl th : TO} {ml mh : DO} {lo hi : Option Expr} {p2 pos : Pos}
theorem xo_none : XO X K W none tNoPart dNoPart := ⟨po_none, ⟨fun s P Y Q q k _ => k _ _ _ q s.rfl⟩⟩
theorem xo_some (h : XE X K W e te me) : XO X K W (some e) (tPart te) (dPart me) := ⟨po_some h.1, ⟨fun s P Y Q q k kx => h.2.run s _ _ _ q (fun d v B' H' p g dv => by
  cases dv <;> try exact p.elim
  exact ⟨_, rfl, k _ _ _ p g⟩) kx⟩⟩
theorem xe_sl {k0 : Nat} (C : Ctx X K W k0) (h : XE X K W e te me) (hl : XO X K W lo tl ml) (hh : XO X K W hi th mh) : XE X K W (.Subscript e (.Slice lo hi none p2) pos) (tSl (rSlU K) te tl th) (dSl me ml mh) := by
  have hK := C.hK
  subst hK
  exact ⟨pe_slice sl_u h.1 hl.1 hh.1, ⟨fun s P Y Q q k kx => h.2.run s _ _ _ q (fun d v B1 H1 p g dv =>
    hl.2.run (s.step g) _ _ _ p (fun o1 B2 H2 p2 g2 => hh.2.run ((s.step g).step g2) _ _ _ p2 (fun o2 B3 H3 p3 g3 => by
      have gg := g.trans (g2.trans g3)
      have dv3 := g3.bb.dp (g2.bb.dp dv)
      have s3 := s.step gg
      cases dv3 <;> try exact p3.elim
      · exact .inr (.inr ⟨_, rfl, by rw [sz_eq]; exact p3.1, k _ _ _ _ p3.2 gg (.str _)⟩)
      · rename_i s1 t1
        exact .inl ⟨_, _, rfl, g3.bh.sqL s1, fun a ha => k _ _ _ _ p3 (gg.trans (s3.gr (Gr.new g3.bh ha))) (.lst (SqL.of upd_same) ((Ex.new (g3.bh.back ha)).dps (cut_dp t1 _ _)))⟩
      · rename_i a xs ds s1 t1
        refine .inr (.inl ⟨_, _, rfl, g3.bh.sqT s1, fun z => ?_, fun _ a ha => ?_⟩)
        · rw [dps_len t1] at z
          have e := cut_all z
          have p4 : P (.tuple ds) := by
            have q4 : P (.tuple (cutD ds o1 o2)) := p3
            rw [e] at q4
            exact q4
          exact k _ _ _ _ p4 gg (.tup s1 t1)
        · exact k _ _ _ _ p3 (gg.trans (s3.gr (Gr.new g3.bh ha))) (.tup (SqT.of upd_same) ((Ex.new (g3.bh.back ha)).dps (cut_dp t1 _ _)))) (fun x c dd B' H' hx g3 r => kx x c dd B' H' hx (g.trans (g2.trans g3)) r)) (fun x c dd B' H' hx g2 r => kx x c dd B' H' hx (g.trans g2) r)) kx⟩⟩
end

/-! ### a def keeps its promise -/
def startE (N : List Str) (ds : List D) : En := ds.map Sl.p ++ List.replicate (N.length - ds.length) Sl.un
def startS (N : List Str) (ds : List D) : En := Sl.s :: (ds.map Sl.p ++ List.replicate (N.length - (ds.length + 1)) Sl.un)
theorem env_un {K : Fg} {S : SA} {B H : Hp} : ∀ n : Nat, Env K S B H (List.replicate n none) (List.replicate n .un) []
  | 0 => .nil
  | n + 1 => .un (env_un n)
theorem env_start {K : Fg} {S : SA} {B H : Hp} {n : Nat} : ∀ {vs : List V} {ds : List D}, DpAll K B vs ds → Env K S B H (vs.map some ++ List.replicate n none) (ds.map Sl.p ++ List.replicate n .un) []
  | _, _, .nil => env_un n
  | _, _, .cons h t => .p h (env_start t)
theorem sim_start {K : Fg} {B H : Hp} {N : List Str} {vs : List V} {ds : List D} (e : Ex B H) (h : DpAll K B vs ds) (s : SprO H none ∧ SprF B none) : Sim K none B H (L2.start N vs) (startE N ds) B H := by
  refine ⟨(Gr.rfl e).s s.1, s.2, fun a z => s.1.get z, [], ?_, List.nodup_nil, fun a z => by cases z⟩
  unfold L2.start startE
  rw [dps_len h]
  exact env_start h
theorem sim_startS {K : Fg} {B H : Hp} {N : List Str} {vs : List V} {ds : List D} {q g : Addr} (e : Ex B H) (h : DpAll K B vs ds) (s : SprO H (some (q, g)) ∧ SprF B (some (q, g))) : Sim K (some (q, g)) B H (L2.start N (.ref q :: vs)) (startS N ds) B H := by
  refine ⟨(Gr.rfl e).s s.1, s.2, fun a z => s.1.get z, [], ?_, List.nodup_nil, fun a z => by cases z⟩
  unfold L2.start startS
  rw [List.map_cons, List.length_cons, dps_len h]
  exact .s rfl (env_start h)
/-- the context of a def's body -/
abbrev WD (E : XK) : WX := fun cls d _ H => E cls d H
section
variable {P : Program} {w : World} {K : Fg} {mg : Str → Option Value} {base : Heap} {N ps : List Str} {x qual : Str} {st : Stmt} {f : Addr} {fd : FuncData} {k : Nat} {p : Spc}
abbrev bodyX (P : Program) (w : World) (K : Fg) (mg : Str → Option Value) (base : Heap) (N : List Str) (qual : Str) (st : Stmt) (f : Addr) (cdv : Value) (A : Around) (outer : List PySem.Env) (s : Shared) (H : Hp) (E : XK) : Cx :=
  cxOf (L2.CX P w) P w K mg base N qual (defScope st) f cdv A outer s H E
theorem ctx_of {cdv : Value} {A : Around} {outer : List PySem.Env} {s : Shared} {H : Hp} {E : XK} (S : FnScope N ps (defScope st)) (hr : Room k (A.deeper (PyProof.Rows.envOfC qual (defScope st) s.heap.objs.size f cdv))) : Ctx (bodyX P w K mg base N qual st f cdv A outer s H E) K (WD E) k :=
  ⟨rfl, takes_of rfl rfl rfl rfl, passes_of rfl, hr, rfl, S.nd⟩
theorem fn_D {ms : DS} (F : Fun K x qual st f fd) (S : FnScope N ps (defScope st)) (len : ∀ ds P X, p ds P X → ds.length = ps.length)
    (hb : ∀ (cdv : Value) (A : Around) (outer : List PySem.Env) (s : Shared) (H : Hp) (E : XK), Ctx (bodyX P w K mg base N qual st f cdv A outer s H E) K (WD E) k → ∃ ts, XB (bodyX P w K mg base N qual st f cdv A outer s H E) K (WD E) (defBody st) ts ms)
    (vc : ∀ ds Q X, p ds Q X → ms { nx := fun _ => Q .none, rt := Q, xx := fun x _ => X x } (startE N ds)) : FnOk P w K mg base (L2.CX P w) (k + 1) f fd ps (spD K p) := by
  refine F.okX S (fun vs H Q E h => ?_) (fun cdv A outer s H vs Q E hr h => ?_)
  · obtain ⟨B, ds, P', X, _, hd, _, hp, _⟩ := h
    rw [dps_len hd]
    exact len _ _ _ hp
  · obtain ⟨B, ds, P', X, e, hd, hs, hp, k1, k2⟩ := h
    obtain ⟨ts, b1, b2⟩ := hb cdv A outer s H E (ctx_of S hr)
    refine ⟨ts, b1, b2.run (sim_start e hd hs) _ _ (vc ds P' X hp) (fun σ' es' B' H' q s' _ => ?_) (fun σ' es' d v B' H' q s' dv => ?_) (fun _ _ _ _ q _ _ => q.elim) (fun _ _ _ _ q _ _ => q.elim) fun x cls dd σ' es' B' H' hx s' _ r => ?_⟩
    · exact k1 _ _ _ _ q s'.gs .non
    · exact k1 _ _ _ _ q s'.gs dv
    · exact k2 _ _ _ _ _ hx s'.gs r
theorem fn_S {ms : DS} (F : Fun K x qual st f fd) (S : FnScope N ps (defScope st)) (len : ∀ ds P X, p ds P X → ds.length + 1 = ps.length)
    (hb : ∀ (cdv : Value) (A : Around) (outer : List PySem.Env) (s : Shared) (H : Hp) (E : XK), Ctx (bodyX P w K mg base N qual st f cdv A outer s H E) K (WD E) k → ∃ ts, XB (bodyX P w K mg base N qual st f cdv A outer s H E) K (WD E) (defBody st) ts ms)
    (vc : ∀ ds Q X, p ds Q X → ms { nx := fun _ => Q .none, rt := Q, xx := fun x _ => X x } (startS N ds)) : FnOk P w K mg base (L2.CX P w) (k + 1) f fd ps (spS K p) := by
  refine F.okX S (fun vs H Q E h => ?_) (fun cdv A outer s H vs Q E hr h => ?_)
  · obtain ⟨B, q, g, vr, ds, P', X, rfl, _, hd, _, hp, _⟩ := h
    rw [List.length_cons, dps_len hd]
    exact len _ _ _ hp
  · obtain ⟨B, q, g, vr, ds, P', X, rfl, e, hd, sf, hp, k1, k2⟩ := h
    obtain ⟨ts, b1, b2⟩ := hb cdv A outer s H E (ctx_of S hr)
    refine ⟨ts, b1, b2.run (sim_startS e hd sf) _ _ (vc ds P' X hp) (fun σ' es' B' H' q s' _ => ?_) (fun σ' es' d v B' H' q s' dv => ?_) (fun _ _ _ _ q _ _ => q.elim) (fun _ _ _ _ q _ _ => q.elim) fun x cls dd σ' es' B' H' hx s' _ r => ?_⟩
    · exact k1 _ _ _ _ q s'.gs .non
    · exact k1 _ _ _ _ q s'.gs dv
    · exact k2 _ _ _ _ _ hx s'.gs r
end
end Fw
namespace Fw
variable [Tabs]
open PySem PySem.Spec L2

/-! ### more lists made anew -/
def mLst (ma : DA) : DA := fun es P X => ma es (fun ds => ds.length ≤ 16777216 ∧ P ds) X
def mCat (ma mb : DE) : DA := fun es P X => ma es (fun a => mb es (fun b => match a, b with
  | .list xs, .list ys => xs.length + ys.length ≤ 16777216 ∧ P (xs ++ ys)
  | _, _ => False) X) X
def mList (ma : DA) : DA := fun es P X => ma es (fun ds => match ds with
  | [.list xs] => P xs
  | [.tuple xs] => P xs
  | _ => False) X
theorem GrS.none_back {S : SA} {B H B' H' : Hp} {p : Addr} (g : GrS S B H B' H') (h : H' p = none) : H p = none := by
  cases c : H p with
  | none => rfl
  | some o => exact absurd h (g.ex (by rw [c]; exact fun z => nomatch z))
section
variable {X : Cx} {K : Fg} {W : WX} {a b e : Expr} {ta tb : TE} {ma mb : DE} {tg : TA} {mg : DA} {pos p : Pos}
theorem xn_cat {k0 : Nat} (C : Ctx X K W k0) (ha : XE X K W a ta ma) (hb : XE X K W b tb mb) : XN X K W (.BinOp a .Add b pos) (tOp (rLists K) ta tb) (mCat ma mb) := by
  have hK := C.hK
  subst hK
  exact ⟨pe_op op_lists ha.1 hb.1, ⟨fun s P Y Q q k kx => ha.2.run s _ _ _ q (fun d v B1 H1 p1 g1 d1 =>
    hb.2.run (s.step g1) _ _ _ p1 (fun d2 v2 B2 H2 p2 g2 dd2 => by
      have dd1 := g2.bb.dp d1
      have g := g1.trans g2
      cases dd1 <;> cases dd2 <;> try exact p2.elim
      rename_i s1 t1 _ _ _ s2 t2
      refine ⟨_, _, _, _, rfl, rfl, g.bh.sqL s1, g.bh.sqL s2, by rw [sz_eq, dps_len t1, dps_len t2]; exact p2.1, fun l hl => ?_⟩
      exact k _ _ _ _ _ p2.2 (g.trans ((s.step g).gr (Gr.own g.bh hl))) (g.none_back hl) (g.bh.back hl) upd_same (dps_app t1 t2)) fun x c dd B' H' hx g2 r => kx x c dd B' H' hx (g1.trans g2) r) kx⟩⟩
theorem xn_list {k0 : Nat} (C : Ctx X K W k0) (hm : X.mg "list" = none) (ha : XA X K W [e] tg mg) (hg : Gl X "list" := by rfl) (he : starEach [e] X.env = (false, eval e X.env) :: starEach [] X.env := by rfl) (hpl : (backTo pos (starEach [] X.env)).any (·.1) = false := by rfl) :
    XN X K W (.Call (.Name "list" p) [e] [] pos) (tCB (fun xs H Q => ∃ p ys, xs = [.ref p] ∧ (SqL K H p ys ∨ SqT K H p ys) ∧ ∀ l, H l = none → Q (.ref l) (upd H l (.lst ys))) tg) (mList mg) := by
  have hK := C.hK
  subst hK
  exact ⟨pe_callTy call_list_of hg hm (by decide +kernel) ha.1 (by decide) (by decide) he hpl, ⟨fun s P Y Q q k kx => ha.2.run s _ _ _ q (fun ds vs B1 H1 p1 g dvs => by
    cases dvs with
    | nil => exact p1.elim
    | cons x t => cases t with
      | cons _ _ => cases x <;> exact p1.elim
      | nil => cases x with
        | lst s1 t1 => exact ⟨_, _, rfl, .inl (g.bh.sqL s1), fun l hl => k _ _ _ _ _ p1 (g.trans ((s.step g).gr (Gr.own g.bh hl))) (g.none_back hl) (g.bh.back hl) upd_same t1⟩
        | tup s1 t1 => exact ⟨_, _, rfl, .inr (g.bh.sqT s1), fun l hl => k _ _ _ _ _ p1 (g.trans ((s.step g).gr (Gr.own g.bh hl))) (g.none_back hl) (g.bh.back hl) upd_same t1⟩
        | _ => exact p1.elim) kx⟩⟩
/-- xs[::-1] of a list -/
def dBack (me : DE) : DE := fun es P X => me es (fun d => match d with
  | .list ds => P (.list ds.reverse)
  | _ => False) X
theorem xe_back {k : Nat} {p1 p2 p3 : Pos} {k0 : Nat} (C : Ctx X K W k0) (ha : XE X K W a ta ma) : XE X K W (.Subscript a (.Slice none none (some (.UnaryOp .USub (.Constant (.int 1) k p1) p2)) p3) pos) (tRevL K ta) (dBack ma) := by
  have hK := C.hK
  subst hK
  exact ⟨pe_revL ha.1, ⟨fun s P Y Q q k kx => ha.2.run s _ _ _ q (fun d v B1 H1 p1 g d1 => by
    cases d1 <;> try exact p1.elim
    rename_i s1 t1
    exact ⟨_, _, rfl, g.bh.sqL s1, fun l hl => k _ _ _ _ p1 (g.trans ((s.step g).gr (Gr.new g.bh hl))) (.lst (SqL.of upd_same) ((Ex.new (g.bh.back hl)).dps (dps_rev t1)))⟩) kx⟩⟩
end

/-! ### a constant of the module -/
structure KConst (K : Fg) (mg : Str → Option Value) (x : Str) (d : D) : Prop where
  ex : ∃ v u, mg x = some u ∧ RelV v u ∧ ∀ B, Dp K B v d
def tConst (K : Fg) (d : D) : TE := fun _ H Q => ∀ v, (∀ B, Dp K B v d) → Q v H
theorem xe_const {X : Cx} {K : Fg} {W : WX} {x : Str} {d : D} {pos : Pos} {k0 : Nat} (C : Ctx X K W k0) (c : KConst K X.mg x d) (hg : Gl X x := by rfl) (hd : (x == ("__debug__" : Str)) = false := by decide) : XE X K W (.Name x pos) (tConst K d) (dC d) := by
  have hK := C.hK
  subst hK
  obtain ⟨v, u, hm, r, h⟩ := c.ex
  exact ⟨⟨fun pins s σ H Q I q => (pe_glob hg hm r hd).run pins s σ H Q I (q v h)⟩, ⟨fun s P Y Q q k kx v h => k _ _ _ _ q s.rfl (h _)⟩⟩
/-! ### what is never reached -/
def dNever : DS := fun _ _ => False
theorem xs_never {X : Cx} {K : Fg} {W : WX} {st : Stmt} : XS X K W st tNever dNever := ⟨ps_never, ⟨fun s E Z h _ _ _ _ _ => h.elim⟩⟩

/-! ### x += e of ints -/
def dAddI : D2 := dI (fun _ _ => True) fun i j => .int (i + j)
def dSubI : D2 := dI (fun _ _ => True) fun i j => .int (i - j)
theorem ss_aug {K : Fg} {W : WX} {i : Nat} {te : TE} {me : DE} {f : Int → Int → Int} (h : SE K W te me) : SS K W (tAug i te (ipI f)) (dAug i (dI (fun _ _ => True) fun a b => .int (f a b)) me) := ⟨fun {S B0 H0 B H σ es} s E Z q kn _ _ _ kx => by
  obtain ⟨d, e, q⟩ := q
  obtain ⟨fp, env, _⟩ := s.env
  obtain ⟨v, e2, dp⟩ := env.getP e
  refine ⟨v, e2, h.run s _ _ _ q (fun b u B' H' p g du => ?_) fun x cls dd B' H' hx g r => kx _ _ _ _ _ _ _ hx (s.step g) g.bb r⟩
  cases dp <;> cases du <;> try exact p.elim
  exact ⟨_, _, rfl, rfl, kn _ _ _ _ p.2 ((s.step g).setP (.int _) i) g.bb⟩⟩
section
variable {X : Cx} {K : Fg} {W : WX} {e : Expr} {te : TE} {me : DE} {x : Str} {pos pos' : Pos}
theorem xs_aug_add (i : Nat) (nd : X.N.Nodup) (h : XE X K W e te me) (hi : X.N[i]? = some x := by rfl) (hx : Loc X.env.scope x := by first | exact Or.inl rfl | exact Or.inr rfl) (hf : X.fn x = true ∨ X.env.scope.names.lookup x = some .local := by first | exact .inl rfl | exact .inr rfl) :
    XS X K W (.AugAssign (.Name x pos') .Add e pos) (tAug i te (ipI fun a b => a + b)) (dAug i dAddI me) := ⟨ps_aug nd hi hx h.1 ip_add hf, ss_aug h.2⟩
end

/-! ### a permutation of keywords -/
def permL (is : List Nat) {α : Type} (l : List α) : List α := is.filterMap (l[·]?)
theorem perm_rel {zs : List V} {ws : List Value} (h : Vals zs ws) : ∀ is : List Nat, Vals (permL is zs) (permL is ws)
  | [] => .nil
  | i :: is => by
    have ih := perm_rel h is
    unfold permL at ih ⊢
    cases e : zs[i]? with
    | none =>
      rw [List.filterMap_cons_none e, List.filterMap_cons_none (h.none_of e)]
      exact ih
    | some v =>
      obtain ⟨u, e2, r⟩ := h.get e
      rw [List.filterMap_cons_some e, List.filterMap_cons_some e2]
      exact .cons r ih
theorem perm_dp {K : Fg} {B : Hp} {zs : List V} {ds : List D} (h : DpAll K B zs ds) : ∀ is : List Nat, DpAll K B (permL is zs) (permL is ds)
  | [] => .nil
  | i :: is => by
    have ih := perm_dp h is
    unfold permL at ih ⊢
    cases e : ds[i]? with
    | none =>
      have e2 : zs[i]? = none := List.getElem?_eq_none_iff.mpr (by rw [dps_len h]; exact List.getElem?_eq_none_iff.mp e)
      rw [List.filterMap_cons_none e, List.filterMap_cons_none e2]
      exact ih
    | some d =>
      obtain ⟨v, e2, r⟩ := dps_get h e
      rw [List.filterMap_cons_some e, List.filterMap_cons_some e2]
      exact .cons r ih
theorem kb_of {K : Fg} {x qual : Str} {st : Stmt} {f : Addr} {fd : FuncData} {ps ks : List Str} {is : List Nat} (F : Fun K x qual st f fd) (hl : ∀ {α : Type} (ws : List α), ws.length = ks.length → (permL is ws).length = ps.length)
    (h : ∀ (kV doc pm : Value) (an : Option Addr) (cdv ct : Value) (ws : List Value), ws.length = ks.length → bindArgs (PySem.W.fnOf x qual (defArgs st) (defBody st) (defScope st) .none kV doc pm an cdv ct) ⟨[], ks.zip ws⟩ = pure (ps.zip (permL is ws))) : KB K fd ps ks (permL is) := by
  obtain ⟨oc, od, kV, doc, pm, an, cdv, ct, osl, rfl, lk, hcd⟩ := F.ex
  exact ⟨fun s ws _ q => ⟨.of_eq (h kV doc pm an cdv ct ws q), hl ws q⟩, fun _ r => perm_rel r is, fun _ r => perm_dp r is⟩

/-! ### sorted of pairs of ints: in some order -/
def pairD : D → Bool
  | .tuple [.int _, .int _] => true
  | _ => false
def bSorted : D1
  | [.list ds], P => ds.all pairD = true ∧ ∀ es : List D, es.Perm ds → P (.list es)
  | _, _ => False
def rSortedQ (K : Fg) : List V → Hp → VK → Prop := fun vs H Q => ∃ a xs, vs = [V.ref a] ∧ SqL K H a xs ∧ (∀ x ∈ xs, ∃ t i j, x = V.ref t ∧ SqT K H t [.int i, .int j]) ∧ ∀ ys p, ys.Perm xs → H p = none → Q (.ref p) (upd H p (.lst ys))
theorem cr_sortedF {X : Cx} : CallR X (.builtin "sorted") (rSortedQ X.K) := by
  intro pins s σ H vs us Q I r h
  obtain ⟨a, xs, rfl, hs, hx, q⟩ := h
  obtain ⟨its, rv, hl, hz⟩ := I.list hs
  obtain ⟨u, rfl, ru⟩ := vals1 r
  obtain rfl : u = Value.ref a := ru
  obtain ⟨e1, e2⟩ := refs_back rv fun x m => by
    obtain ⟨t, _, _, e, _⟩ := hx x m
    exact ⟨t, e⟩
  refine Srt.sorted_pairs hl.isList (by rw [← rv.length]; exact hz) (fun v hv => ?_) fun h' d out hp k hd hn => ?_
  · obtain ⟨t, rfl⟩ := e2 v hv
    have hm : V.ref t ∈ xs := by rw [e1]; exact List.mem_map.mpr ⟨_, hv, rfl⟩
    obtain ⟨t', i, j, e, ht⟩ := hx _ hm
    cases e
    obtain ⟨its2, r2, ⟨o, ho, hc, n, hd⟩, _⟩ := I.tuple ht
    obtain ⟨u1, u2, rfl, ri, rj⟩ := vals2 r2
    obtain ⟨t1, rfl⟩ := ri
    obtain ⟨t2, rfl⟩ := rj
    exact ⟨i, j, t, o, t1, t2, n, rfl, ho, hc, hd⟩
  · have h3 : ∀ u ∈ out, ∃ a, u = Value.ref a := fun u hu => e2 u (hp.mem_iff.mp hu)
    obtain ⟨n, hn⟩ := hn
    refine ⟨.ref d, upd H d (.lst (out.map backV)), I.laid (t' := s.toks) k hd ⟨?_, out, n, vals_back h3, hn⟩, rfl, q _ d ?_ (I.hok.fresh hd)⟩
    · rw [List.length_map, hp.length_eq, ← rv.length]; exact hz
    · rw [e1]; exact hp.map backV
theorem dps_perm {K : Fg} {B : Hp} {xs ys : List V} (h : ys.Perm xs) : ∀ {ds : List D}, DpAll K B xs ds → ∃ es, es.Perm ds ∧ DpAll K B ys es := by
  induction h with
  | nil => intro ds t; cases t; exact ⟨[], .nil, .nil⟩
  | cons x _ ih =>
    intro ds t
    cases t with
    | cons a t =>
      obtain ⟨es, p, q⟩ := ih t
      exact ⟨_ :: es, p.cons _, .cons a q⟩
  | swap x y l =>
    intro ds t
    cases t with
    | cons a t => cases t with
      | cons b t => exact ⟨_, .swap _ _ _, .cons b (.cons a t)⟩
  | trans _ _ ih1 ih2 =>
    intro ds t
    obtain ⟨es, p, q⟩ := ih2 t
    obtain ⟨fs, p2, q2⟩ := ih1 q
    exact ⟨fs, p2.trans p, q2⟩
theorem pair_of {K : Fg} {B : Hp} : ∀ {xs : List V} {ds : List D}, DpAll K B xs ds → ds.all pairD = true → ∀ x ∈ xs, ∃ t i j, x = V.ref t ∧ SqT K B t [.int i, .int j]
  | _, _, .nil, _, x, m => by cases m
  | _, _, .cons a t, h, x, m => by
    rw [List.all_cons, Bool.and_eq_true] at h
    rcases List.mem_cons.mp m with rfl | m
    · have h1 := h.1
      unfold pairD at h1
      split at h1
      · cases a with
        | tup s u => cases u with
          | cons u1 u => cases u with
            | cons u2 u =>
              cases u
              cases u1
              cases u2
              exact ⟨_, _, _, rfl, s⟩
      · cases h1
    · exact pair_of t h.2 x m
theorem rc_sorted {K : Fg} : RC K (rSortedQ K) bSorted := rc1 (fun _ q => q) (fun a b l _ q => by cases a <;> exact q) fun e dv P Q q k => by
  cases dv <;> try exact q.elim
  rename_i s1 t1
  refine ⟨_, _, rfl, e.sqL s1, fun x m => ?_, fun ys p hp hn => ?_⟩
  · obtain ⟨t, i, j, e1, s2⟩ := pair_of t1 q.1 x m
    exact ⟨t, i, j, e1, e.sqT s2⟩
  · obtain ⟨es, pe, de⟩ := dps_perm hp t1
    exact k _ _ _ _ (q.2 es pe) (Gr.new e hn) (.lst (SqL.of upd_same) ((Ex.new (e.back hn)).dps de))

theorem bt_int : bootBuiltins "int" = some (.type "int") := by decide +kernel
theorem bt_bool : bootBuiltins "bool" = some (.type "bool") := by decide +kernel
theorem bt_str : bootBuiltins "str" = some (.type "str") := by decide +kernel
theorem bt_tuple : bootBuiltins "tuple" = some (.type "tuple") := by decide +kernel
theorem bt_list : bootBuiltins "list" = some (.type "list") := by decide +kernel
theorem bt_len : bootBuiltins "len" = some (.builtin "len") := by decide +kernel
theorem bt_abs : bootBuiltins "abs" = some (.builtin "abs") := by decide +kernel

section
variable {X : Cx} {K : Fg} {W : WX} {e : Expr} {ta : TA} {ma : DA} {p pos : Pos} {k : Nat}
theorem xe_len (C : Ctx X K W k) (hm : X.mg "len" = none) (ha : XA X K W [e] ta ma) (hg : Gl X "len" := by rfl)
    (he : starEach [e] X.env = (false, eval e X.env) :: starEach [] X.env := by rfl) (hpl : (backTo pos (starEach [] X.env)).any (·.1) = false := by rfl) : XE X K W (.Call (.Name "len" p) [e] [] pos) (tCB (fun xs H Q => ∃ x n, xs = [x] ∧ LenV K x H n ∧ Q (.int n) H) ta) (dCB bLen ma) := by
  have hK := C.hK
  subst hK
  exact xe_cb call_len rc_len hm (bt_len) ha hg (by decide) (by decide) he hpl
theorem xe_tupleC (C : Ctx X K W k) (hm : X.mg "tuple" = none) (ha : XA X K W [e] ta ma) (hg : Gl X "tuple" := by rfl)
    (he : starEach [e] X.env = (false, eval e X.env) :: starEach [] X.env := by rfl) (hpl : (backTo pos (starEach [] X.env)).any (·.1) = false := by rfl) : XE X K W (.Call (.Name "tuple" p) [e] [] pos) (tCB (fun xs H Q => ∃ p ys, xs = [.ref p] ∧ ((SqL K H p ys ∧ ∀ l, H l = none → Q (.ref l) (upd H l (.tup ys))) ∨ (SqT K H p ys ∧ Q (.ref p) H))) ta) (dCB bTuple ma) := by
  have hK := C.hK
  subst hK
  exact xe_cty call_tuple_of rc_tuple hm (bt_tuple) ha hg (by decide) (by decide) he hpl
theorem xe_listC (C : Ctx X K W k) (hm : X.mg "list" = none) (ha : XA X K W [e] ta ma) (hg : Gl X "list" := by rfl)
    (he : starEach [e] X.env = (false, eval e X.env) :: starEach [] X.env := by rfl) (hpl : (backTo pos (starEach [] X.env)).any (·.1) = false := by rfl) : XE X K W (.Call (.Name "list" p) [e] [] pos) (tCB (fun xs H Q => ∃ p ys, xs = [.ref p] ∧ (SqL K H p ys ∨ SqT K H p ys) ∧ ∀ l, H l = none → Q (.ref l) (upd H l (.lst ys))) ta) (dCB bList ma) := by
  have hK := C.hK
  subst hK
  exact xe_cty call_list_of rc_list hm (bt_list) ha hg (by decide) (by decide) he hpl
theorem xe_all (C : Ctx X K W k) (hm : X.mg "all" = none) (ha : XA X K W [e] ta ma) (hg : Gl X "all" := by rfl)
    (he : starEach [e] X.env = (false, eval e X.env) :: starEach [] X.env := by rfl) (hpl : (backTo pos (starEach [] X.env)).any (·.1) = false := by rfl) : XE X K W (.Call (.Name "all" p) [e] [] pos) (tCB (rAll K) ta) (dCB bAll ma) := by
  have hK := C.hK
  subst hK
  exact xe_cb (cr_all C.calm) rc_all hm (by decide +kernel) ha hg (by decide) (by decide) he hpl
theorem xe_any (C : Ctx X K W k) (hm : X.mg "any" = none) (ha : XA X K W [e] ta ma) (hg : Gl X "any" := by rfl)
    (he : starEach [e] X.env = (false, eval e X.env) :: starEach [] X.env := by rfl) (hpl : (backTo pos (starEach [] X.env)).any (·.1) = false := by rfl) : XE X K W (.Call (.Name "any" p) [e] [] pos) (tCB (rAny K) ta) (dCB bAny ma) := by
  have hK := C.hK
  subst hK
  exact xe_cb (cr_any C.calm) rc_any hm (by decide +kernel) ha hg (by decide) (by decide) he hpl
theorem xe_sorted (C : Ctx X K W k) (hm : X.mg "sorted" = none) (ha : XA X K W [e] ta ma) (hg : Gl X "sorted" := by rfl)
    (he : starEach [e] X.env = (false, eval e X.env) :: starEach [] X.env := by rfl) (hpl : (backTo pos (starEach [] X.env)).any (·.1) = false := by rfl) : XE X K W (.Call (.Name "sorted" p) [e] [] pos) (tCB (rSortedQ K) ta) (dCB bSorted ma) := by
  have hK := C.hK
  subst hK
  exact xe_cb cr_sortedF rc_sorted hm (by decide +kernel) ha hg (by decide) (by decide) he hpl
end
end Fw
namespace Fw
variable [Tabs]
open PySem PySem.Spec L2

/-! ### exceptions -/
/-- the class that the module's name holds -/
def clsV (K : Fg) (x : Str) : Value := match PySem.W.nsIn K mainGlobals x with
  | some (some v) => v
  | _ => .none
theorem clsV_of {K : Fg} {x : Str} {v : Value} (h : PySem.W.nsIn K mainGlobals x = some (some v)) : clsV K x = v := by
  unfold clsV
  rw [h]
/-- an error class of the module's own, made of one text -/
structure ExcC (K : Fg) (mg : Str → Option Value) (x : Str) : Prop where
  ns : PySem.W.nsIn K mainGlobals x = some (some (clsV K x))
  gC : mg x = some (clsV K x)
  ex : ∃ (C : Addr) (bmB : List Value) (B newId initId : String), clsV K x = .ref C ∧ ExcBaseFacts B newId initId bmB ∧ PySem.W.excIn K C bmB newId = true ∧ PySem.W.keepIn K (.ref C) = true ∧ PySem.W.subIn K (.ref C) (.type "BaseException") = some true ∧ PySem.W.typeIn K (.ref C) = some (.type "type")
/-- a class that is caught -/
structure ClsN (K : Fg) (mg : Str → Option Value) (x : Str) : Prop where
  ns : PySem.W.nsIn K mainGlobals x = some (some (clsV K x))
  gC : mg x = some (clsV K x)
def tRaise (K : Fg) (W : WX) (x : Str) : TS := fun _ σ H => W (clsV K x) none σ H
def dRaise (x : Str) : DS := fun E es => E.xx (x, none) es
section
variable {X : Cx} {K : Fg} {W : WX} {k0 : Nat}
theorem xs_raise (C : Ctx X K W k0) {x m : Str} {j : Nat} {p p2 pos pos' : Pos} (G : ExcC K X.mg x) (hg : Gl X x := by rfl) (hdb : (x == ("__debug__" : Str)) = false := by decide) :
    XS X K W (.Raise (some (.Call (.Name x p) [.Constant (.str m) j p2] [] pos)) none pos') (tRaise K W x) (dRaise x) := by
  have hK := C.hK
  subst hK
  refine ⟨⟨fun pins s σ H D I h => ?_⟩, ⟨fun s E Z q _ _ _ _ kx => kx _ _ _ _ _ _ _ q s Ex.rfl ⟨G.ns, rfl⟩⟩⟩
  obtain ⟨Ca, bmB, B, newId, initId, e, F, q1, q2, q3, q4⟩ := G.ex
  have gC := G.gC
  unfold tRaise at h
  rw [e] at h gC
  exact (ps_raise C.calm C.tk (pmk_own F q1 gC q2 (raises_own q3 q4) hg hdb)).run pins s σ H D I h
/-- a body within a try: some context of its kind -/
theorem tr_ctx {W' : WX} (C : Ctx X K W k0) (hs : X.stack = X.env :: X.outer) (hf : X.env.frame = some X.env.locals) : ∃ pn xe, Ctx (X.tr pn xe) K W' k0 := by
  refine ⟨[], fun e s₁ => wpAny (model X.prog X.w) X.A (noteFrame e X.env) (fun _ _ => True) (fun _ _ => True) s₁, C.hK, fun u s' xx => ?_, PassesOwn.looking, C.hr, C.calm, C.nd⟩
  obtain ⟨a, B, sI, pins', σ', H', cls, d, rfl, J', nb, up, sky, na, os, ag, w⟩ := xx
  have ok := J'.ok.ofTry
  have hfr : X.A.frames = some (X.env :: X.outer) := by rw [ok.frames, hs]
  have sky' : Sky B (X.env :: X.outer) a (Zc cls d) X.env.locals s'.heap := by rw [← hs]; exact sky
  refine wpAny_mono (Sky.land (Q := fun _ _ => True) (E₁ := fun _ _ => True) Zc.steady hfr hf sky' fun _ _ _ => trivial) (fun _ _ _ => trivial) fun _ _ _ => trivial
end
/-- which class is below which one: what is not told is not asked -/
abbrev Sub := Str → Str → Option Bool
structure SubF (K : Fg) (sub : Sub) : Prop where
  of : ∀ {x c : Str} {b : Bool}, sub x c = some b → PySem.W.exmOne K (clsV K x) (clsV K c) = some b
/-- the handlers' readings, one behind the other -/
def hPick (sub : Sub) (E : Eo) (x : XD) (es : En) : List (Str × DS) → Prop
  | [] => E.xx x es
  | (c, m) :: r => ∃ b, sub x.1 c = some b ∧ if b = true then m { E with xx := fun _ _ => False } es else hPick sub E x es r
def dTry (sub : Sub) (mb : DS) (hs : List (Str × DS)) : DS := fun E es => mb { E with xx := fun x es' => hPick sub E x es' hs } es
/-- the handlers: their classes, statements, readings -/
inductive XHs (X : Cx) (K : Fg) : List ExceptHandler → List (Value × (Addr → Value → Option Addr → TS)) → List (Str × DS) → Prop
  | nil : XHs X K [] [] []
  | cons {x : Str} {ts : TS} {ms : DS} {b₀ : Stmt} {suite : List Stmt} {np pos' : Pos} {hds : List ExceptHandler} {l : List (Value × (Addr → Value → Option Addr → TS))} {m : List (Str × DS)} (hc : ClsN K X.mg x) (hg : Gl X x) (hdb : (x == ("__debug__" : Str)) = false)
      (hsu : ∀ (a : Addr) (pn : List (Addr × Obj)), XB (X.suite a pn) K WF (b₀ :: suite) ts ms) (r : XHs X K hds l m) :
      XHs X K (.ExceptHandler (some (.Name x np)) none (b₀ :: suite) pos' :: hds) ((clsV K x, fun _ _ _ => ts) :: l) ((x, ms) :: m)
theorem XHs.ok {X : Cx} {K : Fg} {hds : List ExceptHandler} {l : List (Value × (Addr → Value → Option Addr → TS))} {m : List (Str × DS)} (h : XHs X K hds l m) : HdsOk X hds l := by
  induction h with
  | nil => exact .nil
  | cons hc hg hdb hsu r ih => exact .cons ⟨hg, hdb, .inl hc.gC⟩ (fun a oe cls d pn _ _ => (hsu a _).1) ih
section
variable {X : Cx} {K : Fg} {W : WX} {k0 : Nat} {sub : Sub}
theorem hs_many (SF : SubF K sub) {S : SA} {B0 H0 B H : Hp} {σ : L2.St} {es : En} {hds : List ExceptHandler} {l : List (Value × (Addr → Value → Option Addr → TS))} {m : List (Str × DS)} (h : XHs X K hds l m) {x : XD} {cls : Value} {dd : Option Addr}
    (s : Sim K S B0 H0 σ es B H) (r : XR K B H x cls dd) (E : Eo) (Z : Ends) (q : hPick sub E x es m)
    (kn : ∀ σ' es' B' H', E.nx es' → Sim K S B0 H0 σ' es' B' H' → Ex B B' → Z.nx σ' H') (kr : ∀ σ' es' d v B' H', E.rt d → Sim K S B0 H0 σ' es' B' H' → Dp K B' v d → Z.rt v H')
    (kb : ∀ σ' es' B' H', E.bk es' → Sim K S B0 H0 σ' es' B' H' → Ex B B' → Z.bk σ' H') (kc : ∀ σ' es' B' H', E.ct es' → Sim K S B0 H0 σ' es' B' H' → Ex B B' → Z.ct σ' H')
    (kx : E.xx x es → W cls dd σ H) : wMany K W Z l cls dd σ H := by
  induction h with
  | nil => exact kx q
  | @cons x1 ts ms b₀ suite np pos' hds l m hc hg hdb hsu _ ih =>
    obtain ⟨b, e, q⟩ := q
    have ec : cls = clsV K x.1 := (clsV_of r.1).symm
    refine ⟨b, by rw [ec]; exact SF.of e, fun hb a na => ?_, fun hb => ?_⟩
    · subst hb
      rw [if_pos rfl] at q
      exact (hsu a []).2.run s { E with xx := fun _ _ => False } Z q kn kr kb kc fun _ _ _ _ _ _ _ z => z.elim
    · subst hb
      rw [if_neg (by decide)] at q
      exact ih q
theorem xs_try (C : Ctx X K W k0) (SF : SubF K sub) {body : List Stmt} {h₀ : ExceptHandler} {hds : List ExceptHandler} {l : List (Value × (Addr → Value → Option Addr → TS))} {m : List (Str × DS)} {pos : Pos} {tb : WX → TS} {mb : DS}
    (hb : ∀ (W : WX) (pn : List (Addr × Obj)) (xe : Value → Shared → Prop), Ctx (X.tr pn xe) K W k0 → XB (X.tr pn xe) K W body (tb W) mb) (hh : XHs X K (h₀ :: hds) l m) (hs : X.stack = X.env :: X.outer := by rfl) (hf : X.env.frame = some X.env.locals := by rfl) :
    XS X K W (.Try body (h₀ :: hds) [] [] pos) (fun D σ H => tb (wMany K W D l) D σ H) (dTry sub mb m) := by
  have hK := C.hK
  subst hK
  refine ⟨ps_try_many hs hf C.tk (fun W' pn xe tk po => (hb W' pn xe ⟨rfl, tk, po, C.hr, C.calm, C.nd⟩).1) hh.ok, ⟨fun s E Z q kn kr kb kc kx => ?_⟩⟩
  obtain ⟨pn, xe, C'⟩ := tr_ctx (W' := wMany X.K W Z l) C hs hf
  refine (hb _ pn xe C').2.run s { E with xx := fun x es' => hPick sub E x es' m } Z q kn kr kb kc fun x cls dd σ' es' B' H' hx s' e' r => ?_
  exact hs_many SF hh s' r E Z hx (fun a b c d e f g => kn a b c d e f (e'.trans g)) kr (fun a b c d e f g => kb a b c d e f (e'.trans g)) (fun a b c d e f g => kc a b c d e f (e'.trans g)) fun z => kx _ _ _ _ _ _ _ z s' e' r
end

/-! ### a chain of two comparisons -/
def dChain (r1 r2 : D2) (ma mb mc : DE) : DE := fun es P X => ma es (fun a => mb es (fun b => r1 a b (fun z => match z with
  | .bool k => if k = true then mc es (fun c => r2 b c P) X else P (.bool false)
  | _ => False)) X) X
theorem se_chain {K : Fg} {W : WX} {r r' : R2} {rd rd' : D2} {ta tb tc : TE} {ma mb mc : DE} (hr : RS K r rd) (hr' : RS K r' rd') (ha : SE K W ta ma) (hb : SE K W tb mb) (hc : SE K W tc mc) : SE K W (tChain r r' ta tb tc) (dChain rd rd' ma mb mc) := ⟨fun s P X Q h k kx => by
  refine ha.run s _ X _ h (fun a v B1 H1 h1 g1 d1 => ?_) kx
  refine hb.run (s.step g1) _ X _ h1 (fun b u B2 H2 h2 g2 d2 => ?_) (fun x c dd B' H' hx g r => kx x c dd B' H' hx (g1.trans g) r)
  refine hr.run g2.bh (g2.bb.dp d1) d2 _ _ h2 fun d z B3 H3 p g3 d3 => ?_
  have g13 := g1.trans (g2.trans ((s.step (g1.trans g2)).gr g3))
  cases d3 <;> try exact p.elim
  rename_i kk
  refine ⟨kk, rfl, ?_⟩
  cases kk with
  | false => exact k _ _ _ _ p g13 (.bl _)
  | true =>
    refine hc.run (s.step g13) _ X _ p (fun c w B4 H4 h4 g4 d4 => ?_) (fun x c dd B' H' hx g r => kx x c dd B' H' hx (g13.trans g) r)
    exact hr'.run g4.bh (g4.bb.dp (g3.bb.dp d2)) d4 P Q h4 fun d z B5 H5 p5 g5 d5 => k d z B5 H5 p5 (g13.trans (g4.trans ((s.step (g13.trans g4)).gr g5))) d5⟩
section
variable {X : Cx} {K : Fg} {W : WX} {a b c : Expr} {ta tb tc : TE} {ma mb mc : DE} {pos : Pos} {op op' : CmpOp} {r r' : R2} {rd rd' : D2}
theorem xe_chain (ho : OpR X (compareOp op) r) (hr : RS K r rd) (ho' : OpR X (compareOp op') r') (hr' : RS K r' rd') (ha : XE X K W a ta ma) (hb : XE X K W b tb mb) (hc : XE X K W c tc mc) (hm : lastMarks [op, op'] [b, c] = false := by with_unfolding_all rfl) :
    XE X K W (.Compare a [op, op'] [b, c] pos) (tChain r r' ta tb tc) (dChain rd rd' ma mb mc) := ⟨pe_chain ho ho' ha.1 hb.1 hc.1 hm, se_chain hr hr' ha.2 hb.2 hc.2⟩
theorem xt_chain (ho : OpR X (compareOp op) r) (hr : RS K r rd) (ho' : OpR X (compareOp op') r') (hr' : RS K r' rd') (ha : XE X K W a ta ma) (hb : XE X K W b tb mb) (hc : XE X K W c tc mc) (hm : lastMarks [op, op'] [b, c] = false := by with_unfolding_all rfl) :
    XT X K W (.Compare a [op, op'] [b, c] pos) (tTest (tChain r r' ta tb tc)) (dTest (dChain rd rd' ma mb mc)) := ⟨pt_chain ho ho' ha.1 hb.1 hc.1 hm, st_T (se_chain hr hr' ha.2 hb.2 hc.2)⟩
end

/-! ### texts: f'..', str(n), zfill -/
def dFmt (me : DE) : DE := fun es P X => me es (fun d => match d with
  | .str y => y.length ≤ 16777216 ∧ P (.str y)
  | .int i => i.natAbs.log2 < 1920 ∧ P (.str (toString i))
  | _ => False) X
def dJs : List DE → Str → En → (Str → Prop) → XP → Prop
  | [], acc, _, P, _ => P acc
  | m :: ms, acc, es, P, X => m es (fun d => match d with
    | .str y => (acc ++ y).length ≤ 16777216 ∧ dJs ms (acc ++ y) es P X
    | _ => False) X
def dJoined (ms : List DE) : DE := fun es P X => dJs ms Str.empty es (fun y => P (.str y)) X
inductive XJ (X : Cx) (K : Fg) (W : WX) : List Expr → List TE → List DE → Prop
  | nil : XJ X K W [] [] []
  | cons {e : Expr} {t : TE} {m : DE} {es : List Expr} {ts : List TE} {ms : List DE} (h : XE X K W e t m) (r : XJ X K W es ts ms) : XJ X K W (e :: es) (t :: ts) (m :: ms)
theorem XJ.pj {X : Cx} {K : Fg} {W : WX} {es : List Expr} {ts : List TE} {ms : List DE} (h : XJ X K W es ts ms) : PJ X es ts := by
  induction h with
  | nil => exact .nil
  | cons h _ ih => exact .cons h.1 ih
theorem XJ.run {X : Cx} {K : Fg} {W : WX} {es : List Expr} {ts : List TE} {ms : List DE} (h : XJ X K W es ts ms) : ∀ {S : SA} {B0 H0 B H : Hp} {σ : L2.St} {en : En}, Sim K S B0 H0 σ en B H → ∀ (acc : Str) (P : Str → Prop) (Y : XP) (Q : Str → Hp → Prop), dJs ms acc en P Y →
    (∀ y B' H', P y → GrS S B H B' H' → Q y H') → (∀ x cls dd B' H', Y x → GrS S B H B' H' → XR K B' H' x cls dd → W cls dd σ H') → tJs ts acc σ H Q := by
  induction h with
  | nil => intro S B0 H0 B H σ en s acc P Y Q q k _; exact k _ _ _ q s.rfl
  | cons h _ ih =>
    intro S B0 H0 B H σ en s acc P Y Q q k kx
    refine h.2.run s _ Y _ q (fun d v B1 H1 p g dv => ?_) kx
    cases dv <;> try exact p.elim
    exact ⟨_, rfl, by rw [sz_eq]; exact p.1, ih (s.step g) _ P Y Q p.2 (fun y B' H' p2 g2 => k y B' H' p2 (g.trans g2)) fun x c dd B' H' hx g2 r => kx x c dd B' H' hx (g.trans g2) r⟩
section
variable {X : Cx} {K : Fg} {W : WX} {e v1 v2 : Expr} {rest : List Expr} {te : TE} {me : DE} {ts : List TE} {ms : List DE} {pos : Pos}
theorem xe_fmt (h : XE X K W e te me) : XE X K W (.FormattedValue e (-1) none pos) (tFmt te) (dFmt me) := ⟨pe_fmt h.1, ⟨fun s P Y Q q k kx => h.2.run s _ Y _ q (fun d v B1 H1 p g dv => by
  cases dv <;> try exact p.elim
  · exact .inr ⟨_, rfl, p.1, k _ _ _ _ p.2 g (.str _)⟩
  · exact .inl ⟨_, rfl, by rw [sz_eq]; exact p.1, k _ _ _ _ p.2 g (.str _)⟩) kx⟩⟩
theorem xe_joined (h : XJ X K W (v1 :: v2 :: rest) ts ms) : XE X K W (.JoinedStr (v1 :: v2 :: rest) pos) (fun σ H Q => tJs ts Str.empty σ H fun out H1 => Q (.str out) H1) (dJoined ms) :=
  ⟨pe_joined h.pj, ⟨fun s P Y Q q k kx => h.run s _ _ Y _ q (fun y B' H' p g => k _ _ _ _ p g (.str _)) kx⟩⟩
end
def bStrInt : D1
  | [.int i], P => i.natAbs.log2 < 1920 ∧ P (.str (toString i))
  | _, _ => False
theorem rc_strInt {K : Fg} : RC K (fun xs H Q => ∃ i, xs = [V.int i] ∧ i.natAbs.log2 < 1920 ∧ Q (.str (toString i)) H) bStrInt := rc1 (fun _ q => q) (fun a b l _ q => by cases a <;> exact q) fun e dv P Q q k => by
  cases dv <;> try exact q.elim
  exact ⟨_, rfl, q.1, k _ _ _ _ q.2 (Gr.rfl e) (.str _)⟩
/-- a method of a text, of ints or texts -/
abbrev DM := Str → List D → (D → Prop) → Prop
def dBM (rd : DM) (mo : DE) (ma : DA) : DE := fun es P X => mo es (fun d => match d with
  | .str y => ma es (fun ds => rd y ds P) X
  | _ => False) X
structure RM (K : Fg) (r : V → List V → Hp → VK → Prop) (rd : DM) : Prop where
  run : ∀ {B H : Hp} {y : Str} {vs : List V} {ds : List D}, Ex B H → DpAll K B vs ds → ∀ (P : D → Prop) (Q : VK), rd y ds P → (∀ d v B' H', P d → Gr B H B' H' → Dp K B' v d → Q v H') → r (.str y) vs H Q
theorem xe_bmS {X : Cx} {K : Fg} {W : WX} {name : Str} {r : V → List V → Hp → VK → Prop} {rd : DM} {o e : Expr} {es : List Expr} {to : TE} {ta : TA} {mo : DE} {ma : DA} {apos cpos : Pos} (hr : RM K r rd)
    (ho : XE X K W o to mo) (ha : XA X K W (e :: es) ta ma) (hp : PE X o to → PA X (e :: es) ta → PE X (.Call (.Attribute o name apos) (e :: es) [] cpos) (tBM K "str" r to ta)) :
    XE X K W (.Call (.Attribute o name apos) (e :: es) [] cpos) (tBM K "str" r to ta) (dBM rd mo ma) := ⟨hp ho.1 ha.1, ⟨fun s P Y Q q k kx => ho.2.run s _ Y _ q (fun d v B1 H1 p g dv => by
  cases dv <;> try exact p.elim
  refine ⟨rfl, ha.2.run (s.step g) _ Y _ p (fun ds vs B2 H2 p2 g2 dvs => ?_) fun x c dd B' H' hx g2 r => kx x c dd B' H' hx (g.trans g2) r⟩
  exact hr.run g2.bh dvs P Q p2 fun d v B3 H3 p3 g3 dv => k _ _ _ _ p3 (g.trans (g2.trans (((s.step g).step g2).gr g3))) dv) kx⟩⟩
def mZfill : DM := fun y ds P => match ds with
  | [.int i] => PadOk i = true ∧ P (.str (Txt.zfill y i))
  | _ => False
set_option exponentiation.threshold 20000
theorem rm_zfill {K : Fg} : RM K (fun x xs H Q => ∃ (a : Str) (i : Int), x = .str a ∧ xs = [V.int i] ∧ PadOk i = true ∧ Q (.str (Txt.zfill a i)) H) mZfill := ⟨fun e dvs P Q q k => by
  cases dvs with
  | nil => exact q.elim
  | cons a t => cases t with
    | cons _ _ => cases a <;> exact q.elim
    | nil => cases a <;> try exact q.elim
             exact ⟨_, _, rfl, rfl, q.1, k _ _ _ _ q.2 (Gr.rfl e) (.str _)⟩⟩

/-! ### math.isqrt -/
def rIsqrt : List V → Hp → VK → Prop := fun vs H Q => ∃ a : Int, vs = [.int a] ∧ 0 ≤ a ∧ a < 2 ^ 13000 ∧ Q (.int ((Float64.isqrt a.toNat : Nat) : Int)) H
def bIsqrt : D1
  | [.int a], P => 0 ≤ a ∧ a < 2 ^ 13000 ∧ P (.int ((Float64.isqrt a.toNat : Nat) : Int))
  | _, _ => False
theorem cr_isqrt {X : Cx} : CallR X (.builtin "math.isqrt") rIsqrt := by
  intro pins s σ H vs us Q I r h
  obtain ⟨a, rfl, h0, h1, q⟩ := h
  obtain ⟨u, rfl, ru⟩ := vals1 r
  obtain ⟨t, rfl⟩ := (show ∃ t, u = Value.int a t from ru)
  have hl : a.toNat.log2 ≤ 12999 := PySem.W.mg_log (by
    have : ((a.toNat : Nat) : Int) < ((2 ^ 13000 : Nat) : Int) := by rw [Int.toNat_of_nonneg h0]; exact_mod_cast h1
    exact_mod_cast this)
  exact call_function_meets PySem.W.MGF.kind_isqrt PySem.W.MGF.plain_isqrt PySem.W.MGF.entry_isqrt (PySem.W.MGF.args_isqrt _) (PySem.W.mg_run_isqrt a t (by omega) (by omega) (by omega)).meets ⟨.int _, H, I.tok _, ⟨_, rfl⟩, q⟩
theorem rc_isqrt {K : Fg} : RC K rIsqrt bIsqrt := rc1 (fun _ q => q) (fun a b l _ q => by cases a <;> exact q) fun e dv P Q q k => by
  cases dv <;> try exact q.elim
  exact ⟨_, rfl, q.1, q.2.1, k _ _ _ _ q.2.2 (Gr.rfl e) (.int _)⟩

/-! ### [..] * n -/
def dRepL (mn : DA) (mb : DE) : DE := fun es P X => mn es (fun ds => mb es (fun d => match d with
  | .int k => -(2 ^ 63) ≤ k ∧ k < 2 ^ 63 ∧ ds.length * k.toNat ≤ 16777216 ∧ P (.list (List.replicate k.toNat ds).flatten)
  | _ => False) X) X
theorem dps_rep {K : Fg} {B : Hp} {xs : List V} {ds : List D} (h : DpAll K B xs ds) : ∀ n : Nat, DpAll K B (List.replicate n xs).flatten (List.replicate n ds).flatten
  | 0 => .nil
  | n + 1 => by
    rw [List.replicate_succ, List.replicate_succ, List.flatten_cons, List.flatten_cons]
    exact dps_app h (dps_rep h n)
theorem xe_repL {X : Cx} {K : Fg} {W : WX} {a b : Expr} {ta tb : TE} {mn : DA} {mb : DE} {pos : Pos} (ha : XN X K W a ta mn) (hb : XE X K W b tb mb) : XE X K W (.BinOp a .Mult b pos) (tOp rRep ta tb) (dRepL mn mb) := ⟨pe_op op_rep ha.1 hb.1, ⟨fun {S B0 H0 B H σ es} s P Y Q q k kx =>
  ha.2.run s _ Y _ q (fun ds p xs B1 H1 p1 g1 hn hb1 hh dx => hb.2.run (s.step g1) _ Y _ p1 (fun d v B2 H2 p2 g2 dv => by
    cases dv <;> try exact p2.elim
    obtain ⟨k1, k2, k3, p2⟩ := p2
    have nS : ¬ S.has p := fun z => by
      have e := SprO.get s.gs.sp z
      exact e hn
    exact ⟨p, _, xs, rfl, rfl, g2.hh p _ hh nS, k1, k2, by rw [sz_eq, dps_len dx]; exact k3, fun l hl => k _ _ _ _ p2 (g1.trans (g2.trans (((s.step g1).step g2).gr (Gr.new g2.bh hl)))) (.lst (SqL.of upd_same) ((Ex.new (g2.bh.back hl)).dps (dps_rep (g2.bb.dps dx) _)))⟩) fun x c dd B' H' hx g2 r => kx x c dd B' H' hx (g1.trans g2) r) kx⟩⟩
end Fw
namespace Fw
variable [Tabs]
open PySem PySem.Spec L2

/-! ### texts: a sign in a text, startswith, lstrip(signs), partition, int(text), walks -/
def dIn : D2
  | .str x, .str z, P => ∃ c, x = ⟨#[c]⟩ ∧ P (.bool (decide (c ∈ z.cps.toList)))
  | _, _, _ => False
def rInS : R2 := fun x y H Q => ∃ (c : Nat) (z : Str), x = .str ⟨#[c]⟩ ∧ y = .str z ∧ Q (.bl (decide (c ∈ z.cps.toList))) H
theorem op_inS {X : Cx} : OpR X (compareOp .In) rInS := op_in_sign
theorem rs_in {K : Fg} : RS K rInS dIn := ⟨fun {B H x y dx dy} e h1 h2 P Q q k => by
  cases h1 <;> cases h2 <;> try exact q.elim
  obtain ⟨c, rfl, q⟩ := q
  exact ⟨_, _, rfl, rfl, k _ _ _ _ q (Gr.rfl e) (.bl _)⟩⟩
def mStart : DM := fun y ds P => match ds with
  | [.str b] => P (.bool (Txt.startswith y b))
  | _ => False
def mLstrip : DM := fun y ds P => match ds with
  | [.str b] => y.length ≤ 16777216 ∧ P (.str (Txt.lstripChars y b))
  | _ => False
def mPart : DM := fun y ds P => match ds with
  | [.str b] => (b.length == 0) = false ∧ y.length ≤ 16777216 ∧ P (.tuple [.str (Txt.partition y b).1, .str (Txt.partition y b).2.1, .str (Txt.partition y b).2.2])
  | _ => False
theorem rm_start {K : Fg} : RM K (fun x xs H Q => ∃ a b, x = .str a ∧ xs = [V.str b] ∧ Q (.bl (Txt.startswith a b)) H) mStart := ⟨fun e dvs P Q q k => by
  cases dvs with
  | nil => exact q.elim
  | cons a t => cases t with
    | cons _ _ => cases a <;> exact q.elim
    | nil => cases a <;> try exact q.elim
             exact ⟨_, _, rfl, rfl, k _ _ _ _ q (Gr.rfl e) (.bl _)⟩⟩
theorem rm_lstrip {K : Fg} : RM K (fun x xs H Q => ∃ a b, x = .str a ∧ xs = [V.str b] ∧ a.length ≤ sizeLine ∧ Q (.str (Txt.lstripChars a b)) H) mLstrip := ⟨fun e dvs P Q q k => by
  cases dvs with
  | nil => exact q.elim
  | cons a t => cases t with
    | cons _ _ => cases a <;> exact q.elim
    | nil => cases a <;> try exact q.elim
             exact ⟨_, _, rfl, rfl, by rw [sz_eq]; exact q.1, k _ _ _ _ q.2 (Gr.rfl e) (.str _)⟩⟩
theorem rm_part {K : Fg} : RM K (fun x xs H Q => ∃ a b, x = .str a ∧ xs = [V.str b] ∧ (b.length == 0) = false ∧ a.length ≤ sizeLine ∧
    ∀ p, H p = none → Q (.ref p) (upd H p (.tup [.str (Txt.partition a b).1, .str (Txt.partition a b).2.1, .str (Txt.partition a b).2.2]))) mPart := ⟨fun e dvs P Q q k => by
  cases dvs with
  | nil => exact q.elim
  | cons a t => cases t with
    | cons _ _ => cases a <;> exact q.elim
    | nil => cases a <;> try exact q.elim
             exact ⟨_, _, rfl, rfl, q.1, by rw [sz_eq]; exact q.2.1, fun p hp => k _ _ _ _ q.2.2 (Gr.new e hp) (.tup (SqT.of upd_same) (.cons (.str _) (.cons (.str _) (.cons (.str _) .nil))))⟩⟩
def bIntS : D1
  | [.str a], P => ∃ n, PySem.intText? a = some n ∧ a.length ≤ 640 ∧ P (.int n)
  | _, _ => False
theorem rc_intS {K : Fg} : RC K (fun xs H Q => ∃ a n, xs = [V.str a] ∧ PySem.intText? a = some n ∧ a.length ≤ 640 ∧ Q (.int n) H) bIntS := rc1 (fun _ q => q) (fun a b l _ q => by cases a <;> exact q) fun e dv P Q q k => by
  cases dv <;> try exact q.elim
  obtain ⟨n, h1, h2, q⟩ := q
  exact ⟨_, _, rfl, h1, h2, k _ _ _ _ q (Gr.rfl e) (.int _)⟩
section
variable {X : Cx} {K : Fg} {W : WX} {tg e : Expr} {te : TE} {me : DE}
theorem it_str {z : Str} {B : Hp} : ItOk K (Its z) B (z.cps.toList.map fun c => PyData.str ⟨#[c]⟩) :=
  ⟨fun {B2 H i} e1 e2 l => by
    have l' : i < z.cps.size := by simpa using l
    refine ⟨l', fun x H' y => ?_⟩
    obtain ⟨rfl, c, hc, rfl⟩ := y
    exact ⟨.str ⟨#[c]⟩, B2, by simp [hc], Gr.rfl e2, .str _⟩, fun _ _ => by show z.cps.size ≤ _; simp⟩
theorem si_str (h : SE K W te me) : SI K W (iStr te) (iS me) := ⟨fun s P X R q k kx => h.run s _ X _ q (fun d v B' H' p g dv => by
  cases dv <;> try exact p.elim
  exact ⟨_, rfl, k _ _ _ _ p g it_str⟩) kx⟩
theorem xi_str (h : XE X K W e te me) : XI X K W tg e (iStr te) (iS me) := ⟨pi_str h.1, si_str h.2⟩
end

/-! ### a table of the body's own: keys are texts -/
theorem Sim.getK {K : Fg} {S : SA} {B0 H0 B H : Hp} {σ : L2.St} {es : En} (s : Sim K S B0 H0 σ es B H) {i n : Nat} {f : Str → Option D} (h : es[i]? = some (.k n f)) : ∃ a kw, σ[i]? = some (some (.ref a)) ∧ H a = some (.dK kw) ∧ kw.length ≤ n ∧ KOk K B kw f := by
  obtain ⟨fp, e, _⟩ := s.env
  obtain ⟨a, xs, h1, h2, h3, h4, _⟩ := e.getK h
  exact ⟨a, xs, h1, h2, h3, h4⟩
theorem OD.getD {K : Fg} {B : Hp} {v z : V} {d : D} : ∀ {o : Option V} {p : Option D}, OD K B o p → Dp K B z d → Dp K B (o.getD z) (p.getD d)
  | none, none, _, h => h
  | some _, some _, h, _ => h
  | none, some _, h, _ => h.elim
  | some _, none, h, _ => h.elim
def dNewK (i : Nat) : DS := fun E es => i < es.length ∧ E.nx (es.set i (.k 0 fun _ => none))
def dKGet (i : Nat) (me mf : DE) : DE := fun es P X => ∃ n f, es[i]? = some (.k n f) ∧ me es (fun d => mf es (fun z => match d with
  | .str x => P ((f x).getD z)
  | _ => False) X) X
def dKPut (i : Nat) (mk mv : DE) : DS := fun E es => ∃ n f, es[i]? = some (.k n f) ∧ n < 16777216 ∧ mv es (fun d => mk es (fun k => match k with
  | .str x => E.nx (es.set i (.k (n + 1) fun y => if y = x then some d else f y))
  | _ => False) (fun x => E.xx x es)) (fun x => E.xx x es)
section
variable {X : Cx} {K : Fg} {W : WX} {k0 : Nat} {x : Str} {e f : Expr} {te tf : TE} {me mf : DE} {pos pos' p0 p1 apos cpos : Pos}
theorem ss_newK (i : Nat) : SS K W (tAsg tDNewK (gName i)) (dNewK i) := ⟨fun {S B0 H0 B H σ es} s E Z q kn _ _ _ _ => fun p hp =>
  kn _ _ _ _ q.2 (s.newK (kw := []) (n1 := 0) (f1 := fun _ => none) hp (Nat.le_refl _) (fun _ => trivial) i q.1) Ex.rfl⟩
theorem xs_newK (i : Nat) (nd : X.N.Nodup) (hi : X.N[i]? = some x := by rfl) (hx : Loc X.env.scope x := by first | exact Or.inl rfl | exact Or.inr rfl) (hs : swapsWith (.Dict [] [] p1) (some (.Name x pos')) pos.line X.env = pure false := by rfl) (hf : X.fn x = true ∨ X.env.scope.names.lookup x = some .local := by first | exact .inl rfl | exact .inr rfl) :
    XS X K W (.Assign [.Name x pos'] (.Dict [] [] p1) pos) (tAsg tDNewK (gName i)) (dNewK i) := ⟨ps_set nd hi hx pe_dnewK hs hf, ss_newK i⟩
theorem se_kget (i : Nat) (ha : SE K W te me) (hb : SE K W tf mf) : SE K W (tDGet2 (tVar i) te tf) (dKGet i me mf) := ⟨fun {S B0 H0 B H σ es} s P Y Q q k kx => by
  obtain ⟨n, g0, hi, q⟩ := q
  obtain ⟨a, kw, h1, h2, h3, h4⟩ := s.getK hi
  refine ⟨_, h1, a, rfl, .inl ⟨kw, .inl h2⟩, ha.run s _ Y _ q (fun d v B1 H1 p g dv => ?_) kx⟩
  refine hb.run (s.step g) _ Y _ p (fun z u B2 H2 p2 g2 du => ?_) fun x c dd B' H' hx g2 r => kx x c dd B' H' hx (g.trans g2) r
  have s2 := (s.step g).step g2
  obtain ⟨a', kw', h1', h2', h3', h4'⟩ := s2.getK hi
  rw [h1] at h1'
  obtain rfl : a = a' := by injection (Option.some.inj h1') with z; injection z
  cases dv <;> try exact p2.elim
  rename_i y
  exact ⟨_, DGet.k (k := .inr y) h2', k _ _ _ _ p2 (g.trans g2) (OD.getD (v := u) (h4' y) du)⟩⟩
theorem xe_kget (C : Ctx X K W k0) (i : Nat) (ha : XE X K W e te me) (hb : XE X K W f tf mf) (ho : PE X (.Name x p0) (tVar i)) (m : M2 X (.Name x p0) "get" apos e f cpos := by exact ⟨rfl, rfl, rfl, rfl⟩) :
    XE X K W (.Call (.Attribute (.Name x p0) "get" apos) [e, f] [] cpos) (tDGet2 (tVar i) te tf) (dKGet i me mf) := ⟨pe_dget2 (by have := C.hr.units; omega) ho ha.1 hb.1 m, se_kget i ha.2 hb.2⟩
theorem ss_kput (i : Nat) (hk : SE K W te me) (hv : SE K W tf mf) : SS K W (sDPut (tVar i) te tf) (dKPut i me mf) := ⟨fun {S B0 H0 B H σ es} s E Z q kn _ _ _ kx => by
  obtain ⟨n, g0, hi, hn, q⟩ := q
  refine hv.run s _ _ _ q (fun d v B1 H1 p g dv => ?_) fun x cls dd B' H' hx g r => kx _ _ _ _ _ _ _ hx (s.step g) g.bb r
  obtain ⟨a, kw, h1, h2, h3, h4⟩ := (s.step g).getK hi
  refine ⟨_, h1, hk.run (s.step g) _ _ _ p (fun k u B2 H2 p2 g2 du => ?_) fun x cls dd B2 H2 hx g2 r => kx _ _ _ _ _ _ _ hx ((s.step g).step g2) (g.bb.trans g2.bb) r⟩
  cases du <;> try exact p2.elim
  rename_i y
  have s2 := (s.step g).step g2
  obtain ⟨a', kw', h1', h2', h3', h4'⟩ := s2.getK hi
  rw [h1] at h1'
  obtain rfl : a = a' := by injection (Option.some.inj h1') with z; injection z
  refine ⟨a, _, rfl, DPut.k (k := .inr y) h2' (by rw [sz_eq]; omega), kn _ _ _ _ p2 (s2.wrK (n1 := n + 1) (Nat.le_trans (length_putK _ _ _) (by omega)) (fun w => ?_) hi h1) (g.bb.trans g2.bb)⟩
  rw [valV_put]
  by_cases c : w = y
  · subst c
    rw [if_pos rfl, if_pos rfl]
    exact g2.bb.dp dv
  · rw [if_neg c, if_neg (fun z => c (by injection z))]
    exact h4' w⟩
theorem xs_kput (C : Ctx X K W k0) (i : Nat) (hk : XE X K W e te me) (hv : XE X K W f tf mf) (ho : PE X (.Name x p0) (tVar i)) (hs : swapsWith f (some (.Subscript (.Name x p0) e pos')) pos.line X.env = pure false := by rfl) :
    XS X K W (.Assign [.Subscript (.Name x p0) e pos'] f pos) (sDPut (tVar i) te tf) (dKPut i me mf) := ⟨ps_dput (by have := C.hr.units; omega) ho hk.1 hv.1 hs, ss_kput i hk.2 hv.2⟩
end
end Fw
/-! Errors with one field: made, raised, caught by a name, the field read. -/
namespace Fw
variable [Tabs]
open PySem PySem.Spec PyProof.Rows L2

def clsA (K : Fg) (x : Str) : Addr := match clsV K x with
  | .ref C => C
  | _ => 0
theorem clsA_of {K : Fg} {x : Str} {C : Addr} (h : clsV K x = .ref C) : clsA K x = C := by
  unfold clsA
  rw [h]
/-- what an __init__ of one row self.f = f promises -/
def spInit (K : Fg) (C : Addr) (f : Str) : Sp := fun vs H Q _ => ∃ a v, vs = [.ref a, v] ∧ H a = some (exo a C none) ∧ ∀ dx, H dx = none → dx ≠ a → Q .non (upd (upd H dx (exd dx [(f, v)])) a (exo a C (some dx)))
structure ExcF (P : Program) (w : World) (K : Fg) (mg : Str → Option Value) (base : Heap) (x f : Str) : Prop where
  ns : PySem.W.nsIn K mainGlobals x = some (some (clsV K x))
  gC : mg x = some (clsV K x)
  rf : clsV K x = .ref (clsA K x)
  oe : OexC K (clsA K x)
  xf : XfC K (clsA K x)
  no : PySem.W.findIn K (.ref (clsA K x)) f = some none
  ini : ∃ (fI : Addr) (fd : FuncData), PySem.W.findIn K (.ref (clsA K x)) "__init__" = some (some (.ref fI)) ∧ PySem.W.typeIn K (.ref fI) = some (.type "function") ∧ Binds K fd ["self", f] [] ∧ FnOk P w K mg base CX0 1 fI fd ["self", f] (spInit K (clsA K x) f)
def dRaiseF (x f : Str) (me : DE) : DS := fun E es => me es (fun d => E.xx (x, some (f, d)) es) (fun y => E.xx y es)
section
variable {X : Cx} {K : Fg} {W : WX} {k0 : Nat}
theorem xs_raiseF (C : Ctx X K W k0) (hk : 2 ≤ k0) {x f : Str} {e : Expr} {te : TE} {me : DE} {p pos pos' : Pos} (G : ExcF X.prog X.w K X.mg X.base x f) (h : XE X K W e te me) (hg : Gl X x := by rfl) (hdb : (x == ("__debug__" : Str)) = false := by decide)
    (he : starEach [e] X.env = (false, eval e X.env) :: starEach [] X.env := by rfl) (hpl : (backTo pos (starEach [] X.env)).any (·.1) = false := by rfl) :
    XS X K W (.Raise (some (.Call (.Name x p) [e] [] pos)) none pos') (fun _ σ H => tMkO (clsA K x) (spInit K (clsA K x) f) [] (tCons te tNil) σ H fun cls d H' => W cls d σ H') (dRaiseF x f me) := by
  have hK := C.hK
  subst hK
  obtain ⟨fI, fd, i1, i2, i3, F1⟩ := G.ini
  refine ⟨ps_raise C.calm C.tk (pmk_oex G.oe i1 i2 F1 (C.hr.mono hk) i3 .nil pass0 hg (G.gC.trans (by rw [G.rf])) (pa_cons h.1 pa_nil he) hdb he hpl), ⟨fun {S B0 H0 B H σ es} s E Z q _ _ _ _ kx => ?_⟩⟩
  refine h.2.run s _ _ _ q (fun d v B1 H1 p1 g dv => ?_) fun y cls dd B' H' hx g r => kx _ _ _ _ _ _ _ hx (s.step g) g.bb r
  refine ⟨by simp, fun a ha => ⟨a, v, rfl, upd_same, fun dx hdx ne => ⟨rfl, dx, [(f, v)], upd_same, ?_, ?_, ?_⟩⟩⟩
  · rw [upd_ne ne, upd_same]
  · rw [upd_ne ne] at hdx
    exact hdx
  · rw [upd_ne ne] at hdx
    have eH : upd (del (upd (upd (upd H1 a (exo a (clsA X.K x) none)) dx (exd dx [(f, v)])) a (exo a (clsA X.K x) (some dx))) a) dx (.xd [(f, v)]) = upd H1 dx (.xd [(f, v)]) := by
      funext b
      by_cases c1 : b = dx
      · subst c1
        rw [upd_same, upd_same]
      · rw [upd_ne c1, upd_ne c1]
        by_cases c2 : b = a
        · subst c2
          rw [del_same, ha]
        · rw [del_ne c2, upd_ne c2, upd_ne c1, upd_ne c2]
    rw [eH]
    have g2 : Gr B1 H1 (upd B1 dx (.xd [(f, v)])) (upd H1 dx (.xd [(f, v)])) := Gr.new g.bh hdx
    have g3 := g.trans ((s.step g).gr g2)
    refine kx _ _ _ _ _ _ _ p1 (s.step g3) g3.bb ⟨G.ns.trans (by rw [G.rf]), dx, v, rfl, upd_same, g2.bb.dp dv⟩
/-- e.f in an except suite -/
def dFld (i : Nat) (a : Addr) (cls : Value) (d : Option Addr) (x f : Str) : DE := fun es P _ => ∃ z, es[i]? = some (.x a cls d (x, some (f, z))) ∧ P z
theorem se_fld {a : Addr} {cls : Value} {d : Option Addr} {x f : Str} {i : Nat} {C : Addr} (hc : PySem.W.nsIn K mainGlobals x = some (some (.ref C))) : SE K W (tXf a cls d C f (tVar i)) (dFld i a cls d x f) := ⟨fun {S B0 H0 B H σ es} s P Y Q q k _ => by
  obtain ⟨z, hi, q⟩ := q
  obtain ⟨fp, e, _⟩ := s.env
  obtain ⟨h1, h2, dd, v, h3, h4, h5⟩ := e.getX hi
  have ec : cls = .ref C := by
    rw [hc] at h2
    injection h2 with h2
    injection h2 with h2
    exact h2.symm
  exact ⟨_, h1, rfl, ec, dd, _, v, h3, s.bh _ _ h4, by simp [List.lookup], k _ _ _ _ q s.rfl h5⟩⟩
theorem xe_fld (i : Nat) {a : Addr} {oe : Obj} {cls : Value} {d : Option Addr} {pn : List (Addr × Obj)} {e : Expr} {pos : Pos} {x f : Str} (hK : X.K = K) (G : ExcF X.prog X.w K X.mg X.base x f) (hz : Zc cls d oe) (hf : ∃ vs, oe.data = .fields vs) (he : PE (X.suite a ((a, oe) :: pn)) e (tVar i))
    (hb : attributeBase e f X.env (eval e X.env) = eval e X.env := by rfl) : XE (X.suite a ((a, oe) :: pn)) K W (.Attribute e f pos) (tXf a cls d (clsA K x) f (tVar i)) (dFld i a cls d x f) := by
  subst hK
  exact ⟨pe_xf G.xf G.no hz hf he hb, se_fld (G.ns.trans (by rw [G.rf]))⟩
end

/-! ### except clauses, with a name or without one -/
abbrev HdT := Value × Option Nat × (Addr → Value → Option Addr → TS)
def wMix (K : Fg) (Wout : WX) (D : Ends) : List HdT → WX
  | [] => Wout
  | (c, none, ts) :: r => fun cls d σ H => ∃ b, PySem.W.exmOne K cls c = some b ∧ (b = true → ∀ a, H a = none → ts a cls d D σ H) ∧ (b = false → wMix K Wout D r cls d σ H)
  | (c, some i, ts) :: r => fun cls d σ H => ∃ b, PySem.W.exmOne K cls c = some b ∧
    (b = true → ∀ a, H a = none → ts a cls d { nx := fun σ' H' => D.nx (σ'.set i none) H', rt := D.rt, bk := fun σ' H' => D.bk (σ'.set i none) H', ct := fun σ' H' => D.ct (σ'.set i none) H' } (σ.set i (some (.ref a))) H) ∧ (b = false → wMix K Wout D r cls d σ H)
inductive HdMix (X : Cx) : List ExceptHandler → List HdT → Prop
  | nil : HdMix X [] []
  | one {x : Str} {c : Value} {ts : Addr → Value → Option Addr → TS} {b₀ : Stmt} {suite : List Stmt} {np pos' : Pos} {hds : List ExceptHandler} {l : List HdT} (hc : Names X x c)
      (hsu : ∀ (a : Addr) (oe : Obj) (cls : Value) (d : Option Addr) (pn : List (Addr × Obj)), Zc cls d oe → (∃ vs, oe.data = .fields vs) → PSs (X.suite a ((a, oe) :: pn)) (b₀ :: suite) (ts a cls d)) (r : HdMix X hds l) :
      HdMix X (.ExceptHandler (some (.Name x np)) none (b₀ :: suite) pos' :: hds) ((c, none, ts) :: l)
  | named {x n : Str} {i : Nat} {c : Value} {ts : Addr → Value → Option Addr → TS} {b₀ : Stmt} {suite : List Stmt} {np pos' : Pos} {hds : List ExceptHandler} {l : List HdT} (hc : Names X x c) (hi : X.N[i]? = some n) (hln : X.env.kindOf n = some .local)
      (hsu : ∀ (a : Addr) (oe : Obj) (cls : Value) (d : Option Addr) (pn : List (Addr × Obj)), Zc cls d oe → (∃ vs, oe.data = .fields vs) → PSs (X.suite a ((a, oe) :: pn)) (b₀ :: suite) (ts a cls d)) (r : HdMix X hds l) :
      HdMix X (.ExceptHandler (some (.Name x np)) (some n) (b₀ :: suite) pos' :: hds) ((c, some i, ts) :: l)
section
variable {X : Cx} {pins : List (Addr × Obj)} {D : Ends}
/-- a suite's end, the suite left -/
theorem suite_end {a : Addr} {oe : Obj} {f : Flow} {s6 : Shared} (ok : X.Ok) (h : SP (X.suite a ((a, oe) :: (X.pn ++ pins))) [] D f s6) : SP X pins D f s6 := by
  cases f with
  | next => obtain ⟨σ6, H6, S6, q6⟩ := h; exact ⟨_, _, S6.unsuite ok, q6⟩
  | brk => obtain ⟨σ6, H6, S6, q6⟩ := h; exact ⟨_, _, S6.unsuite ok, q6⟩
  | cont => obtain ⟨σ6, H6, S6, q6⟩ := h; exact ⟨_, _, S6.unsuite ok, q6⟩
  | ret u => obtain ⟨v6, σ6, H6, S6, r6, q6⟩ := h; exact ⟨_, _, _, S6.unsuite ok, r6, q6⟩
/-- a try body's end, the try left -/
theorem try_end {pn' : List (Addr × Obj)} {xe : Value → Shared → Prop} {f : Flow} {s1 : Shared} (ok : X.Ok) (h : SP (X.tr (X.pn ++ pins) xe) pn' D f s1) : SP X pins D f s1 := by
  cases f with
  | next => obtain ⟨σ', H', J', q⟩ := h; exact ⟨σ', H', J'.ofTry ok, q⟩
  | brk => obtain ⟨σ', H', J', q⟩ := h; exact ⟨σ', H', J'.ofTry ok, q⟩
  | cont => obtain ⟨σ', H', J', q⟩ := h; exact ⟨σ', H', J'.ofTry ok, q⟩
  | ret u => obtain ⟨v, σ', H', J', r, q⟩ := h; exact ⟨v, σ', H', J'.ofTry ok, r, q⟩
/-- an exception that flies over a body, its clauses looked through one by one -/
theorem catch_mix {Wout : WX} {hds : List ExceptHandler} {l : List HdT} (hs : X.stack = X.env :: X.outer) (hf : X.env.frame = some X.env.locals) (hN : X.N.Nodup) (tk : Takes X Wout) (ok : X.Ok) (hh : HdMix X hds l)
    {a : Addr} {B : Heap} {sI s3 : Shared} {σ : L2.St} {H : Hp} {cls : Value} {d : Option Addr} (J : Inv X pins σ H sI) (nb : ∀ b o, sI.heap.get? b = some o → b ∉ frs X.stack → B.get? b = some o) (up : sI.heap.UpToSlots s3.heap)
    (fl : HandSPX.FlyingZ B (X.env :: X.outer) a (Zc cls d) s3.heap) (na : H a = none) (os : s3.os = sI.os) (ag : AllBare s3.gens) (w : wMix X.K Wout D l cls d σ H) :
    wpAny (model X.prog X.w) X.A (handleBy (.ref a) X.env hds) (SP X pins D) X.xe s3 := by
  have J3 : Inv X pins σ H s3 := J.landed nb fl.1 up os ag
  obtain ⟨oe3, vs3, he3, hz3, hd3⟩ := fl.there
  have nfr : a ∉ frs (X.env :: X.outer) := fun hm => by
    obtain ⟨_, o', e', hnf⟩ := fl.2.2.1.mem hm
    rw [he3] at e'
    cases e'
    exact hnf _ hd3
  have nL : a ≠ X.env.locals := fun z => nfr (List.mem_filterMap.mpr ⟨X.env, List.mem_cons_self, by rw [hf, z]⟩)
  have nF : a ∉ X.fs := fun hm => by
    obtain ⟨e, he, q⟩ := List.mem_filterMap.mp hm
    exact nfr (List.mem_filterMap.mpr ⟨e, List.mem_cons_of_mem _ he, q⟩)
  have S3 := J3.suite he3 hd3 na nL nF
  have test : ∀ {x : Str} {np : Pos} {c : Value} {Q : Value → Shared → Prop} {E : Value → Shared → Prop}, Names X x c → Q c s3 → wpAny (model X.prog X.w) (X.A.mark (some (.ref a))) (eval (.Name x np) X.env) Q E s3 := fun {x np c Q E} hc q => by
    obtain ⟨hg, hdbg, hm | ⟨hm, hv, hnn⟩⟩ := hc
    · exact ld_glob (X := X.suite a ((a, oe3) :: (X.pn ++ pins))) S3 hg hm q hdbg
    · exact ld_blt (X := X.suite a ((a, oe3) :: (X.pn ++ pins))) S3 hg hm hv q hnn hdbg
  have LT : PySem.W.Looks (model X.prog X.w) s3.heap (typeOf (.ref a)) cls := fun A Q E s k q => wpAny_typeOf_ref (k _ _ he3) (by rw [hz3.1]; exact q)
  induction hh with
  | nil =>
    refine wpAny_handleBy_nil ?_
    obtain ⟨k1, k2, k3, oe, vs, T, oT, ts', he, hz, hd, h1, hr⟩ := id fl
    unfold PySem.passOn
    refine wpAny_bind (wpAny_field he hd h1 ?_)
    rw [if_neg (show ¬ ((Value.ref T == Value.none) = true) from by simp)]
    have fin : wpAny (model X.prog X.w) X.A (setFlight (.ref a) X.env.frame) (fun _ s4 => wpAny (model X.prog X.w) X.A (throw (.ref a) : Sem Flow) (SP X pins D) X.xe s4) X.xe s3 := by
      rw [hf]
      refine HandSPX.setFlight_upZ fl fun h4 hh4 up4 => wpAny_throw (tk _ _ ?_)
      exact ⟨a, B, sI, pins, σ, H, cls, d, rfl, J, nb, up.trans up4, .inr (.inr (by rw [hs]; exact hh4)), na, os, ag, w⟩
    first
      | exact wpAny_bind (wpAny_pure (wpAny_bind fin))
      | exact wpAny_bind fin
  | @one x c ts b₀ suite np pos' hds2 l2 hc hsu r ih =>
    obtain ⟨b, hb1, hyes, hno⟩ := w
    refine wpAny_handleBy_cons (codeAny_handlers_test ?_) (by intro q; cases q)
    refine test hc ((PySem.W.exm_one (M := model X.prog X.w) J3.kIn LT hb1).here ?_)
    cases b with
    | true =>
      refine codeAny_handlers_suite ?_
      refine HandSPX.lands_againZ fl fun h4 fl4 up4 => ?_
      have J4 : Inv X pins σ H { s3 with heap := h4 } := J.landed nb fl4.1 (up.trans up4) os ag
      obtain ⟨oe4, vs4, he4, hz4, hd4⟩ := fl4.there
      exact wpAny_mono ((hsu a oe4 cls d (X.pn ++ pins) hz4 ⟨_, hd4⟩).run [] _ _ H _ (J4.suite he4 hd4 na nL nF) (hyes rfl a na)) (fun f s6 hsp => suite_end ok hsp) fun _ _ z => False.elim z
    | false => exact ih (hno rfl)
  | @named x n i c ts b₀ suite np pos' hds2 l2 hc hi hln hsu r ih =>
    obtain ⟨b, hb1, hyes, hno⟩ := w
    refine wpAny_handleBy_cons (codeAny_handlers_test ?_) (by intro q; cases q)
    refine test hc ((PySem.W.exm_one (M := model X.prog X.w) J3.kIn LT hb1).here ?_)
    cases b with
    | true =>
      refine codeAny_handlers_suite_as ?_
      refine HandSPX.lands_againZ fl fun h4 fl4 up4 => ?_
      have J4 : Inv X pins σ H { s3 with heap := h4 } := J.landed nb fl4.1 (up.trans up4) os ag
      obtain ⟨oe4, vs4, he4, hz4, hd4⟩ := fl4.there
      refine store_ok (X := X.suite a ((a, oe4) :: (X.pn ++ pins))) (v := .ref a) (J4.suite he4 hd4 na nL nF) hN hi (.inl hln) rfl (fun s5 S5 => ?_) (.inr hln)
      refine wpAny_mono ((hsu a oe4 cls d (X.pn ++ pins) hz4 ⟨_, hd4⟩).run [] s5 _ H _ S5 (hyes rfl a na)) (fun f s6 hsp => ?_) (fun _ _ z => False.elim z)
      have leave : ∀ {σ6 : L2.St} {H6 : Hp} {Q : Shared → Prop}, Inv (X.suite a ((a, oe4) :: (X.pn ++ pins))) [] σ6 H6 s6 → (∀ s7, Inv X pins (σ6.set i none) H6 s7 → Q s7) →
          wpAny (model X.prog X.w) X.A (do bindName X.env n .none; unbindBehindTheSuite X.env n pos') (fun _ s7 => Q s7) X.xe s6 := fun S6 hq => gone_ok (S6.unsuite ok) hN hi hln hq
      cases f with
      | next => obtain ⟨σ6, H6, S6, q6⟩ := hsp; exact leave S6 fun s7 J7 => ⟨_, _, J7, q6⟩
      | brk => obtain ⟨σ6, H6, S6, q6⟩ := hsp; exact leave S6 fun s7 J7 => ⟨_, _, J7, q6⟩
      | cont => obtain ⟨σ6, H6, S6, q6⟩ := hsp; exact leave S6 fun s7 J7 => ⟨_, _, J7, q6⟩
      | ret u => obtain ⟨v6, σ6, H6, S6, r6, q6⟩ := hsp; exact leave S6 fun s7 J7 => ⟨_, _, _, J7, r6, q6⟩
    | false => exact ih (hno rfl)
theorem ps_try_mix {Wout : WX} {body : List Stmt} {h₀ : ExceptHandler} {hds : List ExceptHandler} {l : List HdT} {pos : Pos} {tb : WX → TS} (hs : X.stack = X.env :: X.outer) (hf : X.env.frame = some X.env.locals) (hN : X.N.Nodup) (tk : Takes X Wout)
    (hb : ∀ (W : WX) (pn : List (Addr × Obj)) (xe : Value → Shared → Prop), Takes (X.tr pn xe) W → PassesOwn (model X.prog X.w) X.A X.env xe → PSs (X.tr pn xe) body (tb W))
    (hh : HdMix X (h₀ :: hds) l) : PS X (.Try body (h₀ :: hds) [] [] pos) (fun D σ H => tb (wMix X.K Wout D l) D σ H) := by
  refine ⟨fun pins s σ H D I h => wpAny_Try_except ?_⟩
  have ok := I.ok
  have hfr : X.A.frames = some (X.env :: X.outer) := by rw [ok.frames, hs]
  refine wpAny_mono ((hb (wMix X.K Wout D l) (X.pn ++ pins) (fun e s₁ => wpAny (model X.prog X.w) X.A (noteFrame e X.env) (fun _ s₂ => wpAny (model X.prog X.w) X.A (setFlight e none) (fun _ s₃ =>
    wpAny (model X.prog X.w) X.A (handleBy e X.env (h₀ :: hds)) (SP X pins D) X.xe s₃) X.xe s₂) X.xe s₁) (fun u s' xx => ?_) PassesOwn.looking).run [] s σ H D (I.toTry _) h) (fun f s1 hsp => ?_) (fun e s1 he => he)
  · obtain ⟨a, B, sI, pins', σ', H', cls, d, rfl, J', nb, up, sky, na, os, ag, w⟩ := xx
    have sky' : Sky B (X.env :: X.outer) a (Zc cls d) X.env.locals s'.heap := by rw [← hs]; exact sky
    show wpAny (model X.prog X.w) X.A (noteFrame (.ref a) X.env) _ _ _
    exact Sky.land Zc.steady hfr hf sky' fun h3 fl3 up3 => catch_mix (s3 := { s' with heap := h3 }) hs hf hN tk ok hh (J'.ofTry ok) nb (up.trans up3) fl3 na os ag w
  · have e := try_end ok hsp
    cases f with
    | next => exact wpAny_execs_nil e
    | brk => exact e
    | cont => exact e
    | ret u => exact e
end
/-! ### the same over data -/
abbrev HdD := Str × Option Nat × (Addr → Value → Option Addr → DS)
def hPickM (sub : Sub) (E : Eo) (x : XD) (es : En) : List HdD → Prop
  | [] => E.xx x es
  | (c, none, m) :: r => ∃ b, sub x.1 c = some b ∧ if b = true then ∀ a cls d, m a cls d { E with xx := fun _ _ => False } es else hPickM sub E x es r
  | (c, some i, m) :: r => ∃ b, sub x.1 c = some b ∧ if b = true then ∀ a cls d, m a cls d { nx := fun es' => E.nx (es'.set i .un), rt := E.rt, bk := fun es' => E.bk (es'.set i .un), ct := fun es' => E.ct (es'.set i .un), xx := fun _ _ => False } (es.set i (.x a cls d x)) else hPickM sub E x es r
def dTryM (sub : Sub) (mb : DS) (hs : List HdD) : DS := fun E es => mb { E with xx := fun x es' => hPickM sub E x es' hs } es
inductive XHm (X : Cx) (K : Fg) : List ExceptHandler → List HdT → List HdD → Prop
  | nil : XHm X K [] [] []
  | one {x : Str} {ts : Addr → Value → Option Addr → TS} {ms : Addr → Value → Option Addr → DS} {b₀ : Stmt} {suite : List Stmt} {np pos' : Pos} {hds : List ExceptHandler} {l : List HdT} {m : List HdD} (hc : ClsN K X.mg x) (hg : Gl X x) (hdb : (x == ("__debug__" : Str)) = false)
      (hsu : ∀ (a : Addr) (oe : Obj) (cls : Value) (d : Option Addr) (pn : List (Addr × Obj)), Zc cls d oe → (∃ vs, oe.data = .fields vs) → XB (X.suite a ((a, oe) :: pn)) K WF (b₀ :: suite) (ts a cls d) (ms a cls d)) (r : XHm X K hds l m) :
      XHm X K (.ExceptHandler (some (.Name x np)) none (b₀ :: suite) pos' :: hds) ((clsV K x, none, ts) :: l) ((x, none, ms) :: m)
  | named {x n : Str} {i : Nat} {ts : Addr → Value → Option Addr → TS} {ms : Addr → Value → Option Addr → DS} {b₀ : Stmt} {suite : List Stmt} {np pos' : Pos} {hds : List ExceptHandler} {l : List HdT} {m : List HdD} (hc : ClsN K X.mg x) (hg : Gl X x) (hdb : (x == ("__debug__" : Str)) = false)
      (hi : X.N[i]? = some n) (hln : X.env.kindOf n = some .local)
      (hsu : ∀ (a : Addr) (oe : Obj) (cls : Value) (d : Option Addr) (pn : List (Addr × Obj)), Zc cls d oe → (∃ vs, oe.data = .fields vs) → XB (X.suite a ((a, oe) :: pn)) K WF (b₀ :: suite) (ts a cls d) (ms a cls d)) (r : XHm X K hds l m) :
      XHm X K (.ExceptHandler (some (.Name x np)) (some n) (b₀ :: suite) pos' :: hds) ((clsV K x, some i, ts) :: l) ((x, some i, ms) :: m)
theorem XHm.ok {X : Cx} {K : Fg} {hds : List ExceptHandler} {l : List HdT} {m : List HdD} (h : XHm X K hds l m) : HdMix X hds l := by
  induction h with
  | nil => exact .nil
  | one hc hg hdb hsu r ih => exact .one ⟨hg, hdb, .inl hc.gC⟩ (fun a oe cls d pn z v => (hsu a oe cls d pn z v).1) ih
  | named hc hg hdb hi hln hsu r ih => exact .named ⟨hg, hdb, .inl hc.gC⟩ hi hln (fun a oe cls d pn z v => (hsu a oe cls d pn z v).1) ih
section
variable {X : Cx} {K : Fg} {W : WX} {k0 : Nat} {sub : Sub}
theorem hs_mix (SF : SubF K sub) {S : SA} {B0 H0 B H : Hp} {σ : L2.St} {es : En} {hds : List ExceptHandler} {l : List HdT} {m : List HdD} (h : XHm X K hds l m) {x : XD} {cls : Value} {dd : Option Addr}
    (s : Sim K S B0 H0 σ es B H) (r : XR K B H x cls dd) (E : Eo) (Z : Ends) (q : hPickM sub E x es m)
    (kn : ∀ σ' es' B' H', E.nx es' → Sim K S B0 H0 σ' es' B' H' → Ex B B' → Z.nx σ' H') (kr : ∀ σ' es' d v B' H', E.rt d → Sim K S B0 H0 σ' es' B' H' → Dp K B' v d → Z.rt v H')
    (kb : ∀ σ' es' B' H', E.bk es' → Sim K S B0 H0 σ' es' B' H' → Ex B B' → Z.bk σ' H') (kc : ∀ σ' es' B' H', E.ct es' → Sim K S B0 H0 σ' es' B' H' → Ex B B' → Z.ct σ' H')
    (kx : E.xx x es → W cls dd σ H) : wMix K W Z l cls dd σ H := by
  induction h with
  | nil => exact kx q
  | @one x1 ts ms b₀ suite np pos' hds l m hc hg hdb hsu _ ih =>
    obtain ⟨b, e, q⟩ := q
    have ec : cls = clsV K x.1 := (clsV_of r.1).symm
    refine ⟨b, by rw [ec]; exact SF.of e, fun hb a na => ?_, fun hb => ?_⟩
    · subst hb
      rw [if_pos rfl] at q
      exact (hsu a { cls := cls, dict := dd, data := .fields #[] } cls dd [] ⟨rfl, rfl⟩ ⟨_, rfl⟩).2.run s { E with xx := fun _ _ => False } Z (q a cls dd) kn kr kb kc fun _ _ _ _ _ _ _ z => z.elim
    · subst hb
      rw [if_neg (by decide)] at q
      exact ih q
  | @named x1 n i ts ms b₀ suite np pos' hds l m hc hg hdb hi hln hsu _ ih =>
    obtain ⟨b, e, q⟩ := q
    have ec : cls = clsV K x.1 := (clsV_of r.1).symm
    refine ⟨b, by rw [ec]; exact SF.of e, fun hb a na => ?_, fun hb => ?_⟩
    · subst hb
      rw [if_pos rfl] at q
      exact (hsu a { cls := cls, dict := dd, data := .fields #[] } cls dd [] ⟨rfl, rfl⟩ ⟨_, rfl⟩).2.run (s.setX (a := a) (r.mono Ex.rfl) i) _ _ (q a cls dd) (fun σ' es' B' H' h1 s1 e1 => kn _ _ _ _ h1 (s1.setU none i) e1) kr
        (fun σ' es' B' H' h1 s1 e1 => kb _ _ _ _ h1 (s1.setU none i) e1) (fun σ' es' B' H' h1 s1 e1 => kc _ _ _ _ h1 (s1.setU none i) e1) fun _ _ _ _ _ _ _ z => z.elim
    · subst hb
      rw [if_neg (by decide)] at q
      exact ih q
theorem xs_tryM (C : Ctx X K W k0) (SF : SubF K sub) {body : List Stmt} {h₀ : ExceptHandler} {hds : List ExceptHandler} {l : List HdT} {m : List HdD} {pos : Pos} {tb : WX → TS} {mb : DS}
    (hb : ∀ (W : WX) (pn : List (Addr × Obj)) (xe : Value → Shared → Prop), Ctx (X.tr pn xe) K W k0 → XB (X.tr pn xe) K W body (tb W) mb) (hh : XHm X K (h₀ :: hds) l m) (hs : X.stack = X.env :: X.outer := by rfl) (hf : X.env.frame = some X.env.locals := by rfl) :
    XS X K W (.Try body (h₀ :: hds) [] [] pos) (fun D σ H => tb (wMix K W D l) D σ H) (dTryM sub mb m) := by
  have hK := C.hK
  subst hK
  refine ⟨ps_try_mix hs hf C.nd C.tk (fun W' pn xe tk po => (hb W' pn xe ⟨rfl, tk, po, C.hr, C.calm, C.nd⟩).1) hh.ok, ⟨fun s E Z q kn kr kb kc kx => ?_⟩⟩
  obtain ⟨pn, xe, C'⟩ := tr_ctx (W' := wMix X.K W Z l) C hs hf
  refine (hb _ pn xe C').2.run s { E with xx := fun x es' => hPickM sub E x es' m } Z q kn kr kb kc fun x cls dd σ' es' B' H' hx s' e' r => ?_
  exact hs_mix SF hh s' r E Z hx (fun a b c d e f g => kn a b c d e f (e'.trans g)) kr (fun a b c d e f g => kb a b c d e f (e'.trans g)) (fun a b c d e f g => kc a b c d e f (e'.trans g)) fun z => kx _ _ _ _ _ _ _ z s' e' r
end
end Fw
namespace Fw
variable [Tabs]
open PySem PySem.Spec L2

/-! ### a text in a list of texts; find; a sign many times -/
def strsOf : List D → Option (List Str)
  | [] => some []
  | .str x :: r => (strsOf r).map (x :: ·)
  | _ :: _ => none
def dInL : D2
  | .str x, .list ds, P => ∃ ss, strsOf ds = some ss ∧ P (.bool (ss.any fun y => y == x))
  | _, _, _ => False
theorem dps_strs {K : Fg} {B : Hp} : ∀ {vs : List V} {ds : List D} {ss : List Str}, DpAll K B vs ds → strsOf ds = some ss → vs = ss.map V.str
  | _, _, ss, .nil, h => by simp [strsOf] at h; subst h; rfl
  | _, _, ss, .cons a t, h => by
    cases a <;> simp only [strsOf, reduceCtorEq, Option.map_eq_some_iff] at h
    obtain ⟨r, h1, rfl⟩ := h
    rw [dps_strs t h1]
    rfl
theorem inV_strs (x : Str) : ∀ ss : List Str, inV (V.str x) (ss.map V.str) = ss.any fun y => y == x
  | [] => rfl
  | y :: r => by
    have := inV_strs x r
    unfold inV at this ⊢
    rw [List.map_cons, List.any_cons, List.any_cons, this]
    rfl
theorem flat_all (ss : List Str) : (ss.map V.str).all flatV = true := by
  rw [List.all_map]
  simp [flatV]
theorem rs_inL {K : Fg} : RS K (rIn K false) dInL := ⟨fun {B H x y dx dy} e h1 h2 P Q q k => by
  cases h1 <;> cases h2 <;> try exact q.elim
  rename_i z a vs ds s1 t1
  obtain ⟨ss, h3, q⟩ := q
  have ev := dps_strs t1 h3
  subst ev
  refine ⟨_, _, rfl, .inl (e.sqL s1), rfl, flat_all ss, ?_⟩
  rw [inV_strs]
  exact k _ _ _ _ q (Gr.rfl e) (.bl _)⟩
theorem xe_inL {X : Cx} {K : Fg} {W : WX} {k0 : Nat} (C : Ctx X K W k0) {a b : Expr} {ta tb : TE} {ma mb : DE} {pos : Pos} (ha : XE X K W a ta ma) (hb : XE X K W b tb mb) (hm : behindInMarks .In b = false := by with_unfolding_all rfl) : XE X K W (.Compare a [.In] [b] pos) (tOp (rIn K false) ta tb) (dOp dInL ma mb) := by
  have hK := C.hK
  subst hK
  exact xe_cmp op_in_seq rs_inL ha hb hm
theorem xt_inL {X : Cx} {K : Fg} {W : WX} {k0 : Nat} (C : Ctx X K W k0) {a b : Expr} {ta tb : TE} {ma mb : DE} {pos : Pos} (ha : XE X K W a ta ma) (hb : XE X K W b tb mb) (hm : behindInMarks .In b = false := by with_unfolding_all rfl) : XT X K W (.Compare a [.In] [b] pos) (tTest (tOp (rIn K false) ta tb)) (dTest (dOp dInL ma mb)) := by
  have hK := C.hK
  subst hK
  exact xt_cmp op_in_seq rs_inL ha hb hm
def mFind : DM := fun y ds P => match ds with
  | [.str b] => P (.int (Txt.find y b))
  | _ => False
theorem rm_find {K : Fg} : RM K (fun x xs H Q => ∃ a b, x = .str a ∧ xs = [V.str b] ∧ Q (.int (Txt.find a b)) H) mFind := ⟨fun e dvs P Q q k => by
  cases dvs with
  | nil => exact q.elim
  | cons a t => cases t with
    | cons _ _ => cases a <;> exact q.elim
    | nil => cases a <;> try exact q.elim
             exact ⟨_, _, rfl, rfl, k _ _ _ _ q (Gr.rfl e) (.int _)⟩⟩
/-- a text of one sign, n times -/
def timesS (c : Nat) (n : Nat) : Str := ⟨(List.replicate n c).toArray⟩
def dMulS : D2
  | .str x, .int n, P => ∃ c, x = ⟨#[c]⟩ ∧ 2 ≤ n ∧ n ≤ 1000 ∧ P (.str (timesS c n.toNat))
  | _, _, _ => False
def rMulS : R2 := fun x y H Q => ∃ c n, x = .str ⟨#[c]⟩ ∧ y = .int n ∧ 2 ≤ n ∧ n ≤ 1000 ∧ Q (.str (timesS c n.toNat)) H
theorem fold_one (c : Nat) : ∀ (n : Nat) (a : Array Nat), (List.replicate n #[c]).foldl (· ++ ·) a = a ++ (List.replicate n c).toArray
  | 0, a => by simp
  | n + 1, a => by
    rw [List.replicate_succ, List.foldl_cons, fold_one c n, List.replicate_succ]
    apply Array.toList_inj.mp
    simp
theorem op_mulS {X : Cx} : OpR X (binaryOp .Mult) rMulS := by
  intro pins s σ H x y v u Q I rx ry h
  obtain ⟨c, n, rfl, rfl, h2, h3, q⟩ := h
  obtain ⟨t, rfl⟩ := rx
  obtain ⟨t', rfl⟩ := ry
  have l1 : (⟨#[c]⟩ : Str).length = 1 := rfl
  refine PySem.P.mul_str (by rw [decide_eq_false (by omega), decide_eq_false (by omega)]; rfl) (fun _ _ z => ?_) (fun _ _ => ?_) ?_
  · rw [l1] at z
    have : (1 : Int) ≤ (2 ^ 63 - 1) / n := by
      have h5 : (1000 : Int) ≤ 2 ^ 63 - 1 := by decide
      exact Int.le_ediv_of_mul_le (by omega) (by omega)
    have z' : (2 ^ 63 - 1) / n < 1 := by simpa using z
    omega
  · rw [l1, Nat.one_mul]
    have hb : n.toNat ≤ 1000 := by omega
    have hall : ∀ k : Nat, k ≤ 1000 → PySem.Builtin.Str.tooLong k = false := by decide +kernel
    exact hall _ hb
  · rw [if_neg (by omega), if_neg (by rw [l1]; simp; omega)]
    have e : (⟨(List.replicate n.toNat (#[c] : Array Nat)).foldl (· ++ ·) #[]⟩ : Str) = timesS c n.toNat := by
      unfold timesS
      rw [fold_one]
      simp
    show Made.post (Made.str ⟨(List.replicate n.toNat (#[c] : Array Nat)).foldl (· ++ ·) #[]⟩) _ s
    rw [e]
    refine ⟨?_, .str _, _, I.tok _, ⟨_, rfl⟩, q⟩
    have el : (timesS c n.toNat).length = n.toNat := by simp [timesS, Str.length]
    show (timesS c n.toNat).length ≤ sizeLine
    rw [el, sz_eq]
    omega
theorem rs_mulS {K : Fg} : RS K rMulS dMulS := ⟨fun {B H x y dx dy} e h1 h2 P Q q k => by
  cases h1 <;> cases h2 <;> try exact q.elim
  obtain ⟨c, rfl, a, b, q⟩ := q
  exact ⟨_, _, rfl, rfl, a, b, k _ _ _ _ q (Gr.rfl e) (.str _)⟩⟩
theorem xe_mulS {X : Cx} {K : Fg} {W : WX} {a b : Expr} {ta tb : TE} {ma mb : DE} {pos : Pos} (ha : XE X K W a ta ma) (hb : XE X K W b tb mb) : XE X K W (.BinOp a .Mult b pos) (tOp rMulS ta tb) (dOp dMulS ma mb) := xe_op op_mulS rs_mulS ha hb
end Fw
/-! Generator expressions of one clause, walked whole by a built-in: their own frame, their turns. -/
namespace GX
open PySem PySem.Spec PyProof.Rows L2 GenW GxR

/-- the frame of a generator expression, woken under A -/
abbrev gcx (X : Cx) (sc : Shared) (H : Hp) (A : Around) (cenv : Env) (fp : List Addr) (pn : List (Addr × Obj)) : Cx :=
  { X with A := A, s_0 := sc, H_0 := H, env := cenv, outer := X.stack, stack := cenv :: X.stack, ex := fp, fn := fun _ => false, pn := pn, xe := fun _ _ => False }
abbrev genv (X : Cx) (sc : Shared) (scope : Scope) (code : Value) : Env := genEnv scope (cloFrom X.env.cells scope.names []) sc.heap.objs.size code builtinsNs X.env

section
variable {X : Cx} {pins : List (Addr × Obj)} {σ : L2.St} {H : Hp} {sc s2 : Shared} {scope : Scope} {own : List (Str × Nat)} {fp : List Addr} {code : Value} {A : Around} {pn pS : List (Addr × Obj)}
/-- the frame as it is first woken -/
theorem gen_start (I : Inv X pins σ H sc) (ok : BlkOk X.N X.env.scope scope own) (hN : X.N.Nodup) (hcell : ∀ y ∈ scope.names, y.2 ≠ .cell) (hfp : ∀ b ∈ fp, FpOk X pins H b ∧ b < sc.heap.objs.size)
    (hA : A.handled = none) (hfr : A.frames = some (genv X sc scope code :: X.stack)) (kp : ∀ b o, sc.heap.get? b = some o → s2.heap.get? b = some o) (hos : s2.os = sc.os) (hba : AllBare s2.gens)
    (hns : ∃ m, s2.heap.Ns sc.heap.objs.size m) (hpn : ∀ p ∈ pn ++ pS, s2.heap.get? p.1 = some p.2 ∧ sc.heap.objs.size < p.1 ∧ ∀ v, p.2.data ≠ .cell v) :
    Inv (gcx X sc H A (genv X sc scope code) fp pn) pS (wipe σ (own.map (·.2))) H s2 := by
  have hfree : ∀ y ∈ scope.names, y.2 = .free → ∃ c, X.env.cells.lookup y.1 = some c := fun y hy e => by
    rcases ok.free y hy e with k | k
    · exact I.ok.has _ (.inl k)
    · exact I.ok.has _ (.inr k)
  have cm : ∀ {y : Str} {c : Addr}, (genv X sc scope code).cells.lookup y = some c → X.env.cells.lookup y = some c ∧ c < sc.heap.objs.size := fun {y c} e => by
    have e : (cloFrom X.env.cells scope.names []).lookup y = some c := e
    rcases cloFrom_mem (PySem.mem_of_lookup e) with hm | ⟨h1, rfl⟩
    · cases hm
    · obtain ⟨c, hc⟩ := hfree _ h1 rfl
      rw [hc]
      obtain ⟨w, z⟩ := I.cell _ _ hc
      exact ⟨rfl, z.lt⟩
  have look : ∀ {y : Str}, scope.names.lookup y = some .free → ∃ c, (genv X sc scope code).cells.lookup y = some c := fun {y} hl =>
    mem_lookup (cloFrom_has (cells := X.env.cells) (acc := []) (PySem.mem_of_lookup hl))
  have okG : (gcx X sc H A (genv X sc scope code) fp pn).Ok := by
    refine ⟨I.ok.mod, ok.kind, I.ok.glob, rfl, Nat.le_refl _, fun y z c e1 e2 => I.ok.inj y z c (cm e1).1 (cm e2).1, fun y hy => ?_, fun y c z _ => (nomatch z), fun _ => hA, hfr, .inr ⟨rfl, rfl⟩, fun b hb => ⟨Nat.ne_of_lt (hfp b hb).2, fun y c e => (hfp b hb).1.2.2.2.2.1 y c (cm e).1⟩,
      I.bs, Nat.le_trans I.ok.bsz I.sz, fun b o e hb => ?_, fun b hb z => ?_, I.stack, I.stkFree⟩
    · rcases hy with hy | hy
      · exact absurd rfl (hcell _ (PySem.mem_of_lookup hy))
      · exact look hy
    · rcases (hfp b hb).1.2.2.2.1 with z | z
      · exact I.ok.noex b o e z
      · exact absurd (Nat.lt_of_lt_of_le (Heap.lt_size e) (Nat.le_trans I.ok.bsz z)) (Nat.lt_irrefl _)
    · rcases List.mem_cons.mp (I.stkSub b z) with z | z
      · exact (hfp b hb).1.2.1 z
      · exact (hfp b hb).1.2.2.1 z
  obtain ⟨m, hns⟩ := hns
  refine ⟨okG, hos, hba, Un.kept kp, ⟨m, hns, fun i y av e1 e2 e3 => ?_⟩, fun y c e => ?_, I.hok.fresh (Nat.le_refl _), fun y c e => I.freeC y c (cm e).1, fun p hp => ?_, I.hok.kept kp, by rw [wipe_length]; exact I.len⟩
  · obtain ⟨e2, hne⟩ := wipe_some e2
    have hfr : scope.names.lookup y = some .free := by
      have no : ∀ k, (y, k) ∈ scope.names → ¬ (k = .local ∨ k = .cell) := fun k hm hh => by
        rcases ok.own _ hm hh with e' | e'
        · obtain ⟨p, hp, hpy⟩ := List.mem_map.mp e'
          have e3 := ok.ix p hp
          have q : p.1 = y := hpy
          rw [q] at e3
          exact hne (List.mem_map.mpr ⟨p, hp, nodup_ix hN e3 e1⟩)
        · exact e' (List.mem_of_getElem? e1)
      have e3 : Vis scope y := e3
      rcases e3 with e3 | e3 | e3
      · exact absurd (.inl rfl) (no _ (PySem.mem_of_lookup e3))
      · exact absurd (.inr rfl) (no _ (PySem.mem_of_lookup e3))
      · exact e3
    obtain ⟨m0, hn, hl⟩ := I.loc
    have hvis : Vis X.env.scope y := (ok.free _ (PySem.mem_of_lookup hfr) rfl).elim (fun k => .inr (.inl k)) (fun k => .inr (.inr k))
    obtain ⟨w, r, q⟩ := hl i y av e1 e2 hvis
    refine ⟨w, r, .inr ⟨.inr hfr, ?_⟩⟩
    obtain ⟨c, h1⟩ := look hfr
    refine ⟨c, h1, ?_⟩
    rcases q with ⟨k, _⟩ | ⟨_, c', e', z⟩
    · have k : X.env.scope.names.lookup y = some .local := k
      rcases ok.free _ (PySem.mem_of_lookup hfr) rfl with k' | k' <;> rw [show X.env.scope.names.lookup y = _ from k'] at k <;> cases k
    · rw [(cm h1).1] at e'
      cases e'
      exact z.keeps kp
  · obtain ⟨w, z⟩ := I.cell y c (cm e).1
    exact ⟨w, z.keeps kp⟩
  · obtain ⟨h1, h2, h3⟩ := hpn p hp
    refine ⟨h1, I.hok.fresh (Nat.le_of_lt h2), Nat.ne_of_gt h2, fun z => ?_, h3⟩
    exact absurd (I.stkFree p.1 z) (by
      intro _
      rcases List.mem_cons.mp (I.stkSub p.1 z) with q | q
      · have := I.lt
        rw [← q] at this
        exact absurd (Nat.lt_trans this h2) (Nat.lt_irrefl _)
      · exact I.nofs (Nat.le_of_lt h2) q)

/-- while the generator sleeps its consumer changes its own objects alone: pS becomes pS' -/
structure Slp (pS pS' : List (Addr × Obj)) (s s' : Shared) : Prop where
  os : s'.os = s.os
  bare : AllBare s'.gens
  keep : ∀ b o, b ∉ pS.map (·.1) → s.heap.get? b = some o → s'.heap.get? b = some o
  ad : pS'.map (·.1) = pS.map (·.1)
  new : ∀ p ∈ pS', s'.heap.get? p.1 = some p.2 ∧ ∀ v, p.2.data ≠ .cell v
theorem slp_inv {s s' : Shared} (I : Inv X pS σ H s) (z : Slp pS pins s s') (h0 : ∀ p ∈ pS, X.s_0.heap.objs.size ≤ p.1 ∧ (∀ x c, X.env.cells.lookup x = some c → c ≠ p.1) ∧ ∀ q ∈ X.pn, q.1 ≠ p.1) : Inv X pins σ H s' := by
  have I0 : Inv X [] σ H s := I.pins_of fun p hp => by simp at hp
  have pinS : ∀ p ∈ pS, s.heap.get? p.1 = some p.2 ∧ H p.1 = none ∧ p.1 ≠ X.env.locals ∧ p.1 ∉ X.fs ∧ ∀ v, p.2.data ≠ .cell v := fun p hp => I.pin p (List.mem_append_right _ hp)
  have nt : ∀ b u, H b = some u → b ∉ pS.map (·.1) := fun b u q hb => by
    obtain ⟨p, hp, e⟩ := List.mem_map.mp hb
    rw [← e, (pinS p hp).2.1] at q
    cases q
  obtain ⟨z1, z2, z3, z4, z5⟩ := z
  obtain ⟨hh, g, d, t, o⟩ := s'
  have ho : o = s.os := z1
  subst ho
  have J : Inv X [] σ H { s with heap := hh, gens := g, drawn := d, toks := t } := by
    refine I0.step (g' := g) (t' := t) (d' := d) (ch := pS.map (·.1)) (fun b hb => ?_)
      (fun b ob _ _ hc q _ => z3 b ob hc q) (fun b ob _ _ hc q _ => ⟨ob.slots, z3 b ob hc q⟩) (fun _ _ _ _ n => n) (fun b ob hc q => ⟨ob, z3 b ob hc q⟩)
      (fun _ _ q => q) (fun _ _ _ q => q) (fun b ps q => ⟨#[], by rw [q]; simp⟩) (fun m hm => ?_) (fun b u q => ?_) z2
    · obtain ⟨p, hp, e⟩ := List.mem_map.mp hb
      obtain ⟨y1, y2, y3⟩ := h0 p hp
      subst e
      refine ⟨.inr y1, (pinS p hp).2.2.1, y2, fun q hq => ?_⟩
      rcases List.mem_append.mp hq with hq | hq
      · exact y3 q hq
      · simp at hq
    · obtain ⟨ob, es, ep, ho, r⟩ := hm
      refine ⟨ob, es, ep, z3 _ ob (fun hb => ?_) ho, r⟩
      obtain ⟨p, hp, e⟩ := List.mem_map.mp hb
      exact (pinS p hp).2.2.1 e
    · refine (I0.hok b u q).stay (fun c v hc y => z3 c v ?_ y) (fun _ y => y) fun _ _ y => y
      rcases hc with y | y
      · rw [y]; exact nt b u q
      · exact nt c _ y
  refine J.pins_of fun p hp => ?_
  have hm : p.1 ∈ pS.map (·.1) := by rw [← z4]; exact List.mem_map.mpr ⟨p, hp, rfl⟩
  obtain ⟨q, hq, e⟩ := List.mem_map.mp hm
  obtain ⟨y1, y2, y3, y4, y5⟩ := pinS q hq
  rw [e] at y2 y3 y4
  exact ⟨(z5 p hp).1, y2, y3, y4, (z5 p hp).2⟩
end

/-- the frame's around -/
theorem over_gx {A : Around} {elt tg iter : Expr} {ifs : List Expr} {scope : Scope} {pos : Pos} {it acc : Value} {env : Env} : A.over (.compLoop (.GeneratorExp elt [⟨tg, iter, ifs, 0⟩] scope pos) 0 it acc env) [] = A.deeper env := by
  first
    | rfl
    | (obtain ⟨hd, d, fr, gs, u⟩ := A; simp [Around.over, Around.deeper, marksOver, frameCount, unitsOf, envsOf, guardsOf, pushEnvs, pushGuards, Code.envs, Code.env?, Code.isFrame, Code.guards, Code.isGuard, Code.weight, Code.frames, Code.isCreation, Code.isCaller, Code.cUnits])
theorem over_gs {A : Around} {elt tg iter : Expr} {ifs : List Expr} {scope : Scope} {pos : Pos} {it acc : Value} {env : Env} : A.over (.compStart (.GeneratorExp elt [⟨tg, iter, ifs, 0⟩] scope pos) 0 it acc env) [] = A.deeper env := by
  first
    | rfl
    | (obtain ⟨hd, d, fr, gs, u⟩ := A; simp [Around.over, Around.deeper, marksOver, frameCount, unitsOf, envsOf, guardsOf, pushEnvs, pushGuards, Code.envs, Code.env?, Code.isFrame, Code.guards, Code.isGuard, Code.weight, Code.frames, Code.isCreation, Code.isCaller, Code.cUnits])
end GX
namespace GX
open PySem PySem.Spec PyProof.Rows L2 GenW GxR

/-- what the consumer sees: T its own state, Held how it lies in its objects, W the turns (the turn, what is left), YO what an item gives, FO what the end gives -/
structure Plan where
  T : Type
  Held : T → List (Addr × Obj) → Prop
  W : Nat → Nat → T → Hp → Prop
  YO : Nat → Nat → T → V → Hp → Prop
  FO : T → Hp → Prop
/-- an item is handed out -/
def gxY (X : Cx) (σw : L2.St) (D : Plan) : Protocol := fun n s₀ v s kap =>
  ∃ (i m : Nat) (t : D.T) (pS : List (Addr × Obj)) (x : V) (H : Hp), m ≤ n + 1 ∧ RelV x v ∧ D.Held t pS ∧ Inv X pS σw H s ∧ D.YO i m t x H ∧
    ∀ (m' : Nat) (t' : D.T) (pS' : List (Addr × Obj)) (s' : Shared), m' < m → D.W (i + 1) m' t' H → D.Held t' pS' → Slp pS pS' s s' → kap (.send .none) s'
/-- the end -/
def gxF (X : Cx) (σw : L2.St) (D : Plan) (s : Shared) : Prop := ∃ (t : D.T) (pS : List (Addr × Obj)) (H : Hp), D.FO t H ∧ D.Held t pS ∧ Inv X pS σw H s
def gxR (X : Cx) (σw : L2.St) (D : Plan) : GenEnd := fun _ _ r s => ((r = .ok (.ret .none) ∨ r = .ok .next) ∧ gxF X σw D s) ∨ ∃ e, r = .error e ∧ False
section
variable {X : Cx} {A : Around} {cenv : Env} {σ : L2.St} {vs : List Nat} {D : Plan} {elt tg iter : Expr} {scope : Scope} {pos : Pos} {it : Addr} {fp : List Addr} {tn : Nat → Heap → Prop} {J : It} {g : TG} {te : TE}
/-- X: the frame's context -/
theorem seg_gx (hA : X.A = A.deeper cenv) (he0 : X.env = cenv) (hxe : X.xe = fun _ _ => False) (hc : X.calm = true) (hco : cenv.scope.isCoroutine = false) (hfp : ∀ b ∈ fp, b ∈ X.ex ∧ b < X.s_0.heap.objs.size)
    (hpn : ∀ p ∈ X.pn, X.s_0.heap.objs.size ≤ p.1) (hcl : ∀ x c, X.env.cells.lookup x = some c → c < X.s_0.heap.objs.size) (hH : ∀ t pS, D.Held t pS → ∀ p ∈ pS, X.s_0.heap.objs.size ≤ p.1 ∧ ∀ q ∈ X.pn, q.1 ≠ p.1)
    (T : Turn X.prog X.w X.K tg J fp it tn) (hg : PG X tg g) (he : PE X elt te)
    (turn : ∀ i m t H, D.W i m t H → (J.stop i H ∧ D.FO t H) ∨ (J.go i H ∧ 0 < m ∧ ∀ x H', J.yld i H x H' → g x (wipe σ vs) H' fun σ2 H2 => wipe σ2 vs = wipe σ vs ∧ te σ2 H2 fun y H3 => D.YO i m t y H3)) :
    ∀ (n i m : Nat) (t : D.T) (pS : List (Addr × Obj)) (s₀ s : Shared) (H : Hp), D.W i m t H → m ≤ n → D.Held t pS → Inv X pS (wipe σ vs) H s → tn i s.heap → (∀ b ∈ fp, H b = none) →
      Seg (model X.prog X.w) A (gxR X (wipe σ vs) D) (gxY X (wipe σ vs) D) n s₀ (.compLoop (.GeneratorExp elt [⟨tg, iter, [], 0⟩] scope pos) 0 (.ref it) .none cenv)
        ((model X.prog X.w).den (.compLoop (.GeneratorExp elt [⟨tg, iter, [], 0⟩] scope pos) 0 (.ref it) .none cenv)) [] s := by
  subst he0
  have ov : A.over (.compLoop (.GeneratorExp elt [⟨tg, iter, [], 0⟩] scope pos) 0 (.ref it) .none X.env) [] = X.A := over_gx.trans hA.symm
  have fpok : ∀ {pS : List (Addr × Obj)} {t : D.T} {H : Hp} {s : Shared} {τ : L2.St}, D.Held t pS → Inv X pS τ H s → (∀ b ∈ fp, H b = none) → ∀ b ∈ fp, FpOk X pS H b := fun {pS t H s τ} hh I hn b hb =>
    ⟨hn b hb, (I.ok.exf b (hfp b hb).1).1, I.ok.exfs b (hfp b hb).1, .inl (hfp b hb).1, (I.ok.exf b (hfp b hb).1).2, fun p hp => by
      have hl : X.s_0.heap.objs.size ≤ p.1 := by
        rcases List.mem_append.mp hp with hp | hp
        · exact hpn p hp
        · exact (hH t pS hh p hp).1
      exact Nat.ne_of_gt (Nat.lt_of_lt_of_le (hfp b hb).2 hl)⟩
  intro n
  induction n with
  | zero =>
    intro i m t pS s₀ s H w hm hh I st hn
    rcases turn i m t H w with ⟨stop, fo⟩ | ⟨_, h0, _⟩
    · show Seg _ A _ _ _ s₀ _ ((compTurn (.GeneratorExp elt [⟨tg, iter, [], 0⟩] scope pos) 0 (.ref it) .none X.env).onRaise (leaving X.env)) [] s
      rw [compTurn_gen, Sem.onRaise_eq_wrap]
      refine seg_bind_wrap (wpAny_standAt ?_)
      refine seg_bind_wrap ?_
      rw [ov]
      refine thnF (T.done X rfl rfl rfl hc i pS s _ H _ I (fpok hh I hn) st stop) fun r s1 ⟨hr, I1⟩ => ?_
      subst hr
      exact seg_end (.ok .next) (.inl ⟨.inr rfl, t, pS, H, fo, hh, I1⟩)
    · omega
  | succ n ih =>
    intro i m t pS s₀ s H w hm hh I st hn
    show Seg _ A _ _ _ s₀ _ ((compTurn (.GeneratorExp elt [⟨tg, iter, [], 0⟩] scope pos) 0 (.ref it) .none X.env).onRaise (leaving X.env)) [] s
    rw [compTurn_gen, Sem.onRaise_eq_wrap]
    refine seg_bind_wrap (wpAny_standAt ?_)
    refine seg_bind_wrap ?_
    rw [ov]
    rcases turn i m t H w with ⟨stop, fo⟩ | ⟨go, h0, step⟩
    · refine thnF (T.done X rfl rfl rfl hc i pS s _ H _ I (fpok hh I hn) st stop) fun r s1 ⟨hr, I1⟩ => ?_
      subst hr
      exact seg_end (.ok .next) (.inl ⟨.inr rfl, t, pS, H, fo, hh, I1⟩)
    · refine thnF (T.item X rfl rfl rfl hc i pS s _ H _ I (fpok hh I hn) st go) fun r s1 ⟨u, hr, h1⟩ => ?_
      subst hr
      show Seg _ A _ _ _ s₀ _ ((letOwnedTupleGo tg (.ref it) u >>= fun _ => _).wrap _ _ _ _) [] s1
      refine seg_bind_wrap ?_
      rw [ov]
      refine thnF h1 fun _ s2 ⟨x, H2, I2, r2, y2, st2, n2⟩ => ?_
      have I2' := I2.pinned (fpok hh I2 n2) (T.obj _ _ st2)
      refine seg_bind_wrap ?_
      rw [ov]
      have pg := hg.run _ s2 _ H2 x u _ I2' r2 (step x H2 y2)
      rw [hxe] at pg
      refine thnF pg fun _ s3 ⟨σ3, H3, I3, hw3, q3⟩ => ?_
      refine seg_bind_wrap ?_
      rw [List.forIn_nil]
      refine wpAny_pure ?_
      simp only [if_true]
      have hy : ∀ v, yieldOut X.env v = yieldValue v := fun v => by simp only [yieldOut, hco, Bool.false_eq_true, if_false]
      simp only [hy]
      rw [Sem.bind_eq_wrap', Sem.bind_eq_wrap', Sem.wrap_wrap, Sem.wrap_wrap]
      refine seg_wrap ?_
      rw [ov]
      have pe := he.run _ s3 σ3 H3 _ I3 q3
      rw [hxe] at pe
      refine thnF pe fun yv s4 ⟨yy, H4, I4, r4, yo⟩ => ?_
      have pin4 : ∀ b ∈ fp, ∀ o, s2.heap.get? b = some o → s4.heap.get? b = some o ∧ H4 b = none := fun b hb o e =>
        let z := I4.pin (b, o) (List.mem_append_right _ (List.mem_append_right _ (mem_pinsAt hb e)))
        ⟨z.1, z.2.1⟩
      have hl : (wipe σ vs).length = σ3.length := by rw [← hw3, wipe_length]
      have I5 : Inv X pS (wipe σ vs) H4 s4 := (I4.unpinned).weak hl fun j v e => by
        rw [← hw3] at e
        exact (wipe_some e).1
      have st4 : tn (i + 1) s4.heap := T.keep _ _ _ st2 fun b hb o e => (pin4 b hb o e).1
      have n4 : ∀ b ∈ fp, H4 b = none := fun b hb => by
        obtain ⟨o, e, _⟩ := T.obj _ _ st2 b hb
        exact (pin4 b hb o e).2
      refine seg_at (seg_yield rfl rfl rfl ⟨i, m, t, pS, yy, H4, hm, r4, hh, I5, yo, fun m' t' pS' s' hm' w' hh' z => ?_⟩)
      refine seg_again rfl (ih (i + 1) m' t' pS' s' s' H4 w' (by omega) hh' ?_ ?_ n4)
      · exact slp_inv I5 z fun p hp => ⟨(hH t pS hh p hp).1, fun x c e => Nat.ne_of_lt (Nat.lt_of_lt_of_le (hcl x c e) (hH t pS hh p hp).1), (hH t pS hh p hp).2⟩
      · refine T.keep _ _ _ st4 fun b hb o e => z.keep b o (fun hm => ?_) e
        obtain ⟨p, hp, ep⟩ := List.mem_map.mp hm
        have h1 := (hH t pS hh p hp).1
        rw [ep] at h1
        exact absurd (Nat.lt_of_lt_of_le (hfp b hb).2 h1) (Nat.lt_irrefl _)
/-- from its beginning -/
theorem seg_gxs (hA : X.A = A.deeper cenv) (he0 : X.env = cenv) (hxe : X.xe = fun _ _ => False) (hc : X.calm = true) (hco : cenv.scope.isCoroutine = false) (hfp : ∀ b ∈ fp, b ∈ X.ex ∧ b < X.s_0.heap.objs.size)
    (hpn : ∀ p ∈ X.pn, X.s_0.heap.objs.size ≤ p.1) (hcl : ∀ x c, X.env.cells.lookup x = some c → c < X.s_0.heap.objs.size) (hH : ∀ t pS, D.Held t pS → ∀ p ∈ pS, X.s_0.heap.objs.size ≤ p.1 ∧ ∀ q ∈ X.pn, q.1 ≠ p.1)
    (T : Turn X.prog X.w X.K tg J fp it tn) (hg : PG X tg g) (he : PE X elt te)
    (turn : ∀ i m t H, D.W i m t H → (J.stop i H ∧ D.FO t H) ∨ (J.go i H ∧ 0 < m ∧ ∀ x H', J.yld i H x H' → g x (wipe σ vs) H' fun σ2 H2 => wipe σ2 vs = wipe σ vs ∧ te σ2 H2 fun y H3 => D.YO i m t y H3))
    (n : Nat) (t : D.T) (pS : List (Addr × Obj)) (s₀ s : Shared) (H : Hp) (w : D.W 0 n t H) (hh : D.Held t pS) (I : Inv X pS (wipe σ vs) H s) (st : tn 0 s.heap) (hn : ∀ b ∈ fp, H b = none) :
      Seg (model X.prog X.w) A (gxR X (wipe σ vs) D) (gxY X (wipe σ vs) D) n s₀ (.compStart (.GeneratorExp elt [⟨tg, iter, [], 0⟩] scope pos) 0 (.ref it) .none cenv)
        ((model X.prog X.w).den (.compStart (.GeneratorExp elt [⟨tg, iter, [], 0⟩] scope pos) 0 (.ref it) .none cenv)) [] s := by
  have loop := seg_gx (iter := iter) (scope := scope) (pos := pos) hA he0 hxe hc hco hfp hpn hcl hH T hg he turn n 0 n t pS s₀ s H w (Nat.le_refl _) hh I st hn
  show Seg _ A _ _ _ s₀ _ ((compStart (.GeneratorExp elt [⟨tg, iter, [], 0⟩] scope pos) 0 (.ref it) .none cenv).onRaise (leaving cenv)) [] s
  unfold compStart
  rw [Sem.onRaise_eq_wrap]
  show Seg _ A _ _ _ s₀ _ ((ask >>= _).wrap _ _ _ _) [] s
  refine seg_bind_wrap (wpAny_askSetting ?_)
  split
  · exact seg_again rfl loop
  · first
      | exact seg_bind_wrap (wpAny_rule (seg_bind_wrap (wpAny_standAt (seg_bind_wrap (T.self _ 0 s _ _ st (seg_again rfl loop))))))
      | (refine seg_bind_wrap (wpAny_rule ?_); show Seg _ A _ _ _ s₀ _ ((standAt iter.pos >>= _).wrap _ _ _ _) [] s; exact seg_bind_wrap (wpAny_standAt (seg_bind_wrap (T.self _ 0 s _ _ st (seg_again rfl loop)))))
end
end GX
namespace GX
open PySem PySem.Spec PyProof.Rows L2 GenW GxR

/-- the scope of a generator expression, by a look -/
def genB (sc : Scope) : Bool := (match sc.kind with | .function => true | _ => false) && !sc.isCoroutine && (sc.names.all fun y => match y.2 with | .cell => false | _ => true) && (match sc.names.lookup (".0" : Str) with | some .local => true | _ => false)
structure GenOk (sc : Scope) : Prop where
  kind : sc.kind = .function
  co : sc.isCoroutine = false
  cell : ∀ y ∈ sc.names, y.2 ≠ .cell
  dot : sc.names.lookup (".0" : Str) = some NameKind.local
theorem genOk_by {sc : Scope} (h : genB sc = true) : GenOk sc := by
  unfold genB at h
  simp only [Bool.and_eq_true] at h
  obtain ⟨⟨⟨h1, h2⟩, h3⟩, h4⟩ := h
  refine ⟨?_, by simpa using h2, fun y hy e => ?_, ?_⟩
  · split at h1
    · assumption
    · cases h1
  · have q := List.all_eq_true.mp h3 y hy
    rw [e] at q
    cases q
  · split at h4
    · assumption
    · cases h4

section
variable {X : Cx} {pins : List (Addr × Obj)} {σ : L2.St} {H : Hp} {s : Shared} {scope : Scope} {own : List (Str × Nat)} {elt tg iter : Expr} {pos : Pos}
/-- a generator that has not begun, at a -/
structure GxM (X : Cx) (pins : List (Addr × Obj)) (σ : L2.St) (scope : Scope) (elt tg iter : Expr) (pos : Pos) (J : It) (H1 : Hp) (a : Addr) (s5 : Shared) : Prop where
  ex : ∃ (it : Addr) (fp : List Addr) (tn : Nat → Heap → Prop) (sc : Shared) (code : Value) (g : Nat) (go : Obj),
    Inv X pins σ H1 sc ∧ Turn X.prog X.w X.K tg J fp it tn ∧ tn 0 s5.heap ∧ (∀ b ∈ fp, FpOk X pins H1 b ∧ b < sc.heap.objs.size) ∧ sc.heap.objs.size < a ∧ s5.heap.objs.size = a + 1 ∧ (∀ b o, sc.heap.get? b = some o → s5.heap.get? b = some o) ∧
    s5.heap.get? a = some go ∧ (∀ h : Heap, h.get? a = some go → h.IsGen a g) ∧ (∀ v, go.data ≠ .cell v) ∧ s5.gens[g]? = some (.fresh (.compStart (.GeneratorExp elt [⟨tg, iter, [], 0⟩] scope pos) 0 (.ref it) .none (genv X sc scope code))) ∧
    s5.os = sc.os ∧ AllBare s5.gens ∧ ∃ m, s5.heap.Ns sc.heap.objs.size m
theorem gx_eval {c P : Addr} {k : Nat} {wi : TI} {RR : It → Hp → Prop} {Q' : Value → Shared → Prop} (hr : Room k X.A) (TB : TabB X.base X.mg c P) (hcode : X.env.code = .ref c) (S : GenOk scope) (ok : BlkOk X.N X.env.scope scope own)
    (hi : PI X tg iter wi) (hs : ∀ v, genFold iter X.env v = pure v) (I : Inv X pins σ H s) (h : wi σ H fun J H1 => TabG H1 P ∧ ∀ H2, Tabbed P H1 H2 → RR J H2)
    (hQ : ∀ J H2 a s5, RR J H2 → GxM X pins σ scope elt tg iter pos J H2 a s5 → Q' (.ref a) s5) :
    wpAny (model X.prog X.w) X.A (eval (.GeneratorExp elt [⟨tg, iter, [], 0⟩] scope pos) X.env) Q' X.xe s := by
  have hfree : ∀ y ∈ scope.names, y.2 = .free → ∃ c, X.env.cells.lookup y.1 = some c := fun y hy e => by
    rcases ok.free y hy e with k | k
    · exact I.ok.has _ (.inl k)
    · exact I.ok.has _ (.inr k)
  refine wpAny_GeneratorExp_make S.co (closure_ok hfree) S.cell S.dot S.kind hr.depth ?_ hs
  refine thn (hi.run pins s σ H _ I h) fun xv s1 hx => thn hx fun itv s2 h2 => ?_
  obtain ⟨it, fp, tn, J, H1, e, I1, T, st2, f2, ⟨ps, hP, ht⟩, q⟩ := h2
  subst e
  refine ⟨I1.nolimit, ?_⟩
  have hPs : s2.heap.get? P = some { cls := .none, data := .fields ps } := I1.hok P _ hP
  have cd : PySem.W.CodeHd s2.heap c P := TB.code.keeps I1.bk
  have sz : ∀ b ∈ fp, b < s2.heap.objs.size := fun b hb => by
    obtain ⟨o, e, _⟩ := T.obj _ _ st2 b hb
    exact Heap.lt_size e
  have nP : ∀ b ∈ fp, b ≠ P := fun b hb z => by
    have q := (f2 b hb).1
    rw [z, hP] at q
    cases q
  have cont : ∀ (code : Value) (h3 : Heap) (tk : Nat) (ps' : Array Value), Heap.ExtBut P s2.heap h3 → s2.heap.objs.size ≤ h3.objs.size → h3.get? P = some { cls := .none, data := .fields ps' } → (∃ more, ps' = ps ++ more) → TriplesOk ps'.toList →
      wpAny (model X.prog X.w) X.A (builtinsFor X.env.globals X.env.builtins) (fun bi s₄ =>
        ∀ h', h'.Ns s₄.heap.objs.size (fun y => if y = ".0" then some (.ref it) else none) → Heap.SameBut s₄.heap.objs.size (s₄.heap.push { cls := .type "frame", data := .dict #[] }) h' →
          Q' (.ref h'.objs.size) { s₄ with
            gens := s₄.gens.push (.fresh (.compStart (.GeneratorExp elt [⟨tg, iter, [], 0⟩] scope pos) 0 (.ref it) .none (genEnv scope (cloFrom X.env.cells scope.names []) s₄.heap.objs.size code bi X.env))),
            toks := s₄.toks + 1 + 1 + 1,
            heap := h'.push { cls := .type "generator", data := .fields #[.int s₄.gens.size 0, .str "<genexpr>" (s₄.toks + 1), .str (X.env.qual ++ "<genexpr>") (s₄.toks + 1 + 1)] } }) X.xe { s2 with heap := h3, toks := tk } := by
    intro code h3 tk ps' hx hsz hP3 hmore ht3
    obtain ⟨bm, ob, e1, e2, e3, e4, e5, e6, e7, e8⟩ := TB.bm
    have keep3 : ∀ b u, b ≠ P → s2.heap.get? b = some u → h3.get? b = some u := fun b u hb e => hx b u hb e
    refine wpAny_builtinsFor (m := X.mg) (by rw [I1.ok.glob]; exact (I1.mod.glob.keeps I1.bk).extBut hx TB.gP) e1 e2 (keep3 _ _ e4 (I1.bk _ _ e5)) e6 e7 e8 ?_
    intro h' hn' hs'
    obtain ⟨more, em⟩ := hmore
    have J3 := inv_tab (more := more) (h' := h3) (g' := s2.gens) (d' := s2.drawn) (t' := tk) I1 hP (fun b u hb e => keep3 b u hb e) (by rw [← em]; exact hP3) I1.bare
    have hsz' : h'.objs.size = h3.objs.size + 1 := by rw [hs'.1, Heap.size_push]
    have keep' : ∀ b o, h3.get? b = some o → h'.get? b = some o := fun b o e => hs'.extBut b o (Nat.ne_of_lt (Heap.lt_size e)) (Heap.get?_push_of_some _ e)
    refine hQ J _ _ _ (q (upd H1 P (.tbl (ps ++ more))) ⟨⟨ps ++ more, upd_same, by rw [← em]; exact ht3⟩, fun b hb => upd_ne hb⟩) ⟨it, fp, tn, { s2 with heap := h3, toks := tk }, code, s2.gens.size, _, J3, T, ?_, fun b hb => ⟨⟨?_, (f2 b hb).2⟩, Nat.lt_of_lt_of_le (sz b hb) hsz⟩, ?_, ?_, ?_, Heap.get?_push_size _ rfl, ?_, ?_, Array.getElem?_push_size .., rfl, ?_, ?_⟩
    · exact T.keep _ _ _ st2 fun b hb o e => Heap.get?_push_of_some _ (keep' b o (keep3 b o (nP b hb) e))
    · rw [upd_ne (nP b hb)]
      exact (f2 b hb).1
    · show h3.objs.size < h'.objs.size
      omega
    · show (h'.push _).objs.size = _
      rw [Heap.size_push]
    · exact fun b o e => Heap.get?_push_of_some _ (keep' b o e)
    · exact fun h e => ⟨_, _, _, e, rfl, rfl, rfl⟩
    · exact fun v q => by cases q
    · exact AllBare.push I1.bare rfl
    · exact ⟨_, hn'.push _⟩
  cases hf : codeAmong pos ps.toList with
  | none =>
    refine wpAny_genexprCodeX hcode (cd.code hPs ht) (cd.tab hPs) hf fun c' h' tk hx hge hlt hco' _ htab' _ => ?_
    obtain ⟨o1, vs, f1, tf, fl, tg, inF, tx, tt, op, _, _, _, _, _, _, _, _, _, htr, _⟩ := hco'
    exact cont _ h' tk _ hx (Nat.le_trans hge (Nat.le_of_lt hlt)) htab'.2 ⟨_, rfl⟩ htr
  | some cv =>
    refine wpAny_genexprCode_hit hcode (cd.code hPs ht) hf ?_
    exact cont cv s2.heap s2.toks ps (Heap.ExtBut.refl _ _) (Nat.le_refl _) hPs ⟨#[], by simp⟩ ht
end

/-! ### one turn, seen by the consumer -/
/-- the generator at a, its state g, sleeps: it may be woken when the consumer's objects are pS' .. -/
def Goes (P : Program) (w : World) (A : Around) (Y : Protocol) (R : GenEnd) (a : Addr) (g : Nat) (n : Nat) (s : Shared) : Prop :=
  s.heap.IsGen a g ∧ s.heap.NoLimit ∧ AllBare s.gens ∧ ∃ gs, s.gens[g]? = some gs ∧ gs.Goes (model P w) A.in1 R Y n (.send .none) (s.setGen g .running)
section
variable {X : Cx} {σw : L2.St} {D : Plan} {A : Around} {a : Addr} {g n : Nat} {s : Shared} {Q : Option Value → Shared → Prop} {E : Value → Shared → Prop} {go : Obj}
theorem gx_next (hh : A.handled = none) (hd : A.depth < recursionLimit) (h : Goes X.prog X.w A (gxY X σw D) (gxR X σw D) a g n s) (hpn : (a, go) ∈ X.pn) (hg : ∀ h : Heap, h.get? a = some go → h.IsGen a g)
    (hY : ∀ (v : Value) (s1 s2 : Shared) (i m : Nat) (t : D.T) (pS : List (Addr × Obj)) (x : V) (H : Hp), s2.heap = s1.heap → s2.os = s1.os → AllBare s2.gens → RelV x v → D.Held t pS → Inv X pS σw H s1 → D.YO i m t x H →
      (∀ (m' : Nat) (t' : D.T) (pS' : List (Addr × Obj)) (s' : Shared), m' < m → D.W (i + 1) m' t' H → D.Held t' pS' → s'.gens = s2.gens → s'.os = s1.os → (∀ b o, b ∉ pS.map (·.1) → s1.heap.get? b = some o → s'.heap.get? b = some o) → pS'.map (·.1) = pS.map (·.1) → (∀ p ∈ pS', s'.heap.get? p.1 = some p.2 ∧ ∀ v, p.2.data ≠ .cell v) →
        (∀ p ∈ pS, p.1 ≠ a ∧ p.1 ≠ cStatics) → ∃ k, k < n ∧ Goes X.prog X.w A (gxY X σw D) (gxR X σw D) a g k s') → Q (some v) s2)
    (hP : ∀ (s1 s2 : Shared) (t : D.T) (pS : List (Addr × Obj)) (H : Hp), D.FO t H → D.Held t pS → Inv X pS σw H s1 → (∀ b o, s1.heap.get? b = some o → s2.heap.get? b = some o) → s2.os = s1.os → AllBare s2.gens → Q none s2) :
    wpAny (model X.prog X.w) A (pyNext (.ref a)) Q E s := by
  obtain ⟨hgen, hl, hb, gs, hgs, hgo⟩ := h
  have hgl : g < s.gens.size := (Array.getElem?_eq_some_iff.mp hgs).1
  have pinned : ∀ {pS : List (Addr × Obj)} {H : Hp} {s1 : Shared}, Inv X pS σw H s1 → s1.heap.get? a = some go := fun {pS H s1} I => (I.pin (a, go) (List.mem_append_left _ hpn)).1
  have hgo' : gs.Goes (model X.prog X.w) A.in1 (fun _ _ r s₁ => ((r = .ok (.ret .none) ∨ r = .ok .next) ∧ gxF X σw D s₁) ∨ ∃ e, r = .error e ∧ False) (gxY X σw D) n (.send .none) (s.setGen g .running) := hgo
  refine wpAny_gsz (n := g + 1) hgl (next_genG (F := fun _ _ s₁ => gxF X σw D s₁) (Er := fun _ _ => False) (A := A) hh hl hd hgen hgs hgo' (fun v s₁ gs' hbare hv => ?_) (fun s₁ hp h' hk => ?_) fun e s₁ he => he.elim)
  · intro hsz
    obtain ⟨i, m, t, pS, x, H, hm, rv, hh', I, yo, wake⟩ := hv
    have hsz1 : g < s₁.gens.size := by
      have q : (s₁.setGen g gs').gens.size = s₁.gens.size := setGen_size _ _ _
      have hsz' : g + 1 ≤ (s₁.setGen g gs').gens.size := hsz
      omega
    refine hY v s₁ _ i m t pS x H rfl rfl (allBare_setGen I.bare hbare) rv hh' I yo fun m' t' pS' s' hm' w' hH' e1 e2 e3 e4 e5 e6 => ?_
    have na : a ∉ pS.map (·.1) := fun hm => by
      obtain ⟨p, hp, ep⟩ := List.mem_map.mp hm
      exact (e6 p hp).1 ep
    have nc : cStatics ∉ pS.map (·.1) := fun hm => by
      obtain ⟨p, hp, ep⟩ := List.mem_map.mp hm
      exact (e6 p hp).2 ep
    have hb' : AllBare s'.gens := by rw [e1]; exact allBare_setGen I.bare hbare
    have z := wake m' t' pS' (s'.setGen g .running) hm' w' hH' ⟨e2, allBare_setGen hb' rfl, e3, e4, e5⟩
    cases n with
    | zero => exact z.elim
    | succ k =>
      refine ⟨k, Nat.lt_succ_self _, hg _ (e3 a go na (pinned I)), ?_, hb', gs', ?_, z⟩
      · obtain ⟨mc, hns, hnn⟩ := I.nolimit
        exact ⟨mc, hns.at' fun o e => e3 _ o nc e, hnn⟩
      · rw [e1]
        exact setGen_at hsz1
  · intro hsz
    obtain ⟨t, pS, H, fo, hh', I⟩ := hp
    exact hP s₁ _ t pS H fo hh' I hk rfl (allBare_setGen I.bare rfl)
end
end GX
namespace GX
open PySem PySem.Spec PyProof.Rows L2 GenW GxR

/-! ### all(..), any(..): they stop at the first item that is not c -/
def planA (c : Bool) (W : Nat → Nat → Hp → Prop) (Q : VK) : Plan where
  T := Unit
  Held := fun _ pS => pS = []
  W := fun i m _ H => W i m H
  YO := fun i m _ y H => ∃ b, y = .bl b ∧ if b = c then ∃ m', m' < m ∧ W (i + 1) m' H else Q (.bl b) H
  FO := fun _ H => Q (.bl c) H
section
variable {X : Cx} {σw : L2.St} {W : Nat → Nat → Hp → Prop} {Q : VK} {A : Around} {a : Addr} {g : Nat} {go : Obj} {Rr : Result → Shared → Prop}
theorem all_loop (hh : A.handled = none) (hd : A.depth < recursionLimit) (hpn : (a, go) ∈ X.pn) (hg : ∀ h : Heap, h.get? a = some go → h.IsGen a g)
    (hR : ∀ b s1 s2 H, Inv X [] σw H s1 → (∀ b o, s1.heap.get? b = some o → s2.heap.get? b = some o) → s2.os = s1.os → AllBare s2.gens → Q (.bl b) H → Rr (.ok (.ret (.bool b))) s2) :
    ∀ (n : Nat) (s : Shared), Goes X.prog X.w A.in1 (gxY X σw (planA true W Q)) (gxR X σw (planA true W Q)) a g n s → codeAny (model X.prog X.w) A (.builtin "all.loop" ⟨[.ref a], []⟩) Rr s := by
  intro n
  induction n using Nat.strongRecOn with
  | ind n ih =>
    intro s hs
    refine codeAny_builtin F.entry_all_loop ?_
    rw [Around.under_plainId F.plain_all_loop _]
    show wpAny _ A.in1 (pyNext (.ref a) >>= _) _ _ s
    refine wpAny_bind (gx_next (A := A.in1) hh hd hs hpn hg (fun v s1 s2 i m t pS x H e1 e2 e3 rv hh' I yo wake => ?_) fun s1 s2 t pS H fo hh' I k1 k2 k3 => ?_)
    · obtain ⟨b, rfl, yo⟩ := yo
      obtain rfl : v = .bool b := rv
      have hp : pS = [] := hh'
      subst hp
      refine wpAny_bind (wpAny_holding (wpAny_truthy_bool ?_))
      refine wpAny_bind (wpAny_letGo ?_)
      cases b with
      | true =>
        obtain ⟨m', hm, w'⟩ : ∃ m', m' < m ∧ W (i + 1) m' H := by simpa using yo
        simp only [if_true]
        obtain ⟨k, hk, hgo⟩ := wake m' () [] s2 hm w' rfl rfl e2 (fun b o _ e => by rw [e1]; exact e) rfl (fun p hp => by simp at hp) (fun p hp => by simp at hp)
        exact wpAny_pure ⟨plainId_quiet F.plain_all_loop _, ih k hk s2 hgo⟩
      | false =>
        have yo : Q (.bl false) H := by simpa using yo
        simp only [Bool.false_eq_true, if_false]
        refine wpAny_bind (wpAny_rule (wpAny_pure ?_))
        exact hR false s1 s2 H I (fun b o e => by rw [e1]; exact e) e2 e3 yo
    · have hp : pS = [] := hh'
      subst hp
      refine wpAny_bind (wpAny_rule (wpAny_pure ?_))
      exact hR true s1 s2 H I k1 k2 k3 fo
theorem any_loop (hh : A.handled = none) (hd : A.depth < recursionLimit) (hpn : (a, go) ∈ X.pn) (hg : ∀ h : Heap, h.get? a = some go → h.IsGen a g)
    (hR : ∀ b s1 s2 H, Inv X [] σw H s1 → (∀ b o, s1.heap.get? b = some o → s2.heap.get? b = some o) → s2.os = s1.os → AllBare s2.gens → Q (.bl b) H → Rr (.ok (.ret (.bool b))) s2) :
    ∀ (n : Nat) (s : Shared), Goes X.prog X.w A.in1 (gxY X σw (planA false W Q)) (gxR X σw (planA false W Q)) a g n s → codeAny (model X.prog X.w) A (.builtin "any.loop" ⟨[.ref a], []⟩) Rr s := by
  intro n
  induction n using Nat.strongRecOn with
  | ind n ih =>
    intro s hs
    refine codeAny_builtin F.entry_any_loop ?_
    rw [Around.under_plainId F.plain_any_loop _]
    show wpAny _ A.in1 (pyNext (.ref a) >>= _) _ _ s
    refine wpAny_bind (gx_next (A := A.in1) hh hd hs hpn hg (fun v s1 s2 i m t pS x H e1 e2 e3 rv hh' I yo wake => ?_) fun s1 s2 t pS H fo hh' I k1 k2 k3 => ?_)
    · obtain ⟨b, rfl, yo⟩ := yo
      obtain rfl : v = .bool b := rv
      have hp : pS = [] := hh'
      subst hp
      refine wpAny_bind (wpAny_holding (wpAny_truthy_bool ?_))
      refine wpAny_bind (wpAny_letGo ?_)
      cases b with
      | false =>
        obtain ⟨m', hm, w'⟩ : ∃ m', m' < m ∧ W (i + 1) m' H := by simpa using yo
        simp only [Bool.false_eq_true, if_false]
        obtain ⟨k, hk, hgo⟩ := wake m' () [] s2 hm w' rfl rfl e2 (fun b o _ e => by rw [e1]; exact e) rfl (fun p hp => by simp at hp) (fun p hp => by simp at hp)
        exact wpAny_pure ⟨plainId_quiet F.plain_any_loop _, ih k hk s2 hgo⟩
      | true =>
        have yo : Q (.bl true) H := by simpa using yo
        simp only [if_true]
        refine wpAny_bind (wpAny_rule (wpAny_pure ?_))
        exact hR true s1 s2 H I (fun b o e => by rw [e1]; exact e) e2 e3 yo
    · have hp : pS = [] := hh'
      subst hp
      refine wpAny_bind (wpAny_rule (wpAny_pure ?_))
      exact hR false s1 s2 H I k1 k2 k3 fo
end

/-! ### tuple(..): the items go into the list at S -/
def planT (S : Addr) (W : Nat → Nat → List V → Hp → Prop) (FO : List V → Hp → Prop) : Plan where
  T := List V
  Held := fun t pS => ∃ acc c, pS = [(S, lstObj acc c)] ∧ Vals t acc.toList
  W := W
  YO := fun i m t y H => t.length < sizeLine ∧ ∃ m', m' < m ∧ W (i + 1) m' (t ++ [y]) H
  FO := FO
section
variable {X : Cx} {σw : L2.St} {W : Nat → Nat → List V → Hp → Prop} {FO : List V → Hp → Prop} {A : Around} {a S : Addr} {g : Nat} {go : Obj} {Rr : Result → Shared → Prop} {res : Value}
theorem tup_loop (hh : A.handled = none) (hd : A.depth < recursionLimit) (hpn : (a, go) ∈ X.pn) (hg : ∀ h : Heap, h.get? a = some go → h.IsGen a g) (hSa : S ≠ a) (hSc : S ≠ cStatics)
    (hR : ∀ (acc : Array Value) (c : Nat) (t : List V) (s1 s2 : Shared) (H : Hp), Inv X [(S, lstObj acc c)] σw H s1 → (∀ b o, s1.heap.get? b = some o → s2.heap.get? b = some o) → s2.os = s1.os → AllBare s2.gens → Vals t acc.toList → FO t H → Rr (.ok (.ret res)) s2) :
    ∀ (n : Nat) (s : Shared), Goes X.prog X.w A.in1 (gxY X σw (planT S W FO)) (gxR X σw (planT S W FO)) a g n s → codeAny (model X.prog X.w) A (.builtin "list.extend.loop" ⟨[.ref S, .ref a, res], []⟩) Rr s := by
  intro n
  induction n using Nat.strongRecOn with
  | ind n ih =>
    intro s hs
    refine codeAny_builtin F.entry_extend_loop ?_
    rw [Around.under_plainId F.plain_extend_loop _]
    show wpAny _ A.in1 (pyNext (.ref a) >>= _) _ _ s
    refine wpAny_bind (gx_next (A := A.in1) hh hd hs hpn hg (fun v s1 s2 i m t pS x H e1 e2 e3 rv hh' I yo wake => ?_) fun s1 s2 t pS H fo hh' I k1 k2 k3 => ?_)
    · obtain ⟨acc, c, rfl, ra⟩ := hh'
      obtain ⟨hlt, m', hm, w'⟩ := yo
      have eS : s1.heap.get? S = some (lstObj acc c) := (I.pin (S, lstObj acc c) (List.mem_append_right _ (List.mem_singleton.mpr rfl))).1
      have eS2 : s2.heap.get? S = some (lstObj acc c) := by rw [e1]; exact eS
      have hsz : acc.size = t.length := by
        have q := ra.length
        have q2 : acc.toList.length = acc.size := by simp
        omega
      show wpAny _ A.in1 (updateSeq S (·.push v) >>= _) _ _ _
      refine wpAny_bind ?_
      refine wpAny_updateSeq eS2 rfl (wpAny_pure ⟨plainId_quiet F.plain_extend_loop _, ?_⟩) (by omega) (by show (acc.push v).size ≤ sizeLine + 1; rw [Array.size_push]; omega)
      obtain ⟨c', eS3⟩ : ∃ c', (s2.heap.update S (Obj.mapSeq (·.push v))).get? S = some (lstObj (acc.push v) c') := ⟨_, Heap.get?_update_self _ eS2 rfl⟩
      obtain ⟨k, hk, hgo⟩ := wake m' (show List V from (show List V from t) ++ [x]) [(S, lstObj (acc.push v) c')] { s2 with heap := s2.heap.update S (Obj.mapSeq (·.push v)) } hm w' ⟨_, c', rfl, by rw [Array.toList_push]; exact ra.append (.cons rv .nil)⟩ rfl e2
        (fun b o hb e => (Heap.get?_update_other _ _ (fun z => hb (by simp [z]))).trans (by show s2.heap.get? b = some o; rw [e1]; exact e)) rfl (fun p hp => by rw [List.mem_singleton.mp hp]; exact ⟨eS3, fun v q => by cases q⟩) (fun p hp => by rw [List.mem_singleton.mp hp]; exact ⟨hSa, hSc⟩)
      exact ih k hk _ hgo
    · obtain ⟨acc, c, rfl, ra⟩ := hh'
      exact wpAny_pure (hR acc c t s1 s2 H I k1 k2 k3 ra fo)
end

section
variable {P : Program} {w : World} {A : Around} {a : Addr} {s : Shared} {Q : List Value → Shared → Prop} {E : Value → Shared → Prop}
/-- collect(g): by the loop at the list's address -/
theorem collect_gx {Rr : Addr → Result → Shared → Prop} {g : Nat} (hgen : s.heap.IsGen a g) (hl : ∀ (S : Addr) (s' : Shared) (c : Nat), S = s.heap.objs.size → (∀ b o, s.heap.get? b = some o → s'.heap.get? b = some o) → s'.heap.get? S = some (lstObj #[] c) → s'.os = s.os → s'.gens = s.gens →
      codeAny (model P w) A (.builtin "list.extend.loop" ⟨[.ref S, .ref a, .ref S], []⟩) (Rr S) s')
    (hR : ∀ S r s', Rr S r s' → r = .ok (.ret (.ref S)) ∧ ∃ acc c, s'.heap.get? S = some (lstObj acc c) ∧ Q acc.toList s') : wpAny (model P w) A (collect (.ref a)) Q E s := by
  have hlt : a < s.heap.objs.size := by
    obtain ⟨o, _, _, ho, _⟩ := hgen
    exact Heap.lt_size ho
  have hSI : s.heap.objs.size ≠ a := Nat.ne_of_gt hlt
  have k1 : ∀ b o, s.heap.get? b = some o → (s.heap.push { cls := .type "list", data := .seq ([] : List Value).toArray }).get? b = some o := fun b o e => Heap.get?_push_of_some _ e
  have up : ∀ (h : Heap) (f : Obj → Obj), (∀ b o, s.heap.get? b = some o → h.get? b = some o) → ∀ b o, s.heap.get? b = some o → (h.update s.heap.objs.size f).get? b = some o := fun h f q b o e =>
    (Heap.get?_update_other _ _ (Ne.symm (Nat.ne_of_lt (Heap.lt_size e)))).trans (q b o e)
  have gty : ∀ {h : Heap}, (∀ b o, s.heap.get? b = some o → h.get? b = some o) → h.IsGen a g := fun {h} q => hgen.keeps q
  unfold collect
  refine wpAny_bind (wpAny_runValue (codeAny_builtin F.entry_proto_collect ?_))
  rw [Around.under_plainId F.plain_proto_collect _]
  show wpAny _ A.in1 (newList [] >>= fun l => again (.builtin "list.__iadd__" ⟨[l, .ref a], []⟩)) _ _ s
  refine wpAny_bind (wpAny_newObj_type ?_)
  refine wpAny_pure ⟨plainId_quiet F.plain_list_iadd _, codeAny_builtin F.entry_list_iadd ?_⟩
  rw [Around.under_plainId F.plain_list_iadd _]
  show wpAny _ A.in1 (Builtin.List.listExtendWith (.ref s.heap.objs.size) (.ref a) (.ref s.heap.objs.size)) _ _ _
  unfold Builtin.List.listExtendWith
  refine wpAny_bind (wpAny_typeOf (Heap.IsGen.typeIs (s := { s with heap := _ }) (gty k1)) ?_)
  have h1 : Builtin.List.listSameRef (.ref s.heap.objs.size) (.ref a) = false := by simp [Builtin.List.listSameRef, hSI]
  have h2 : (Value.type "generator" == Value.type "list") = false := by decide
  have h3 : (Value.type "generator" == Value.type "tuple") = false := by decide
  simp only [h1, h2, h3, Bool.or_false, Bool.false_eq_true, if_false]
  refine wpAny_bind (wpAny_pyIter_gen (s := { s with heap := _ }) (gty k1) ?_)
  refine wpAny_bind (wpAny_holding ?_)
  unfold Builtin.List.listLengthHint
  refine wpAny_bind (wpAny_specialOf (Heap.IsGen.typeIs (s := { s with heap := _ }) (gty k1)) F.gen_no_len ?_)
  show wpAny _ A.in1 (specialOf (Value.ref a) (Str.ofString "__length_hint__") >>= _) _ _ _
  refine wpAny_bind (wpAny_specialOf (Heap.IsGen.typeIs (s := { s with heap := _ }) (gty k1)) F.gen_no_hint ?_)
  refine wpAny_pure ?_
  show wpAny _ A.in1 (rule "list.extend.makes-room" >>= fun _ => Builtin.List.listTouch (.ref s.heap.objs.size) >>= fun _ =>
    again (.builtin "list.extend.loop" ⟨[.ref s.heap.objs.size, .ref a, .ref s.heap.objs.size], []⟩)) _ _ _
  refine wpAny_bind (wpAny_rule ?_)
  have hS₁ : (s.heap.push { cls := .type "list", data := .seq ([] : List Value).toArray }).get? s.heap.objs.size = some { cls := .type "list", data := .seq ([] : List Value).toArray } := Heap.get?_push_size _ rfl
  refine wpAny_bind ?_
  show wpAny _ A.in1 (updateSeq s.heap.objs.size (·.push .none) >>= fun _ => updateSeq s.heap.objs.size (·.pop)) _ _ _
  refine wpAny_bind (wpAny_updateSeq hS₁ rfl ?_)
  have hS₂ := Heap.get?_update_self (Obj.mapSeq (·.push Value.none)) hS₁ rfl
  refine wpAny_updateSeq hS₂ rfl ?_
  have hS₃ := Heap.get?_update_self (Obj.mapSeq (·.pop)) hS₂ rfl
  refine wpAny_pure ⟨plainId_quiet F.plain_extend_loop _, codeAny_mono (hl s.heap.objs.size _ _ rfl (up _ _ (up _ _ k1)) hS₃ rfl rfl) fun r s' hr => ?_⟩
  obtain ⟨rfl, acc, c, e, q⟩ := hR _ r s' hr
  show wpAny _ A (load s.heap.objs.size >>= _) _ _ s'
  exact wpAny_bind (wpAny_load e (wpAny_pure q))
/-- tuple(g) -/
theorem code_tuple_gx {Q₁ : Value → Shared → Prop} {g : Nat} (hgen : s.heap.IsGen a g) (hc : wpAny (model P w) A.in1 (collect (.ref a)) (fun xs s' => xs.length ≤ sizeLine ∧ Q₁ (.ref s'.heap.objs.size) { s' with heap := s'.heap.push { cls := .type "tuple", data := .seq xs.toArray } }) (fun _ _ => False) s) :
    codeAny (model P w) A (.call (.builtin "tuple.__new__") ⟨[.type "tuple", .ref a], []⟩) (wants Q₁ E) s := by
  refine codeAny_of_tree ?_
  show wpAny _ A.in1 (do checkBuiltinCall "tuple.__new__" ⟨[.type "tuple", .ref a], []⟩; again (.builtin "tuple.__new__" ⟨[.type "tuple", .ref a], []⟩)) _ _ s
  refine wpAny_bind (wpAny_of_eq (F.newCall_tuple_1 _) (wpAny_pure ⟨plainId_quiet F.plain_tuple_new _, codeAny_builtin F.entry_tuple_new ?_⟩))
  rw [Around.under_plainId F.plain_tuple_new _]
  have hsub := sub_tuple_self
  have hinit := init_tuple_lookup
  have hmh := madeHere_tuple
  have hTI := hgen.typeIs (s := s)
  have hc' : ∀ (Q2 : List Value → Shared → Prop) (E2 : Value → Shared → Prop), (∀ xs s', (xs.length ≤ sizeLine ∧ Q₁ (.ref s'.heap.objs.size) { s' with heap := s'.heap.push { cls := .type "tuple", data := .seq xs.toArray } }) → Q2 xs s') → wpAny (model P w) A.in1 (collect (.ref a)) Q2 E2 s := fun Q2 E2 h => wpAny_mono hc (fun xs s' q => h xs s' q) fun _ _ z => z.elim
  wp_walk using wpAny_typeOf hTI, hc'
  intro xs s' ⟨hl, q⟩
  show wpAny _ _ (Builtin.Tuple.tupleExact xs.toArray >>= fun v => ret v) _ _ _
  unfold Builtin.Tuple.tupleExact
  refine wpAny_bind (wpAny_newObj_type ?_ (by show xs.toArray.size ≤ sizeLine; simpa using hl))
  exact wpAny_pure q
theorem call_tuple_gx {Q : Value → Shared → Prop} {g : Nat} (hgen : s.heap.IsGen a g) (hc : wpAny (model P w) A.in1.in1 (collect (.ref a)) (fun xs s' => xs.length ≤ sizeLine ∧ Q (.ref s'.heap.objs.size) { s' with heap := s'.heap.push { cls := .type "tuple", data := .seq xs.toArray } }) (fun _ _ => False) s) :
    wpAny (model P w) A (call (.type "tuple") [.ref a]) Q E s := by
  refine callType_codes (Q₁ := fun obj s₁ => s₁.TypeIs obj "tuple" ∧ Q obj s₁) F.called_tuple (F.typeCall_tuple_1 _) F.entry_object_init
    (code_tuple_gx hgen (wpAny_mono hc (fun xs s' q => ⟨q.1, ⟨_, Heap.get?_push_size _ rfl, rfl⟩, q.2⟩) fun _ _ z => z)) fun obj s₁ h₁ => ?_
  exact ⟨h₁.1, F.args_object_init_2 obj _, object_init_meets F.called_tuple.init.lookup F.called_tuple.made (by decide) P w A.in1 _ s₁ ⟨h₁.1, rfl, h₁.2⟩⟩
end
end GX
namespace GX
open PySem PySem.Spec PyProof.Rows L2 GenW GxR

section
variable {X : Cx} {pins : List (Addr × Obj)} {σ : L2.St} {H2 : Hp} {scope : Scope} {own : List (Str × Nat)} {elt tg iter : Expr} {pos : Pos} {J : It} {a : Addr} {s5 : Shared} {g : TG} {te : TE} {k : Nat}
/-- the made generator, slept, woken under A.in1: what its consumer needs -/
theorem gx_goes {D : Plan} {A : Around} {n : Nat} {t : D.T} {pS : List (Addr × Obj)} {s6 : Shared} (M : GxM X pins σ scope elt tg iter pos J H2 a s5) (hc : X.calm = true) (hN : X.N.Nodup) (S : GenOk scope) (ok : BlkOk X.N X.env.scope scope own) (hA : A.handled = none) (hfr : A.frames = some X.stack)
    (hg : ∀ (sc : Shared) (H : Hp) (code : Value) (fp : List Addr) (pn : List (Addr × Obj)), PG (gcx X sc H (A.in1.deeper (genv X sc scope code)) (genv X sc scope code) fp pn) tg g)
    (he : ∀ (sc : Shared) (H : Hp) (code : Value) (fp : List Addr) (pn : List (Addr × Obj)), PE (gcx X sc H (A.in1.deeper (genv X sc scope code)) (genv X sc scope code) fp pn) elt te)
    (hH : ∀ t pS, D.Held t pS → ∀ p ∈ pS, a < p.1) (turn : ∀ i m t H, D.W i m t H → (J.stop i H ∧ D.FO t H) ∨ (J.go i H ∧ 0 < m ∧ ∀ x H', J.yld i H x H' → g x (wipe σ (own.map (·.2))) H' fun σ2 H2 => wipe σ2 (own.map (·.2)) = wipe σ (own.map (·.2)) ∧ te σ2 H2 fun y H3 => D.YO i m t y H3))
    (kp : ∀ b o, s5.heap.get? b = some o → s6.heap.get? b = some o) (hos : s6.os = s5.os) (hgens : s6.gens = s5.gens) (w : D.W 0 n t H2) (hh : D.Held t pS) (hpS : ∀ p ∈ pS, s6.heap.get? p.1 = some p.2 ∧ ∀ v, p.2.data ≠ .cell v) :
    ∃ (X' : Cx) (gn : Nat) (go : Obj), X'.prog = X.prog ∧ X'.w = X.w ∧ (a, go) ∈ X'.pn ∧ (∀ h : Heap, h.get? a = some go → h.IsGen a gn) ∧ Goes X.prog X.w A (gxY X' (wipe σ (own.map (·.2))) D) (gxR X' (wipe σ (own.map (·.2))) D) a gn n s6 ∧
      ∀ (pS' : List (Addr × Obj)) (s1 s2 : Shared) (H : Hp), Inv X' pS' (wipe σ (own.map (·.2))) H s1 → (∀ b o, s1.heap.get? b = some o → s2.heap.get? b = some o) → s2.os = s1.os → AllBare s2.gens → Inv X pins σ H s2 := by
  obtain ⟨it, fp, tn, sc, code, gn, go, I1, T, st, ffp, hlt, hsz, k0, hgo, hgen, hcell, hgs, hos5, hba, hns⟩ := M.ex
  have k6 : ∀ b o, sc.heap.get? b = some o → s6.heap.get? b = some o := fun b o e => kp b o (k0 b o e)
  have nofp : ∀ b ∈ fp, H2 b = none := fun b hb => (ffp b hb).1.1
  have bare6 : AllBare s6.gens := by rw [hgens]; exact hba
  have I2 : Inv (gcx X sc H2 (A.in1.deeper (genv X sc scope code)) (genv X sc scope code) fp [(a, go)]) pS (wipe σ (own.map (·.2))) H2 (s6.setGen gn .running) := by
    refine gen_start I1 ok hN S.cell ffp hA (Around.frames_deeper hfr) k6 (hos.trans hos5) (allBare_setGen bare6 rfl) ?_ fun p hp => ?_
    · obtain ⟨m, hn⟩ := hns
      exact ⟨m, hn.keeps kp⟩
    · rcases List.mem_append.mp hp with hp | hp
      · rw [List.mem_singleton.mp hp]
        exact ⟨kp a go hgo, hlt, hcell⟩
      · exact ⟨(hpS p hp).1, Nat.lt_trans hlt (hH t pS hh p hp), (hpS p hp).2⟩
  refine ⟨gcx X sc H2 (A.in1.deeper (genv X sc scope code)) (genv X sc scope code) fp [(a, go)], gn, go, rfl, rfl, List.mem_singleton.mpr rfl, hgen, ⟨hgen _ (kp a go hgo), ?_, bare6, .fresh (.compStart (.GeneratorExp elt [⟨tg, iter, [], 0⟩] scope pos) 0 (.ref it) .none (genv X sc scope code)), by rw [hgens]; exact hgs, rfl, ?_⟩, fun pS' s1 s2 H I k1 e1 e2 => ?_⟩
  · exact I1.nolimit.keeps k6
  · refine seg_gxs (X := gcx X sc H2 (A.in1.deeper (genv X sc scope code)) (genv X sc scope code) fp [(a, go)]) (vs := own.map (·.2)) (iter := iter) rfl rfl rfl hc S.co (fun b hb => ⟨hb, (ffp b hb).2⟩) (fun p hp => by rw [List.mem_singleton.mp hp]; exact Nat.le_of_lt hlt) (fun x c e => ?_) (fun t pS q p hp => ⟨Nat.le_of_lt (Nat.lt_trans hlt (hH t pS q p hp)), fun q' hq' => by rw [List.mem_singleton.mp hq']; exact Nat.ne_of_lt (hH t pS q p hp)⟩) T (hg _ _ _ _ _) (he _ _ _ _ _) turn n t pS _ (s6.setGen gn .running) H2 w hh I2 (T.keep _ _ _ st fun b hb o e => kp b o e) nofp
    have e : (cloFrom X.env.cells scope.names []).lookup x = some c := e
    rcases cloFrom_mem (PySem.mem_of_lookup e) with hm | ⟨h1, rfl⟩
    · cases hm
    · have hfree : ∃ c, X.env.cells.lookup x = some c := by
        rcases ok.free _ h1 rfl with k | k
        · exact I1.ok.has _ (.inl k)
        · exact I1.ok.has _ (.inr k)
      obtain ⟨c, hc⟩ := hfree
      rw [hc]
      obtain ⟨w, z⟩ := I1.cell _ _ hc
      exact z.lt
  · exact I1.call' (ch := fp) (e1.trans I.os) (I.base.trans (Un.kept k1)) (I.hok.kept k1) e2 fun b hb => ⟨(ffp b hb).1.2.2.2.1, (ffp b hb).1.2.1, (ffp b hb).1.2.2.2.2.1, (ffp b hb).1.2.2.2.2.2⟩
end

/-- all(elt for tg in iter) -/
def tAllG (c : Bool) (P : Addr) (wi : TI) (g : TG) (te : TE) (vs : List Nat) : TE := fun σ H Q => wi σ H fun J H1 => TabG H1 P ∧ ∀ H2, Tabbed P H1 H2 → ∃ W : Nat → Nat → Hp → Prop, (∃ m, W 0 m H2) ∧ ∀ i m H, W i m H →
  (J.stop i H ∧ Q (.bl c) H) ∨ (J.go i H ∧ 0 < m ∧ ∀ x H', J.yld i H x H' → g x (wipe σ vs) H' fun σ2 H3 => wipe σ2 vs = wipe σ vs ∧ te σ2 H3 fun y H4 => ∃ b, y = .bl b ∧ if b = c then ∃ m', m' < m ∧ W (i + 1) m' H4 else Q (.bl b) H4)
/-- tuple(elt for tg in iter) -/
def tTupG (P : Addr) (wi : TI) (g : TG) (te : TE) (vs : List Nat) : TE := fun σ H Q => wi σ H fun J H1 => TabG H1 P ∧ ∀ H2, Tabbed P H1 H2 → ∃ W : Nat → Nat → List V → Hp → Prop, (∃ m, W 0 m [] H2) ∧ ∀ i m acc H, W i m acc H →
  (J.stop i H ∧ acc.length ≤ sizeLine ∧ ∀ L, H L = none → Q (.ref L) (upd H L (.tup acc))) ∨ (J.go i H ∧ 0 < m ∧ ∀ x H', J.yld i H x H' → g x (wipe σ vs) H' fun σ2 H3 => wipe σ2 vs = wipe σ vs ∧ te σ2 H3 fun y H4 => acc.length < sizeLine ∧ ∃ m', m' < m ∧ W (i + 1) m' (acc ++ [y]) H4)
section
variable {X : Cx} {c P : Addr} {k k' : Nat} {wi : TI} {g : TG} {te : TE} {scope : Scope} {own : List (Str × Nat)} {elt tg iter : Expr} {gpos p pos : Pos}
theorem pe_allG (hr : Room k X.A) (hk : k' + 3 ≤ k) (hc : X.calm = true) (hN : X.N.Nodup) (TB : TabB X.base X.mg c P) (hcode : X.env.code = .ref c) (S : GenOk scope) (ok : BlkOk X.N X.env.scope scope own) (hi : PI X tg iter wi)
    (hg : ∀ (A : Around) (sc : Shared) (H : Hp) (code : Value) (fp : List Addr) (pn : List (Addr × Obj)), Room k' (A.deeper (genv X sc scope code)) → PG (gcx X sc H (A.deeper (genv X sc scope code)) (genv X sc scope code) fp pn) tg g)
    (he : ∀ (A : Around) (sc : Shared) (H : Hp) (code : Value) (fp : List Addr) (pn : List (Addr × Obj)), Room k' (A.deeper (genv X sc scope code)) → PE (gcx X sc H (A.deeper (genv X sc scope code)) (genv X sc scope code) fp pn) elt te)
    (hs : ∀ v, genFold iter X.env v = pure v) (hgl : Gl X "all") (hm : X.mg "all" = none) (hb : bootBuiltins "all" = some (.builtin "all"))
    (he0 : starEach [.GeneratorExp elt [⟨tg, iter, [], 0⟩] scope gpos] X.env = (false, eval (.GeneratorExp elt [⟨tg, iter, [], 0⟩] scope gpos) X.env) :: starEach [] X.env := by rfl) :
    PE X (.Call (.Name "all" p) [.GeneratorExp elt [⟨tg, iter, [], 0⟩] scope gpos] [] pos) (tAllG true P wi g te (own.map (·.2))) := by
  refine ⟨fun pins s σ H Q I h => ?_⟩
  refine wpAny_Call_Name_kw (ld_blt I hgl hm hb ?_)
  refine PyProof.Rows.callWith_builtin1 ?_ he0 (by rfl)
  rw [he0]
  show wpAny _ _ (spliced ((false, eval (.GeneratorExp elt [⟨tg, iter, [], 0⟩] scope gpos) X.env) :: backTo pos (starEach [] X.env))) _ _ s
  refine Calls.spliced_cons (gx_eval hr TB hcode S ok hi hs I h fun J H2 a s5 hW M => ?_)
  refine Calls.spliced_nil ?_
  obtain ⟨W, ⟨m0, w0⟩, turn⟩ := hW
  have R1 : Room k' X.A.in1.in1.in1 := ((hr.mono hk).in1).in1.in1
  have R2 : ∀ env, Room k' (X.A.in1.in1.deeper env) := fun env => Room.deeper (((hr.mono hk).in1).in1) env
  obtain ⟨X', gn, go, eP, ew, hpn, hgen, hgo, fin⟩ := gx_goes (D := planA true W Q) (A := X.A.in1) (n := m0) (t := ()) (pS := []) (s6 := s5) (g := g) (te := te) M hc hN S ok hr.hd I.ok.frames (fun sc H code fp pn => hg _ sc H code fp pn (R2 _)) (fun sc H code fp pn => he _ sc H code fp pn (R2 _)) (fun t pS q p hp => by
    have e : pS = [] := q
    rw [e] at hp
    cases hp) (fun i m t H w => turn i m H w) (fun _ _ e => e) rfl rfl w0 rfl (fun p hp => by simp at hp)
  have hty : s5.heap.IsGen a gn := hgo.1
  refine call_function_tree F.kind_all F.plain_all F.entry_all (F.args_all1 _) ?_
  unfold Builtin.«all»
  refine wpAny_bind (m := oneArg "all" _) (wpAny_pure ?_)
  refine wpAny_bind (wpAny_pyIter_gen hty ?_)
  rw [← eP, ← ew] at hgo ⊢
  refine wpAny_pure ⟨plainId_quiet F.plain_all_loop _, all_loop (X := X') (A := X.A) hr.hd hr.depth hpn hgen (fun b s1 s2 H1 I1 k1 e1 e2 q => ?_) m0 s5 hgo⟩
  exact ⟨.bl b, H1, fin _ s1 s2 H1 I1 k1 e1 e2, rfl, q⟩
theorem pe_anyG (hr : Room k X.A) (hk : k' + 3 ≤ k) (hc : X.calm = true) (hN : X.N.Nodup) (TB : TabB X.base X.mg c P) (hcode : X.env.code = .ref c) (S : GenOk scope) (ok : BlkOk X.N X.env.scope scope own) (hi : PI X tg iter wi)
    (hg : ∀ (A : Around) (sc : Shared) (H : Hp) (code : Value) (fp : List Addr) (pn : List (Addr × Obj)), Room k' (A.deeper (genv X sc scope code)) → PG (gcx X sc H (A.deeper (genv X sc scope code)) (genv X sc scope code) fp pn) tg g)
    (he : ∀ (A : Around) (sc : Shared) (H : Hp) (code : Value) (fp : List Addr) (pn : List (Addr × Obj)), Room k' (A.deeper (genv X sc scope code)) → PE (gcx X sc H (A.deeper (genv X sc scope code)) (genv X sc scope code) fp pn) elt te)
    (hs : ∀ v, genFold iter X.env v = pure v) (hgl : Gl X "any") (hm : X.mg "any" = none) (hb : bootBuiltins "any" = some (.builtin "any"))
    (he0 : starEach [.GeneratorExp elt [⟨tg, iter, [], 0⟩] scope gpos] X.env = (false, eval (.GeneratorExp elt [⟨tg, iter, [], 0⟩] scope gpos) X.env) :: starEach [] X.env := by rfl) :
    PE X (.Call (.Name "any" p) [.GeneratorExp elt [⟨tg, iter, [], 0⟩] scope gpos] [] pos) (tAllG false P wi g te (own.map (·.2))) := by
  refine ⟨fun pins s σ H Q I h => ?_⟩
  refine wpAny_Call_Name_kw (ld_blt I hgl hm hb ?_)
  refine PyProof.Rows.callWith_builtin1 ?_ he0 (by rfl)
  rw [he0]
  show wpAny _ _ (spliced ((false, eval (.GeneratorExp elt [⟨tg, iter, [], 0⟩] scope gpos) X.env) :: backTo pos (starEach [] X.env))) _ _ s
  refine Calls.spliced_cons (gx_eval hr TB hcode S ok hi hs I h fun J H2 a s5 hW M => ?_)
  refine Calls.spliced_nil ?_
  obtain ⟨W, ⟨m0, w0⟩, turn⟩ := hW
  have R2 : ∀ env, Room k' (X.A.in1.in1.deeper env) := fun env => Room.deeper (((hr.mono hk).in1).in1) env
  obtain ⟨X', gn, go, eP, ew, hpn, hgen, hgo, fin⟩ := gx_goes (D := planA false W Q) (A := X.A.in1) (n := m0) (t := ()) (pS := []) (s6 := s5) (g := g) (te := te) M hc hN S ok hr.hd I.ok.frames (fun sc H code fp pn => hg _ sc H code fp pn (R2 _)) (fun sc H code fp pn => he _ sc H code fp pn (R2 _)) (fun t pS q p hp => by
    have e : pS = [] := q
    rw [e] at hp
    cases hp) (fun i m t H w => turn i m H w) (fun _ _ e => e) rfl rfl w0 rfl (fun p hp => by simp at hp)
  have hty : s5.heap.IsGen a gn := hgo.1
  refine call_function_tree F.kind_any F.plain_any F.entry_any (F.args_any1 _) ?_
  unfold Builtin.«any»
  refine wpAny_bind (m := oneArg "any" _) (wpAny_pure ?_)
  refine wpAny_bind (wpAny_pyIter_gen hty ?_)
  rw [← eP, ← ew] at hgo ⊢
  refine wpAny_pure ⟨plainId_quiet F.plain_any_loop _, any_loop (X := X') (A := X.A) hr.hd hr.depth hpn hgen (fun b s1 s2 H1 I1 k1 e1 e2 q => ?_) m0 s5 hgo⟩
  exact ⟨.bl b, H1, fin _ s1 s2 H1 I1 k1 e1 e2, rfl, q⟩
theorem pe_tupG (hr : Room k X.A) (hk : k' + 5 ≤ k) (hc : X.calm = true) (hN : X.N.Nodup) (TB : TabB X.base X.mg c P) (hcode : X.env.code = .ref c) (S : GenOk scope) (ok : BlkOk X.N X.env.scope scope own) (hi : PI X tg iter wi)
    (hg : ∀ (A : Around) (sc : Shared) (H : Hp) (code : Value) (fp : List Addr) (pn : List (Addr × Obj)), Room k' (A.deeper (genv X sc scope code)) → PG (gcx X sc H (A.deeper (genv X sc scope code)) (genv X sc scope code) fp pn) tg g)
    (he : ∀ (A : Around) (sc : Shared) (H : Hp) (code : Value) (fp : List Addr) (pn : List (Addr × Obj)), Room k' (A.deeper (genv X sc scope code)) → PE (gcx X sc H (A.deeper (genv X sc scope code)) (genv X sc scope code) fp pn) elt te)
    (hs : ∀ v, genFold iter X.env v = pure v) (hgl : Gl X "tuple") (hm : X.mg "tuple" = none) (hb : bootBuiltins "tuple" = some (.type "tuple"))
    (he0 : starEach [.GeneratorExp elt [⟨tg, iter, [], 0⟩] scope gpos] X.env = (false, eval (.GeneratorExp elt [⟨tg, iter, [], 0⟩] scope gpos) X.env) :: starEach [] X.env := by rfl) :
    PE X (.Call (.Name "tuple" p) [.GeneratorExp elt [⟨tg, iter, [], 0⟩] scope gpos] [] pos) (tTupG P wi g te (own.map (·.2))) := by
  refine ⟨fun pins s σ H Q I h => ?_⟩
  refine wpAny_Call_Name_kw (ld_blt I hgl hm hb ?_)
  refine PyProof.Rows.callWith_type1 ?_ he0 rfl
  rw [he0]
  show wpAny _ _ (spliced ((false, eval (.GeneratorExp elt [⟨tg, iter, [], 0⟩] scope gpos) X.env) :: backTo pos (starEach [] X.env))) _ _ s
  refine Calls.spliced_cons (gx_eval hr TB hcode S ok hi hs I h fun J H2 a s5 hW M => ?_)
  refine Calls.spliced_nil ?_
  obtain ⟨W, ⟨m0, w0⟩, turn⟩ := hW
  have R2 : ∀ env, Room k' (X.A.in1.in1.in1.in1.deeper env) := fun env => Room.deeper (((hr.mono hk).in1).in1.in1.in1) env
  obtain ⟨it, fp, tn, sc, code, gn, go, I1, T, st, ffp, hlt, hsz, k0, hgo, hgen, _⟩ := M.ex
  have hal : a < s5.heap.objs.size := Heap.lt_size hgo
  have hcl : cStatics < s5.heap.objs.size := let ⟨_, hn, _⟩ := I1.nolimit; Nat.lt_of_lt_of_le hn.lt (by omega)
  refine call_tuple_gx (hgen _ hgo) (collect_gx (A := X.A.in1.in1) (Rr := fun S r s' => r = .ok (.ret (.ref S)) ∧ ∃ (acc : Array Value) (t : List V) (s1 : Shared) (H : Hp) (c : Nat) (X' : Cx), Inv X' [(S, lstObj acc c)] (wipe σ (own.map (·.2))) H s1 ∧ (∀ b o, s1.heap.get? b = some o → s'.heap.get? b = some o) ∧ s'.os = s1.os ∧ AllBare s'.gens ∧ Vals t acc.toList ∧
      (t.length ≤ sizeLine ∧ ∀ L, H L = none → Q (.ref L) (upd H L (.tup t))) ∧ Inv X pins σ H s') (hgen _ hgo) (fun S s6 cS eS k6 hS6 hos6 hgens6 => ?_) fun S r s' hq => ?_)
  · obtain ⟨X', gn', go', eP, ew, hpn, hgen', hgo', fin⟩ := gx_goes (D := planT S W fun t H => t.length ≤ sizeLine ∧ ∀ L, H L = none → Q (.ref L) (upd H L (.tup t))) (A := X.A.in1.in1.in1) (n := m0) (t := ([] : List V)) (pS := [(S, lstObj #[] cS)]) (s6 := s6) (g := g) (te := te) M hc hN ‹GenOk scope› ok hr.hd I.ok.frames (fun sc H code fp pn => hg _ sc H code fp pn (R2 _)) (fun sc H code fp pn => he _ sc H code fp pn (R2 _)) (fun t pS q p hp => by
      obtain ⟨acc, c, e, _⟩ := q
      rw [e] at hp
      rw [List.mem_singleton.mp hp, eS]
      exact hal) (fun i m t H w => turn i m t H w) k6 hos6 hgens6 w0 ⟨#[], cS, rfl, .nil⟩ (fun p hp => by rw [List.mem_singleton.mp hp]; exact ⟨hS6, fun v q => by cases q⟩)
    rw [← eP, ← ew] at hgo' ⊢
    refine tup_loop (X := X') (A := X.A.in1.in1) hr.hd hr.depth hpn hgen' (by rw [eS]; exact Nat.ne_of_gt hal) (by rw [eS]; exact Nat.ne_of_gt hcl) (fun acc c t s1 s2 H1 I2 k1 e1 e2 rv fo => ?_) m0 s6 hgo'
    exact ⟨rfl, acc, t, s1, H1, c, X', I2, k1, e1, e2, rv, fo, fin _ s1 s2 H1 I2 k1 e1 e2⟩
  · obtain ⟨hr, acc, t, s1, H1, c, X', I2, k1, e1, e2, rv, ⟨hlen, fo⟩, I3⟩ := hq
    have eS := (I2.pin (S, lstObj acc c) (List.mem_append_right _ (List.mem_singleton.mpr rfl))).1
    refine ⟨hr, acc, c, k1 _ _ eS, by rw [← rv.length]; exact hlen, ?_⟩
    have hn : H1 s'.heap.objs.size = none := I3.hok.fresh (Nat.le_refl _)
    exact ⟨.ref s'.heap.objs.size, _, I3.laid (t' := s'.toks) (fun b o e => Heap.get?_push_of_some _ e) (Nat.le_refl _) (show ObjOk X.prog X.w _ _ _ (.tup t) from ⟨hlen, acc.toList, rv, IsTup.new _ _⟩), rfl, fo _ hn⟩
end
end GX
namespace Fw
variable [Tabs]
open PySem PySem.Spec L2

/-! ### generator expressions in all, any, tuple -/
theorem tab_gr {S : SA} {B H H2 : Hp} {P : Addr} (e : Ex B H) (h : SprO H S) (f : SprF B S) (hP : P ∈ Tabs.tb) (t : GxR.Tabbed P H H2) : GrS S B H B H2 := by
  obtain ⟨t1, t2⟩ := t
  obtain ⟨ps, e1, _⟩ := h.2 P hP
  refine ⟨Ex.rfl, fun a o q n => ?_, fun a o q => ?_, fun _ _ => rfl, h.1.kept fun a q => ?_, fun P' hP' => ?_⟩
  · rw [t2 a fun z => n (.inr (z ▸ hP))]
    exact q
  · rw [t2 a fun z => by rw [z, f.2 P hP] at q; cases q]
    exact e a o q
  · refine t2 a fun z => ?_
    obtain ⟨xs, e2⟩ := h.1.get q
    rw [z, e1] at e2
    cases e2
  · by_cases c : P' = P
    · rw [c]; exact t1
    · obtain ⟨qs, e2, e3⟩ := h.2 P' hP'
      exact ⟨qs, (t2 P' c).trans e2, e3⟩
def gxAll (c : Bool) (mg : DG) (me : DE) (es0 : En) : List D → (D → Prop) → Prop
  | [], P => P (.bool c)
  | d :: r, P => mg d es0 (fun es1 => me es1 (fun y => match y with
    | .bool b => if b = c then gxAll c mg me es0 r P else P (.bool b)
    | _ => False) (fun _ => False))
def dAllG (c : Bool) (mi : DA) (mg : DG) (me : DE) (vs : List Nat) : DE := fun es P X => mi es (fun ds => gxAll c mg me (wipeE es vs) ds P) X
def dTupG (mi : DA) (mg : DG) (me : DE) (vs : List Nat) : DE := fun es P X => mi es (fun ds => lcGo mg mYes me (wipeE es vs) ds [] (fun acc => P (.tuple acc))) X
theorem wipe_twice (σ : L2.St) (vs : List Nat) : L2.wipe (L2.wipe σ vs) vs = L2.wipe σ vs := by
  induction vs with
  | nil => rfl
  | cons a r ih =>
    have e : ∀ (τ : L2.St) (us : List Nat), L2.wipe (τ.set a none) us = (L2.wipe τ us).set a none := by
      intro τ us
      induction us with
      | nil => rfl
      | cons b us ih2 =>
        show (L2.wipe (τ.set a none) us).set b none = ((L2.wipe τ us).set b none).set a none
        rw [ih2]
        by_cases z : a = b
        · rw [z]
        · rw [List.set_comm _ _ z]
    show (L2.wipe ((L2.wipe σ r).set a none) r).set a none = (L2.wipe σ r).set a none
    rw [e, ih, List.set_set]
section
variable {K : Fg} {W : WX} {wi : TI} {mi : DA} {g : TG} {mg : DG} {vs0 vs : List Nat} {te : TE} {me : DE} {P0 : Addr}
theorem se_allG {c : Bool} (hP : P0 ∈ Tabs.tb) (hi : SI K W wi mi) (hg : SG K g mg vs0) (hv : vs0 ⊆ vs) (he : SE K WF te me) : SE K W (GX.tAllG c P0 wi g te vs) (dAllG c mi mg me vs) := ⟨fun {S B0 H0 B H σ es} s P X Q q k kx => by
  refine hi.run s _ _ _ q (fun ds J B1 H1 p g1 it => ?_) kx
  have s1 := s.step g1
  refine ⟨s1.gs.sp.2 P0 hP, fun H2 hT => ?_⟩
  have gT := tab_gr s1.bh s1.gs.sp s1.sf hP hT
  have sw := s1.wipe vs
  refine ⟨fun i m H' => m = ds.length - i ∧ i ≤ ds.length ∧ ∃ B', gxAll c mg me (wipeE es vs) (ds.drop i) P ∧ GrS S B1 H1 B' H', ⟨_, rfl, Nat.zero_le _, B1, p, gT⟩, ?_⟩
  rintro i m H' ⟨rfl, hl, B', f, gr⟩
  by_cases cc : i < ds.length
  · obtain ⟨h1, h2⟩ := it.go gr.bb gr.bh cc
    refine .inr ⟨h1, by omega, fun x H2 y => ?_⟩
    obtain ⟨d, B2, ed, gx, dv⟩ := h2 x H2 y
    rw [List.drop_eq_getElem_cons cc] at f
    have e3 : ds[i] = d := by
      rw [List.getElem?_eq_getElem cc] at ed
      exact Option.some.inj ed
    rw [e3] at f
    have sw' := sw.step gr
    have gx' := sw'.gr gx
    have s2 := sw'.step gx'
    refine hg.run s2 dv _ _ f fun σ3 es3 p3 s3 wp => ⟨(wp vs hv).trans (wipe_twice σ vs), ?_⟩
    refine he.run s3 _ _ _ p3 (fun y v B5 H5 p5 g5 dy => ?_) fun _ _ _ _ _ h => h.elim
    have gg := gr.trans (gx'.trans g5)
    cases dy <;> try exact p5.elim
    rename_i b
    refine ⟨b, rfl, ?_⟩
    by_cases hb : b = c
    · have p5 : (if b = c then gxAll c mg me (wipeE es vs) (ds.drop (i + 1)) P else P (.bool b)) := p5
      rw [if_pos hb] at p5 ⊢
      exact ⟨ds.length - (i + 1), by omega, rfl, cc, B5, p5, gg⟩
    · have p5 : (if b = c then gxAll c mg me (wipeE es vs) (ds.drop (i + 1)) P else P (.bool b)) := p5
      rw [if_neg hb] at p5 ⊢
      exact k _ _ _ _ p5 (g1.trans gg) (.bl _)
  · have e : i = ds.length := by omega
    subst e
    rw [List.drop_length] at f
    exact .inl ⟨it.stop gr.bb gr.bh, k _ _ _ _ f (g1.trans gr) (.bl _)⟩⟩
theorem se_tupG (hP : P0 ∈ Tabs.tb) (hi : SI K W wi mi) (hg : SG K g mg vs0) (hv : vs0 ⊆ vs) (he : SE K WF te me) : SE K W (GX.tTupG P0 wi g te vs) (dTupG mi mg me vs) := ⟨fun {S B0 H0 B H σ es} s P X Q q k kx => by
  refine hi.run s _ _ _ q (fun ds J B1 H1 p g1 it => ?_) kx
  have s1 := s.step g1
  refine ⟨s1.gs.sp.2 P0 hP, fun H2 hT => ?_⟩
  have gT := tab_gr s1.bh s1.gs.sp s1.sf hP hT
  have sw := s1.wipe vs
  refine ⟨fun i m xs H' => m = ds.length - i ∧ i ≤ ds.length ∧ ∃ B' acc, lcGo mg mYes me (wipeE es vs) (ds.drop i) acc (fun acc => P (.tuple acc)) ∧ GrS S B1 H1 B' H' ∧ DpAll K B' xs acc ∧ xs.length ≤ sizeLine, ⟨_, rfl, Nat.zero_le _, B1, [], p, gT, .nil, Nat.zero_le _⟩, ?_⟩
  rintro i m xs H' ⟨rfl, hl, B', acc, f, gr, dx, hx⟩
  by_cases cc : i < ds.length
  · obtain ⟨h1, h2⟩ := it.go gr.bb gr.bh cc
    refine .inr ⟨h1, by omega, fun x H2 y => ?_⟩
    obtain ⟨d, B2, ed, gx, dv⟩ := h2 x H2 y
    rw [List.drop_eq_getElem_cons cc] at f
    have e3 : ds[i] = d := by
      rw [List.getElem?_eq_getElem cc] at ed
      exact Option.some.inj ed
    rw [e3] at f
    have sw' := sw.step gr
    have gx' := sw'.gr gx
    have s2 := sw'.step gx'
    refine hg.run s2 dv _ _ f fun σ3 es3 p3 s3 wp => ⟨(wp vs hv).trans (wipe_twice σ vs), ?_⟩
    have p3' : me es3 (fun y => acc.length < 16777216 ∧ lcGo mg mYes me (wipeE es vs) (ds.drop (i + 1)) (acc ++ [y]) (fun acc => P (.tuple acc))) (fun _ => False) := p3
    refine he.run s3 _ _ _ p3' (fun y v B5 H5 p5 g5 dy => ?_) fun _ _ _ _ _ h => h.elim
    have gg := gr.trans (gx'.trans g5)
    have dx5 := g5.bb.dps (gx.bb.dps dx)
    have hlx : xs.length < sizeLine := by rw [sz_eq, dps_len dx]; exact p5.1
    exact ⟨hlx, ds.length - (i + 1), by omega, rfl, cc, B5, _, p5.2, gg, dps_app dx5 (.cons dy .nil), by rw [List.length_append]; exact hlx⟩
  · have e : i = ds.length := by omega
    subst e
    rw [List.drop_length] at f
    refine .inl ⟨it.stop gr.bb gr.bh, hx, fun L hL => ?_⟩
    have f : P (.tuple acc) := f
    have g2 := g1.trans gr
    exact k _ _ _ _ f (g2.trans ((s.step g2).gr (Gr.new gr.bh hL))) (.tup (SqT.of upd_same) ((Ex.new (gr.bh.back hL)).dps dx))⟩
end
theorem Ctx.gx {X : Cx} {K : Fg} {W : WX} {k k' : Nat} (C : Ctx X K W k) {A : Around} {sc : Shared} {H : Hp} {scope : Scope} {code : Value} {fp : List Addr} {pn : List (Addr × Obj)} (hr : Room k' (A.deeper (GX.genv X sc scope code))) : Ctx (GX.gcx X sc H (A.deeper (GX.genv X sc scope code)) (GX.genv X sc scope code) fp pn) K WF k' :=
  ⟨C.hK, takes0, PassesOwn.never, hr, C.calm, C.nd⟩
/-- the running def's code object and its table -/
structure Tab (X : Cx) (P0 : Addr) : Prop where
  mem : P0 ∈ Tabs.tb
  ex : ∃ c, GxR.TabB X.base X.mg c P0 ∧ X.env.code = .ref c
theorem Tab.blk {X : Cx} {P0 : Addr} (t : Tab X P0) {s : Shared} {H : Hp} {scope : Scope} {cl : List (Str × Addr)} {c : Addr} {fp : List Addr} : Tab (X.blk s H scope (compEnvC scope cl c X.env) fp) P0 := ⟨t.mem, t.ex⟩
section
variable {X : Cx} {K : Fg} {W : WX} {k k' : Nat} {elt tg iter : Expr} {scope : Scope} {own : List (Str × Nat)} {gpos p pos : Pos} {wi : TI} {mi : DA} {g : TG} {mg : DG} {vs0 vs : List Nat} {te : TE} {me : DE} {P0 : Addr}
theorem xe_tupG (C : Ctx X K W k) (t : Tab X P0) (hk : k' + 5 ≤ k) (hi : XI X K W tg iter wi mi) (S : GX.GenOk scope) (ok : BlkOk X.N X.env.scope scope own)
    (hg : ∀ (A : Around) (sc : Shared) (H : Hp) (code : Value) (fp : List Addr) (pn : List (Addr × Obj)), Ctx (GX.gcx X sc H (A.deeper (GX.genv X sc scope code)) (GX.genv X sc scope code) fp pn) K WF k' → PG (GX.gcx X sc H (A.deeper (GX.genv X sc scope code)) (GX.genv X sc scope code) fp pn) tg g)
    (he : ∀ (A : Around) (sc : Shared) (H : Hp) (code : Value) (fp : List Addr) (pn : List (Addr × Obj)), Ctx (GX.gcx X sc H (A.deeper (GX.genv X sc scope code)) (GX.genv X sc scope code) fp pn) K WF k' → PE (GX.gcx X sc H (A.deeper (GX.genv X sc scope code)) (GX.genv X sc scope code) fp pn) elt te)
    (hg2 : SG K g mg vs0) (he2 : SE K WF te me) (hvs : own.map (·.2) = vs) (hv : vs0 ⊆ vs) (hm : X.mg "tuple" = none) (hs : ∀ v, genFold iter X.env v = pure v) (hgl : Gl X "tuple" := by rfl)
    (he0 : starEach [.GeneratorExp elt [⟨tg, iter, [], 0⟩] scope gpos] X.env = (false, eval (.GeneratorExp elt [⟨tg, iter, [], 0⟩] scope gpos) X.env) :: starEach [] X.env := by rfl) :
    XE X K W (.Call (.Name "tuple" p) [.GeneratorExp elt [⟨tg, iter, [], 0⟩] scope gpos] [] pos) (GX.tTupG P0 wi g te vs) (dTupG mi mg me vs) := by
  subst hvs
  obtain ⟨c, TB, hcode⟩ := t.ex
  exact ⟨GX.pe_tupG C.hr hk C.calm C.nd TB hcode S ok hi.1 (fun A sc H code fp pn hr => hg A sc H code fp pn (C.gx hr)) (fun A sc H code fp pn hr => he A sc H code fp pn (C.gx hr)) hs hgl hm bt_tuple he0, se_tupG t.mem hi.2 hg2 hv he2⟩
theorem xe_allG (C : Ctx X K W k) (t : Tab X P0) (hk : k' + 3 ≤ k) (hi : XI X K W tg iter wi mi) (S : GX.GenOk scope) (ok : BlkOk X.N X.env.scope scope own)
    (hg : ∀ (A : Around) (sc : Shared) (H : Hp) (code : Value) (fp : List Addr) (pn : List (Addr × Obj)), Ctx (GX.gcx X sc H (A.deeper (GX.genv X sc scope code)) (GX.genv X sc scope code) fp pn) K WF k' → PG (GX.gcx X sc H (A.deeper (GX.genv X sc scope code)) (GX.genv X sc scope code) fp pn) tg g)
    (he : ∀ (A : Around) (sc : Shared) (H : Hp) (code : Value) (fp : List Addr) (pn : List (Addr × Obj)), Ctx (GX.gcx X sc H (A.deeper (GX.genv X sc scope code)) (GX.genv X sc scope code) fp pn) K WF k' → PE (GX.gcx X sc H (A.deeper (GX.genv X sc scope code)) (GX.genv X sc scope code) fp pn) elt te)
    (hg2 : SG K g mg vs0) (he2 : SE K WF te me) (hvs : own.map (·.2) = vs) (hv : vs0 ⊆ vs) (hm : X.mg "all" = none) (hs : ∀ v, genFold iter X.env v = pure v) (hgl : Gl X "all" := by rfl)
    (he0 : starEach [.GeneratorExp elt [⟨tg, iter, [], 0⟩] scope gpos] X.env = (false, eval (.GeneratorExp elt [⟨tg, iter, [], 0⟩] scope gpos) X.env) :: starEach [] X.env := by rfl) :
    XE X K W (.Call (.Name "all" p) [.GeneratorExp elt [⟨tg, iter, [], 0⟩] scope gpos] [] pos) (GX.tAllG true P0 wi g te vs) (dAllG true mi mg me vs) := by
  subst hvs
  obtain ⟨c, TB, hcode⟩ := t.ex
  exact ⟨GX.pe_allG C.hr hk C.calm C.nd TB hcode S ok hi.1 (fun A sc H code fp pn hr => hg A sc H code fp pn (C.gx hr)) (fun A sc H code fp pn hr => he A sc H code fp pn (C.gx hr)) hs hgl hm (by decide +kernel) he0, se_allG t.mem hi.2 hg2 hv he2⟩
theorem xe_anyG (C : Ctx X K W k) (t : Tab X P0) (hk : k' + 3 ≤ k) (hi : XI X K W tg iter wi mi) (S : GX.GenOk scope) (ok : BlkOk X.N X.env.scope scope own)
    (hg : ∀ (A : Around) (sc : Shared) (H : Hp) (code : Value) (fp : List Addr) (pn : List (Addr × Obj)), Ctx (GX.gcx X sc H (A.deeper (GX.genv X sc scope code)) (GX.genv X sc scope code) fp pn) K WF k' → PG (GX.gcx X sc H (A.deeper (GX.genv X sc scope code)) (GX.genv X sc scope code) fp pn) tg g)
    (he : ∀ (A : Around) (sc : Shared) (H : Hp) (code : Value) (fp : List Addr) (pn : List (Addr × Obj)), Ctx (GX.gcx X sc H (A.deeper (GX.genv X sc scope code)) (GX.genv X sc scope code) fp pn) K WF k' → PE (GX.gcx X sc H (A.deeper (GX.genv X sc scope code)) (GX.genv X sc scope code) fp pn) elt te)
    (hg2 : SG K g mg vs0) (he2 : SE K WF te me) (hvs : own.map (·.2) = vs) (hv : vs0 ⊆ vs) (hm : X.mg "any" = none) (hs : ∀ v, genFold iter X.env v = pure v) (hgl : Gl X "any" := by rfl)
    (he0 : starEach [.GeneratorExp elt [⟨tg, iter, [], 0⟩] scope gpos] X.env = (false, eval (.GeneratorExp elt [⟨tg, iter, [], 0⟩] scope gpos) X.env) :: starEach [] X.env := by rfl) :
    XE X K W (.Call (.Name "any" p) [.GeneratorExp elt [⟨tg, iter, [], 0⟩] scope gpos] [] pos) (GX.tAllG false P0 wi g te vs) (dAllG false mi mg me vs) := by
  subst hvs
  obtain ⟨c, TB, hcode⟩ := t.ex
  exact ⟨GX.pe_anyG C.hr hk C.calm C.nd TB hcode S ok hi.1 (fun A sc H code fp pn hr => hg A sc H code fp pn (C.gx hr)) (fun A sc H code fp pn hr => he A sc H code fp pn (C.gx hr)) hs hgl hm (by decide +kernel) he0, se_allG t.mem hi.2 hg2 hv he2⟩
theorem xe_tupX (C : Ctx X K W k) (t : Tab X P0) (hk : k' + 5 ≤ k) (hi : XI X K W tg iter wi mi) (S : GX.GenOk scope) (ok : BlkOk X.N X.env.scope scope own)
    (hg : ∀ (A : Around) (sc : Shared) (H : Hp) (code : Value) (fp : List Addr) (pn : List (Addr × Obj)), Ctx (GX.gcx X sc H (A.deeper (GX.genv X sc scope code)) (GX.genv X sc scope code) fp pn) K WF k' → XG (GX.gcx X sc H (A.deeper (GX.genv X sc scope code)) (GX.genv X sc scope code) fp pn) K tg g mg vs0)
    (he : ∀ (A : Around) (sc : Shared) (H : Hp) (code : Value) (fp : List Addr) (pn : List (Addr × Obj)), Ctx (GX.gcx X sc H (A.deeper (GX.genv X sc scope code)) (GX.genv X sc scope code) fp pn) K WF k' → XE (GX.gcx X sc H (A.deeper (GX.genv X sc scope code)) (GX.genv X sc scope code) fp pn) K WF elt te me)
    (hvs : own.map (·.2) = vs) (hv : vs0 ⊆ vs) (hm : X.mg "tuple" = none) (hs : ∀ v, genFold iter X.env v = pure v) (hgl : Gl X "tuple" := by rfl)
    (he0 : starEach [.GeneratorExp elt [⟨tg, iter, [], 0⟩] scope gpos] X.env = (false, eval (.GeneratorExp elt [⟨tg, iter, [], 0⟩] scope gpos) X.env) :: starEach [] X.env := by rfl) :
    XE X K W (.Call (.Name "tuple" p) [.GeneratorExp elt [⟨tg, iter, [], 0⟩] scope gpos] [] pos) (GX.tTupG P0 wi g te vs) (dTupG mi mg me vs) := by
  have c0 : Ctx (GX.gcx X X.s_0 X.H_0 (X.A.deeper (GX.genv X X.s_0 scope .none)) (GX.genv X X.s_0 scope .none) [] []) K WF k' := C.gx (Room.deeper (C.hr.mono (by omega)) _)
  exact xe_tupG C t hk hi S ok (fun A sc H code fp pn c => (hg A sc H code fp pn c).1) (fun A sc H code fp pn c => (he A sc H code fp pn c).1) (hg _ _ _ _ _ _ c0).2 (he _ _ _ _ _ _ c0).2 hvs hv hm hs hgl he0
theorem xe_allX (C : Ctx X K W k) (t : Tab X P0) (hk : k' + 3 ≤ k) (hi : XI X K W tg iter wi mi) (S : GX.GenOk scope) (ok : BlkOk X.N X.env.scope scope own)
    (hg : ∀ (A : Around) (sc : Shared) (H : Hp) (code : Value) (fp : List Addr) (pn : List (Addr × Obj)), Ctx (GX.gcx X sc H (A.deeper (GX.genv X sc scope code)) (GX.genv X sc scope code) fp pn) K WF k' → XG (GX.gcx X sc H (A.deeper (GX.genv X sc scope code)) (GX.genv X sc scope code) fp pn) K tg g mg vs0)
    (he : ∀ (A : Around) (sc : Shared) (H : Hp) (code : Value) (fp : List Addr) (pn : List (Addr × Obj)), Ctx (GX.gcx X sc H (A.deeper (GX.genv X sc scope code)) (GX.genv X sc scope code) fp pn) K WF k' → XE (GX.gcx X sc H (A.deeper (GX.genv X sc scope code)) (GX.genv X sc scope code) fp pn) K WF elt te me)
    (hvs : own.map (·.2) = vs) (hv : vs0 ⊆ vs) (hm : X.mg "all" = none) (hs : ∀ v, genFold iter X.env v = pure v) (hgl : Gl X "all" := by rfl)
    (he0 : starEach [.GeneratorExp elt [⟨tg, iter, [], 0⟩] scope gpos] X.env = (false, eval (.GeneratorExp elt [⟨tg, iter, [], 0⟩] scope gpos) X.env) :: starEach [] X.env := by rfl) :
    XE X K W (.Call (.Name "all" p) [.GeneratorExp elt [⟨tg, iter, [], 0⟩] scope gpos] [] pos) (GX.tAllG true P0 wi g te vs) (dAllG true mi mg me vs) := by
  have c0 : Ctx (GX.gcx X X.s_0 X.H_0 (X.A.deeper (GX.genv X X.s_0 scope .none)) (GX.genv X X.s_0 scope .none) [] []) K WF k' := C.gx (Room.deeper (C.hr.mono (by omega)) _)
  exact xe_allG C t hk hi S ok (fun A sc H code fp pn c => (hg A sc H code fp pn c).1) (fun A sc H code fp pn c => (he A sc H code fp pn c).1) (hg _ _ _ _ _ _ c0).2 (he _ _ _ _ _ _ c0).2 hvs hv hm hs hgl he0
theorem xe_anyX (C : Ctx X K W k) (t : Tab X P0) (hk : k' + 3 ≤ k) (hi : XI X K W tg iter wi mi) (S : GX.GenOk scope) (ok : BlkOk X.N X.env.scope scope own)
    (hg : ∀ (A : Around) (sc : Shared) (H : Hp) (code : Value) (fp : List Addr) (pn : List (Addr × Obj)), Ctx (GX.gcx X sc H (A.deeper (GX.genv X sc scope code)) (GX.genv X sc scope code) fp pn) K WF k' → XG (GX.gcx X sc H (A.deeper (GX.genv X sc scope code)) (GX.genv X sc scope code) fp pn) K tg g mg vs0)
    (he : ∀ (A : Around) (sc : Shared) (H : Hp) (code : Value) (fp : List Addr) (pn : List (Addr × Obj)), Ctx (GX.gcx X sc H (A.deeper (GX.genv X sc scope code)) (GX.genv X sc scope code) fp pn) K WF k' → XE (GX.gcx X sc H (A.deeper (GX.genv X sc scope code)) (GX.genv X sc scope code) fp pn) K WF elt te me)
    (hvs : own.map (·.2) = vs) (hv : vs0 ⊆ vs) (hm : X.mg "any" = none) (hs : ∀ v, genFold iter X.env v = pure v) (hgl : Gl X "any" := by rfl)
    (he0 : starEach [.GeneratorExp elt [⟨tg, iter, [], 0⟩] scope gpos] X.env = (false, eval (.GeneratorExp elt [⟨tg, iter, [], 0⟩] scope gpos) X.env) :: starEach [] X.env := by rfl) :
    XE X K W (.Call (.Name "any" p) [.GeneratorExp elt [⟨tg, iter, [], 0⟩] scope gpos] [] pos) (GX.tAllG false P0 wi g te vs) (dAllG false mi mg me vs) := by
  have c0 : Ctx (GX.gcx X X.s_0 X.H_0 (X.A.deeper (GX.genv X X.s_0 scope .none)) (GX.genv X X.s_0 scope .none) [] []) K WF k' := C.gx (Room.deeper (C.hr.mono (by omega)) _)
  exact xe_anyG C t hk hi S ok (fun A sc H code fp pn c => (hg A sc H code fp pn c).1) (fun A sc H code fp pn c => (he A sc H code fp pn c).1) (hg _ _ _ _ _ _ c0).2 (he _ _ _ _ _ _ c0).2 hvs hv hm hs hgl he0
end
end Fw
namespace GX
open PySem PySem.Spec PyProof.Rows L2
/-! ### enumerate(a tuple) -/
set_option maxHeartbeats 1000000 in
theorem meets_enum1 {v : Value} {o : Obj} {H : Heap → Prop} (B : Begins v o H) :
    Meets (Builtin.«enumerate.__new__» ⟨[.type "enumerate", v], []⟩) (fun _ R s => H s.heap ∧
      R (.ok (.ret (.ref (s.heap.push o).objs.size))) { s with heap := (s.heap.push o).push { cls := .type "enumerate", data := .fields #[.none, .bool false, .ref s.heap.objs.size, rawInt 0, .none, .none] } }) :=
  .of_wp fun prog w A R s h => by
    obtain ⟨hp, g, d, tk, os⟩ := s
    obtain ⟨h1, h⟩ := h
    have hsub := sub_enumerate
    have q1 : ∀ {A' : Around} {E : Value → Shared → Prop} {Q : Value → Shared → Prop}, Q (.ref hp.objs.size) ⟨hp.push o, g, d, tk, os⟩ → wpAny (model prog w) A' (pyIter v) Q E ⟨hp, g, d, tk, os⟩ :=
      fun q => B.iter prog w _ _ ⟨hp, g, d, tk, os⟩ _ h1 q
    wp_walk using q1
    refine wpAny_stack_any fun st => wpAny_pure ?_
    split
    · rename_i c _ _ _ _ _
      cases (c == Value.type "enumerate")
      · wp_walk using q1
        exact ⟨_, rfl, h⟩
      · wp_walk using q1
        exact ⟨_, rfl, h⟩
    · wp_walk using q1
      exact ⟨_, rfl, h⟩
theorem call_enum1 {prog : Program} {w : World} {A : Around} {E : Value → Shared → Prop} {s : Shared} {v : Value} {o : Obj} {H : Heap → Prop} {Q : Value → Shared → Prop} (B : Begins v o H) (h1 : H s.heap)
    (h : ∀ h', IsEnum h' (s.heap.objs.size + 1) s.heap.objs.size 0 .none → h'.get? s.heap.objs.size = some o → h'.objs.size = s.heap.objs.size + 2 →
      (∀ b o, s.heap.get? b = some o → h'.get? b = some o) → Q (.ref (s.heap.objs.size + 1)) { s with heap := h' }) :
    wpAny (model prog w) A (call (.type "enumerate") [v]) Q E s := by
  refine callType_new F.called_enumerate (by decide) (F.typeCall_enumerate_1 _) (F.newCall_enumerate_1 _) (fun obj => F.args_object_init_2 obj _) F.entry_enumerate_new (meets_enum1 B) ⟨h1, ?_⟩
  have hz : (s.heap.push o).objs.size = s.heap.objs.size + 1 := Heap.size_push ..
  show _ ∧ _
  rw [hz]
  have he : IsEnum ((s.heap.push o).push { cls := .type "enumerate", data := .fields #[.none, .bool false, .ref s.heap.objs.size, rawInt 0, .none, .none] }) (s.heap.objs.size + 1) s.heap.objs.size 0 .none := by
    have q := Heap.get?_push_size (s.heap.push o) (o := { cls := .type "enumerate", data := .fields #[.none, .bool false, .ref s.heap.objs.size, rawInt 0, .none, .none] }) rfl
    rw [hz] at q
    exact q
  exact ⟨⟨_, he, rfl⟩, h _ he (Heap.get?_push_of_some _ (Heap.get?_push_size _ B.free)) (by rw [Heap.size_push, hz]) fun b o x => Heap.get?_push_of_some _ (Heap.get?_push_of_some _ x)⟩
/-- the tuple at a, each item in a new pair -/
def Itet (K : PySem.W.Frag) (a : Addr) : It :=
  ⟨fun i H => ∃ (xs : List V) (x : V), SqT K H a xs ∧ xs[i]? = some x, fun i H v H' => ∃ T x, v = .ref T ∧ H T = none ∧ H' = upd H T (.tup [.int (i : Nat), x]) ∧ ∀ xs, SqT K H a xs → xs[i]? = some x, fun i H => ∃ xs : List V, SqT K H a xs ∧ xs.length = i⟩
theorem turn_enumT {P : Program} {w : World} {K : PySem.W.Frag} {elts : List Expr} {kk : Nat} {tpos : Pos} (a e it : Addr) :
    Turn P w K (.Tuple elts kk tpos) (Itet K a) [e, it] e (fun i h => (∃ old, IsEnum h e it ((i : Nat) : Int) old) ∧ h.IsTupleIter it a i ∧ e ≠ it ∧ a ≠ it ∧ e ≠ a) where
  mem := by simp
  obj := fun i h st b hb => by
    obtain ⟨⟨old, he⟩, ⟨o, ho, hc, hd⟩, _⟩ := st
    have e' : b = e ∨ b = it := by simpa using hb
    rcases e' with z | z
    · rw [z]; exact ⟨_, he, fun v q => nomatch q⟩
    · rw [z]; exact ⟨o, ho, fun v q => by rw [hd] at q; cases q⟩
  keep := fun i h h' st k => let ⟨⟨old, he⟩, hi, hne⟩ := st; ⟨⟨old, k e (by simp) _ he⟩, hi.at fun o q => k it (by simp) o q, hne⟩
  item := by
    intro X hP hw hK hc i pins s σ H E I hf st hg
    subst hP hw hK
    obtain ⟨⟨old, he⟩, hit, hne, hai, hea⟩ := st
    obtain ⟨xs, x, hq, hx⟩ := hg
    obtain ⟨its, rv, p, hz⟩ := I.tuple hq
    obtain ⟨u, hu, ru⟩ := rv.get hx
    have hel : e < s.heap.objs.size := Heap.lt_size he
    have hil : it < s.heap.objs.size := by obtain ⟨_, q, _⟩ := hit; exact Heap.lt_size q
    have hlen : i < its.toArray.size := by
      have := (List.getElem?_eq_some_iff.mp hu).1
      simpa using this
    refine wpAny_pyNext_enum_itemC (Draws.tuple (prog := X.prog) (w := X.w) (A := X.A.in1) (I.ok.hd hc) it a hai its.toArray) he ⟨hit, p⟩ hlen hne (by simp [hne, hea]) fun y h' tk hy ho hs' hT hsz hk => ?_
    obtain rfl : y = u := by
      have hy : its.toArray[i]? = some y := hy
      rw [List.getElem?_toArray, hu] at hy
      exact (Option.some.inj hy).symm
    refine ⟨_, rfl, wpAny_letOwnedTupleGo_enum (s := { s with heap := h', toks := tk + 1 }) ho fun h'' he' sb => ?_⟩
    have hT2 : h''.get? s.heap.objs.size = some { cls := .type "tuple", data := .seq #[.int i tk, y] } := (sb.2 _ (Nat.ne_of_gt hel)).trans hT
    have new : ObjOk X.prog X.w (upd H s.heap.objs.size (.tup [.int (i : Nat), x])) h'' s.heap.objs.size (.tup [.int (i : Nat), x]) :=
      ⟨by show 2 ≤ sizeLine; decide, [.int i tk, y], .cons ⟨_, rfl⟩ (.cons ru .nil), ⟨_, hT2, rfl, _, rfl⟩⟩
    have I1 : Inv X pins σ (upd H s.heap.objs.size (.tup [.int (i : Nat), x])) { s with heap := h'', toks := tk + 1 } :=
      I.turnedNew (ch := [e, it]) (fun b ob hb q => (sb.2 b (fun z => hb (by simp [z]))).trans (hk b ob (fun z => hb (by simp [z])) (fun z => hb (by simp [z])) q)) hf (Nat.le_refl _) new
    refine ⟨.ref s.heap.objs.size, _, I1, rfl, ⟨_, x, rfl, I.hok.fresh (Nat.le_refl _), rfl, fun ys hy => by rw [I.tuple_inj hy hq]; exact hx⟩, ⟨⟨y, ?_⟩, hs'.1.at fun o q => (sb.2 it (Ne.symm hne)).trans q, hne, hai, hea⟩, fun b hb => ?_⟩
    · have e1 : ((i + 1 : Nat) : Int) = (i : Int) + 1 := by omega
      rw [e1]; exact he'
    · have hb' : b < s.heap.objs.size := by
        have e' : b = e ∨ b = it := by simpa using hb
        rcases e' with z | z
        · rw [z]; exact hel
        · rw [z]; exact hil
      rw [upd_ne (Nat.ne_of_lt hb')]
      exact (hf b hb).1
  done := by
    intro X hP hw hK hc i pins s σ H E I hf st hg
    subst hP hw hK
    obtain ⟨⟨old, he⟩, hit, hne, hai, hea⟩ := st
    obtain ⟨xs, hq, hx⟩ := hg
    obtain ⟨its, rv, p, hz⟩ := I.tuple hq
    obtain ⟨f0, f1, f2, f3, f4, f5⟩ := hf it (by simp)
    have hl := rv.length
    have D := Draws.tuple (prog := X.prog) (w := X.w) (A := X.A.in1) (I.ok.hd hc) it a hai its.toArray
    have hsz : its.toArray.size = i := by simp; omega
    rw [hsz] at D
    exact wpAny_pyNext_enum_endD D he ⟨hit, p⟩ fun h' eb => ⟨rfl, I.turned (t' := s.toks) (fun b o hb q => eb b o hb q) f0 f1 f3 f4 f5⟩
  self := fun A i s Q E st h => let ⟨⟨_, he⟩, _⟩ := st; wpAny_pyIter_enum he h
def iEnumT (K : PySem.W.Frag) (ta : TA) : TI := fun σ H R => ta σ H fun vs H1 => ∃ a xs, vs = [.ref a] ∧ SqT K H1 a xs ∧ R (Itet K a) H1
theorem pi_enumT {X : Cx} {e : Expr} {ta : TA} {p pos tpos : Pos} {elts : List Expr} {kk : Nat} (hg : Gl X "enumerate") (hm : X.mg "enumerate" = none) (ha : PA X [e] ta) (hs : starEach [e] X.env = [(false, eval e X.env)] := by rfl) :
    PI X (.Tuple elts kk tpos) (.Call (.Name "enumerate" p) [e] [] pos) (iEnumT X.K ta) := by
  refine ⟨fun pins s σ H R I h => ?_⟩
  refine Call_ (ld_blt I hg hm boot_enumerate (PyProof.Rows.callWith_type1 (thn (ha.run pos pins s σ H _ I h) fun us s1 ⟨vs, H1, I1, r1, q1⟩ => ?_) hs rfl))
  obtain ⟨a, xs, ex, hq, q⟩ := q1
  subst ex
  obtain ⟨u, rfl, ru⟩ := vals1 r1
  obtain rfl : u = Value.ref a := ru
  obtain ⟨its, rv, p', hz⟩ := I1.tuple hq
  have hal : a < s1.heap.objs.size := p'.lt
  refine call_enum1 (begins_tuple a its.toArray) (show s1.heap.IsTuple a its.toArray from p') fun h' he hit hsz hk => wpAny_pyIter_enum he ?_
  have I2 : Inv X pins σ H1 { s1 with heap := h' } := I1.kept (t' := s1.toks) hk
  refine ⟨s1.heap.objs.size + 1, [s1.heap.objs.size + 1, s1.heap.objs.size], _, _, H1, rfl, I2, turn_enumT a (s1.heap.objs.size + 1) s1.heap.objs.size, ⟨⟨.none, he⟩, ⟨_, hit, rfl, rfl⟩, Nat.succ_ne_self _, Nat.ne_of_lt hal, Nat.ne_of_gt (Nat.lt_succ_of_lt hal)⟩, fun b hb => ?_, q⟩
  have e' : b = s1.heap.objs.size + 1 ∨ b = s1.heap.objs.size := by simpa using hb
  have hle : s1.heap.objs.size ≤ b := by
    rcases e' with z | z
    · rw [z]; exact Nat.le_add_right _ _
    · rw [z]; exact Nat.le_refl _
  exact I1.fpOk hle (I1.hok.fresh hle)
/-! ### repr -/
theorem repr_dp {X : Cx} {pins : List (Addr × Obj)} {σ : L2.St} {H : Hp} {s : Shared} {v : V} {u : Value} {d : PyData} {Q : Value → Shared → Prop} {E : Value → Shared → Prop} (I : Inv X pins σ H s) (hd : Dp X.K H v d) (r : RelV v u) (hg : X.A.guards = some []) (hu : X.A.units + 200 < cLine)
    (hs : d.showable = true) (hl : d.canLay0 = true) (hdep : d.depth ≤ 64) (hsz : d.shown.length ≤ sizeLine) (hq : ∀ a, v = .ref a → True) (hv : ∃ a, v = .ref a)
    (h : ∀ u' s', Inv X pins σ H s' → RelV (.str d.shown) u' → Q u' s') : wpAny (model X.prog X.w) X.A (call (.builtin "repr") [u]) Q E s := by
  obtain ⟨a, rfl⟩ := hv
  obtain rfl : u = Value.ref a := r
  obtain ⟨as, hr⟩ := Dp.reads I d _ _ hd rfl
  refine repr_of_reads' hr hs (PyData.noDict_hsm (PyData.hasDict_of_canLay d hl)) hg (by omega) (fun _ _ e => e) (fun h' u' tk hk => h _ _ (I.kept (t' := tk) hk) ⟨u', rfl⟩) hsz
def rRepr (K : PySem.W.Frag) : List V → Hp → VK → Prop := fun xs H Q => ∃ a d, xs = [.ref a] ∧ Dp K H (.ref a) d ∧ d.showable = true ∧ d.canLay0 = true ∧ d.depth ≤ 64 ∧ d.shown.length ≤ sizeLine ∧ Q (.str d.shown) H
theorem cr_repr {X : Cx} (hg : X.A.guards = some []) (hu : X.A.units + 200 < cLine) : CallR X (.builtin "repr") (rRepr X.K) := by
  intro pins s σ H vs us Q I r h
  obtain ⟨a, d, rfl, hd, h1, h2, h3, h4, q⟩ := h
  obtain ⟨u, rfl, ru⟩ := vals1 r
  exact repr_dp I hd ru hg hu h1 h2 h3 h4 (fun _ _ => trivial) ⟨a, rfl⟩ fun u' s' I' r' => ⟨_, H, I', r', q⟩
end GX
namespace Fw
variable [Tabs]
open PySem PySem.Spec L2
def isRef : D → Bool
  | .list _ => true
  | .tuple _ => true
  | _ => false
def bRepr : D1
  | [d], P => isRef d = true ∧ d.showable = true ∧ d.canLay0 = true ∧ d.depth ≤ 64 ∧ d.shown.length ≤ 16777216 ∧ P (.str d.shown)
  | _, _ => False
theorem rc_repr {K : Fg} : RC K (GX.rRepr K) bRepr := rc1 (fun _ q => q) (fun a b l _ q => by cases a <;> exact q) fun {B H v d} e dv P Q q k => by
  obtain ⟨q0, q1, q2, q3, q4, q5⟩ := q
  obtain ⟨a, rfl⟩ : ∃ a, v = .ref a := by
    cases dv with
    | lst _ _ => exact ⟨_, rfl⟩
    | tup _ _ => exact ⟨_, rfl⟩
    | _ => cases q0
  exact ⟨a, d, rfl, e.dp dv, q1, q2, q3, by rw [sz_eq]; exact q4, k _ _ _ _ q5 (Gr.rfl e) (.str _)⟩
section
variable {X : Cx} {K : Fg} {W : WX} {e : Expr} {ta : TA} {ma : DA} {p pos : Pos} {k : Nat} {elts : List Expr} {kk : Nat} {tpos : Pos}
theorem xe_repr (C : Ctx X K W k) (G : X.A.guards = some []) (hm : X.mg "repr" = none) (ha : XA X K W [e] ta ma) (hg : Gl X "repr" := by rfl)
    (he : starEach [e] X.env = (false, eval e X.env) :: starEach [] X.env := by rfl) (hpl : (backTo pos (starEach [] X.env)).any (·.1) = false := by rfl) : XE X K W (.Call (.Name "repr" p) [e] [] pos) (tCB (GX.rRepr K) ta) (dCB bRepr ma) := by
  have hK := C.hK
  subst hK
  exact xe_cb (GX.cr_repr G (by have := C.hr.un; omega)) rc_repr hm (by decide +kernel) ha hg (by decide) (by decide) he hpl
def iET (ma : DA) : DA := fun es P X => ma es (fun ds => match ds with
  | [.tuple xs] => P (xs.mapIdx fun i x => PyData.tuple [.int i, x])
  | _ => False) X
theorem it_enumT {a : Addr} {xs : List V} {ds : List D} {B : Hp} (h : SqT K B a xs) (t : DpAll K B xs ds) : ItOk K (GX.Itet K a) B (ds.mapIdx fun i x => PyData.tuple [.int i, x]) :=
  ⟨fun {B2 H i} e1 e2 l => by
    rw [List.length_mapIdx] at l
    obtain ⟨v, d, q1, q2, q3⟩ := dps_some t l
    refine ⟨⟨xs, v, (e1.trans e2).sqT h, q1⟩, fun x H' y => ?_⟩
    obtain ⟨T, x', rfl, hT, rfl, y⟩ := y
    have z := y xs ((e1.trans e2).sqT h)
    rw [q1] at z
    obtain rfl := Option.some.inj z
    refine ⟨.tuple [.int i, d], upd B2 T (.tup [.int (i : Nat), v]), by rw [List.getElem?_mapIdx, q2]; rfl, Gr.new e2 hT, .tup (SqT.of upd_same) (.cons (.int _) (.cons ((Ex.new (e2.back hT)).dp (e1.dp q3)) .nil))⟩, fun e1 e2 => ⟨xs, (e1.trans e2).sqT h, by rw [List.length_mapIdx, dps_len t]⟩⟩
theorem si_enumT (h : SAr K W ta ma) : SI K W (GX.iEnumT K ta) (iET ma) := ⟨fun s P X R q k kx => h.run s _ X _ q (fun ds vs B' H' p g dvs => by
  cases dvs with
  | nil => exact p.elim
  | cons x t => cases t with
    | cons _ _ => cases x <;> exact p.elim
    | nil => cases x with
      | tup s1 t1 => exact ⟨_, _, rfl, g.bh.sqT s1, k _ _ _ _ p g (it_enumT s1 t1)⟩
      | _ => exact p.elim) kx⟩
theorem xi_enumT {k0 : Nat} (C : Ctx X K W k0) (hm : X.mg "enumerate" = none) (h : XA X K W [e] ta ma) (hg : Gl X "enumerate" := by rfl) (hs : starEach [e] X.env = (false, eval e X.env) :: starEach [] X.env := by rfl) : XI X K W (.Tuple elts kk tpos) (.Call (.Name "enumerate" p) [e] [] pos) (GX.iEnumT K ta) (iET ma) := by
  have hK := C.hK
  subst hK
  exact ⟨GX.pi_enumT hg hm h.1 (hs.trans (by rw [se_nil])), si_enumT h.2⟩
end
end Fw
/-! A law's own def, called at the very top: no guard runs there; the tables of code objects grow. -/
namespace Fw
open PySem PySem.Spec PyProof.Rows L2

/-- as FnOk, where no guard runs -/
structure FnG (P : Program) (w : World) (K : PySem.W.Frag) (mg : Str → Option Value) (base : Heap) (CX : CXT) (k : Nat) (f : Addr) (fd : FuncData) (ps : List Str) (sp : Sp) : Prop where
  len : ∀ vs H Q E, sp vs H Q E → vs.length = ps.length
  run : ∀ (A : Around) (outer : List PySem.Env) (s : Shared) (H : Hp) (args : Args) (us : List Value) (vs : List V) (Q : VK) (E : XK), A.guards = some [] → Room k A → Env0 P w K mg base A outer s H → BindsTo s fd args (ps.zip us) → Vals vs us → sp vs H Q E →
    codeAny (model P w) A (.call (.ref f) args) (CR CX outer P w H s Q E) s
theorem fnG_of {P : Program} {w : World} {K : PySem.W.Frag} {mg : Str → Option Value} {base : Heap} {x qual : Str} {st : Stmt} {f : Addr} {fd : FuncData} {N ps : List Str} {k : Nat} {sp : Sp} (F : Fun K x qual st f fd) (S : FnScope N ps (defScope st)) (len : ∀ vs H Q E, sp vs H Q E → vs.length = ps.length)
    (hbody : ∀ (cdv : Value) (A : Around) (outer : List PySem.Env) (s : Shared) (H : Hp) (vs : List V) (Q : VK) (E : XK), fd.code = cdv → A.guards = some [] → Room k (A.deeper (envOfC qual (defScope st) s.heap.objs.size f cdv)) → sp vs H Q E →
      ∃ t, PSs (cxOf (L2.CX P w) P w K mg base N qual (defScope st) f cdv A outer s H E) (defBody st) t ∧ t { nx := fun _ H' => Q .non H', rt := Q } (L2.start N vs) H) : FnG P w K mg base (L2.CX P w) (k + 1) f fd ps sp := by
  obtain ⟨oc, od, kV, doc, pm, an, cdv, ct, osl, rfl, lk, hcd⟩ := F.ex
  refine ⟨len, fun A outer s H args us vs Q E hgd hr e0 hb r hsp => ?_⟩
  have hl := len _ _ _ _ hsp
  have KX : K.In s.heap := e0.mod.kin.keeps fun b o e => (e0.bs b o e).1
  have lim : s.heap.NoLimit := e0.mod.nolimit.keeps fun b o e => (e0.bs b o e).1
  have kinds : ∀ y ∈ ps.zip us, (defScope st).names.lookup y.1 = some .local ∨ ((defScope st).names.lookup y.1 = some .cell ∧ ((cellsFrom (s.heap.objs.size + 1) (defScope st).names []).lookup y.1).isSome = true) := fun y hy => by
    rcases S.par y.1 (List.of_mem_zip hy).1 with q | q
    · exact .inl q
    · exact .inr ⟨q, PySem.W.cellsFrom_some _ _ _ (.inl q)⟩
  refine codeAny_call_function hr.depth (KX _ _ lk) rfl S.co S.gen rfl (PySem.W.codeRec_of KX hcd) (hb _ _ _ _ (wpAny_newFunctionEnv_cells S.kind kinds fun env he s1 z => ?_))
  subst he
  obtain ⟨t, ht, hq⟩ := hbody cdv A outer s H vs Q E rfl hgd (hr.deeper _) hsp
  refine ⟨lim.keeps z.toInCall.keep, codeAny_func (wpAny_mono (ht.run [] s1 (L2.start N vs) H _ (inv_start S hr.hd e0 hl r z) hq) (fun fl s' hs => ?_) fun e s' hs => hs)⟩
  cases fl with
  | ret u =>
    obtain ⟨v, σ', H', J, rv, q⟩ := hs
    exact ⟨v, H', J.os, J.bare, J.base, J.hok, rv, q⟩
  | next =>
    obtain ⟨σ', H', J, q⟩ := hs
    exact ⟨V.non, H', J.os, J.bare, J.base, J.hok, rfl, q⟩
  | brk => exact False.elim hs.choose_spec.choose_spec.2
  | cont => exact False.elim hs.choose_spec.choose_spec.2

/-- the abstract heap at the law's call: the script, the tables -/
def H0 (a : Addr) (scr : Option HO) (ts : List Addr) : Hp := fun b => if b ∈ ts then some (.tbl #[]) else if b = a then scr else none
theorem law_callG {P : Program} {w : World} {K : PySem.W.Frag} {mg mb : Str → Option Value} {CX : CXT} {k : Nat} {fa a : Addr} {cs : List (Addr × Addr)} {fd : FuncData} {x : Str} {sp : Sp} {s₁ : Shared} {vs : List Value} {ns : List Int}
    (KX : K.In s₁.heap) (hns : s₁.heap.Ns mainGlobals mg) (hb : s₁.heap.Ns builtinsNs mb) (hbb : ∀ x : Str, x ≠ "__name__" → mb x = bootBuiltins x) (hlim : s₁.heap.NoLimit) (hg : s₁.gens = #[])
    (hT : ∀ p ∈ cs, s₁.heap.get? p.2 = some { cls := .none, data := .fields #[] }) (nT : ∀ p ∈ cs, K.lookup p.2 = none) (C : ∀ p ∈ cs, PySem.W.CodeHd s₁.heap p.1 p.2)
    (hbm : ∃ (bm : Addr) (ob : Obj), mg "__builtins__" = some (.ref bm) ∧ bm ≠ builtinsNs ∧ s₁.heap.get? bm = some ob ∧ ob.cls = .type "module" ∧ ob.dict = some builtinsNs ∧ ob.data = .plain)
    (ha : s₁.heap.get? a = some { cls := .type "list", data := .seq vs.toArray }) (hi : IntsAre vs ns) (hl : ns.length ≤ sizeLine) (hr : Room k callerA)
    (F : ∀ base : Heap, K.In base → base.Ns mainGlobals mg → (∀ p ∈ cs, GxR.TabB base mg p.1 p.2) → FnG P w K mg base CX k fa fd [x] sp) (hbind : ∀ (s : Shared) (u : Value), BindsTo s fd ⟨[u], []⟩ [(x, u)])
    (hsp : ∀ H : Hp, (∀ p ∈ cs, GxR.TabG H p.2) → SqL K H a (ns.map V.int) → sp [.ref a] H (fun v _ => v = .bl true) fun _ _ _ => False)
    (hCX : ∀ H e s', CX [] H s₁ (fun _ _ _ => False) e s' → False) :
    codeAny (model P w) callerA (.call (.ref fa) ⟨[.ref a], []⟩) (fun r s' => r = .ok (.ret (.bool true)) ∧ OldK s₁.heap s'.heap ∧ s'.os = s₁.os ∧ AllBare s'.gens) s₁ := by
  have rv := vals_ints hi
  have lenV := hi.length
  have isT : ∀ b : Addr, b ∈ cs.map (·.2) → s₁.heap.get? b = some { cls := .none, data := .fields #[] } := fun b hb => by
    obtain ⟨p, hp, e⟩ := List.mem_map.mp hb
    rw [← e]
    exact hT p hp
  have aT : a ∉ cs.map (·.2) := fun z => by
    have q := isT a z
    rw [ha] at q
    exact nomatch (show Data.seq vs.toArray _ = Data.fields #[] from congrArg Obj.data (Option.some.inj q))
  have memT : ∀ p ∈ cs, p.2 ∈ cs.map (·.2) := fun p hp => List.mem_map.mpr ⟨p, hp, rfl⟩
  have core : ∀ scr : Option HO, (scr = none ∨ ∃ o xs, scr = some (.frz o (.lst xs))) → SqL K (H0 a scr (cs.map (·.2))) a (ns.map V.int) → HOk P w (H0 a scr (cs.map (·.2))) s₁.heap → (scr ≠ none → K.lookup a = none) →
      codeAny (model P w) callerA (.call (.ref fa) ⟨[.ref a], []⟩) (fun r s' => r = .ok (.ret (.bool true)) ∧ OldK s₁.heap s'.heap ∧ s'.os = s₁.os ∧ AllBare s'.gens) s₁ := by
    intro scr hscr hS hok hK
    generalize hH : H0 a scr (cs.map (·.2)) = H at hS hok
    have atT : ∀ b, b ∈ cs.map (·.2) → H b = some (.tbl #[]) := fun b hb => by
      rw [← hH]
      exact if_pos hb
    have atN : ∀ b, b ∉ cs.map (·.2) → b ≠ a → H b = none := fun b h1 h2 => by
      rw [← hH]
      exact (if_neg h1).trans (if_neg h2)
    have atA : H a = scr := by
      rw [← hH]
      exact (if_neg aT).trans (if_pos rfl)
    have free : ∀ {b : Addr} {o : Obj}, s₁.heap.get? b = some o → (∀ vs n, o.data ≠ .seq vs n) → o.data ≠ .fields #[] → H b = none := fun {b o} e h1 h2 => by
      refine atN b (fun hb => ?_) fun hb => ?_
      · rw [isT b hb] at e
        cases e
        exact h2 rfl
      · rw [hb, ha] at e
        cases e
        exact h1 _ _ rfl
    have low : ∀ {b : Addr} {o : Obj}, s₁.heap.get? b = some o → (∀ vs n, o.data ≠ .seq vs n) → o.data ≠ .fields #[] → (hidT s₁.heap H).get? b = some o := fun e h1 h2 => hidT_get e (free e h1 h2)
    have nsK : ∀ {b : Addr} {m : Str → Option Value}, s₁.heap.Ns b m → (hidT s₁.heap H).Ns b m := fun {b m} ⟨o, es, ep, e, d, r⟩ => ⟨o, es, ep, low e (fun vs n z => by rw [d] at z; cases z) (fun z => by rw [d] at z; cases z), d, r⟩
    have hKb : K.In (hidT s₁.heap H) := fun b o e => hidT_get (KX b o e) (by
      by_cases h1 : b ∈ cs.map (·.2)
      · obtain ⟨p, hp, ep⟩ := List.mem_map.mp h1
        rw [← ep, nT p hp] at e
        cases e
      · by_cases h2 : b = a
        · subst h2
          rw [atA]
          cases q : scr with
          | none => rfl
          | some u =>
            rw [hK (by rw [q]; simp)] at e
            cases e
        · exact atN b h1 h2)
    have hM : L2.Mod K mg (hidT s₁.heap H) := ⟨hKb, nsK hns, ⟨mb, nsK hb, hbb⟩, let ⟨mc, h1, h2⟩ := hlim; ⟨mc, nsK h1, h2⟩⟩
    have TB : ∀ p ∈ cs, GxR.TabB (hidT s₁.heap H) mg p.1 p.2 := fun p hp => by
      refine ⟨?_, ?_, fun z => ?_⟩
      · obtain ⟨o, us, file, tf, flags, tg, inF, text, tt, e1, r1, r2, r3, r4⟩ := C p hp
        exact ⟨o, us, file, tf, flags, tg, inF, text, tt, low e1 (fun vs n z => by rw [r2] at z; cases z) (fun z => by rw [r2] at z; cases z; simp at r3), r1, r2, r3, r4⟩
      · obtain ⟨bm, ob, b1, b2, b3, b4, b5, b6⟩ := hbm
        have np : ∀ {q : Data}, ob.data = q → q ≠ .plain → False := fun e n => n (e.symm.trans b6)
        refine ⟨bm, ob, b1, b2, fun q => ?_, fun q => ?_, low b3 (fun vs n z => np z (by simp)) (fun z => np z (by simp)), b4, b5, b6⟩
        · obtain ⟨o, es, ep, e, hd, _⟩ := hns
          rw [q, e] at b3
          cases b3
          exact np hd (by simp)
        · rw [q, hT p hp] at b3
          cases b3
          exact np rfl (by simp)
      · obtain ⟨o, es, ep, e, hd, _⟩ := hns
        rw [z, hT p hp] at e
        cases e
        cases hd
    have e0 : Env0 P w K mg (hidT s₁.heap H) callerA [] s₁ H := ⟨rfl, hM, fun b o e => of_hidT e, Nat.le_of_eq (hidT_size _ _), trivial, fun b hb => absurd (show b ∈ ([] : List Addr) from hb) (by simp), hok, .of_eq hg⟩
    refine codeAny_mono ((F _ hKb (nsK hns) TB).run callerA [] s₁ H ⟨[.ref a], []⟩ [.ref a] [.ref a] _ _ rfl hr e0 (hbind s₁ (.ref a)) (.cons rfl .nil) (hsp H (fun p hp => ⟨#[], atT _ (memT p hp), by trivial⟩) hS)) fun r s' h => ?_
    cases r with
    | error e => exact (hCX H e s' h).elim
    | ok fl =>
      cases fl with
      | next => exact False.elim h
      | brk => exact False.elim h
      | cont => exact False.elim h
      | ret u =>
        obtain ⟨v, H', os, bare, un, hok', r', q⟩ := h
        obtain rfl : v = .bl true := q
        obtain rfl : u = Value.bool true := r'
        have grown : ∀ b, b ∈ cs.map (·.2) → ∃ more : Array Value, s'.heap.get? b = some { cls := .none, data := .fields more } := fun b hb => by
          obtain ⟨more, z⟩ := un.tbls b #[] (atT b hb)
          exact ⟨_, hok' b _ z⟩
        have key : ∀ b o, b ∉ cs.map (·.2) → s₁.heap.get? b = some o → s'.heap.get? b = some o := fun b o nb e => by
          by_cases hba : b = a
          · subst hba
            rcases hscr with z | ⟨ob, xs, z⟩
            · exact un.keep b o e (by rw [atA]; exact z) (fun z => absurd (show b ∈ ([] : List Addr) from z) (by simp)) (by simp)
            · obtain ⟨e1, _⟩ := hok b _ (atA.trans z)
              obtain ⟨e2, _⟩ := hok' b _ (un.frzs b ob _ (atA.trans z))
              rw [e] at e1
              cases e1
              exact e2
          · exact un.keep b o e (atN b nb hba) (fun z => absurd (show b ∈ ([] : List Addr) from z) (by simp)) (by simp)
        refine ⟨rfl, ⟨fun b o e => ?_, fun b o e => ?_⟩, os, bare⟩
        · by_cases hb : b ∈ cs.map (·.2)
          · obtain ⟨p, hp, ep⟩ := List.mem_map.mp hb
            obtain ⟨more, hm⟩ := grown b hb
            rw [isT b hb] at e
            cases e
            subst ep
            exact .inr (.inl ⟨((C p hp).tab (hT p hp)).isCodeTable, rfl, #[], more, rfl, by rw [Array.empty_append]; exact hm⟩)
          · exact .inl (key b o hb e)
        · by_cases hb : b ∈ cs.map (·.2)
          · obtain ⟨more, hm⟩ := grown b hb
            exact ⟨_, hm⟩
          · exact ⟨o, key b o hb e⟩
  have tabs : ∀ (scr : Option HO) (b : Addr) (u : HO), H0 a scr (cs.map (·.2)) b = some u → (b ∈ cs.map (·.2) ∧ u = .tbl #[]) ∨ (b = a ∧ scr = some u) := fun scr b u z => by
    unfold H0 at z
    split at z
    · cases z
      exact .inl ⟨‹_›, rfl⟩
    · split at z
      · exact .inr ⟨‹_›, z⟩
      · cases z
  cases hk : K.lookup a with
  | some o =>
    have e := KX a o hk
    rw [ha] at e
    cases e
    refine core none (.inl rfl) (.inr ⟨_, vs.toArray, _, hk, rfl, rfl, rfl, by rw [List.size_toArray, lenV]; exact hl, by simpa using rv⟩) (fun b u z => ?_) fun z => absurd rfl z
    rcases tabs _ b u z with ⟨hb, rfl⟩ | ⟨_, q⟩
    · exact isT b hb
    · cases q
  | none =>
    refine core (some (.frz { cls := .type "list", data := .seq vs.toArray } (.lst (ns.map V.int)))) (.inr ⟨_, _, rfl⟩) (.inl (.inr ⟨{ cls := .type "list", data := .seq vs.toArray }, (if_neg aT).trans (if_pos rfl)⟩)) (fun b u z => ?_) fun _ => hk
    rcases tabs _ b u z with ⟨hb, rfl⟩ | ⟨rfl, q⟩
    · exact isT b hb
    · cases q
      exact ⟨ha, by rw [List.length_map]; exact hl, vs, _, rv, ha⟩

/-- the end: F is told the top -/
theorem walkG {l : PySem.W.OpenLaw} {n k : Nat} {q : Program} {loose : List Str} {XP : (Str → Option Value) → Heap → Prop} {YP : World → Heap → Prop} {d : DefRec} {K : Params → PySem.W.Frag} {CX : World → CXT} {x : Str}
    (hn : l.most = some n) (hn2 : n ≤ sizeLine) (hdf : d.params.defaults = []) (hr : Room k callerA) (hY : ∀ (w : World) (h : Heap), YP w h → (K w.params).In h)
    (F : ∀ (w : World) (mg : Str → Option Value) (fa : Addr) (h : Heap), (K w.params).In h → h.Ns mainGlobals mg → (∀ (d' : DefRec) (y : Str) (c P : Addr), (recsOf q).find? (fun e => e.name == y) = some d' → PySem.W.tabIn (K w.params) y = some (c, P) → PySem.W.CodeHd h c P ∧ h.get? P = some { cls := .none, data := .fields #[] }) → mg d.name = some (.ref fa) →
      ∃ (fd : FuncData) (cs : List (Addr × Addr)) (sp : Sp), (∀ p ∈ cs, h.get? p.2 = some { cls := .none, data := .fields #[] }) ∧ (∀ p ∈ cs, (K w.params).lookup p.2 = none) ∧ (∀ p ∈ cs, PySem.W.CodeHd h p.1 p.2) ∧ (∀ (s : Shared) (u : Value), BindsTo s fd ⟨[u], []⟩ [(x, u)]) ∧
        (∀ (H : Hp) (a : Addr) (ns : List Int), ns.length ≤ n → (∀ p ∈ cs, GxR.TabG H p.2) → SqL (K w.params) H a (ns.map V.int) → sp [.ref a] H (fun v _ => v = .bl true) fun _ _ _ => False) ∧
        ∀ base : Heap, (K w.params).In base → base.Ns mainGlobals mg → (∀ p ∈ cs, GxR.TabB base mg p.1 p.2) → FnG l.prog w (K w.params) mg base (CX w) k fa fd [x] sp)
    (hCX : ∀ (w : World) (H : Hp) (s : Shared) (e : Value) (s' : Shared), CX w [] H s (fun _ _ _ => False) e s' → False) :
    PySem.W.WalkO q loose XP YP l.row.toRowW d [] (fun f vs => PySem.call f vs) := by
  refine Att.attach_callB hn hdf fun w s₀ s₁ mg mb fa o pm cd doc a vs ns G Y ho hd hcd hmg hobj hints hlen _ hg => ?_
  have KX := hY w _ Y
  obtain ⟨fd, cs, sp, hT, nT, C, hb, hsp, hF⟩ := F w mg fa _ KX G.T.g (fun d' y c P h1 h2 => PySem.W.tab_of G.T KX h1 h2) hmg
  exact law_callG KX G.T.g G.T.b G.T.builtins G.T.nolimit hg hT nT C G.T.bmain hobj hints (Nat.le_trans hlen hn2) hr hF hb (fun H hH hS => hsp H a ns hlen hH hS) fun H e s' => hCX w H s₁ e s'
end Fw
/-! Defs whose code object's table grows: the body is told what its code is. -/
namespace Fw
open PySem PySem.Spec PyProof.Rows L2
theorem okC {P : Program} {w : World} {K : PySem.W.Frag} {mg : Str → Option Value} {base : Heap} {x qual : Str} {st : Stmt} {f : Addr} {fd : FuncData} {N ps : List Str} {k : Nat} {sp : Sp} (F : Fun K x qual st f fd) (S : FnScope N ps (defScope st)) (len : ∀ vs H Q E, sp vs H Q E → vs.length = ps.length)
    (hbody : ∀ (cdv : Value) (A : Around) (outer : List PySem.Env) (s : Shared) (H : Hp) (vs : List V) (Q : VK) (E : XK), fd.code = cdv → Room k (A.deeper (envOfC qual (defScope st) s.heap.objs.size f cdv)) → sp vs H Q E →
      ∃ t, PSs (cxOf (L2.CX P w) P w K mg base N qual (defScope st) f cdv A outer s H E) (defBody st) t ∧ t { nx := fun _ H' => Q .non H', rt := Q } (L2.start N vs) H) : FnOk P w K mg base (L2.CX P w) (k + 1) f fd ps sp := by
  obtain ⟨oc, od, kV, doc, pm, an, cdv, ct, osl, rfl, lk, hcd⟩ := F.ex
  refine ⟨len, fun A outer s H args us vs Q E hr e0 hb r hsp => ?_⟩
  have hl := len _ _ _ _ hsp
  have KX : K.In s.heap := e0.mod.kin.keeps fun b o e => (e0.bs b o e).1
  have lim : s.heap.NoLimit := e0.mod.nolimit.keeps fun b o e => (e0.bs b o e).1
  have kinds : ∀ y ∈ ps.zip us, (defScope st).names.lookup y.1 = some .local ∨ ((defScope st).names.lookup y.1 = some .cell ∧ ((cellsFrom (s.heap.objs.size + 1) (defScope st).names []).lookup y.1).isSome = true) := fun y hy => by
    rcases S.par y.1 (List.of_mem_zip hy).1 with q | q
    · exact .inl q
    · exact .inr ⟨q, PySem.W.cellsFrom_some _ _ _ (.inl q)⟩
  refine codeAny_call_function hr.depth (KX _ _ lk) rfl S.co S.gen rfl (PySem.W.codeRec_of KX hcd) (hb _ _ _ _ (wpAny_newFunctionEnv_cells S.kind kinds fun env he s1 z => ?_))
  subst he
  obtain ⟨t, ht, hq⟩ := hbody cdv A outer s H vs Q E rfl (hr.deeper _) hsp
  refine ⟨lim.keeps z.toInCall.keep, codeAny_func (wpAny_mono (ht.run [] s1 (L2.start N vs) H _ (inv_start S hr.hd e0 hl r z) hq) (fun fl s' hs => ?_) fun e s' hs => hs)⟩
  cases fl with
  | ret u =>
    obtain ⟨v, σ', H', J, rv, q⟩ := hs
    exact ⟨v, H', J.os, J.bare, J.base, J.hok, rv, q⟩
  | next =>
    obtain ⟨σ', H', J, q⟩ := hs
    exact ⟨V.non, H', J.os, J.bare, J.base, J.hok, rfl, q⟩
  | brk => exact False.elim hs.choose_spec.choose_spec.2
  | cont => exact False.elim hs.choose_spec.choose_spec.2

/-- a def of the text stands there -/
structure Md (K : Fg) (mg : Str → Option Value) (x : Str) (st : Stmt) : Prop where
  ex : ∃ f fd, Fun K x x st f fd ∧ mg x = some (.ref f) ∧ PySem.W.keepIn K (.ref f) = true
/-- the table of a code object -/
theorem code_of_tab {K : Fg} {x : Str} {f c P : Addr} {oc : Value} {od : Option Addr} {sl : Array (Option Value)} {fd : FuncData} (a : PySem.W.nsIn K mainGlobals x = some (some (.ref f))) (l : K.lookup f = some ⟨oc, od, .func fd, sl⟩) (t : PySem.W.tabIn K x = some (c, P)) : fd.code = .ref c := by
  unfold PySem.W.tabIn at t
  rw [a] at t
  dsimp only at t
  rw [l] at t
  dsimp only at t
  split at t
  · rename_i c' e
    split at t
    · split at t
      · cases t
        exact e
      · cases t
    · cases t
  · cases t
variable [Tabs]
structure MdG (K : Fg) (mg : Str → Option Value) (base : Heap) (x : Str) (st : Stmt) (P0 : Addr) : Prop where
  ex : ∃ f fd c, Fun K x x st f fd ∧ mg x = some (.ref f) ∧ PySem.W.keepIn K (.ref f) = true ∧ fd.code = .ref c ∧ GxR.TabB base mg c P0
  mem : P0 ∈ Tabs.tb
section
variable {P : Program} {w : World} {K : Fg} {mg : Str → Option Value} {base : Heap} {N ps : List Str} {x qual : Str} {st : Stmt} {f : Addr} {fd : FuncData} {k : Nat} {p : Spc} {P0 c : Addr}
theorem tab_body (m : P0 ∈ Tabs.tb) (e : fd.code = .ref c) (t : GxR.TabB base mg c P0) {cdv : Value} (e2 : fd.code = cdv) {A : Around} {outer : List PySem.Env} {s : Shared} {H : Hp} {E : XK} : Tab (bodyX P w K mg base N qual st f cdv A outer s H E) P0 :=
  ⟨m, c, t, e2.symm.trans e⟩
theorem fn_DC {ms : DS} (F : Fun K x qual st f fd) (S : FnScope N ps (defScope st)) (len : ∀ ds P X, p ds P X → ds.length = ps.length)
    (hb : ∀ (cdv : Value) (A : Around) (outer : List PySem.Env) (s : Shared) (H : Hp) (E : XK), fd.code = cdv → Ctx (bodyX P w K mg base N qual st f cdv A outer s H E) K (WD E) k → ∃ ts, XB (bodyX P w K mg base N qual st f cdv A outer s H E) K (WD E) (defBody st) ts ms)
    (vc : ∀ ds Q X, p ds Q X → ms { nx := fun _ => Q .none, rt := Q, xx := fun x _ => X x } (startE N ds)) : FnOk P w K mg base (L2.CX P w) (k + 1) f fd ps (spD K p) := by
  refine okC F S (fun vs H Q E h => ?_) (fun cdv A outer s H vs Q E ec hr h => ?_)
  · obtain ⟨B, ds, P', X, _, hd, _, hp, _⟩ := h
    rw [dps_len hd]
    exact len _ _ _ hp
  · obtain ⟨B, ds, P', X, e, hd, hs, hp, k1, k2⟩ := h
    obtain ⟨ts, b1, b2⟩ := hb cdv A outer s H E ec (ctx_of S hr)
    refine ⟨ts, b1, b2.run (sim_start e hd hs) _ _ (vc ds P' X hp) (fun σ' es' B' H' q s' _ => ?_) (fun σ' es' d v B' H' q s' dv => ?_) (fun _ _ _ _ q _ _ => q.elim) (fun _ _ _ _ q _ _ => q.elim) fun x cls dd σ' es' B' H' hx s' _ r => ?_⟩
    · exact k1 _ _ _ _ q s'.gs .non
    · exact k1 _ _ _ _ q s'.gs dv
    · exact k2 _ _ _ _ _ hx s'.gs r
theorem fn_SC {ms : DS} (F : Fun K x qual st f fd) (S : FnScope N ps (defScope st)) (len : ∀ ds P X, p ds P X → ds.length + 1 = ps.length)
    (hb : ∀ (cdv : Value) (A : Around) (outer : List PySem.Env) (s : Shared) (H : Hp) (E : XK), fd.code = cdv → Ctx (bodyX P w K mg base N qual st f cdv A outer s H E) K (WD E) k → ∃ ts, XB (bodyX P w K mg base N qual st f cdv A outer s H E) K (WD E) (defBody st) ts ms)
    (vc : ∀ ds Q X, p ds Q X → ms { nx := fun _ => Q .none, rt := Q, xx := fun x _ => X x } (startS N ds)) : FnOk P w K mg base (L2.CX P w) (k + 1) f fd ps (spS K p) := by
  refine okC F S (fun vs H Q E h => ?_) (fun cdv A outer s H vs Q E ec hr h => ?_)
  · obtain ⟨B, q, g, vr, ds, P', X, rfl, _, hd, _, hp, _⟩ := h
    rw [List.length_cons, dps_len hd]
    exact len _ _ _ hp
  · obtain ⟨B, q, g, vr, ds, P', X, rfl, e, hd, sf, hp, k1, k2⟩ := h
    obtain ⟨ts, b1, b2⟩ := hb cdv A outer s H E ec (ctx_of S hr)
    refine ⟨ts, b1, b2.run (sim_startS e hd sf) _ _ (vc ds P' X hp) (fun σ' es' B' H' q s' _ => ?_) (fun σ' es' d v B' H' q s' dv => ?_) (fun _ _ _ _ q _ _ => q.elim) (fun _ _ _ _ q _ _ => q.elim) fun x cls dd σ' es' B' H' hx s' _ r => ?_⟩
    · exact k1 _ _ _ _ q s'.gs .non
    · exact k1 _ _ _ _ q s'.gs dv
    · exact k2 _ _ _ _ _ hx s'.gs r
end
end Fw
/-! Three names set together, the first one perhaps to a new list; a tuple many times. -/
namespace Fw
variable [Tabs]
open PySem PySem.Spec L2
def dPar3 (i j l : Nat) (ma : DA) : DS := fun E es => ma es (fun ds => match ds with
  | [a, b, c] => E.nx (((es.set i (.p a)).set j (.p b)).set l (.p c))
  | _ => False) (fun x => E.xx x es)
def dPar3O (i j l : Nat) (mn ma : DA) : DS := fun E es => mn es (fun xs => ma es (fun ds => match ds with
  | [b, c] => i < es.length ∧ E.nx (((es.set i (.o xs)).set j (.p b)).set l (.p c))
  | _ => False) (fun x => E.xx x es)) (fun x => E.xx x es)
def dParO (i j : Nat) (mn ma : DA) : DS := fun E es => mn es (fun xs => ma es (fun ds => match ds with
  | [b] => i < es.length ∧ E.nx ((es.set i (.o xs)).set j (.p b))
  | _ => False) (fun x => E.xx x es)) (fun x => E.xx x es)
section
variable {K : Fg} {W : WX} {te : TE} {ta : TA} {ma mn : DA}
theorem ss_par3 {i j l : Nat} (h : SAr K W ta ma) : SS K W (tPar3 i j l ta) (dPar3 i j l ma) := ⟨fun s E Z q kn _ _ _ kx => h.run s _ _ _ q (fun ds vs B' H' p g dvs => by
  cases dvs with
  | nil => exact p.elim
  | cons a r => cases r with
    | nil => exact p.elim
    | cons b r => cases r with
      | nil => exact p.elim
      | cons c r => cases r with
        | nil => exact ⟨_, _, _, rfl, kn _ _ _ _ p ((((s.step g).setP a i).setP b j).setP c l) g.bb⟩
        | cons _ _ => exact p.elim) fun x cls dd B' H' hx g r => kx _ _ _ _ _ _ _ hx (s.step g) g.bb r⟩
theorem Sim.take {S : SA} {B0 H0 B H B1 H1 B' H' : Hp} {σ : L2.St} {es : En} (s : Sim K S B0 H0 σ es B H) (g1 : GrS S B H B1 H1) (g2 : GrS S B1 H1 B' H') {p : Addr} {xs : List V} {ds : List D} (hn : H p = none) (hb : B1 p = none) (hh : H1 p = some (.lst xs)) (dp : DpAll K B1 xs ds) {i : Nat} (hi : i < es.length) :
    Sim K S B0 H0 (σ.set i (some (.ref p))) (es.set i (.o ds)) B' H' := by
  have g := g1.trans g2
  have s1 := s.step g
  have h0 : H0 p = none := by
    cases e : H0 p with
    | none => rfl
    | some o => exact absurd hn (s.gs.ex (by rw [e]; exact fun z => nomatch z))
  have nS : ¬ S.has p := fun z => SprO.get s.gs.sp z hn
  have hb' : B' p = none := (g2.ne p (by rw [hh]; exact fun z => nomatch z)).trans hb
  refine s1.setO h0 hb' (g2.hh p _ hh nS) (g2.bb.dps dp) (fun _ _ _ => ?_) i hi
  obtain ⟨fp, e, n, f⟩ := s.env
  have na : p ∉ fp := fun z => e.live p z hn
  refine ⟨fp, e.mono g.bb fun a z => ?_, n, na, fun a z => ⟨(g.ne a (e.live a z)).trans (f a z).1, (f a z).2⟩⟩
  cases c : H a with
  | none => exact absurd c (e.live a z)
  | some o => exact g.hh a o c fun w => s.s0 a w (f a z).2
theorem ss_par3O {i j l : Nat} (hN : SN K W te mn) (h : SAr K W ta ma) : SS K W (tPar3 i j l (tCons te ta)) (dPar3O i j l mn ma) := ⟨fun s E Z q kn _ _ _ kx => hN.run s _ _ _ q (fun xs p ys B1 H1 p1 g1 hn hb hh dx => h.run (s.step g1) _ _ _ p1 (fun ds vs B' H' p2 g2 dvs => by
  cases dvs with
  | nil => exact p2.elim
  | cons a r => cases r with
    | nil => exact p2.elim
    | cons b r => cases r with
      | nil => exact ⟨_, _, _, rfl, kn _ _ _ _ p2.2 (((s.take g1 g2 hn hb hh dx p2.1).setP a j).setP b l) (g1.trans g2).bb⟩
      | cons _ _ => exact p2.elim) fun x cls dd B' H' hx g r => kx _ _ _ _ _ _ _ hx (s.step (g1.trans g)) (g1.trans g).bb r) fun x cls dd B' H' hx g r => kx _ _ _ _ _ _ _ hx (s.step g) g.bb r⟩
theorem ss_parO {i j : Nat} (hN : SN K W te mn) (h : SAr K W ta ma) : SS K W (tPar i j (tCons te ta)) (dParO i j mn ma) := ⟨fun s E Z q kn _ _ _ kx => hN.run s _ _ _ q (fun xs p ys B1 H1 p1 g1 hn hb hh dx => h.run (s.step g1) _ _ _ p1 (fun ds vs B' H' p2 g2 dvs => by
  cases dvs with
  | nil => exact p2.elim
  | cons a r => cases r with
    | nil => exact ⟨_, _, rfl, kn _ _ _ _ p2.2 ((s.take g1 g2 hn hb hh dx p2.1).setP a j) (g1.trans g2).bb⟩
    | cons _ _ => exact p2.elim) fun x cls dd B' H' hx g r => kx _ _ _ _ _ _ _ hx (s.step (g1.trans g)) (g1.trans g).bb r) fun x cls dd B' H' hx g r => kx _ _ _ _ _ _ _ hx (s.step g) g.bb r⟩
variable {X : Cx} {a b c : Expr}
theorem xs_par3 (i j l : Nat) {st : Stmt} (h : XA X K W [a, b, c] ta ma) (hp : PA X [a, b, c] ta → PS X st (tPar3 i j l ta)) : XS X K W st (tPar3 i j l ta) (dPar3 i j l ma) := ⟨hp h.1, ss_par3 h.2⟩
theorem xs_par3O (i j l : Nat) {st : Stmt} (hn : XN X K W a te mn) (h : XA X K W [b, c] ta ma) (hs : starEach [a, b, c] X.env = (false, eval a X.env) :: starEach [b, c] X.env) (hp : PA X [a, b, c] (tCons te ta) → PS X st (tPar3 i j l (tCons te ta))) : XS X K W st (tPar3 i j l (tCons te ta)) (dPar3O i j l mn ma) := ⟨hp (pa_cons hn.1 h.1 hs), ss_par3O hn.2 h.2⟩
theorem xs_parO (i j : Nat) {st : Stmt} (hn : XN X K W a te mn) (h : XA X K W [b] ta ma) (hs : starEach [a, b] X.env = (false, eval a X.env) :: starEach [b] X.env) (hp : PA X [a, b] (tCons te ta) → PS X st (tPar i j (tCons te ta))) : XS X K W st (tPar i j (tCons te ta)) (dParO i j mn ma) := ⟨hp (pa_cons hn.1 h.1 hs), ss_parO hn.2 h.2⟩
/-! ### a tuple many times -/
def dRepT : D2
  | .tuple xs, .int k, P => xs ≠ [] ∧ 2 ≤ k ∧ k ≤ 1000 ∧ xs.length ≤ 1000 ∧ P (.tuple (List.replicate k.toNat xs).flatten)
  | _, _, _ => False
theorem rs_repT : RS K (rRepT K) dRepT := ⟨fun {B H x y dx dy} e h1 h2 P Q q k => by
  cases h2 <;> cases h1 <;> try exact q.elim
  rename_i n a xs ds hs hd
  obtain ⟨q1, q2, q3, q4, q⟩ := q
  refine ⟨_, _, xs, rfl, rfl, e.sqT hs, fun z => q1 (by cases z; cases hd; rfl), q2, q3, by rw [dps_len hd]; exact q4, fun p hp => ?_⟩
  exact k _ _ _ _ q (Gr.new e hp) (.tup (SqT.of upd_same) ((Ex.new (e.back hp)).dps (dps_rep hd _)))⟩
theorem xe_repT {k0 : Nat} {tb : TE} {me mb : DE} {pos : Pos} (C : Ctx X K W k0) (ha : XE X K W a te me) (hb : XE X K W b tb mb) : XE X K W (.BinOp a .Mult b pos) (tOp (rRepT K) te tb) (dOp dRepT me mb) := by
  have hK := C.hK
  subst hK
  exact xe_op op_repT rs_repT ha hb
end
section
variable {X : Cx} {K : Fg} {W : WX} {k : Nat} {elt tg iter : Expr} {cnd : Expr} {scope : Scope} {own : List (Str × Nat)} {pos spos py : Pos} {wi : TI} {mi : DA} {g : TG} {mg : DG} {vs0 : List Nat} {tt : TT} {mt : DT} {te : TE} {me : DE} {y : Str}
theorem xn_lc1 {vs : List Nat} (C : Ctx X K W k) (hi : XI X K W tg iter wi mi) (ok : BlkOk X.N X.env.scope scope own)
    (hg : ∀ (s : Shared) (H : Hp) (c : Addr) (cl : List (Str × Addr)) (fp : List Addr), Ctx (X.blk s H scope (compEnvC scope cl c X.env) fp) K WF k → XG (X.blk s H scope (compEnvC scope cl c X.env) fp) K tg g mg vs0) (ht : ∀ (s : Shared) (H : Hp) (c : Addr) (cl : List (Str × Addr)) (fp : List Addr), Ctx (X.blk s H scope (compEnvC scope cl c X.env) fp) K WF k → XT (X.blk s H scope (compEnvC scope cl c X.env) fp) K WF cnd tt mt)
    (he : ∀ (s : Shared) (H : Hp) (c : Addr) (cl : List (Str × Addr)) (fp : List Addr), Ctx (X.blk s H scope (compEnvC scope cl c X.env) fp) K WF k → XE (X.blk s H scope (compEnvC scope cl c X.env) fp) K WF elt te me) (hvs : own.map (·.2) = vs) (hv : vs0 ⊆ vs) (hs : ∀ x, foldedSetIterable iter X.env x = pure x) :
    XN X K W (.ListComp elt [⟨tg, iter, [cnd], 0⟩] scope pos) (tLc wi g tt te vs) (dLc mi mg mt me vs) := by
  exact xn_lc C hi ok hg (fun s H c cl fp C => xts_one (ht s H c cl fp C)) he hvs hv hs
theorem xs_lcO1 {vs : List Nat} (C : Ctx X K W k) (i : Nat) (hy : X.N[i]? = some y) (hyl : X.env.scope.names.lookup y = some .local) (hsw : swapsWith (.ListComp elt [⟨tg, iter, [cnd], 0⟩] scope pos) (some (.Name y py)) spos.line X.env = pure true) (hi : XI X K W tg iter wi mi) (ok : BlkOk X.N X.env.scope scope own)
    (hg : ∀ (s : Shared) (H : Hp) (c : Addr) (cl : List (Str × Addr)) (fp : List Addr), Ctx (X.blk s H scope (compEnvC scope cl c X.env) fp) K WF k → XG (X.blk s H scope (compEnvC scope cl c X.env) fp) K tg g mg vs0) (ht : ∀ (s : Shared) (H : Hp) (c : Addr) (cl : List (Str × Addr)) (fp : List Addr), Ctx (X.blk s H scope (compEnvC scope cl c X.env) fp) K WF k → XT (X.blk s H scope (compEnvC scope cl c X.env) fp) K WF cnd tt mt)
    (he : ∀ (s : Shared) (H : Hp) (c : Addr) (cl : List (Str × Addr)) (fp : List Addr), Ctx (X.blk s H scope (compEnvC scope cl c X.env) fp) K WF k → XE (X.blk s H scope (compEnvC scope cl c X.env) fp) K WF elt te me) (hvs : own.map (·.2) = vs) (hv : vs0 ⊆ vs) (hs : ∀ x, foldedSetIterable iter X.env x = pure x) :
    XS X K W (.Assign [.Name y py] (.ListComp elt [⟨tg, iter, [cnd], 0⟩] scope pos) spos) (tAsg (tLc wi g tt te vs) (gName i)) (dAsgO i (dLc mi mg mt me vs)) := by
  exact xs_lcO C i hy hyl hsw hi ok hg (fun s H c cl fp C => xts_one (ht s H c cl fp C)) he hvs hv hs
theorem xs_lc1 {vs : List Nat} (C : Ctx X K W k) (i : Nat) (hy : X.N[i]? = some y) (hyl : X.env.scope.names.lookup y = some .local) (hsw : swapsWith (.ListComp elt [⟨tg, iter, [cnd], 0⟩] scope pos) (some (.Name y py)) spos.line X.env = pure true) (hi : XI X K W tg iter wi mi) (ok : BlkOk X.N X.env.scope scope own)
    (hg : ∀ (s : Shared) (H : Hp) (c : Addr) (cl : List (Str × Addr)) (fp : List Addr), Ctx (X.blk s H scope (compEnvC scope cl c X.env) fp) K WF k → XG (X.blk s H scope (compEnvC scope cl c X.env) fp) K tg g mg vs0) (ht : ∀ (s : Shared) (H : Hp) (c : Addr) (cl : List (Str × Addr)) (fp : List Addr), Ctx (X.blk s H scope (compEnvC scope cl c X.env) fp) K WF k → XT (X.blk s H scope (compEnvC scope cl c X.env) fp) K WF cnd tt mt)
    (he : ∀ (s : Shared) (H : Hp) (c : Addr) (cl : List (Str × Addr)) (fp : List Addr), Ctx (X.blk s H scope (compEnvC scope cl c X.env) fp) K WF k → XE (X.blk s H scope (compEnvC scope cl c X.env) fp) K WF elt te me) (hvs : own.map (·.2) = vs) (hv : vs0 ⊆ vs) (hs : ∀ x, foldedSetIterable iter X.env x = pure x) :
    XS X K W (.Assign [.Name y py] (.ListComp elt [⟨tg, iter, [cnd], 0⟩] scope pos) spos) (tAsg (tLc wi g tt te vs) (gName i)) (dAsg (dNew (dLc mi mg mt me vs)) (gP i)) := by
  exact xs_lc C i hy hyl hsw hi ok hg (fun s H c cl fp C => xts_one (ht s H c cl fp C)) he hvs hv hs
end
theorem xe_varC {X : Cx} {K : Fg} {W : WX} {k0 : Nat} {pos : Pos} (_C : Ctx X K W k0) (i : Nat) {x : Str} (hN : X.N[i]? = some x := by rfl) (hv : Vis X.env.scope x := by first | exact Or.inl rfl | exact Or.inr (Or.inl rfl) | exact Or.inr (Or.inr rfl)) (hd : (x == ("__debug__" : Str)) = false := by decide)
    (hcd : (x == ("__classdict__" : Str)) = false := by decide) : XE X K W (.Name x pos) (tVar i) (dVar i) := xe_var i hN hv hd hcd
end Fw
/-! A tuple from its end to its begin; a tuple made of a list of a slot's own. -/
namespace GX
open PySem PySem.Spec PyProof.Rows L2 HT
section
variable {prog : Program} {w : World} {A : Around} {E : Value → Shared → Prop} {s : Shared}
theorem adjust_back (n : Nat) : Builtin.Slice.sliceAdjust none none (-1) (n : Int) = ((n : Int) - 1, -1) := by
  unfold Builtin.Slice.sliceAdjust
  simp
theorem places_back (n : Nat) : Builtin.Slice.slicePlaces ((n : Int) - 1) (-1) (-1) = n := by
  unfold Builtin.Slice.slicePlaces
  have h1 : ¬ ((-1 : Int) > 0) := by omega
  have h2 : -(-1 : Int) = 1 := rfl
  simp only [h1, if_false]
  rw [h2, Int.ediv_one]
  split <;> omega
theorem fm_map {α β : Type} {g : α → Option β} {f : α → β} : ∀ l : List α, (∀ m ∈ l, g m = some (f m)) → l.filterMap g = l.map f
  | [], _ => rfl
  | x :: r, h => by
    rw [List.filterMap_cons, h x List.mem_cons_self, List.map_cons, fm_map r fun m hm => h m (List.mem_cons_of_mem _ hm)]
theorem pick_back (xs : Array Value) : ((List.range xs.size).filterMap fun (m : Nat) => xs[(((xs.size : Int) - 1) + (m : Int) * (-1)).toNat]?).toArray = xs.toList.reverse.toArray := by
  congr 1
  rw [fm_map (f := fun m => xs.toList.reverse[m]?.getD .none) _ fun m hm => ?_]
  · apply List.ext_getElem
    · simp
    · intro i h1 h2
      simp at h1 h2
      simp [h1]
  · have hm : m < xs.size := List.mem_range.mp hm
    have e1 : (((xs.size : Int) - 1) + (m : Int) * (-1)).toNat = xs.size - 1 - m := by omega
    rw [e1, List.getElem?_reverse (by simpa using hm), Array.length_toList, Array.getElem?_toList]
    have e2 : xs.size - 1 - m < xs.size := by omega
    rw [Array.getElem?_eq_getElem e2]
    rfl
theorem sliceApplied_back {sl : Addr} {vs : Value} {n : Nat} {Q : Int × Int × Nat → Shared → Prop} (hs : s.heap.IsSliceOf sl .none .none vs) (ps : IsPart vs (some (-1)))
    (h : Q ((n : Int) - 1, -1, n) s) : wpAny (model prog w) A (Builtin.Slice.sliceApplied (.ref sl) (pure (n : Int))) Q E s := by
  obtain ⟨os, hos, hcs, hds⟩ := id hs
  unfold Builtin.Slice.sliceApplied Builtin.Slice.sliceFields
  refine wpAny_bind (wpAny_bind (wpAny_field hos hds (x := .none) rfl (wpAny_bind (wpAny_field hos hds (x := .none) rfl (wpAny_bind (wpAny_field hos hds (x := vs) rfl (wpAny_pure ?_)))))))
  refine wpAny_bind (slicePart_ ps ?_)
  show wpAny _ _ (if ((-1 : Int) == 0) = true then _ else _) _ _ s
  rw [if_neg (by decide)]
  refine wpAny_bind (slicePart_none (wpAny_bind (slicePart_none (wpAny_bind (wpAny_pure ?_)))))
  show wpAny _ _ (match Builtin.Slice.sliceAdjust none none (-1) (n : Int) with | (lo, hi) => pure (lo, (-1 : Int), Builtin.Slice.slicePlaces lo hi (-1))) _ _ s
  rw [adjust_back n]
  show wpAny _ _ (pure ((n : Int) - 1, (-1 : Int), Builtin.Slice.slicePlaces ((n : Int) - 1) (-1) (-1))) _ _ s
  rw [places_back]
  exact wpAny_pure h
theorem getItem_tuple_back {t sl : Addr} {items : Array Value} {vs : Value} {Q : Value → Shared → Prop} (ht : IsTup s.heap t items) (hs : s.heap.IsSliceOf sl .none .none vs) (ps : IsPart vs (some (-1)))
    (h : Q (.ref s.heap.objs.size) { s with heap := s.heap.push { cls := .type "tuple", data := .seq items.toList.reverse.toArray } })
    (hsz : items.size ≤ sizeLine) : wpAny (model prog w) A (getItem (.ref t) (.ref sl)) Q E s := by
  have htake : sizeOk (.seq items.toList.reverse.toArray) := by
    show items.toList.reverse.toArray.size ≤ sizeLine
    rw [List.size_toArray, List.length_reverse, Array.length_toList]
    exact hsz
  obtain ⟨os, hos, hcs, hds⟩ := id hs
  have hTs : s.TypeIs (.ref sl) "slice" := ⟨os, hos, hcs⟩
  unfold getItem
  try with_reducible refine wpAny_holding ?_
  first | refine wpAny_bind (wpAny_pure ?_) | skip
  refine wpAny_bind (wpAny_sequenceKey ht.typeIs (by decide) ?_)
  refine wpAny_bind (wpAny_callSpecial?_slot (name := Str.ofString "__getitem__") ht.typeIs PyProof.Rows.slot_tuple_getitem
    (wpAny_call_entry PyProof.Rows.slot_tuple_getitem ht.typeIs entry_tuple_getitem ?_ (args_tuple_getitem _ _)))
  show wpAny _ _ (Builtin.Tuple.tupleItemsOf (.ref t) >>= _) _ _ s
  refine wpAny_bind (tupleItemsOf_ ht ?_)
  refine wpAny_bind (wpAny_typeOf hTs ?_)
  rw [if_pos (by decide)]
  refine wpAny_bind (sliceApplied_back hs ps ?_)
  have hno : ¬ ((((items.size : Int) - 1) == 0 && (-1 : Int) == 1 && items.size == items.size) = true) := by simp
  show wpAny _ _ (if (((items.size : Int) - 1) == 0 && (-1 : Int) == 1 && items.size == items.size) = true then _ else _) _ _ s
  rw [if_neg hno, pick_back]
  first
    | exact wpAny_bind (m := Builtin.Tuple.tupleExact _) (wpAny_newObj_type (wpAny_pure ⟨_, rfl, wpAny_pure h⟩) htake)
    | exact wpAny_bind (m := Builtin.Tuple.tupleExact _) (wpAny_newObj_type (wpAny_bind (wpAny_pure (wpAny_pure ⟨_, rfl, wpAny_pure h⟩))) htake)
    | exact wpAny_bind (wpAny_bind (m := Builtin.Tuple.tupleExact _) (wpAny_newObj_type (wpAny_pure (wpAny_pure ⟨_, rfl, wpAny_pure h⟩)) htake))
    | exact wpAny_bind (wpAny_bind (m := Builtin.Tuple.tupleExact _) (wpAny_newObj_type (wpAny_pure ⟨_, rfl, wpAny_pure h⟩) htake))
end
def tRevA (K : PySem.W.Frag) (te : TE) : TE := fun σ H Q => te σ H fun x H1 => ∃ a xs, x = .ref a ∧ ((SqL K H1 a xs ∧ ∀ p, H1 p = none → Q (.ref p) (upd H1 p (.lst xs.reverse))) ∨ (SqT K H1 a xs ∧ ∀ p, H1 p = none → Q (.ref p) (upd H1 p (.tup xs.reverse))))
theorem pe_revA {X : Cx} {e : Expr} {te : TE} {k : Nat} {p1 p2 p3 pos : Pos} (he : PE X e te) : PE X (.Subscript e (.Slice none none (some (.UnaryOp .USub (.Constant (.int 1) k p1) p2)) p3) pos) (tRevA X.K te) := by
  refine ⟨fun pins s σ H Q I h => ?_⟩
  refine Subscript_ (thn (he.run pins s σ H _ I h) fun v s1 ⟨x, H1, I1, r1, q1⟩ => ?_)
  obtain ⟨a, xs, ex, q⟩ := q1
  subst ex
  cases r1
  have hst : PO X (some (.UnaryOp .USub (.Constant (.int 1) k p1) p2)) (tPart (tUn (rU fun i => .int (-i)) (tC (.int 1)))) := po_some (pe_un un_neg pe_int)
  refine wpAny_Slice (thn (po_none.run pins s1 σ H1 (fun o H2 => o = none ∧ H2 = H1) I1 ⟨rfl, rfl⟩) fun vl s2 ⟨l, H2, I2, pl, el, e2⟩ => ?_)
  subst el e2
  refine thn (po_none.run pins s2 σ H2 (fun o H3 => o = none ∧ H3 = H2) I2 ⟨rfl, rfl⟩) fun vu s3 ⟨u, H3, I3, pu, eu, e3⟩ => ?_
  subst eu e3
  refine thn (hst.run pins s3 σ H3 (fun o H4 => o = some (-1) ∧ H4 = H3) I3 ⟨1, rfl, -1, rfl, rfl, rfl⟩) fun vs s4 ⟨o, H4, I4, ps, eo, e4⟩ => ?_
  subst eo e4
  have I5 : Inv X pins σ H4 { s4 with heap := s4.heap.push { cls := .type "slice", data := .fields #[vl, vu, vs] } } := I4.kept (t' := s4.toks) fun b ob q => Heap.get?_push_of_some _ q
  show wpAny (model X.prog X.w) X.A (subscriptTail e (.Slice none none (some (.UnaryOp .USub (.Constant (.int 1) k p1) p2)) p3) (.ref a) (.ref s4.heap.objs.size)) (EP X pins σ Q) X.xe { s4 with heap := s4.heap.push { cls := .type "slice", data := .fields #[vl, vu, vs] } }
  rcases q with ⟨hx, q⟩ | ⟨hx, q⟩
  · obtain ⟨its, r, ht, hz⟩ := I5.list hx
    have hlen := r.length
    refine tail_any (ops := [.ref a, .ref s4.heap.objs.size]) ht.isList.typeIs (PySem.slot_list_getitem.lookup) ?_ (by with_unfolding_all rfl)
    refine wpAny_getItem_list_slice ht.isList (Heap.IsSliceOf.new _ vl vu vs) pl pu ps (by decide) ?_ (by rw [List.size_toArray]; omega)
    rw [PySem.W.krv_pick]
    refine ⟨.ref _, _, I5.laid (t' := s4.toks) (o := .lst xs.reverse) (fun b ob q => Heap.get?_push_of_some _ q) (Nat.le_refl _) ?_, rfl, q _ (I5.hok.fresh (Nat.le_refl _))⟩
    exact ⟨by rw [List.length_reverse]; exact hz, _, 0, r.reverse, Heap.get?_push_size _ rfl⟩
  · cases pl
    cases pu
    obtain ⟨its, r, ht, hz⟩ := I5.tuple hx
    have hlen := r.length
    refine tail_any (ops := [.ref a, .ref s4.heap.objs.size]) ht.typeIs (PyProof.Rows.slot_tuple_getitem.lookup) ?_ (by with_unfolding_all rfl)
    refine getItem_tuple_back ht (Heap.IsSliceOf.new _ .none .none vs) ps ?_ (by rw [List.size_toArray]; omega)
    refine ⟨.ref _, _, I5.laid (t' := s4.toks) (o := .tup xs.reverse) (fun b ob q => Heap.get?_push_of_some _ q) (Nat.le_refl _) ?_, rfl, q _ (I5.hok.fresh (Nat.le_refl _))⟩
    exact ⟨by rw [List.length_reverse]; exact hz, _, r.reverse, IsTup.new _ _⟩
end GX
namespace Fw
variable [Tabs]
open PySem PySem.Spec L2
section
variable {X : Cx} {K : Fg} {W : WX} {a : Expr} {ta : TE} {ma : DE} {pos : Pos}
/-- xs[::-1] of a list, a tuple -/
def dBackA (me : DE) : DE := fun es P X => me es (fun d => match d with
  | .list ds => P (.list ds.reverse)
  | .tuple ds => P (.tuple ds.reverse)
  | _ => False) X
theorem xe_backA {k : Nat} {p1 p2 p3 : Pos} {k0 : Nat} (C : Ctx X K W k0) (ha : XE X K W a ta ma) : XE X K W (.Subscript a (.Slice none none (some (.UnaryOp .USub (.Constant (.int 1) k p1) p2)) p3) pos) (GX.tRevA K ta) (dBackA ma) := by
  have hK := C.hK
  subst hK
  exact ⟨GX.pe_revA ha.1, ⟨fun s P Y Q q k kx => ha.2.run s _ _ _ q (fun d v B1 H1 p1 g d1 => by
    cases d1 <;> try exact p1.elim
    · rename_i s1 t1
      exact ⟨_, _, rfl, .inl ⟨g.bh.sqL s1, fun l hl => k _ _ _ _ p1 (g.trans ((s.step g).gr (Gr.new g.bh hl))) (.lst (SqL.of upd_same) ((Ex.new (g.bh.back hl)).dps (dps_rev t1)))⟩⟩
    · rename_i s1 t1
      exact ⟨_, _, rfl, .inr ⟨g.bh.sqT s1, fun l hl => k _ _ _ _ p1 (g.trans ((s.step g).gr (Gr.new g.bh hl))) (.tup (SqT.of upd_same) ((Ex.new (g.bh.back hl)).dps (dps_rev t1)))⟩⟩) kx⟩⟩
/-- tuple(ys) of a slot's own list -/
def dTupO (i : Nat) : DE := fun es P X => ∃ ds, es[i]? = some (.o ds) ∧ P (.tuple ds)
theorem xe_tupO {k0 : Nat} {y : Str} {p pb : Pos} (C : Ctx X K W k0) (i : Nat) (hm : X.mg "tuple" = none) (hN : X.N[i]? = some y := by rfl) (hv : Vis X.env.scope y := by first | exact Or.inl rfl | exact Or.inr (Or.inl rfl) | exact Or.inr (Or.inr rfl)) (hd : (y == ("__debug__" : Str)) = false := by decide)
    (hcd : (y == ("__classdict__" : Str)) = false := by decide) (hg : Gl X "tuple" := by rfl)
    (he : starEach [Expr.Name y pb] X.env = (false, eval (Expr.Name y pb) X.env) :: starEach [] X.env := by rfl) (hpl : (backTo pos (starEach [] X.env)).any (·.1) = false := by rfl) :
    XE X K W (.Call (.Name "tuple" p) [.Name y pb] [] pos) (tCB (fun xs H Q => ∃ p ys, xs = [.ref p] ∧ ((SqL K H p ys ∧ ∀ l, H l = none → Q (.ref l) (upd H l (.tup ys))) ∨ (SqT K H p ys ∧ Q (.ref p) H))) (tCons (tVar i) tNil)) (dTupO i) :=
  ⟨(xe_tupleC C hm (xa_cons (xe_var i hN hv hd hcd) xa_nil he) hg he hpl).1, ⟨fun {S B0 H0 B H σ es} s P Y Q q k kx => by
    obtain ⟨ds, e, p⟩ := q
    obtain ⟨b, xs, h1, h2, h3⟩ := s.getO e
    exact ⟨_, h1, b, xs, rfl, .inl ⟨SqL.of h2, fun l hl => k _ _ _ _ p (s.gr (Gr.new s.bh hl)) (.tup (SqT.of upd_same) ((Ex.new (s.bh.back hl)).dps h3))⟩⟩⟩⟩
end
end Fw
/-! A walk over a list or a tuple, whichever it is. -/
namespace GX
open PySem PySem.Spec PyProof.Rows L2
def iAny (K : PySem.W.Frag) (tl : TE) : TI := fun σ H R => tl σ H fun x H1 => ∃ a, x = .ref a ∧ (((∃ xs, SqL K H1 a xs) ∧ R (Itl K a) H1) ∨ ((∃ xs, SqT K H1 a xs) ∧ R (Itt K a) H1))
theorem pi_any {X : Cx} {tg l : Expr} {tl : TE} (hl : PE X l tl) : PI X tg l (iAny X.K tl) := by
  refine ⟨fun pins s σ H R I h => ?_⟩
  refine thn (hl.run pins s σ H _ I h) fun v s1 ⟨x, H1, I1, r1, q1⟩ => ?_
  obtain ⟨a, e, q⟩ := q1
  subst e
  cases r1
  rcases q with ⟨⟨xs, hq⟩, q⟩ | ⟨⟨xs, hq⟩, q⟩
  · obtain ⟨its, rv, p, hz⟩ := I1.list hq
    refine wpAny_pyIter_list p.isList ?_
    refine ⟨s1.heap.objs.size, [s1.heap.objs.size], _, _, H1, rfl, I1.kept (t' := s1.toks) fun b o e => Heap.get?_push_of_some _ e, turn_list a _, ⟨_, Heap.get?_push_size _ rfl, rfl, rfl⟩, fun b hb => ?_, q⟩
    have e : b = s1.heap.objs.size := by simpa using hb
    subst e
    exact I1.fpOk (Nat.le_refl _) (I1.hok.fresh (Nat.le_refl _))
  · obtain ⟨its, rv, p, hz⟩ := I1.tuple hq
    refine wpAny_pyIter_tuple (show s1.heap.IsTuple a its.toArray from p) ?_
    refine ⟨s1.heap.objs.size, [s1.heap.objs.size], _, _, H1, rfl, I1.kept (t' := s1.toks) fun b o e => Heap.get?_push_of_some _ e, turn_tuple a _, ⟨_, Heap.get?_push_size _ rfl, rfl, rfl⟩, fun b hb => ?_, q⟩
    have e : b = s1.heap.objs.size := by simpa using hb
    subst e
    exact I1.fpOk (Nat.le_refl _) (I1.hok.fresh (Nat.le_refl _))
end GX
namespace Fw
variable [Tabs]
open PySem PySem.Spec L2
def iA (me : DE) : DA := fun es P X => me es (fun d => match d with
  | .list ds => P ds
  | .tuple ds => P ds
  | _ => False) X
section
variable {K : Fg} {W : WX} {te : TE} {me : DE}
theorem si_any (h : SE K W te me) : SI K W (GX.iAny K te) (iA me) := ⟨fun s P X R q k kx => h.run s _ X _ q (fun d v B' H' p g dv => by
  cases dv <;> try exact p.elim
  · rename_i s1 t1
    exact ⟨_, rfl, .inl ⟨⟨_, g.bh.sqL s1⟩, k _ _ _ _ p g (it_list s1 t1)⟩⟩
  · rename_i s1 t1
    exact ⟨_, rfl, .inr ⟨⟨_, g.bh.sqT s1⟩, k _ _ _ _ p g (it_tup s1 t1)⟩⟩) kx⟩
theorem xi_any {X : Cx} {tg e : Expr} {k0 : Nat} (C : Ctx X K W k0) (h : XE X K W e te me) : XI X K W tg e (GX.iAny K te) (iA me) := by
  have hK := C.hK
  subst hK
  exact ⟨GX.pi_any h.1, si_any h.2⟩
end
section
variable {X : Cx} {K : Fg} {W : WX} {k : Nat} {elt tg iter : Expr} {ifs : List Expr} {cnd : Expr} {scope : Scope} {own : List (Str × Nat)} {pos spos py : Pos} {wi : TI} {mi : DA} {g : TG} {mg : DG} {vs0 : List Nat} {tt : TT} {mt : DT} {te : TE} {me : DE} {y : Str}
theorem xe_lc {vs : List Nat} (C : Ctx X K W k) (hi : XI X K W tg iter wi mi) (ok : BlkOk X.N X.env.scope scope own)
    (hg : ∀ (s : Shared) (H : Hp) (c : Addr) (cl : List (Str × Addr)) (fp : List Addr), Ctx (X.blk s H scope (compEnvC scope cl c X.env) fp) K WF k → XG (X.blk s H scope (compEnvC scope cl c X.env) fp) K tg g mg vs0) (ht : ∀ (s : Shared) (H : Hp) (c : Addr) (cl : List (Str × Addr)) (fp : List Addr), Ctx (X.blk s H scope (compEnvC scope cl c X.env) fp) K WF k → XTs (X.blk s H scope (compEnvC scope cl c X.env) fp) K WF ifs tt mt)
    (he : ∀ (s : Shared) (H : Hp) (c : Addr) (cl : List (Str × Addr)) (fp : List Addr), Ctx (X.blk s H scope (compEnvC scope cl c X.env) fp) K WF k → XE (X.blk s H scope (compEnvC scope cl c X.env) fp) K WF elt te me) (hvs : own.map (·.2) = vs) (hv : vs0 ⊆ vs) (hs : ∀ x, foldedSetIterable iter X.env x = pure x) :
    XE X K W (.ListComp elt [⟨tg, iter, ifs, 0⟩] scope pos) (tLc wi g tt te vs) (dNew (dLc mi mg mt me vs)) := by
  exact xe_new (xn_lc C hi ok hg ht he hvs hv hs)
theorem xe_lc1 {vs : List Nat} (C : Ctx X K W k) (hi : XI X K W tg iter wi mi) (ok : BlkOk X.N X.env.scope scope own)
    (hg : ∀ (s : Shared) (H : Hp) (c : Addr) (cl : List (Str × Addr)) (fp : List Addr), Ctx (X.blk s H scope (compEnvC scope cl c X.env) fp) K WF k → XG (X.blk s H scope (compEnvC scope cl c X.env) fp) K tg g mg vs0) (ht : ∀ (s : Shared) (H : Hp) (c : Addr) (cl : List (Str × Addr)) (fp : List Addr), Ctx (X.blk s H scope (compEnvC scope cl c X.env) fp) K WF k → XT (X.blk s H scope (compEnvC scope cl c X.env) fp) K WF cnd tt mt)
    (he : ∀ (s : Shared) (H : Hp) (c : Addr) (cl : List (Str × Addr)) (fp : List Addr), Ctx (X.blk s H scope (compEnvC scope cl c X.env) fp) K WF k → XE (X.blk s H scope (compEnvC scope cl c X.env) fp) K WF elt te me) (hvs : own.map (·.2) = vs) (hv : vs0 ⊆ vs) (hs : ∀ x, foldedSetIterable iter X.env x = pure x) :
    XE X K W (.ListComp elt [⟨tg, iter, [cnd], 0⟩] scope pos) (tLc wi g tt te vs) (dNew (dLc mi mg mt me vs)) := by
  exact xe_new (xn_lc1 C hi ok hg ht he hvs hv hs)
end
end Fw
namespace K01
open PySem PySem.Spec L2 Fw SX

/-! ### divisors of powers of ten -/
theorem cop_of {n d : Nat} (hd : d = 2 ∨ d = 5) (h : n % d ≠ 0) : Nat.Coprime d n := by
  unfold Nat.Coprime
  rw [Nat.gcd_rec]
  rcases hd with rfl | rfl
  · rw [show n % 2 = 1 by omega]; decide
  · have : n % 5 = 1 ∨ n % 5 = 2 ∨ n % 5 = 3 ∨ n % 5 = 4 := by omega
    rcases this with e | e | e | e <;> rw [e] <;> decide
theorem cop10 {r : Nat} (h2 : r % 2 ≠ 0) (h5 : r % 5 ≠ 0) (k : Nat) : Nat.Coprime r (10 ^ k) := by
  have a : Nat.Coprime (2 * 5) r := (cop_of (.inl rfl) h2).mul_left (cop_of (.inr rfl) h5)
  exact (a.pow_left k).symm
theorem ten_pow (k : Nat) : 10 ^ k = 2 ^ k * 5 ^ k := by rw [← Nat.mul_pow]
theorem dvd_ten {x y r k : Nat} (h2 : r % 2 ≠ 0) (h5 : r % 5 ≠ 0) : 2 ^ x * 5 ^ y * r ∣ 10 ^ k ↔ r = 1 ∧ x ≤ k ∧ y ≤ k := by
  constructor
  · intro h
    have r1 : r = 1 := (cop10 h2 h5 k).eq_one_of_dvd (Nat.dvd_trans (Nat.dvd_mul_left _ _) h)
    subst r1
    rw [Nat.mul_one, ten_pow] at h
    have c25 : ∀ a b : Nat, Nat.Coprime (2 ^ a) (5 ^ b) := fun a b => Nat.Coprime.pow a b (by decide)
    have a1 : 2 ^ x ∣ 2 ^ k := (c25 x k).dvd_of_dvd_mul_right (Nat.dvd_trans (Nat.dvd_mul_right _ _) h)
    have a2 : 5 ^ y ∣ 5 ^ k := (c25 k y).symm.dvd_of_dvd_mul_left (Nat.dvd_trans (Nat.dvd_mul_left _ _) h)
    exact ⟨rfl, (Nat.pow_dvd_pow_iff_le_right (by decide)).mp a1, (Nat.pow_dvd_pow_iff_le_right (by decide)).mp a2⟩
  · rintro ⟨rfl, hx, hy⟩
    rw [Nat.mul_one, ten_pow]
    exact Nat.mul_dvd_mul (Nat.pow_dvd_pow _ hx) (Nat.pow_dvd_pow _ hy)
theorem decomp : ∀ b : Nat, 0 < b → ∃ x y r, b = 2 ^ x * 5 ^ y * r ∧ r % 2 ≠ 0 ∧ r % 5 ≠ 0 := by
  intro b
  induction b using Nat.strongRecOn with
  | _ b ih =>
    intro hb
    by_cases h2 : b % 2 = 0
    · obtain ⟨x, y, r, e, a, c⟩ := ih (b / 2) (by omega) (by omega)
      refine ⟨x + 1, y, r, ?_, a, c⟩
      have : b = 2 * (b / 2) := by omega
      rw [this, e, Nat.pow_succ]
      simp only [Nat.mul_comm, Nat.mul_left_comm, Nat.mul_assoc]
    · by_cases h5 : b % 5 = 0
      · obtain ⟨x, y, r, e, a, c⟩ := ih (b / 5) (by omega) (by omega)
        refine ⟨x, y + 1, r, ?_, a, c⟩
        have : b = 5 * (b / 5) := by omega
        rw [this, e, Nat.pow_succ]
        simp only [Nat.mul_comm, Nat.mul_left_comm, Nat.mul_assoc]
      · exact ⟨0, 0, b, by simp, h2, h5⟩
/-- the fewest digits behind the point -/
def Least (b p : Nat) : Prop := b ∣ 10 ^ p ∧ (p = 0 ∨ ¬ b ∣ 10 ^ (p - 1))
theorem least_of {x y : Nat} : Least (2 ^ x * 5 ^ y) (max x y) := by
  have e : 2 ^ x * 5 ^ y = 2 ^ x * 5 ^ y * 1 := by omega
  unfold Least
  rw [e, dvd_ten (by decide) (by decide)]
  refine ⟨⟨rfl, by omega, by omega⟩, ?_⟩
  rcases Nat.eq_zero_or_pos (max x y) with z | z
  · exact .inl z
  · refine .inr fun h => ?_
    rw [dvd_ten (by decide) (by decide)] at h
    omega
theorem dvd_up {b p k : Nat} (h : b ∣ 10 ^ p) (l : p ≤ k) : b ∣ 10 ^ k := Nat.dvd_trans h (Nat.pow_dvd_pow _ l)
theorem Least.le {b p k : Nat} (h : Least b p) (d : b ∣ 10 ^ k) : p ≤ k := by
  rcases h.2 with z | z
  · omega
  · rcases Nat.lt_or_ge k p with c | c
    · exact absurd (dvd_up d (by omega)) z
    · exact c
theorem Least.uniq {b p p' : Nat} (h : Least b p) (h' : Least b p') : p = p' := Nat.le_antisymm (h.le h'.1) (h'.le h.1)
theorem Least.bound {b p n : Nat} (h : Least b p) (hb : b < 2 ^ n) (b0 : 0 < b) : p ≤ n := by
  obtain ⟨x, y, r, e, a, c⟩ := decomp b b0
  have d := h.1
  rw [e, dvd_ten a c] at d
  obtain ⟨rfl, d1, d2⟩ := d
  rw [Nat.mul_one] at e
  subst e
  have := h.uniq least_of
  subst this
  have p2 : 0 < 2 ^ x := Nat.pow_pos (by decide)
  have p5 : 0 < 5 ^ y := Nat.pow_pos (by decide)
  have h1 : 2 ^ x < 2 ^ n := Nat.lt_of_le_of_lt (Nat.le_mul_of_pos_right _ p5) hb
  have h2 : 2 ^ y < 2 ^ n := Nat.lt_of_le_of_lt (Nat.le_trans (Nat.pow_le_pow_left (by decide) y) (Nat.le_mul_of_pos_left _ p2)) hb
  have := (Nat.pow_lt_pow_iff_right (by decide)).mp h1
  have := (Nat.pow_lt_pow_iff_right (by decide)).mp h2
  omega
theorem cop_mod {r : Nat} : ¬ 2 ∣ r → ¬ 5 ∣ r → r % 2 ≠ 0 ∧ r % 5 ≠ 0 := fun h2 h5 => ⟨fun z => h2 (Nat.dvd_of_mod_eq_zero z), fun z => h5 (Nat.dvd_of_mod_eq_zero z)⟩
/-- what the two counts of divisions tell -/
theorem counts {n x y : Nat} (h0 : 0 < n) (h2 : 2 ^ x ∣ n) (h2' : ¬ 2 ^ (x + 1) ∣ n) (h5 : 5 ^ y ∣ n) (h5' : ¬ 5 ^ (y + 1) ∣ n) : (2 ^ x * 5 ^ y = n ∧ Least n (max x y)) ∨ (2 ^ x * 5 ^ y ≠ n ∧ ∀ k, ¬ n ∣ 10 ^ k) := by
  have c : Nat.Coprime (2 ^ x) (5 ^ y) := Nat.Coprime.pow x y (by decide)
  obtain ⟨r, e⟩ := c.mul_dvd_of_dvd_of_dvd h2 h5
  have r2 : ¬ 2 ∣ r := fun ⟨t, z⟩ => h2' ⟨5 ^ y * t, by rw [e, z, Nat.pow_succ]; simp only [Nat.mul_comm, Nat.mul_left_comm, Nat.mul_assoc]⟩
  have r5 : ¬ 5 ∣ r := fun ⟨t, z⟩ => h5' ⟨2 ^ x * t, by rw [e, z, Nat.pow_succ]; simp only [Nat.mul_comm, Nat.mul_left_comm, Nat.mul_assoc]⟩
  obtain ⟨a, b⟩ := cop_mod r2 r5
  by_cases r1 : r = 1
  · subst r1
    rw [Nat.mul_one] at e
    subst e
    exact .inl ⟨rfl, least_of⟩
  · refine .inr ⟨fun z => ?_, fun k d => ?_⟩
    · rw [← z] at e
      have p : 0 < 2 ^ x * 5 ^ y := Nat.mul_pos (Nat.pow_pos (by decide)) (Nat.pow_pos (by decide))
      have : 2 ^ x * 5 ^ y * 1 = 2 ^ x * 5 ^ y * r := by omega
      exact r1 (Nat.eq_of_mul_eq_mul_left p this).symm
    · rw [e, dvd_ten a b] at d
      exact r1 d.1

/-! ### digits -/
def sg (t : Int) : List Nat := if t < 0 then [45] else []
def pad : Nat → Nat → List Nat
  | 0, _ => []
  | p + 1, n => pad p (n / 10) ++ [48 + n % 10]
abbrev numL := TL.numL
theorem pad_len : ∀ p n : Nat, (pad p n).length = p
  | 0, _ => rfl
  | p + 1, n => by simp [pad, pad_len p]
theorem pad_dig : ∀ (p n : Nat), ∀ c ∈ pad p n, 48 ≤ c ∧ c ≤ 57
  | 0, _, _, h => by simp [pad] at h
  | p + 1, n, c, h => by
    rw [pad, List.mem_append, List.mem_singleton] at h
    rcases h with h | h
    · exact pad_dig p _ c h
    · omega
theorem pad_zero : ∀ p : Nat, pad p 0 = List.replicate p 48
  | 0 => rfl
  | p + 1 => by rw [pad, Nat.zero_div, pad_zero p, List.replicate_succ']
theorem num_dig (n : Nat) : ∀ c ∈ numL n, 48 ≤ c ∧ c ≤ 57 := fun c h => by
  rcases Nat.lt_or_ge c 48 with a | a
  · exact absurd h (TL.numL_free (.inl a))
  · rcases Nat.lt_or_ge 57 c with b | b
    · exact absurd h (TL.numL_free (.inr b))
    · exact ⟨a, b⟩
/-- filled up to p + 1 digits -/
def zf (k : Nat) (l : List Nat) : List Nat := List.replicate (k - l.length) 48 ++ l
theorem zf_snoc (k : Nat) (l : List Nat) (c : Nat) : zf (k + 1) (l ++ [c]) = zf k l ++ [c] := by
  simp [zf]
theorem zf_num : ∀ (p n : Nat), zf (p + 1) (numL n) = numL (n / 10 ^ p) ++ pad p n
  | 0, n => by
    have h : 0 < (numL n).length := List.length_pos_iff.mpr (TL.numL_ne n)
    simp only [zf, pad, Nat.pow_zero, Nat.div_one, List.append_nil]
    rw [show 0 + 1 - (numL n).length = 0 by omega]
    rfl
  | p + 1, n => by
    rcases Nat.lt_or_ge n 10 with h | h
    · rw [show numL n = [] ++ [48 + n] from TL.numL_lt h, zf_snoc, Nat.div_eq_of_lt (Nat.lt_of_lt_of_le h (by rw [Nat.pow_succ]; have : 0 < 10 ^ p := Nat.pow_pos (by decide); omega)), pad, Nat.div_eq_of_lt h, pad_zero, Nat.mod_eq_of_lt h, show numL 0 = [48] from TL.numL_lt (by decide)]
      simp [zf, List.replicate_succ]
    · rw [show numL n = numL (n / 10) ++ [48 + n % 10] from TL.numL_step h, zf_snoc, zf_num p, pad, ← List.append_assoc, Nat.div_div_eq_div_mul, Nat.pow_succ, Nat.mul_comm 10]
/-- what digits tell -/
def val (l : List Nat) : Nat := l.foldl (fun a c => a * 10 + (c - 48)) 0
theorem val_go : ∀ (l : List Nat) (a : Nat), l.foldl (fun a c => a * 10 + (c - 48)) a = a * 10 ^ l.length + val l
  | [], a => by simp [val]
  | c :: l, a => by
    have e : val (c :: l) = (0 * 10 + (c - 48)) * 10 ^ l.length + val l := val_go l _
    rw [List.foldl_cons, val_go l, e, List.length_cons, Nat.pow_succ, Nat.add_mul, Nat.zero_mul, Nat.zero_add]
    have : a * 10 * 10 ^ l.length = a * (10 ^ l.length * 10) := by simp only [Nat.mul_comm, Nat.mul_left_comm, Nat.mul_assoc]
    omega
theorem val_app (l m : List Nat) : val (l ++ m) = val l * 10 ^ m.length + val m := by
  rw [val, List.foldl_append, val_go m]; rfl
theorem val_num (n : Nat) : val (numL n) = n := by
  induction n using Nat.strongRecOn with
  | _ n ih =>
    rcases Nat.lt_or_ge n 10 with h | h
    · rw [show numL n = [48 + n] from TL.numL_lt h]
      simp [val]
    · rw [show numL n = numL (n / 10) ++ [48 + n % 10] from TL.numL_step h, val_app, ih _ (by omega)]
      simp [val]
      omega
theorem val_pad : ∀ p n : Nat, val (pad p n) = n % 10 ^ p
  | 0, n => by simp [pad, val, Nat.mod_one]
  | p + 1, n => by
    rw [pad, val_app, val_pad p]
    simp only [List.length_singleton, Nat.pow_one]
    have : val [48 + n % 10] = n % 10 := by simp [val]
    rw [this, Nat.pow_succ, Nat.mul_comm (10 ^ p) 10, Nat.mod_mul]
    omega
theorem val_both (p n : Nat) : val (numL (n / 10 ^ p) ++ pad p n) = n := by
  rw [val_app, val_num, val_pad, pad_len]
  exact Nat.div_add_mod' n (10 ^ p)
end K01
namespace K01
open PySem PySem.Spec L2 Fw SX PySem.Builtin.Str

theorem s_minus : Str.ofString "-" = S [45] := TL.ext_tl (TL.tl_ofString _)
theorem s_dot : Str.ofString "." = S [46] := TL.ext_tl (TL.tl_ofString _)
theorem s_slash : Str.ofString "/" = S [47] := TL.ext_tl (TL.tl_ofString _)
theorem s_zero : Str.ofString "0" = S [48] := TL.ext_tl (TL.tl_ofString _)
theorem s_none : Str.ofString "" = S [] := TL.ext_tl (TL.tl_ofString _)
theorem s_neg0 : Str.ofString "-0" = S [45, 48] := TL.ext_tl (TL.tl_ofString _)
theorem s_dot0 : Str.ofString ".0" = S [46, 48] := TL.ext_tl (TL.tl_ofString _)
theorem s_digits : Str.ofString "0123456789" = S [48, 49, 50, 51, 52, 53, 54, 55, 56, 57] := TL.ext_tl (TL.tl_ofString _)
theorem S_list (l : List Nat) : (S l).cps.toList = l := rfl
theorem mem_digits (c : Nat) : decide (c ∈ (S [48, 49, 50, 51, 52, 53, 54, 55, 56, 57]).cps.toList) = decide (48 ≤ c ∧ c ≤ 57) := by
  rw [S_list]
  apply decide_eq_decide.mpr
  simp only [List.mem_cons, List.not_mem_nil, or_false]
  omega
theorem starts_minus (l : List Nat) : Txt.startswith (S l) (S [45]) = decide (l.head? = some 45) := by
  unfold Txt.startswith
  rw [StrLaws.subAt_eq, S_len, S_len, S_list, S_list]
  cases l with
  | nil => simp
  | cons c r =>
    simp
    by_cases h : c = 45 <;> simp [h]
theorem head_sg {t : Int} {N : List Nat} (h : ∀ c ∈ N, 48 ≤ c ∧ c ≤ 57) : decide ((sg t ++ N).head? = some 45) = decide (t < 0) := by
  unfold sg
  apply decide_eq_decide.mpr
  split
  · simp [*]
  · cases N with
    | nil => simp [*]
    | cons c r =>
      have := h c List.mem_cons_self
      simp [*]
      omega
theorem tw_false {p : Nat → Bool} : ∀ {l : List Nat}, (∀ c ∈ l, p c = false) → l.takeWhile p = []
  | [], _ => rfl
  | c :: r, h => by rw [List.takeWhile_cons, h c List.mem_cons_self]; rfl
theorem lstrip_minus {t : Int} {N : List Nat} (h : ∀ c ∈ N, 48 ≤ c ∧ c ≤ 57) : Txt.lstripChars (S (sg t ++ N)) (S [45]) = S N := by
  unfold Txt.lstripChars
  rw [PyProof.Rows.stripBy_eq]
  refine TL.ext_tl ?_
  have hi : stripHi (S [45]).cps.contains false (S (sg t ++ N)) (stripLo (S [45]).cps.contains true (S (sg t ++ N))) = (S (sg t ++ N)).length := rfl
  rw [hi, TL.tl_strSub_end]
  show (sg t ++ N).drop (((sg t ++ N).takeWhile (S [45]).cps.contains).length) = N
  have z : ∀ c, (S [45]).cps.contains c = (c == 45) := fun c => by
    have e : (S [45]).cps.contains c = decide (c = 45) := by simp
    rw [e]
    by_cases h : c = 45
    · subst h; rfl
    · rw [decide_eq_false h, beq_eq_false_iff_ne.mpr h]
  have w : N.takeWhile (S [45]).cps.contains = [] := tw_false fun c hc => by
    have := h c hc
    rw [z]
    simp
    omega
  unfold sg
  split
  · rw [List.cons_append, List.nil_append, List.takeWhile_cons, z]
    simp only [beq_self_eq_true, if_true, w]
    rfl
  · rw [List.nil_append, w]
    rfl
theorem zfill_num (p n : Nat) : Txt.zfill (S (numL n)) ((p : Int) + 1) = S (zf (p + 1) (numL n)) := by
  unfold Txt.zfill
  rw [S_len]
  split
  · rename_i h
    unfold zf
    rw [show p + 1 - (numL n).length = 0 by omega]
    rfl
  · rename_i h
    have e : ((p : Int) + 1).toNat - (numL n).length = p + 1 - (numL n).length := by omega
    rw [e]
    unfold zfilled
    obtain ⟨c, r, hc⟩ : ∃ c r, numL n = c :: r := by
      cases q : numL n with
      | nil => exact absurd q (TL.numL_ne n)
      | cons c r => exact ⟨c, r, rfl⟩
    have hd := num_dig n c (by rw [hc]; exact List.mem_cons_self)
    have e0 : (S (numL n)).cps[0]? = some c := by rw [hc]; simp
    rw [e0]
    have pd : padded (S (numL n)) (p + 1 - (numL n).length) 0 48 = S (zf (p + 1) (numL n)) := by
      unfold padded zf
      refine TL.ext_tl ?_
      show (Array.replicate _ 48 ++ (numL n).toArray ++ Array.replicate 0 48).toList = _
      simp
    split
    · rename_i h1; injection h1 with h1; omega
    · rename_i h1; injection h1 with h1; omega
    · exact pd
theorem cut_last {A B : List Nat} (h : 0 < B.length) : cutS (S (A ++ B)) none (some (-(B.length : Int))) = S A ∧ cutS (S (A ++ B)) (some (-(B.length : Int))) none = S B := by
  have n1 : (-(B.length : Int)) < 0 := by omega
  have e : ((-(B.length : Int)) + ((A ++ B).length : Int)).toNat = A.length := by rw [List.length_append]; omega
  constructor
  · unfold cutS HT.sIx
    rw [S_len]
    simp only [n1, if_true, e, S_list]
    simp
  · unfold cutS HT.sIx
    rw [S_len]
    simp only [n1, if_true, e, S_list]
    simp
theorem cut_from (A B : List Nat) : cutS (S (A ++ B)) (some (A.length : Int)) none = S B := by
  have n1 : ¬ (A.length : Int) < 0 := by omega
  unfold cutS HT.sIx
  rw [S_len]
  simp only [n1, if_false, S_list, Int.toNat_natCast]
  rw [show min A.length (A ++ B).length = A.length by rw [List.length_append]; omega]
  simp
theorem cut_to (A B : List Nat) : cutS (S (A ++ B)) none (some (A.length : Int)) = S A := by
  have n1 : ¬ (A.length : Int) < 0 := by omega
  unfold cutS HT.sIx
  rw [S_len]
  simp only [n1, if_false, S_list, Int.toNat_natCast]
  rw [show min A.length (A ++ B).length = A.length by rw [List.length_append]; omega]
  simp
theorem cut_one (A : List Nat) (c : Nat) (r : List Nat) : cutS (S (A ++ c :: r)) (some (A.length : Int)) (some ((A.length : Int) + 1)) = S [c] := by
  have n1 : ¬ (A.length : Int) < 0 := by omega
  have n2 : ¬ (A.length : Int) + 1 < 0 := by omega
  unfold cutS HT.sIx
  rw [S_len]
  simp only [n1, n2, if_false, S_list, Int.toNat_natCast]
  rw [show min A.length (A ++ c :: r).length = A.length by rw [List.length_append]; omega, show min (((A.length : Int) + 1).toNat) (A ++ c :: r).length = A.length + 1 by rw [List.length_append, List.length_cons]; omega]
  simp
theorem part_hit {s : Nat} {p rest : List Nat} (h : s ∉ p) : Txt.partition (S (p ++ s :: rest)) (S [s]) = (S p, S [s], S rest) := partition_some (by simp) (by
  have := TL.par_part1 (S := []) (rest := rest) (acc := []) h
  simpa using this)
theorem part_miss {s : Nat} {p : List Nat} (h : s ∉ p) : Txt.partition (S p) (S [s]) = (S p, S [], S []) := partition_none (by simp) (TL.par_none1 h)
theorem str_int (t : Int) : Str.ofString (toString t) = S (sg t ++ numL t.natAbs) := by
  cases t with
  | ofNat n =>
    have := num_S n
    have e : sg (Int.ofNat n) = [] := if_neg (Int.not_lt.mpr (Int.natCast_nonneg n))
    rw [e]
    exact this
  | negSucc n =>
    have e : sg (Int.negSucc n) = [45] := if_pos (by omega)
    rw [e]
    refine TL.ext_tl ?_
    rw [TL.tl_ofString]
    have h := num_S (n + 1)
    have h2 : (toString (((n + 1 : Nat) : Int))).toList.map Char.toNat = numL (n + 1) := by
      have := congrArg TL.tl h
      rw [TL.tl_ofString] at this
      exact this
    show (toString (Int.negSucc n)).toList.map Char.toNat = 45 :: numL (n + 1)
    rw [← h2]
    have e3 : toString (Int.negSucc n) = "-" ++ toString (((n + 1 : Nat) : Int)) := rfl
    rw [e3, String.toList_append]
    rfl
theorem int_sign {c : Nat} (h : 48 ≤ c ∧ c ≤ 57) : PySem.intText? (S [c]) = some ((c : Int) - 48) := by
  rw [int_S (a := [c]) (by simp [h]) (by simp) (by simp)]
  have : NumText.digitsVal [c] = c - 48 := by simp [NumText.digitsVal]
  rw [this]
  congr 1
  omega
theorem dg_lt {l : List Nat} (h : ∀ c ∈ l, 48 ≤ c ∧ c ≤ 57) : ∀ c ∈ l, c < 128 := fun c m => by have := h c m; omega
theorem sg_lt (t : Int) : ∀ c ∈ sg t, c < 128 := fun c m => by
  unfold sg at m
  split at m
  · simp at m; omega
  · cases m
theorem sg_len (t : Int) : (sg t).length ≤ 1 := by unfold sg; split <;> simp
end K01
namespace K01
open PySem PySem.Spec L2 Fw

/-- a fraction, as data -/
def fr (q : Rat) : D := .tuple [.int q.num, .int q.den]
def Sz (q : Rat) (n : Nat) : Prop := q.num.natAbs < 2 ^ n ∧ q.den < 2 ^ n
def isFr : D → Bool
  | .tuple [.int t, .int b] => decide (1 ≤ b) && decide (Nat.gcd t.natAbs b.natAbs = 1)
  | _ => false
def isAb : D → Bool
  | .tuple [.int t, .int b] => isFr (.tuple [.int t, .int b]) && decide (0 < t)
  | _ => false
def isNn : D → Bool
  | .tuple [.int t, .int b] => isFr (.tuple [.int t, .int b]) && decide (0 ≤ t)
  | _ => false
def tupN (n : Nat) : D → Bool
  | .tuple xs => decide (xs.length = n)
  | _ => false
def lenD : D → Nat
  | .tuple xs => xs.length
  | _ => 0
def isPt : D → Bool
  | .tuple xs => decide (1 ≤ xs.length) && decide (xs.length ≤ 3) && xs.all isFr
  | _ => false
def c_NOUGHT : D := .tuple [.int 0, .int 1]
def c_MOST_AXES : D := .int 3
def c_MOST_STEPS : D := .int 30
mutual
/-- data of small ints, short texts, of at most k levels -/
def Sm (b : Nat) : Nat → D → Prop
  | _, .none => True
  | _, .bool _ => True
  | _, .int i => i.natAbs < 2 ^ b
  | _, .str s => s.length ≤ 8 ∧ (PyData.strOk s = true ∧ (reprText s).length ≤ 90 ∧ PyData.strOk (reprText s) = true)
  | k + 1, .list xs => SmA b k xs
  | k + 1, .tuple xs => SmA b k xs
  | _, _ => False
def SmA (b : Nat) : Nat → List D → Prop
  | _, [] => True
  | k, x :: xs => Sm b k x ∧ SmA b k xs
end
mutual
def wt : D → Nat
  | .list xs => 1 + wtA xs
  | .tuple xs => 1 + wtA xs
  | _ => 1
def wtA : List D → Nat
  | [] => 0
  | x :: xs => wt x + wtA xs
end
/-- small data -/
structure Sd (b k n : Nat) (d : D) : Prop where
  sm : Sm b k d
  w : wt d ≤ n
def lessD : D → D → Bool
  | .tuple [.int t, .int b], .tuple [.int u, .int c] => decide (t * c < u * b)
  | _, _ => false
/-- where a step breaks the form, after ahead -/
def stepF (a : D) : D → D
  | .tuple [pt, fe, le, st] => if (!isPt pt || !decide (lenD pt = lenD a) || PyData.eqv pt a) = true then .tuple [.int 0] else if (!isAb fe) = true then .tuple [.int 1] else if (!isNn le || lessD fe le) = true then .tuple [.int 2] else if tyD st = "bool" then .none else .tuple [.int 3]
  | _ => .tuple []
def headD : D → D
  | .tuple (x :: _) => x
  | _ => .none
def stepsF (a : D) (k : Nat) : List D → D
  | [] => .none
  | s :: r => match stepF a s with
    | .tuple xs => .tuple ([.int 1, .int k] ++ xs)
    | _ => stepsF (headD s) (k + 1) r
def progF : D → D
  | .tuple [st, ss] => if (!isPt st) = true then .tuple [.int 0] else match ss with
    | .tuple xs => if 1 ≤ xs.length ∧ xs.length ≤ 30 then stepsF st 0 xs else .tuple [.int 1]
    | _ => .tuple [.int 1]
  | _ => .tuple []
def isNone : D → Bool
  | .none => true
  | _ => false
def axOk : D → Bool
  | .tuple [a, b, c] => isAb a && isAb b && isNn c
  | _ => false
def axGo (k : Nat) : List D → D
  | [] => .none
  | x :: r => if axOk x = true then axGo (k + 1) r else .int k
def axF (d : D) (n : Nat) : D := match d with
  | .tuple xs => if xs.length = n then axGo 0 xs else .int 0
  | _ => .int 0
def xP (v : D) : XD := ("InvalidProgram", some ("place", progF v))
/-- the program's own data: steps' numbers not too great -/
def PB (d : D) : Prop := Sd 450 9 100000 d
def p_is_less : Spc := fun ds P _ => ∃ t b u c : Int, ds = [.tuple [.int t, .int b], .tuple [.int u, .int c]] ∧ t.natAbs < 2 ^ 4400 ∧ b.natAbs < 2 ^ 4400 ∧ u.natAbs < 2 ^ 4400 ∧ c.natAbs < 2 ^ 4400 ∧ P (.bool (decide (t * c < u * b)))
def p_is_integer : Spc := fun ds P _ => ∃ d, ds = [d] ∧ P (.bool (decide (tyD d = "int")))
def p_is_fraction : Spc := fun ds P _ => ∃ d, ds = [d] ∧ P (.bool (isFr d))
def p_is_tuple_of : Spc := fun ds P _ => ∃ (d : D) (n : Nat), ds = [d, .int n] ∧ P (.bool (tupN n d))
def p_is_above_nought : Spc := fun ds P _ => ∃ d, ds = [d] ∧ P (.bool (isAb d))
def p_is_from_nought : Spc := fun ds P _ => ∃ d, ds = [d] ∧ P (.bool (isNn d))
def p_is_point : Spc := fun ds P _ => ∃ d, ds = [d] ∧ P (.bool (isPt d))
def p_step_fault : Spc := fun ds P _ => ∃ a s, ds = [a, s] ∧ isPt a = true ∧ PB s ∧ P (stepF a s)
def p_program_fault : Spc := fun ds P _ => ∃ d, ds = [d] ∧ PB d ∧ P (progF d)
def p_check_program : Spc := fun ds P X => ∃ d, ds = [d] ∧ PB d ∧ (isNone (progF d) = true → P .none) ∧ (isNone (progF d) = false → X (xP d))
def p__law_tooth : Spc := fun ds P _ => ∃ n : Int, ds = [.int n] ∧ 0 < n ∧ n.natAbs < 2 ^ 9000 ∧ ∀ r : Int, 0 ≤ r → r < n → P (.int r)
mutual
/-- data of at most n levels of short lists, tuples -/
def flat : Nat → D → Prop
  | _, .none => True
  | _, .bool _ => True
  | _, .int _ => True
  | n + 1, .list xs => xs.length ≤ 1000 ∧ flatAll n xs
  | n + 1, .tuple xs => xs.length ≤ 1000 ∧ flatAll n xs
  | _, _ => False
def flatAll : Nat → List D → Prop
  | _, [] => True
  | n, x :: xs => flat n x ∧ flatAll n xs
end
def pa (n : Nat) : Spc := fun ds P _ => ∃ d, ds = [d, d] ∧ flat n d ∧ P (.bool true)
def p__law_same : Spc := pa 4
def p_reduced : Spc := fun ds P _ => ∃ t b : Int, ds = [.int t, .int b] ∧ b ≠ 0 ∧ b.natAbs < 2 ^ 9000 ∧ P (fr (Rat.divInt t b))
def p__law_low : Spc := p_reduced
def p__law_add : Spc := fun ds P _ => ∃ a b : Rat, ds = [fr a, fr b] ∧ Sz a 4400 ∧ Sz b 4400 ∧ P (fr (a + b))
def p__law_take : Spc := fun ds P _ => ∃ a b : Rat, ds = [fr a, fr b] ∧ Sz a 4400 ∧ Sz b 4400 ∧ P (fr (a - b))
def p__law_mul : Spc := fun ds P _ => ∃ a b : Rat, ds = [fr a, fr b] ∧ Sz a 4400 ∧ Sz b 4400 ∧ P (fr (a * b))
def p__law_under : Spc := p_is_less
/-- a whole number of parts, below 2 ^ n -/
def DD : Int := 6 * 10 ^ 60
def Gd (q : Rat) (n : Nat) : Prop := ∃ m : Int, q = Rat.divInt m DD ∧ m.natAbs < 2 ^ n
def pt (qs : List Rat) : D := .tuple (qs.map fr)
def p__law_spot : Spc := fun ds P _ => ∃ n : Nat, ds = [.int n] ∧ 1 ≤ n ∧ n ≤ 3 ∧ ∀ qs : List Rat, qs.length = n → (∀ q ∈ qs, Gd q 210) → P (pt qs)
def p__law_next : Spc := fun ds P _ => ∃ (a g : List Rat) (n : Nat), ds = [pt a, pt g] ∧ 1 ≤ a.length ∧ a.length ≤ 3 ∧ (g = [] ∨ g.length = a.length) ∧ 210 ≤ n ∧ n ≤ 370 ∧ (∀ q ∈ a, Gd q n) ∧ (∀ q ∈ g, Gd q (n + 1)) ∧ ∀ b : List Rat, b.length = a.length → b ≠ a → (∀ q ∈ b, Gd q (n + 5)) → P (pt b)
/-- steps that go on from a -/
def Chain : List Rat → List D → Prop
  | _, [] => True
  | a, s :: r => ∃ (b : List Rat) (f l : Rat) (st : Bool), s = .tuple [pt b, fr f, fr l, .bool st] ∧ b.length = a.length ∧ b ≠ a ∧ (∀ q ∈ b, Gd q 370) ∧ Sz f 12 ∧ Sz l 12 ∧ isAb (fr f) = true ∧ isNn (fr l) = true ∧ lessD (fr f) (fr l) = false ∧ Chain b r
def p__law_steps : Spc := fun ds P _ => ∃ (a : List Rat) (m : Nat), ds = [pt a, .int m] ∧ 1 ≤ a.length ∧ a.length ≤ 3 ∧ (∀ q ∈ a, Gd q 210) ∧ m ≤ 31 ∧ ∀ ss, ss.length = m → Chain a ss → P (.tuple ss)
def tailD : D → D
  | .tuple [_, y] => y
  | _ => .none
/-- a program as the law draws it -/
def Told (d : D) : Prop := ∃ (a : List Rat) (ss : List D), d = .tuple [pt a, .tuple ss] ∧ 1 ≤ a.length ∧ a.length ≤ 3 ∧ (∀ q ∈ a, Gd q 210) ∧ 1 ≤ ss.length ∧ ss.length ≤ 31 ∧ Chain a ss
def p__law_program : Spc := fun ds P _ => ∃ n : Nat, ds = [.int n] ∧ 1 ≤ n ∧ n ≤ 30 ∧ ∀ d, Told d → lenD (tailD d) ≤ n → P d
/-- the points of a program -/
def headsD : D → List D
  | .tuple ss => ss.map headD
  | _ => []
def trailD (d : D) : List D := headD d :: headsD (tailD d)
def p_path : Spc := fun ds P X => ∃ d, ds = [d] ∧ PB d ∧ (isNone (progF d) = true → P (.tuple (trailD d))) ∧ (isNone (progF d) = false → X (xP d))
def p__law_trail : Spc := fun ds P _ => ∃ (x : D) (ss : List D), ds = [.tuple [x, .tuple ss]] ∧ (∀ s ∈ ss, ∃ y r, s = .tuple (y :: r)) ∧ ss.length ≤ 1000 ∧ P (.list (x :: ss.map headD))
def p_added : Spc := fun ds P _ => ∃ a b : Rat, ds = [fr a, fr b] ∧ Sz a 4400 ∧ Sz b 4400 ∧ P (fr (a + b))
def p_subtracted : Spc := fun ds P _ => ∃ a b : Rat, ds = [fr a, fr b] ∧ Sz a 4400 ∧ Sz b 4400 ∧ P (fr (a - b))
def p_multiplied : Spc := fun ds P _ => ∃ a b : Rat, ds = [fr a, fr b] ∧ Sz a 4400 ∧ Sz b 4400 ∧ P (fr (a * b))
def p_divided : Spc := fun ds P _ => ∃ a b : Rat, ds = [fr a, fr b] ∧ Sz a 4400 ∧ Sz b 4400 ∧ b ≠ 0 ∧ P (fr (a / b))
def p_inverse : Spc := fun ds P _ => ∃ b : Rat, ds = [fr b] ∧ b ≠ 0 ∧ P (fr b⁻¹)
def p_opposite : Spc := fun ds P _ => ∃ b : Rat, ds = [fr b] ∧ P (fr (-b))
def p__law_div : Spc := p_divided
def absR (q : Rat) : Rat := if q.num < 0 then -q else q
def maxR : Rat → List Rat → Rat
  | m, [] => m
  | m, x :: r => maxR (if m < x then x else m) r
/-- the greatest of the parts, without their signs -/
def longR (g : List Rat) : Rat := maxR 0 (g.map absR)
def gapR (a b : List Rat) : List Rat := List.zipWith (fun x y => y - x) a b
def gapsR : List Rat → List (List Rat) → List (List Rat)
  | _, [] => []
  | a, b :: r => gapR a b :: gapsR b r
noncomputable def headR (g : List Rat) : List Rat := g.map fun x => x / longR g
def waysR : Rat → List (List Rat) → List Rat
  | _, [] => []
  | w, g :: r => (w + longR g) :: waysR (w + longR g) r
/-- points that go on from a -/
def Wk : List Rat → List (List Rat) → Prop
  | _, [] => True
  | a, b :: r => b.length = a.length ∧ b ≠ a ∧ (∀ q ∈ b, Gd q 370) ∧ Wk b r
def SzA (g : List Rat) (n : Nat) : Prop := ∀ q ∈ g, Sz q n
/-- a program, its points -/
structure Tp (d : D) (a : List Rat) (ps : List (List Rat)) : Prop where
  ex : ∃ ss, d = .tuple [pt a, .tuple ss] ∧ ss.map headD = ps.map pt ∧ (∀ s ∈ ss, ∃ y r, s = .tuple (y :: r)) ∧ ss.length = ps.length
  a1 : 1 ≤ a.length
  a3 : a.length ≤ 3
  ga : ∀ q ∈ a, Gd q 370
  wk : Wk a ps
  p1 : 1 ≤ ps.length
  p30 : ps.length ≤ 30
  pb : PB d
  ok : isNone (progF d) = true
def p_absolute : Spc := fun ds P _ => ∃ q : Rat, ds = [fr q] ∧ P (fr (absR q))
def p__law_size : Spc := p_absolute
def p_largest : Spc := fun ds P _ => ∃ (x : Rat) (r : List Rat), ds = [.list ((x :: r).map fr)] ∧ r.length ≤ 1000 ∧ SzA (x :: r) 1000 ∧ P (fr (maxR x r))
def p_apart : Spc := fun ds P _ => ∃ a b : List Rat, ds = [pt a, pt b] ∧ b.length = a.length ∧ a.length ≤ 3 ∧ SzA a 1000 ∧ SzA b 1000 ∧ P (pt (gapR a b))
def p_length_of : Spc := fun ds P _ => ∃ g : List Rat, ds = [pt g] ∧ g ≠ [] ∧ g.length ≤ 3 ∧ SzA g 1000 ∧ P (fr (longR g))
def p_direction_of : Spc := fun ds P _ => ∃ g : List Rat, ds = [pt g] ∧ g ≠ [] ∧ g.length ≤ 3 ∧ SzA g 1000 ∧ longR g ≠ 0 ∧ P (pt (headR g))
def p_distances : Spc := fun ds P _ => ∃ d a ps, ds = [d] ∧ Tp d a ps ∧ P (.list ((gapsR a ps).map pt))
def p_lengths : Spc := fun ds P _ => ∃ d a ps, ds = [d] ∧ Tp d a ps ∧ P (pt ((gapsR a ps).map longR))
def p_directions : Spc := fun ds P _ => ∃ d a ps, ds = [d] ∧ Tp d a ps ∧ P (.tuple ((gapsR a ps).map fun g => pt (headR g)))
def p_ways : Spc := fun ds P _ => ∃ d a ps, ds = [d] ∧ Tp d a ps ∧ P (pt (0 :: waysR 0 (gapsR a ps)))
def lastR : Rat → List Rat → Rat
  | m, [] => m
  | _, x :: r => lastR x r
def p_whole : Spc := fun ds P _ => ∃ d a ps, ds = [d] ∧ Tp d a ps ∧ P (fr (lastR 0 (waysR 0 (gapsR a ps))))
def p__law_gaps : Spc := fun ds P _ => ∃ d a ps, ds = [d] ∧ Tp d a ps ∧ P (.list ((gapsR a ps).map fun g => .list (g.map fr)))
def p__law_long : Spc := fun ds P _ => ∃ (d : D) (g : List Rat), ds = [d] ∧ (d = .list (g.map fr) ∨ d = pt g) ∧ g.length ≤ 3 ∧ SzA g 1000 ∧ P (fr (longR g))
def p__law_heads : Spc := fun ds P _ => ∃ d a ps, ds = [d] ∧ Tp d a ps ∧ P (.list ((gapsR a ps).map fun g => pt (headR g)))
def p__law_marks : Spc := fun ds P _ => ∃ d a ps, ds = [d] ∧ Tp d a ps ∧ P (.list ((0 :: waysR 0 (gapsR a ps)).map fr))
end K01
namespace K01
open PySem PySem.Spec L2 Fw
abbrev N_added : List Str := ["one", "other", "top", "bottom", "other_top", "other_bottom", "common", "rest", "total", "left"]
abbrev N_subtracted : List Str := ["one", "other"]
abbrev N_multiplied : List Str := ["one", "other", "top", "bottom", "other_top", "other_bottom", "common", "other_common"]
abbrev N_inverse : List Str := ["number", "top", "bottom"]
abbrev N_divided : List Str := ["one", "other"]
abbrev N_opposite : List Str := ["number"]
abbrev N_absolute : List Str := ["number"]
abbrev N_is_less : List Str := ["one", "other"]
abbrev N_largest : List Str := ["numbers", "most", "number"]
abbrev N_is_integer : List Str := ["value"]
abbrev N_is_fraction : List Str := ["value", "top", "bottom"]
abbrev N_is_tuple_of : List Str := ["value", "count"]
abbrev N_is_above_nought : List Str := ["value"]
abbrev N_is_from_nought : List Str := ["value"]
abbrev N_is_point : List Str := ["value", "part"]
abbrev N_step_fault : List Str := ["ahead", "step", "point", "feed", "least", "stop"]
abbrev N_program_fault : List Str := ["value", "start", "steps", "ahead", "index", "step", "place"]
abbrev N_check_program : List Str := ["program", "place"]
abbrev N_path : List Str := ["program", "start", "steps", "step"]
abbrev N_apart : List Str := ["one", "other", "at", "to"]
abbrev N_distances : List Str := ["program", "points", "begin", "end"]
abbrev N_length_of : List Str := ["distance", "part"]
abbrev N_lengths : List Str := ["program", "distance"]
abbrev N_direction_of : List Str := ["distance", "length", "part"]
abbrev N_directions : List Str := ["program", "distance"]
abbrev N_ways : List Str := ["program", "told", "length"]
abbrev N_whole : List Str := ["program"]
abbrev N__law_gear : List Str := ["script", "deep", "cell", "oil"]
abbrev N__law_tooth : List Str := ["gear", "many", "deep", "found"]
abbrev N__law_pick : List Str := ["gear", "things"]
abbrev N__law_same : List Str := ["found", "due", "k"]
abbrev N__law_low : List Str := ["top", "bottom", "one", "two"]
abbrev N__law_add : List Str := ["a", "b"]
abbrev N__law_take : List Str := ["a", "b"]
abbrev N__law_mul : List Str := ["a", "b"]
abbrev N__law_div : List Str := ["a", "b"]
abbrev N__law_under : List Str := ["a", "b"]
abbrev N__law_size : List Str := ["a"]
abbrev N__law_spot : List Str := ["gear", "axes", "spot", "k", "part"]
abbrev N__law_next : List Str := ["gear", "spot", "gap", "axes", "sort", "goal", "part", "factor", "one", "two", "k"]
abbrev N__law_steps : List Str := ["gear", "start", "many", "steps", "spot", "gap", "k", "goal", "one", "two", "feed", "slow"]
abbrev N__law_program : List Str := ["gear", "many", "start"]
abbrev N__law_bounds : List Str := ["gear", "axes", "found", "k", "fast", "rate"]
abbrev N__law_trail : List Str := ["told", "step"]
abbrev N__law_gaps : List Str := ["told", "trail", "one", "two", "k"]
abbrev N__law_long : List Str := ["gaps", "found", "gap"]
abbrev N__law_heads : List Str := ["told", "found", "gaps", "size", "gap"]
abbrev N__law_marks : List Str := ["told", "found", "gaps"]
abbrev N_law : List Str := ["script", "gear", "turn", "told", "kept", "sizes", "heads", "marks", "gaps", "head"]
end K01
namespace K01
open PySem PySem.Spec L2 Fw
def top (i : Nat) : Stmt := PySem.Challenge.pw_fastestalong_k13_lengths_directions_and.main.body.getD i (.Pass ⟨0, 0, 0, 0⟩)
abbrev s_added : Stmt := top 6
theorem sc_added : FnScope N_added ["one", "other"] (defScope s_added) := ⟨rfl, rfl, rfl, by decide +kernel, rfl, by decide +kernel, by decide +kernel⟩
abbrev s_subtracted : Stmt := top 7
theorem sc_subtracted : FnScope N_subtracted ["one", "other"] (defScope s_subtracted) := ⟨rfl, rfl, rfl, by decide +kernel, rfl, by decide +kernel, by decide +kernel⟩
abbrev s_multiplied : Stmt := top 8
theorem sc_multiplied : FnScope N_multiplied ["one", "other"] (defScope s_multiplied) := ⟨rfl, rfl, rfl, by decide +kernel, rfl, by decide +kernel, by decide +kernel⟩
abbrev s_inverse : Stmt := top 9
theorem sc_inverse : FnScope N_inverse ["number"] (defScope s_inverse) := ⟨rfl, rfl, rfl, by decide +kernel, rfl, by decide +kernel, by decide +kernel⟩
abbrev s_divided : Stmt := top 10
theorem sc_divided : FnScope N_divided ["one", "other"] (defScope s_divided) := ⟨rfl, rfl, rfl, by decide +kernel, rfl, by decide +kernel, by decide +kernel⟩
abbrev s_opposite : Stmt := top 11
theorem sc_opposite : FnScope N_opposite ["number"] (defScope s_opposite) := ⟨rfl, rfl, rfl, by decide +kernel, rfl, by decide +kernel, by decide +kernel⟩
abbrev s_absolute : Stmt := top 12
theorem sc_absolute : FnScope N_absolute ["number"] (defScope s_absolute) := ⟨rfl, rfl, rfl, by decide +kernel, rfl, by decide +kernel, by decide +kernel⟩
abbrev s_is_less : Stmt := top 13
theorem sc_is_less : FnScope N_is_less ["one", "other"] (defScope s_is_less) := ⟨rfl, rfl, rfl, by decide +kernel, rfl, by decide +kernel, by decide +kernel⟩
abbrev s_largest : Stmt := top 14
theorem sc_largest : FnScope N_largest ["numbers"] (defScope s_largest) := ⟨rfl, rfl, rfl, by decide +kernel, rfl, by decide +kernel, by decide +kernel⟩
abbrev s_is_integer : Stmt := top 16
theorem sc_is_integer : FnScope N_is_integer ["value"] (defScope s_is_integer) := ⟨rfl, rfl, rfl, by decide +kernel, rfl, by decide +kernel, by decide +kernel⟩
abbrev s_is_fraction : Stmt := top 17
theorem sc_is_fraction : FnScope N_is_fraction ["value"] (defScope s_is_fraction) := ⟨rfl, rfl, rfl, by decide +kernel, rfl, by decide +kernel, by decide +kernel⟩
abbrev s_is_tuple_of : Stmt := top 21
theorem sc_is_tuple_of : FnScope N_is_tuple_of ["value", "count"] (defScope s_is_tuple_of) := ⟨rfl, rfl, rfl, by decide +kernel, rfl, by decide +kernel, by decide +kernel⟩
abbrev s_is_above_nought : Stmt := top 22
theorem sc_is_above_nought : FnScope N_is_above_nought ["value"] (defScope s_is_above_nought) := ⟨rfl, rfl, rfl, by decide +kernel, rfl, by decide +kernel, by decide +kernel⟩
abbrev s_is_from_nought : Stmt := top 23
theorem sc_is_from_nought : FnScope N_is_from_nought ["value"] (defScope s_is_from_nought) := ⟨rfl, rfl, rfl, by decide +kernel, rfl, by decide +kernel, by decide +kernel⟩
abbrev s_is_point : Stmt := top 24
theorem sc_is_point : FnScope N_is_point ["value"] (defScope s_is_point) := ⟨rfl, rfl, rfl, by decide +kernel, rfl, by decide +kernel, by decide +kernel⟩
abbrev s_step_fault : Stmt := top 25
theorem sc_step_fault : FnScope N_step_fault ["ahead", "step"] (defScope s_step_fault) := ⟨rfl, rfl, rfl, by decide +kernel, rfl, by decide +kernel, by decide +kernel⟩
abbrev s_program_fault : Stmt := top 26
theorem sc_program_fault : FnScope N_program_fault ["value"] (defScope s_program_fault) := ⟨rfl, rfl, rfl, by decide +kernel, rfl, by decide +kernel, by decide +kernel⟩
abbrev s_check_program : Stmt := top 27
theorem sc_check_program : FnScope N_check_program ["program"] (defScope s_check_program) := ⟨rfl, rfl, rfl, by decide +kernel, rfl, by decide +kernel, by decide +kernel⟩
abbrev s_path : Stmt := top 28
theorem sc_path : FnScope N_path ["program"] (defScope s_path) := ⟨rfl, rfl, rfl, by decide +kernel, rfl, by decide +kernel, by decide +kernel⟩
abbrev s_apart : Stmt := top 30
theorem sc_apart : FnScope N_apart ["one", "other"] (defScope s_apart) := ⟨rfl, rfl, rfl, by decide +kernel, rfl, by decide +kernel, by decide +kernel⟩
abbrev s_distances : Stmt := top 31
theorem sc_distances : FnScope N_distances ["program"] (defScope s_distances) := ⟨rfl, rfl, rfl, by decide +kernel, rfl, by decide +kernel, by decide +kernel⟩
abbrev s_length_of : Stmt := top 32
theorem sc_length_of : FnScope N_length_of ["distance"] (defScope s_length_of) := ⟨rfl, rfl, rfl, by decide +kernel, rfl, by decide +kernel, by decide +kernel⟩
abbrev s_lengths : Stmt := top 33
theorem sc_lengths : FnScope N_lengths ["program"] (defScope s_lengths) := ⟨rfl, rfl, rfl, by decide +kernel, rfl, by decide +kernel, by decide +kernel⟩
abbrev s_direction_of : Stmt := top 34
theorem sc_direction_of : FnScope N_direction_of ["distance"] (defScope s_direction_of) := ⟨rfl, rfl, rfl, by decide +kernel, rfl, by decide +kernel, by decide +kernel⟩
abbrev s_directions : Stmt := top 35
theorem sc_directions : FnScope N_directions ["program"] (defScope s_directions) := ⟨rfl, rfl, rfl, by decide +kernel, rfl, by decide +kernel, by decide +kernel⟩
abbrev s_ways : Stmt := top 36
theorem sc_ways : FnScope N_ways ["program"] (defScope s_ways) := ⟨rfl, rfl, rfl, by decide +kernel, rfl, by decide +kernel, by decide +kernel⟩
abbrev s_whole : Stmt := top 37
theorem sc_whole : FnScope N_whole ["program"] (defScope s_whole) := ⟨rfl, rfl, rfl, by decide +kernel, rfl, by decide +kernel, by decide +kernel⟩
abbrev s__law_gear : Stmt := top 39
theorem sc__law_gear : FnScope N__law_gear ["script"] (defScope s__law_gear) := ⟨rfl, rfl, rfl, by decide +kernel, rfl, by decide +kernel, by decide +kernel⟩
abbrev s__law_tooth : Stmt := top 40
theorem sc__law_tooth : FnScope N__law_tooth ["gear", "many"] (defScope s__law_tooth) := ⟨rfl, rfl, rfl, by decide +kernel, rfl, by decide +kernel, by decide +kernel⟩
abbrev s__law_pick : Stmt := top 41
theorem sc__law_pick : FnScope N__law_pick ["gear", "things"] (defScope s__law_pick) := ⟨rfl, rfl, rfl, by decide +kernel, rfl, by decide +kernel, by decide +kernel⟩
abbrev s__law_same : Stmt := top 42
theorem sc__law_same : FnScope N__law_same ["found", "due"] (defScope s__law_same) := ⟨rfl, rfl, rfl, by decide +kernel, rfl, by decide +kernel, by decide +kernel⟩
abbrev s__law_low : Stmt := top 43
theorem sc__law_low : FnScope N__law_low ["top", "bottom"] (defScope s__law_low) := ⟨rfl, rfl, rfl, by decide +kernel, rfl, by decide +kernel, by decide +kernel⟩
abbrev s__law_add : Stmt := top 44
theorem sc__law_add : FnScope N__law_add ["a", "b"] (defScope s__law_add) := ⟨rfl, rfl, rfl, by decide +kernel, rfl, by decide +kernel, by decide +kernel⟩
abbrev s__law_take : Stmt := top 45
theorem sc__law_take : FnScope N__law_take ["a", "b"] (defScope s__law_take) := ⟨rfl, rfl, rfl, by decide +kernel, rfl, by decide +kernel, by decide +kernel⟩
abbrev s__law_mul : Stmt := top 46
theorem sc__law_mul : FnScope N__law_mul ["a", "b"] (defScope s__law_mul) := ⟨rfl, rfl, rfl, by decide +kernel, rfl, by decide +kernel, by decide +kernel⟩
abbrev s__law_div : Stmt := top 47
theorem sc__law_div : FnScope N__law_div ["a", "b"] (defScope s__law_div) := ⟨rfl, rfl, rfl, by decide +kernel, rfl, by decide +kernel, by decide +kernel⟩
abbrev s__law_under : Stmt := top 48
theorem sc__law_under : FnScope N__law_under ["a", "b"] (defScope s__law_under) := ⟨rfl, rfl, rfl, by decide +kernel, rfl, by decide +kernel, by decide +kernel⟩
abbrev s__law_size : Stmt := top 49
theorem sc__law_size : FnScope N__law_size ["a"] (defScope s__law_size) := ⟨rfl, rfl, rfl, by decide +kernel, rfl, by decide +kernel, by decide +kernel⟩
abbrev s__law_spot : Stmt := top 50
theorem sc__law_spot : FnScope N__law_spot ["gear", "axes"] (defScope s__law_spot) := ⟨rfl, rfl, rfl, by decide +kernel, rfl, by decide +kernel, by decide +kernel⟩
abbrev s__law_next : Stmt := top 51
theorem sc__law_next : FnScope N__law_next ["gear", "spot", "gap"] (defScope s__law_next) := ⟨rfl, rfl, rfl, by decide +kernel, rfl, by decide +kernel, by decide +kernel⟩
abbrev s__law_steps : Stmt := top 52
theorem sc__law_steps : FnScope N__law_steps ["gear", "start", "many"] (defScope s__law_steps) := ⟨rfl, rfl, rfl, by decide +kernel, rfl, by decide +kernel, by decide +kernel⟩
abbrev s__law_program : Stmt := top 53
theorem sc__law_program : FnScope N__law_program ["gear", "many"] (defScope s__law_program) := ⟨rfl, rfl, rfl, by decide +kernel, rfl, by decide +kernel, by decide +kernel⟩
abbrev s__law_bounds : Stmt := top 54
theorem sc__law_bounds : FnScope N__law_bounds ["gear", "axes"] (defScope s__law_bounds) := ⟨rfl, rfl, rfl, by decide +kernel, rfl, by decide +kernel, by decide +kernel⟩
abbrev s__law_trail : Stmt := top 55
theorem sc__law_trail : FnScope N__law_trail ["told"] (defScope s__law_trail) := ⟨rfl, rfl, rfl, by decide +kernel, rfl, by decide +kernel, by decide +kernel⟩
abbrev s__law_gaps : Stmt := top 56
theorem sc__law_gaps : FnScope N__law_gaps ["told"] (defScope s__law_gaps) := ⟨rfl, rfl, rfl, by decide +kernel, rfl, by decide +kernel, by decide +kernel⟩
abbrev s__law_long : Stmt := top 57
theorem sc__law_long : FnScope N__law_long ["gaps"] (defScope s__law_long) := ⟨rfl, rfl, rfl, by decide +kernel, rfl, by decide +kernel, by decide +kernel⟩
abbrev s__law_heads : Stmt := top 58
theorem sc__law_heads : FnScope N__law_heads ["told"] (defScope s__law_heads) := ⟨rfl, rfl, rfl, by decide +kernel, rfl, by decide +kernel, by decide +kernel⟩
abbrev s__law_marks : Stmt := top 59
theorem sc__law_marks : FnScope N__law_marks ["told"] (defScope s__law_marks) := ⟨rfl, rfl, rfl, by decide +kernel, rfl, by decide +kernel, by decide +kernel⟩
abbrev s_law : Stmt := top 60
theorem sc_law : FnScope N_law ["script"] (defScope s_law) := ⟨rfl, rfl, rfl, by decide +kernel, rfl, by decide +kernel, by decide +kernel⟩
abbrev s_init_InvalidProgram : Stmt := (C8.clsBody (top 3)).getD 0 (.Pass ⟨0, 0, 0, 0⟩)
theorem sc_init_InvalidProgram : FnScope ["self", "place"] ["self", "place"] (defScope s_init_InvalidProgram) := ⟨rfl, rfl, rfl, by decide +kernel, rfl, by decide +kernel, by decide +kernel⟩
end K01
namespace K01
open PySem PySem.Spec L2 Fw
variable [Tabs]
def ms_added : DS := (dSeq (dAsg (dVar 0) (gT (gN 2 (gsCons (gP 2) (gsCons (gP 3) gsNil)))))
  (dSeq (dAsg (dVar 1) (gT (gN 2 (gsCons (gP 4) (gsCons (gP 5) gsNil)))))
  (dSeq (dAsg (dCB bGcd (dCons (dVar 3) (dCons (dVar 5) dNil))) (gP 6))
  (dSeq (dAsg (dOp dFdiv (dVar 3) (dVar 6)) (gP 7))
  (dSeq (dAsg (dOp dAdd (dOp dMul (dVar 2) (dOp dFdiv (dVar 5) (dVar 6))) (dOp dMul (dVar 4) (dVar 7))) (gP 8))
  (dSeq (dAsg (dCB bGcd (dCons (dVar 8) (dCons (dVar 6) dNil))) (gP 9))
  (dRet (dTup (dCons (dOp dFdiv (dVar 8) (dVar 9)) (dCons (dOp dMul (dVar 7) (dOp dFdiv (dVar 5) (dVar 9))) dNil))))))))))
def ms_subtracted : DS := (dRet (dCall p_added (dCons (dVar 0) (dCons (dCall p_opposite (dCons (dVar 1) dNil)) dNil))))
def ms_multiplied : DS := (dSeq (dAsg (dVar 0) (gT (gN 2 (gsCons (gP 2) (gsCons (gP 3) gsNil)))))
  (dSeq (dAsg (dVar 1) (gT (gN 2 (gsCons (gP 4) (gsCons (gP 5) gsNil)))))
  (dSeq (dAsg (dCB bGcd (dCons (dVar 2) (dCons (dVar 5) dNil))) (gP 6))
  (dSeq (dAsg (dCB bGcd (dCons (dVar 4) (dCons (dVar 3) dNil))) (gP 7))
  (dRet (dTup (dCons (dOp dMul (dOp dFdiv (dVar 2) (dVar 6)) (dOp dFdiv (dVar 4) (dVar 7))) (dCons (dOp dMul (dOp dFdiv (dVar 3) (dVar 7)) (dOp dFdiv (dVar 5) (dVar 6))) dNil))))))))
def ms_inverse : DS := (dSeq (dAsg (dVar 0) (gT (gN 2 (gsCons (gP 1) (gsCons (gP 2) gsNil)))))
  (dRet (dIf (dTest (dOp dGt (dVar 1) (dC (.int 0)))) (dTup (dCons (dVar 2) (dCons (dVar 1) dNil))) (dTup (dCons (dNeg (dVar 2)) (dCons (dNeg (dVar 1)) dNil))))))
def ms_divided : DS := (dRet (dCall p_multiplied (dCons (dVar 0) (dCons (dCall p_inverse (dCons (dVar 1) dNil)) dNil))))
def ms_opposite : DS := (dRet (dTup (dCons (dNeg (dOp dIx (dVar 0) (dC (.int 0)))) (dCons (dOp dIx (dVar 0) (dC (.int 1))) dNil))))
def ms_absolute : DS := (dRet (dTup (dCons (dCB bAbs (dCons (dOp dIx (dVar 0) (dC (.int 0))) dNil)) (dCons (dOp dIx (dVar 0) (dC (.int 1))) dNil))))
def ms_is_less : DS := (dRet (dOp dLt (dOp dMul (dOp dIx (dVar 0) (dC (.int 0))) (dOp dIx (dVar 1) (dC (.int 1)))) (dOp dMul (dOp dIx (dVar 1) (dC (.int 0))) (dOp dIx (dVar 0) (dC (.int 1))))))
def ms_largest : DS := (dSeq (dAsg (dOp dIx (dVar 0) (dC (.int 0))) (gP 1))
  (dSeq (dFor (iL (dVar 0)) (gP 2)
  (dIfS (dTruth (dCall p_is_less (dCons (dVar 1) (dCons (dVar 2) dNil))))
  (dAsg (dVar 2) (gP 1))
  dSkip))
  (dRet (dVar 1))))
def ms_is_integer : DS := (dRet (dType "int" (dVar 0)))
def ms_is_fraction : DS := (dSeq (dIfS (dOrT (dTest (dNType "tuple" (dVar 0))) (dTest (dOp dNe (dCB bLen (dCons (dVar 0) dNil)) (dC (.int 2)))))
  (dRet (dC (.bool false)))
  dSkip)
  (dSeq (dAsg (dVar 0) (gT (gN 2 (gsCons (gP 1) (gsCons (gP 2) gsNil)))))
  (dSeq (dIfS (dOrT (dNotT (dTruth (dCall p_is_integer (dCons (dVar 1) dNil)))) (dNotT (dTruth (dCall p_is_integer (dCons (dVar 2) dNil)))))
  (dRet (dC (.bool false)))
  dSkip)
  (dRet (dAndV (dOp dGe (dVar 2) (dC (.int 1))) (dOp dEq (dCB bGcd (dCons (dVar 1) (dCons (dVar 2) dNil))) (dC (.int 1))))))))
def ms_is_tuple_of : DS := (dRet (dAndV (dType "tuple" (dVar 0)) (dOp dEq (dCB bLen (dCons (dVar 0) dNil)) (dVar 1))))
def ms_is_above_nought : DS := (dRet (dAndV (dCall p_is_fraction (dCons (dVar 0) dNil)) (dOp dGt (dOp dIx (dVar 0) (dC (.int 0))) (dC (.int 0)))))
def ms_is_from_nought : DS := (dRet (dAndV (dCall p_is_fraction (dCons (dVar 0) dNil)) (dOp dGe (dOp dIx (dVar 0) (dC (.int 0))) (dC (.int 0)))))
def ms_is_point : DS := (dSeq (dIfS (dOrT (dTest (dNType "tuple" (dVar 0))) (dNotT (dTest (dChain dLe dLe (dC (.int 1)) (dCB bLen (dCons (dVar 0) dNil)) (dC c_MOST_AXES)))))
  (dRet (dC (.bool false)))
  dSkip)
  (dRet (dAllG true (iT (dVar 0)) (gP 1) (dCall p_is_fraction (dCons (dVar 1) dNil)) [1])))
def ms_step_fault : DS := (dSeq (dIfS (dNotT (dTruth (dCall p_is_tuple_of (dCons (dVar 1) (dCons (dC (.int 4)) dNil)))))
  (dRet (dTup dNil))
  dSkip)
  (dSeq (dAsg (dVar 1) (gT (gN 4 (gsCons (gP 2) (gsCons (gP 3) (gsCons (gP 4) (gsCons (gP 5) gsNil)))))))
  (dSeq (dIfS (dOrT (dNotT (dTruth (dCall p_is_point (dCons (dVar 2) dNil)))) (dOrT (dTest (dOp dNe (dCB bLen (dCons (dVar 2) dNil)) (dCB bLen (dCons (dVar 0) dNil)))) (dTest (dOp dEq (dVar 2) (dVar 0)))))
  (dRet (dTup (dCons (dC (.int 0)) dNil)))
  dSkip)
  (dSeq (dIfS (dNotT (dTruth (dCall p_is_above_nought (dCons (dVar 3) dNil))))
  (dRet (dTup (dCons (dC (.int 1)) dNil)))
  dSkip)
  (dSeq (dIfS (dOrT (dNotT (dTruth (dCall p_is_from_nought (dCons (dVar 4) dNil)))) (dTruth (dCall p_is_less (dCons (dVar 3) (dCons (dVar 4) dNil)))))
  (dRet (dTup (dCons (dC (.int 2)) dNil)))
  dSkip)
  (dSeq (dIfS (dTest (dNType "bool" (dVar 5)))
  (dRet (dTup (dCons (dC (.int 3)) dNil)))
  dSkip)
  (dRet (dC .none))))))))
def ms_program_fault : DS := (dSeq (dIfS (dNotT (dTruth (dCall p_is_tuple_of (dCons (dVar 0) (dCons (dC (.int 2)) dNil)))))
  (dRet (dTup dNil))
  dSkip)
  (dSeq (dAsg (dVar 0) (gT (gN 2 (gsCons (gP 1) (gsCons (gP 2) gsNil)))))
  (dSeq (dIfS (dNotT (dTruth (dCall p_is_point (dCons (dVar 1) dNil))))
  (dRet (dTup (dCons (dC (.int 0)) dNil)))
  dSkip)
  (dSeq (dIfS (dOrT (dTest (dNType "tuple" (dVar 2))) (dNotT (dTest (dChain dLe dLe (dC (.int 1)) (dCB bLen (dCons (dVar 2) dNil)) (dC c_MOST_STEPS)))))
  (dRet (dTup (dCons (dC (.int 1)) dNil)))
  dSkip)
  (dSeq (dAsg (dVar 1) (gP 3))
  (dSeq (dFor (iET (dCons (dVar 2) dNil)) (gT (gN 2 (gsCons (gP 4) (gsCons (gP 5) gsNil))))
  (dSeq (dAsg (dCall p_step_fault (dCons (dVar 3) (dCons (dVar 5) dNil))) (gP 6))
  (dSeq (dIfS (dTest (dOp dNotO (dVar 6) (dC .none)))
  (dRet (dOp dAdd (dTup (dCons (dC (.int 1)) (dCons (dVar 4) dNil))) (dVar 6)))
  dSkip)
  (dAsg (dOp dIx (dVar 5) (dC (.int 0))) (gP 3)))))
  (dRet (dC .none))))))))
def ms_check_program : DS := (dSeq (dAsg (dCall p_program_fault (dCons (dVar 0) dNil)) (gP 1))
  (dIfS (dTest (dOp dNotO (dVar 1) (dC .none)))
  (dRaiseF "InvalidProgram" "place" (dVar 1))
  dSkip))
def ms_path : DS := (dSeq (dDrop (dCall p_check_program (dCons (dVar 0) dNil)))
  (dSeq (dAsg (dVar 0) (gT (gN 2 (gsCons (gP 1) (gsCons (gP 2) gsNil)))))
  (dRet (dOp dAdd (dTup (dCons (dVar 1) dNil)) (dTupG (iT (dVar 2)) (gP 3) (dOp dIx (dVar 3) (dC (.int 0))) [3])))))
def ms_apart : DS := (dRet (dTupG (iZ (dCons (dVar 0) (dCons (dVar 1) dNil))) (gT (gN 2 (gsCons (gP 2) (gsCons (gP 3) gsNil)))) (dCall p_subtracted (dCons (dVar 3) (dCons (dVar 2) dNil))) [2, 3]))
def ms_distances : DS := (dSeq (dAsg (dCall p_path (dCons (dVar 0) dNil)) (gP 1))
  (dRet (dNew (dLc (iZ (dCons (dVar 1) (dCons (dSl (dVar 1) (dPart (dC (.int 1))) dNoPart) dNil))) (gT (gN 2 (gsCons (gP 2) (gsCons (gP 3) gsNil)))) mYes (dCall p_apart (dCons (dVar 2) (dCons (dVar 3) dNil))) [2, 3]))))
def ms_length_of : DS := (dRet (dCall p_largest (dCons (dNew (dLc (iT (dVar 0)) (gP 1) mYes (dCall p_absolute (dCons (dVar 1) dNil)) [1])) dNil)))
def ms_lengths : DS := (dRet (dTupG (iL (dCall p_distances (dCons (dVar 0) dNil))) (gP 1) (dCall p_length_of (dCons (dVar 1) dNil)) [1]))
def ms_direction_of : DS := (dSeq (dAsg (dCall p_length_of (dCons (dVar 0) dNil)) (gP 1))
  (dRet (dTupG (iT (dVar 0)) (gP 2) (dCall p_divided (dCons (dVar 2) (dCons (dVar 1) dNil))) [2])))
def ms_directions : DS := (dRet (dTupG (iL (dCall p_distances (dCons (dVar 0) dNil))) (gP 1) (dCall p_direction_of (dCons (dVar 1) dNil)) [1]))
def ms_ways : DS := (dSeq (dAsgO 1 (mLst (dCons (dC c_NOUGHT) dNil)))
  (dSeq (dFor (iT (dCall p_lengths (dCons (dVar 0) dNil))) (gP 2)
  (dApp 1 (dCall p_added (dCons (dIxO 1 (dNeg (dC (.int 1)))) (dCons (dVar 2) dNil)))))
  (dFrz 1 (dRet (dCB bTuple (dCons (dVar 1) dNil))))))
def ms_whole : DS := (dRet (dOp dIx (dCall p_ways (dCons (dVar 0) dNil)) (dNeg (dC (.int 1)))))
def ms__law_same (pr : Spc) : DS := (dSeq (dIfS (dTruth (dIs2 "tuple" "list" (dVar 1)))
  (dSeq (dIfS (dOrT (dTest (dOp dNe (dIs "tuple" (dVar 0)) (dIs "tuple" (dVar 1)))) (dTest (dOp dNe (dIs "list" (dVar 0)) (dIs "list" (dVar 1)))))
  (dRet (dC (.bool false)))
  dSkip)
  (dRet (dAndV (dOp dEq (dCB bLen (dCons (dVar 0) dNil)) (dCB bLen (dCons (dVar 1) dNil))) (dCB bAll (dCons (dNew (dLc (iR1 (dCons (dCB bLen (dCons (dVar 1) dNil)) dNil)) (gP 2) mYes (dCall pr (dCons (dOp dIx (dVar 0) (dVar 2)) (dCons (dOp dIx (dVar 1) (dVar 2)) dNil))) [2])) dNil)))))
  dSkip)
  (dSeq (dIfS (dOrT (dTest (dOp dNe (dIs "bool" (dVar 0)) (dIs "bool" (dVar 1)))) (dTest (dOp dNe (dIs "int" (dVar 0)) (dIs "int" (dVar 1)))))
  (dRet (dC (.bool false)))
  dSkip)
  (dRet (dAndV (dOp dEq (dIs "str" (dVar 0)) (dIs "str" (dVar 1))) (dOp dEq (dVar 0) (dVar 1))))))
def ms__law_low : DS := (dSeq (dPar 2 3 (dCons (dCB bAbs (dCons (dVar 0) dNil)) (dCons (dCB bAbs (dCons (dVar 1) dNil)) dNil)))
  (dSeq (dWhile (dTest (dOp dGt (dVar 3) (dC (.int 0))))
  (dPar 2 3 (dCons (dVar 3) (dCons (dOp dMod (dCB bInt (dCons (dVar 2) dNil)) (dVar 3)) dNil))))
  (dSeq (dAsg (dIf (dTest (dOp dGt (dVar 1) (dC (.int 0)))) (dVar 2) (dNeg (dVar 2))) (gP 2))
  (dRet (dTup (dCons (dOp dFdiv (dVar 0) (dVar 2)) (dCons (dOp dFdiv (dVar 1) (dVar 2)) dNil)))))))
def ms__law_add : DS := (dRet (dCall p__law_low (dCons (dOp dAdd (dOp dMul (dOp dIx (dVar 0) (dC (.int 0))) (dOp dIx (dVar 1) (dC (.int 1)))) (dOp dMul (dOp dIx (dVar 1) (dC (.int 0))) (dOp dIx (dVar 0) (dC (.int 1))))) (dCons (dOp dMul (dOp dIx (dVar 0) (dC (.int 1))) (dOp dIx (dVar 1) (dC (.int 1)))) dNil))))
def ms__law_take : DS := (dRet (dCall p__law_low (dCons (dOp dSub (dOp dMul (dOp dIx (dVar 0) (dC (.int 0))) (dOp dIx (dVar 1) (dC (.int 1)))) (dOp dMul (dOp dIx (dVar 1) (dC (.int 0))) (dOp dIx (dVar 0) (dC (.int 1))))) (dCons (dOp dMul (dOp dIx (dVar 0) (dC (.int 1))) (dOp dIx (dVar 1) (dC (.int 1)))) dNil))))
def ms__law_mul : DS := (dRet (dCall p__law_low (dCons (dOp dMul (dOp dIx (dVar 0) (dC (.int 0))) (dOp dIx (dVar 1) (dC (.int 0)))) (dCons (dOp dMul (dOp dIx (dVar 0) (dC (.int 1))) (dOp dIx (dVar 1) (dC (.int 1)))) dNil))))
def ms__law_div : DS := (dRet (dCall p__law_low (dCons (dOp dMul (dOp dIx (dVar 0) (dC (.int 0))) (dOp dIx (dVar 1) (dC (.int 1)))) (dCons (dOp dMul (dOp dIx (dVar 0) (dC (.int 1))) (dOp dIx (dVar 1) (dC (.int 0)))) dNil))))
def ms__law_under : DS := (dRet (dOp dLt (dOp dMul (dOp dIx (dVar 0) (dC (.int 0))) (dOp dIx (dVar 1) (dC (.int 1)))) (dOp dMul (dOp dIx (dVar 1) (dC (.int 0))) (dOp dIx (dVar 0) (dC (.int 1))))))
def ms__law_size : DS := (dRet (dTup (dCons (dCB bAbs (dCons (dOp dIx (dVar 0) (dC (.int 0))) dNil)) (dCons (dOp dIx (dVar 0) (dC (.int 1))) dNil))))
def ms__law_spot : DS := (dSeq (dAsgO 2 (mLst dNil))
  (dSeq (dFor (iR1 (dCons (dVar 1) dNil)) (gP 3)
  (dSeq (dAsg (dCall p__law_low (dCons (dOp dSub (dCallS 0 p__law_tooth (dCons (dC (.int 21)) dNil)) (dC (.int 10))) (dCons (dOp dIx (dLst (dCons (dC (.int 1)) (dCons (dC (.int 1)) (dCons (dC (.int 2)) (dCons (dC (.int 3)) dNil))))) (dCallS 0 p__law_tooth (dCons (dC (.int 4)) dNil))) dNil))) (gP 4))
  (dApp 2 (dIf (dTest (dOp dEq (dCallS 0 p__law_tooth (dCons (dC (.int 12)) dNil)) (dC (.int 0)))) (dCall p__law_add (dCons (dVar 4) (dCons (dTup (dCons (dC (.int 1)) (dCons (dOp dPow (dC (.int 10)) (dC (.int 60))) dNil))) dNil))) (dVar 4)))))
  (dFrz 2 (dRet (dCB bTuple (dCons (dVar 2) dNil))))))
def ms__law_next : DS := (dSeq (dPar 3 4 (dCons (dCB bLen (dCons (dVar 1) dNil)) (dCons (dCallS 0 p__law_tooth (dCons (dC (.int 10)) dNil)) dNil)))
  (dSeq (dAsgO 5 (mList (dCons (dCallS 0 p__law_spot (dCons (dVar 3) dNil)) dNil)))
  (dSeq (dIfS (dAndT (dTest (dOp dLt (dVar 4) (dC (.int 5)))) (dAndT (dTest (dOp dNe (dVar 2) (dTup dNil))) (dTest (dOp dEq (dNew (dLc (iT (dVar 1)) (gP 6) (dTest (dOp dGt (dCB bAbs (dCons (dOp dIx (dVar 6) (dC (.int 0))) dNil)) (dOp dMul (dC (.int 1000)) (dOp dIx (dVar 6) (dC (.int 1)))))) (dC (.int 1)) [6])) (dLst dNil)))))
  (dSeq (dAsg (dOp dIx (dLst (dCons (dTup (dCons (dC (.int 1)) (dCons (dC (.int 1)) dNil))) (dCons (dTup (dCons (dC (.int 2)) (dCons (dC (.int 1)) dNil))) (dCons (dTup (dCons (dNeg (dC (.int 1))) (dCons (dC (.int 1)) dNil))) (dCons (dTup (dCons (dNeg (dC (.int 2))) (dCons (dC (.int 1)) dNil))) (dCons (dTup (dCons (dC (.int 1)) (dCons (dC (.int 1)) dNil))) dNil)))))) (dVar 4)) (gP 7))
  (dSeq (dFrz 5 (dAsgO 5 (dLc (iZ (dCons (dVar 1) (dCons (dVar 2) dNil))) (gT (gN 2 (gsCons (gP 8) (gsCons (gP 9) gsNil)))) mYes (dCall p__law_add (dCons (dVar 8) (dCons (dCall p__law_mul (dCons (dVar 9) (dCons (dVar 7) dNil))) dNil))) [8, 9])))
  (dPut 5 (dIf (dTest (dOp dEq (dVar 4) (dC (.int 4)))) (dCall p__law_add (dCons (dIxO 5 (dC (.int 0))) (dCons (dTup (dCons (dC (.int 1)) (dCons (dOp dPow (dC (.int 10)) (dC (.int 60))) dNil))) dNil))) (dIxO 5 (dC (.int 0)))) (dC (.int 0)))))
  dSkip)
  (dSeq (dIfS (dOrT (dTest (dOp dEq (dVar 4) (dC (.int 5)))) (dTest (dOp dEq (dVar 4) (dC (.int 6)))))
  (dSeq (dAsg (dCallS 0 p__law_tooth (dCons (dVar 3) dNil)) (gP 10))
  (dFrz 5 (dAsgO 5 (mCat (dOp dAdd (dCB bList (dCons (dSl (dVar 1) dNoPart (dPart (dVar 10))) dNil)) (dLst (dCons (dIf (dTest (dOp dEq (dVar 4) (dC (.int 5)))) (dOp dIx (dVar 5) (dVar 10)) (dCall p__law_add (dCons (dOp dIx (dVar 1) (dVar 10)) (dCons (dTup (dCons (dC (.int 1)) (dCons (dOp dPow (dC (.int 10)) (dC (.int 60))) dNil))) dNil)))) dNil))) (dCB bList (dCons (dSl (dVar 1) (dPart (dOp dAdd (dVar 10) (dC (.int 1)))) dNoPart) dNil))))))
  dSkip)
  (dSeq (dIfS (dTest (dOp dEq (dTupO 5) (dVar 1)))
  (dPut 5 (dCall p__law_add (dCons (dIxO 5 (dC (.int 0))) (dCons (dTup (dCons (dC (.int 1)) (dCons (dC (.int 1)) dNil))) dNil))) (dC (.int 0)))
  dSkip)
  (dFrz 5 (dRet (dCB bTuple (dCons (dVar 5) dNil)))))))))
def ms__law_steps : DS := (dSeq (dPar3O 3 4 5 (mLst dNil) (dCons (dVar 1) (dCons (dTup dNil) dNil)))
  (dSeq (dFor (iR1 (dCons (dVar 2) dNil)) (gP 6)
  (dSeq (dAsg (dCallS 0 p__law_next (dCons (dVar 4) (dCons (dVar 5) dNil))) (gP 7))
  (dSeq (dPar 5 4 (dCons (dCB bTuple (dCons (dNew (dLc (iZ (dCons (dVar 7) (dCons (dVar 4) dNil))) (gT (gN 2 (gsCons (gP 8) (gsCons (gP 9) gsNil)))) mYes (dCall p__law_take (dCons (dVar 8) (dCons (dVar 9) dNil))) [8, 9])) dNil)) (dCons (dVar 7) dNil)))
  (dSeq (dAsg (dCall p__law_low (dCons (dOp dAdd (dC (.int 1)) (dCallS 0 p__law_tooth (dCons (dC (.int 12)) dNil))) (dCons (dOp dIx (dLst (dCons (dC (.int 1)) (dCons (dC (.int 1)) (dCons (dC (.int 2)) (dCons (dC (.int 5)) dNil))))) (dCallS 0 p__law_tooth (dCons (dC (.int 4)) dNil))) dNil))) (gP 10))
  (dSeq (dAsg (dOp dIx (dLst (dCons (dTup (dCons (dC (.int 0)) (dCons (dC (.int 1)) dNil))) (dCons (dTup (dCons (dC (.int 0)) (dCons (dC (.int 1)) dNil))) (dCons (dVar 10) (dCons (dCall p__law_mul (dCons (dVar 10) (dCons (dTup (dCons (dC (.int 1)) (dCons (dC (.int 3)) dNil))) dNil))) dNil))))) (dCallS 0 p__law_tooth (dCons (dC (.int 4)) dNil))) (gP 11))
  (dApp 3 (dTup (dCons (dVar 7) (dCons (dVar 10) (dCons (dVar 11) (dCons (dOp dEq (dCallS 0 p__law_tooth (dCons (dC (.int 5)) dNil)) (dC (.int 0))) dNil)))))))))))
  (dFrz 3 (dRet (dCB bTuple (dCons (dVar 3) dNil))))))
def ms__law_program : DS := (dSeq (dAsg (dCallS 0 p__law_spot (dCons (dOp dAdd (dC (.int 1)) (dCallS 0 p__law_tooth (dCons (dC (.int 3)) dNil))) dNil)) (gP 2))
  (dRet (dTup (dCons (dVar 2) (dCons (dCallS 0 p__law_steps (dCons (dVar 2) (dCons (dOp dAdd (dC (.int 1)) (dCallS 0 p__law_tooth (dCons (dVar 1) dNil))) dNil))) dNil)))))
def ms__law_trail : DS := (dRet (dOp dAdd (dLst (dCons (dOp dIx (dVar 0) (dC (.int 0))) dNil)) (dNew (dLc (iT (dOp dIx (dVar 0) (dC (.int 1)))) (gP 1) mYes (dOp dIx (dVar 1) (dC (.int 0))) [1]))))
def ms__law_gaps : DS := (dSeq (dAsg (dCall p__law_trail (dCons (dVar 0) dNil)) (gP 1))
  (dRet (dNew (dLc (iR1 (dCons (dOp dSub (dCB bLen (dCons (dVar 1) dNil)) (dC (.int 1))) dNil)) (gP 4) mYes (dNew (dLc (iZ (dCons (dOp dIx (dVar 1) (dOp dAdd (dVar 4) (dC (.int 1)))) (dCons (dOp dIx (dVar 1) (dVar 4)) dNil))) (gT (gN 2 (gsCons (gP 2) (gsCons (gP 3) gsNil)))) mYes (dCall p__law_take (dCons (dVar 2) (dCons (dVar 3) dNil))) [2, 3])) [4]))))
def ms__law_long : DS := (dSeq (dAsg (dTup (dCons (dC (.int 0)) (dCons (dC (.int 1)) dNil))) (gP 1))
  (dSeq (dFor (iA (dVar 0)) (gP 2)
  (dIfS (dTruth (dCall p__law_under (dCons (dVar 1) (dCons (dCall p__law_size (dCons (dVar 2) dNil)) dNil))))
  (dAsg (dCall p__law_size (dCons (dVar 2) dNil)) (gP 1))
  dSkip))
  (dRet (dVar 1))))
def ms__law_heads : DS := (dSeq (dAsgO 1 (mLst dNil))
  (dSeq (dFor (iL (dCall p__law_gaps (dCons (dVar 0) dNil))) (gP 2)
  (dSeq (dAsg (dCall p__law_long (dCons (dVar 2) dNil)) (gP 3))
  (dApp 1 (dCB bTuple (dCons (dNew (dLc (iL (dVar 2)) (gP 4) mYes (dCall p__law_div (dCons (dVar 4) (dCons (dVar 3) dNil))) [4])) dNil)))))
  (dFrz 1 (dRet (dVar 1)))))
def ms__law_marks : DS := (dSeq (dAsgO 1 (mLst (dCons (dTup (dCons (dC (.int 0)) (dCons (dC (.int 1)) dNil))) dNil)))
  (dSeq (dFor (iL (dCall p__law_gaps (dCons (dVar 0) dNil))) (gP 2)
  (dApp 1 (dCall p__law_add (dCons (dIxO 1 (dNeg (dC (.int 1)))) (dCons (dCall p__law_long (dCons (dVar 2) dNil)) dNil)))))
  (dFrz 1 (dRet (dVar 1)))))
def ms_law : DS := (dSeq (dFor (iR1 (dCons (dOp dAdd (dC (.int 4)) (dCB bMin (dCons (dC (.int 5)) (dCons (dCB bLen (dCons (dVar 0) dNil)) dNil)))) dNil)) (gP 2)
  (dSeq (dAsg (dCallS 1 p__law_program (dCons (dOp dIx (dLst (dCons (dC (.int 3)) (dCons (dC (.int 10)) (dCons (dC (.int 30)) dNil)))) (dCallS 1 p__law_tooth (dCons (dC (.int 3)) dNil))) dNil)) (gP 3))
  (dSeq (dAsg (dCB bRepr (dCons (dVar 3) dNil)) (gP 4))
  (dSeq (dPar3 5 6 7 (dCons (dCB bTuple (dCons (dNew (dLc (iL (dCall p__law_gaps (dCons (dVar 3) dNil))) (gP 8) mYes (dCall p__law_long (dCons (dVar 8) dNil)) [8])) dNil)) (dCons (dCB bTuple (dCons (dCall p__law_heads (dCons (dVar 3) dNil)) dNil)) (dCons (dCB bTuple (dCons (dCall p__law_marks (dCons (dVar 3) dNil)) dNil)) dNil))))
  (dSeq (dIfS (dNotT (dTruth (dCall p__law_same (dCons (dLst (dCons (dCall p_lengths (dCons (dVar 3) dNil)) (dCons (dCallK 1 (permL [0]) p_lengths (dCons (dVar 3) dNil)) (dCons (dCall p_directions (dCons (dVar 3) dNil)) (dCons (dCallK 1 (permL [0]) p_directions (dCons (dVar 3) dNil)) dNil))))) (dCons (dLst (dCons (dVar 5) (dCons (dVar 5) (dCons (dVar 6) (dCons (dVar 6) dNil))))) dNil)))))
  (dRet (dC (.bool false)))
  dSkip)
  (dSeq (dIfS (dNotT (dTruth (dCall p__law_same (dCons (dLst (dCons (dCall p_ways (dCons (dVar 3) dNil)) (dCons (dCallK 1 (permL [0]) p_ways (dCons (dVar 3) dNil)) (dCons (dCall p_whole (dCons (dVar 3) dNil)) (dCons (dCallK 1 (permL [0]) p_whole (dCons (dVar 3) dNil)) dNil))))) (dCons (dLst (dCons (dVar 7) (dCons (dVar 7) (dCons (dOp dIx (dVar 7) (dNeg (dC (.int 1)))) (dCons (dOp dIx (dVar 7) (dNeg (dC (.int 1)))) dNil))))) dNil)))))
  (dRet (dC (.bool false)))
  dSkip)
  (dIfS (dOrT (dTest (dOp dNe (dNew (dLc (iT (dCall p_directions (dCons (dVar 3) dNil))) (gP 9) (dTest (dOp dNe (dCall p__law_long (dCons (dVar 9) dNil)) (dTup (dCons (dC (.int 1)) (dCons (dC (.int 1)) dNil))))) (dC (.int 1)) [9])) (dLst dNil))) (dTest (dOp dNe (dCB bRepr (dCons (dVar 3) dNil)) (dVar 4))))
  (dRet (dC (.bool false)))
  dSkip)))))))
  (dRet (dC (.bool true))))
end K01
namespace K01
open PySem PySem.Spec L2 Fw
variable [Tabs]
theorem fr_eq {n d : Int} (hd : 0 < d) (h : Nat.gcd n.natAbs d.natAbs = 1) : PyData.tuple [.int n, .int d] = fr (Rat.divInt n d) := by
  have e1 : (Rat.divInt n d).num = n := by
    rw [Rat.num_divInt]
    have g : d.gcd n = 1 := by rw [Int.gcd_comm]; exact h
    rw [g, Int.sign_eq_one_of_pos hd]
    simp
  have e2 : ((Rat.divInt n d).den : Int) = d := by
    rw [Rat.den_divInt]
    have g : d.gcd n = 1 := by rw [Int.gcd_comm]; exact h
    rw [g, if_neg (by omega)]
    simp
    omega
  unfold fr
  rw [e1, e2]
theorem exact_div {c t : Int} (hc : c ≠ 0) : (c * t).fdiv c = t := Int.mul_fdiv_cancel_left _ hc
theorem red_frac {t b c : Int} (hb : b ≠ 0) (hc : c.natAbs = Nat.gcd t.natAbs b.natAbs) (hs : 0 < c * b) : PyData.tuple [.int (t.fdiv c), .int (b.fdiv c)] = fr (Rat.divInt t b) := by
  have c0 : c ≠ 0 := by intro z; subst z; simp at hs
  obtain ⟨t', rfl⟩ : c ∣ t := Int.natAbs_dvd_natAbs.mp (hc ▸ Nat.gcd_dvd_left _ _)
  obtain ⟨b', rfl⟩ : c ∣ b := Int.natAbs_dvd_natAbs.mp (hc ▸ Nat.gcd_dvd_right _ _)
  rw [exact_div c0, exact_div c0, Rat.divInt_mul_left c0]
  have hb' : 0 < b' := by
    have z : 0 < (c * c) * b' := by rw [Int.mul_assoc]; exact hs
    have cc : 0 < c * c := by
      rcases Int.lt_or_gt_of_ne c0 with q | q
      · exact Int.mul_pos_of_neg_of_neg q q
      · exact Int.mul_pos q q
    rcases Int.lt_or_le 0 b' with h | h
    · exact h
    · have q := Int.mul_le_mul_of_nonneg_left h (Int.le_of_lt cc)
      rw [Int.mul_zero] at q
      omega
  refine fr_eq hb' ?_
  have cp : 0 < c.natAbs := Int.natAbs_pos.mpr c0
  rw [Int.natAbs_mul, Int.natAbs_mul, Nat.gcd_mul_left] at hc
  exact Nat.eq_of_mul_eq_mul_left cp (by omega)
theorem den_pos (q : Rat) : 0 < (q.den : Int) := by have := q.den_pos; omega
theorem bits_le {a b : Nat} {n : Nat} (h : a ≤ b) (hb : b < 2 ^ n) : a < 2 ^ n := Nat.lt_of_le_of_lt h hb
theorem div_ok {j : Int} {n : Nat} (h : j ≠ 0) (hb : j.natAbs < 2 ^ n) (h0 : 0 < n) (h9 : n ≤ 9000) (i : Int) : DivOk i j := DivOk.w h hb h0 h9
theorem two_le : 2 ≤ 16777216 := by decide
theorem gcd_ne {t b : Int} (hb : b ≠ 0) : ((Nat.gcd t.natAbs b.natAbs : Nat) : Int) ≠ 0 := by
  have : 0 < Nat.gcd t.natAbs b.natAbs := Nat.gcd_pos_of_pos_right _ (Int.natAbs_pos.mpr hb)
  omega
theorem gcd_small {t b : Int} {n : Nat} (hb : b ≠ 0) (h : b.natAbs < 2 ^ n) : Nat.gcd t.natAbs b.natAbs < 2 ^ n :=
  Nat.lt_of_le_of_lt (Nat.gcd_le_right _ (Int.natAbs_pos.mpr hb)) h
theorem nat_abs_den (q : Rat) : ((q.den : Int)).natAbs = q.den := by simp
theorem at0 {α : Type} (a : α) (l : List α) : atI (a :: l) 0 = some a := atI_nat (j := 0) (by simp)
theorem at1 {α : Type} (a b : α) (l : List α) : atI (a :: b :: l) 1 = some b := atI_nat (j := 1) (by simp)
theorem at2 {α : Type} (a b c : α) (l : List α) : atI (a :: b :: c :: l) 2 = some c := atI_nat (j := 2) (by simp)
theorem at3 {α : Type} (a b c d : α) (l : List α) : atI (a :: b :: c :: d :: l) 3 = some d := atI_nat (j := 3) (by simp)
theorem fr_neg (b : Rat) : PyData.tuple [.int (-b.num), .int b.den] = fr (-b) := by
  unfold fr
  rw [Rat.neg_num, Rat.neg_den]
theorem sz_neg {b : Rat} {n : Nat} (h : Sz b n) : Sz (-b) n := ⟨by rw [Rat.neg_num, Int.natAbs_neg]; exact h.1, by rw [Rat.neg_den]; exact h.2⟩
theorem shaped_int (i : Int) : SeqAt.shaped (.int i) = true := by
  unfold SeqAt.shaped
  simp [PyData.canLay0, PyData.depth]
theorem fr_shaped (q : Rat) : SeqAt.shaped (fr q) = true := by
  unfold SeqAt.shaped fr
  simp [PyData.canLay0, PyData.canLayAll0, PyData.depth, PyData.depthAll]
theorem eqv_int (i j : Int) : PyData.eqv (.int i) (.int j) = decide (i = j) := by
  simp [PyData.eqv]
  rfl
theorem fr_eqv (a b : Rat) : PyData.eqv (fr a) (fr b) = decide (a = b) := by
  unfold fr
  simp only [PyData.eqv, PyData.eqvAll, Bool.and_true]
  by_cases h : a = b
  · subst h; simp
  · rw [decide_eq_false h]
    have : ¬ (a.num = b.num ∧ (a.den : Int) = b.den) := fun ⟨x, y⟩ => h (Rat.ext x (by omega))
    by_cases c : a.num = b.num
    · have c2 : ¬ (a.den : Int) = b.den := fun z => this ⟨c, z⟩
      rw [beq_eq_false_iff_ne.mpr c2, Bool.and_false]
    · rw [beq_eq_false_iff_ne.mpr c, Bool.false_and]
theorem isFr_fr (q : Rat) : isFr (fr q) = true := by
  unfold fr isFr
  have h1 : (1 : Int) ≤ q.den := den_pos q
  have h2 : Nat.gcd q.num.natAbs (q.den : Int).natAbs = 1 := by simpa using q.reduced
  simp [h2]
  exact ⟨h1, by simpa using h2⟩
theorem isFr_of {d : D} (h : isFr d = true) : ∃ q, d = fr q := by
  unfold isFr at h
  split at h
  · rename_i t b
    rw [Bool.and_eq_true, decide_eq_true_eq, decide_eq_true_eq] at h
    exact ⟨_, fr_eq (by omega) h.2⟩
  · cases h
theorem fr_inj {a b : Rat} (h : fr a = fr b) : a = b := by
  unfold fr at h
  injection h with h
  injection h with h1 h
  injection h with h2 _
  injection h1 with h1
  injection h2 with h2
  exact Rat.ext h1 (by omega)
theorem sz_mono {q : Rat} {n m : Nat} (h : Sz q n) (l : n ≤ m) : Sz q m := ⟨Nat.lt_of_lt_of_le h.1 (Nat.pow_le_pow_right (by decide) l), Nat.lt_of_lt_of_le h.2 (Nat.pow_le_pow_right (by decide) l)⟩
theorem divInt_sz {n d : Int} {k : Nat} (hd : d ≠ 0) (hn : n.natAbs < 2 ^ k) (h : d.natAbs < 2 ^ k) : Sz (Rat.divInt n d) k := by
  constructor
  · rw [Rat.num_divInt]
    refine Nat.lt_of_le_of_lt ?_ hn
    have : (d.sign * n / (d.gcd n : Int)).natAbs ≤ (d.sign * n).natAbs := by
      rw [Int.natAbs_ediv_of_dvd]
      · exact Nat.div_le_self _ _
      · exact Int.dvd_mul_of_dvd_right (Int.gcd_dvd_right _ _)
    refine Nat.le_trans this ?_
    rw [Int.natAbs_mul, Int.natAbs_sign_of_ne_zero hd]
    omega
  · rw [Rat.den_divInt, if_neg hd]
    exact Nat.lt_of_le_of_lt (Nat.div_le_self _ _) h
theorem sz_add {a b : Rat} {n m : Nat} (ha : Sz a n) (hb : Sz b m) : Sz (a + b) (n + m + 1) := by
  have e : a + b = Rat.divInt (a.num * b.den + b.num * a.den) (a.den * b.den) := by
    rw [Rat.add_def', ← Rat.divInt_ofNat]; simp
  rw [e]
  have da := den_pos a
  have db := den_pos b
  have p2 : 2 ^ (n + m + 1) = 2 ^ (n + m) + 2 ^ (n + m) := by rw [Nat.pow_succ]; omega
  refine divInt_sz ?_ ?_ ?_
  · have := Int.mul_pos da db
    omega
  · have x := wide_lt (i := a.num) (j := (b.den : Int)) ha.1 (by simpa using hb.2)
    have y := wide_lt (i := b.num) (j := (a.den : Int)) hb.1 (by simpa using ha.2)
    rw [Nat.add_comm m n] at y
    have := Int.natAbs_add_le (a.num * b.den) (b.num * a.den)
    omega
  · have x := wide_lt (i := (a.den : Int)) (j := (b.den : Int)) (by simpa using ha.2) (by simpa using hb.2)
    omega
theorem sz_mul {a b : Rat} {n m : Nat} (ha : Sz a n) (hb : Sz b m) : Sz (a * b) (n + m) := by
  have e : a * b = Rat.divInt (a.num * b.num) (a.den * b.den) := by
    rw [Rat.mul_def', ← Rat.divInt_ofNat]; simp
  rw [e]
  have da := den_pos a
  have db := den_pos b
  refine divInt_sz ?_ (wide_lt ha.1 hb.1) (wide_lt (by simpa using ha.2) (by simpa using hb.2))
  have := Int.mul_pos da db
  omega
theorem sz_sub {a b : Rat} {n m : Nat} (ha : Sz a n) (hb : Sz b m) : Sz (a - b) (n + m + 1) := by
  rw [Rat.sub_eq_add_neg]
  exact sz_add ha (sz_neg hb)
theorem sz_zero : Sz 0 1 := by constructor <;> decide
theorem fmod_nat (x y : Nat) : (x : Int).fmod y = ((x % y : Nat) : Int) := by
  rw [Int.fmod_eq_emod_of_nonneg _ (Int.natCast_nonneg y)]
  simp
theorem atI_of {α : Type} {l : List α} {r : Int} (h0 : 0 ≤ r) (h1 : r < l.length) : ∃ x, x ∈ l ∧ atI l r = some x := by
  obtain ⟨j, rfl⟩ := Int.eq_ofNat_of_zero_le h0
  have hj : j < l.length := by omega
  exact ⟨l[j], List.getElem_mem hj, atI_nat (List.getElem?_eq_getElem hj)⟩
theorem intsFrom_cons (lo : Int) (n : Nat) : Fw.intsFrom lo (n + 1) = .int lo :: Fw.intsFrom (lo + 1) n := by
  unfold Fw.intsFrom
  rw [List.range_succ_eq_map, List.map_cons, List.map_map]
  congr 1
  · simp
  · apply List.map_congr_left
    intro k _
    simp
    omega
theorem intsFrom_mem {n : Nat} {d : D} (h : d ∈ Fw.intsFrom 0 n) : ∃ k : Nat, k < n ∧ d = .int k := by
  unfold Fw.intsFrom at h
  obtain ⟨k, hk, e⟩ := List.mem_map.mp h
  exact ⟨k, List.mem_range.mp hk, by rw [← e]; simp⟩
theorem map_true (n : Nat) : (Fw.intsFrom 0 n).map (fun _ => PyData.bool true) = (List.replicate n true).map PyData.bool := by
  unfold Fw.intsFrom
  rw [List.map_map]
  apply List.ext_getElem <;> simp
theorem lcGo_map {mg : DG} {me : DE} {es0 : En} {f : D → D} {P : List D → Prop} : ∀ (ds acc : List D), (∀ d ∈ ds, ∀ R : D → Prop, R (f d) → mg d es0 (fun es1 => me es1 R (fun _ => False))) → acc.length + ds.length ≤ 1000000 → P (acc ++ ds.map f) → lcGo mg mYes me es0 ds acc P
  | [], acc, _, _, q => by
    show P acc
    simpa using q
  | d :: r, acc, h, l, q => by
    unfold lcGo mYes
    simp only [if_true]
    refine h d List.mem_cons_self _ ⟨?_, ?_⟩
    · simp at l; omega
    · refine lcGo_map r _ (fun x m => h x (List.mem_cons_of_mem _ m)) (by simp at l ⊢; omega) ?_
      simpa using q
theorem forGo_nil (mg : DG) (mb : DS) (E : Eo) (es : En) : forGo mg mb E [] es = E.nx es := rfl
theorem forGo_cons (mg : DG) (mb : DS) (E : Eo) (d : D) (r : List D) (es : En) : forGo mg mb E (d :: r) es = mg d es (fun es' => mb { E with nx := forGo mg mb E r, ct := forGo mg mb E r, bk := E.nx } es') := rfl
theorem log_lt {n k : Nat} (h : n < 2 ^ k) (h0 : 0 < k) : n.log2 < k := by
  by_cases z : n = 0
  · subst z; simpa using h0
  · exact (Nat.log2_lt z).mpr h
theorem str_small (i : Int) (h : i.natAbs.log2 < 1920) : (Str.ofString (toString i)).length ≤ 2000 := by
  have e := int_text_length_le (k := 1920) (by decide) h
  rw [ofString_length]
  omega
theorem app_len (a b : Str) : (a ++ b).length = a.length + b.length := by
  show (a.cps ++ b.cps).size = a.cps.size + b.cps.size
  exact Array.size_append
theorem isFr_pair {t b : Int} (h : ¬ (1 ≤ b ∧ Nat.gcd t.natAbs b.natAbs = 1)) : isFr (.tuple [.int t, .int b]) = false := by
  unfold isFr
  by_cases c : 1 ≤ b
  · have : ¬ Nat.gcd t.natAbs b.natAbs = 1 := fun z => h ⟨c, z⟩
    simp [this]
  · simp [c]
theorem row_of {q : Rat} {n d : Int} (hd : d ≠ 0) (e : q = Rat.divInt n d) : q.num * d = n * q.den := by
  have h := Rat.num_divInt_den q
  have z : Rat.divInt q.num q.den = Rat.divInt n d := h.trans e
  have dq := den_pos q
  exact (Rat.divInt_eq_divInt_iff (by omega) hd).mp z
theorem divInt_lt {a b c d : Int} (hb : 0 < b) (hd : 0 < d) : Rat.divInt a b < Rat.divInt c d ↔ a * d < c * b := by
  generalize h1 : Rat.divInt a b = p
  generalize h2 : Rat.divInt c d = q
  have e1 := row_of (q := p) (by omega) h1.symm
  have e2 := row_of (q := q) (by omega) h2.symm
  have dp := den_pos p
  have dq := den_pos q
  rw [Rat.lt_iff]
  have bd := Int.mul_pos hb hd
  have pq := Int.mul_pos dp dq
  constructor
  · intro h
    have := Int.mul_lt_mul_of_pos_right h bd
    have l1 : p.num * q.den * (b * d) = a * d * (p.den * q.den) := by
      have : p.num * q.den * (b * d) = p.num * b * (q.den * d) := by grind
      rw [this, e1]; grind
    have l2 : q.num * p.den * (b * d) = c * b * (p.den * q.den) := by
      have : q.num * p.den * (b * d) = q.num * d * (p.den * b) := by grind
      rw [this, e2]; grind
    rw [l1, l2] at this
    exact Int.lt_of_mul_lt_mul_right this (Int.le_of_lt pq)
  · intro h
    have := Int.mul_lt_mul_of_pos_right h pq
    have l1 : a * d * (p.den * q.den) = p.num * q.den * (b * d) := by
      have : p.num * q.den * (b * d) = p.num * b * (q.den * d) := by grind
      rw [this, e1]; grind
    have l2 : c * b * (p.den * q.den) = q.num * p.den * (b * d) := by
      have : q.num * p.den * (b * d) = q.num * d * (p.den * b) := by grind
      rw [this, e2]; grind
    rw [l1, l2] at this
    exact Int.lt_of_mul_lt_mul_right this (Int.le_of_lt bd)
theorem flat_get : ∀ {xs : List D} {n : Nat} {x : D}, flatAll n xs → x ∈ xs → flat n x
  | [], _, _, _, m => by cases m
  | y :: ys, n, x, h, m => by
    unfold flatAll at h
    rcases List.mem_cons.mp m with rfl | m
    · exact h.1
    · exact flat_get h.2 m
theorem dIx_fr0 (q : Rat) (P : D → Prop) : dIx (fr q) (.int 0) P = P (.int q.num) := by
  unfold fr dIx
  simp only [at0, Option.some.injEq, exists_eq_left']
theorem dIx_fr1 (q : Rat) (P : D → Prop) : dIx (fr q) (.int 1) P = P (.int q.den) := by
  unfold fr dIx
  simp only [at1, Option.some.injEq, exists_eq_left']
theorem add_frac (a b : Rat) {g r s t h : Int} (hg : g = (Nat.gcd a.den b.den : Nat)) (hr : (a.den : Int) = g * r) (hs : (b.den : Int) = g * s) (ht : t = a.num * s + b.num * r) (hh : h = (Nat.gcd t.natAbs g.natAbs : Nat)) :
    ∃ t' g', t = h * t' ∧ g = h * g' ∧ 0 < h ∧ 0 < g ∧ 0 < r ∧ 0 < s ∧ PyData.tuple [.int t', .int (r * (s * g'))] = fr (a + b) := by
  have da := a.den_pos
  have db := b.den_pos
  have gp : 0 < g := by rw [hg]; exact Int.natCast_pos.mpr (Nat.gcd_pos_of_pos_left _ da)
  have hp : 0 < h := by rw [hh]; exact Int.natCast_pos.mpr (Nat.gcd_pos_of_pos_right _ (by omega))
  have rp : 0 < r := by
    rcases Int.lt_or_le 0 r with q | q
    · exact q
    · have z := Int.mul_le_mul_of_nonneg_left q (Int.le_of_lt gp)
      rw [Int.mul_zero] at z
      omega
  have sp : 0 < s := by
    rcases Int.lt_or_le 0 s with q | q
    · exact q
    · have z := Int.mul_le_mul_of_nonneg_left q (Int.le_of_lt gp)
      rw [Int.mul_zero] at z
      omega
  obtain ⟨t', et⟩ : h ∣ t := by rw [hh]; exact Int.natAbs_dvd_natAbs.mp (by simpa using Nat.gcd_dvd_left _ _)
  obtain ⟨g', eg⟩ : h ∣ g := by rw [hh]; exact Int.natAbs_dvd_natAbs.mp (by simpa using Nat.gcd_dvd_right _ _)
  refine ⟨t', g', et, eg, hp, gp, rp, sp, ?_⟩
  have g'p : 0 < g' := by
    rcases Int.lt_or_le 0 g' with q | q
    · exact q
    · have z := Int.mul_le_mul_of_nonneg_left q (Int.le_of_lt hp)
      rw [Int.mul_zero] at z
      omega
  have bp : 0 < r * (s * g') := Int.mul_pos rp (Int.mul_pos sp g'p)
  -- the value
  have val : a + b = Rat.divInt t' (r * (s * g')) := by
    have e : a + b = Rat.divInt (a.num * b.den + b.num * a.den) (a.den * b.den) := by
      rw [Rat.add_def', ← Rat.divInt_ofNat]
      simp
    have e2 : Rat.divInt (a.num * b.den + b.num * a.den) (a.den * b.den) = Rat.divInt t' (r * (s * g')) := by
      have m1 : (a.num * b.den + b.num * a.den : Int) = (g * h) * t' := by
        rw [hr, hs]
        have : a.num * (g * s) + b.num * (g * r) = g * (a.num * s + b.num * r) := by grind
        rw [this, ← ht, et]
        grind
      have m2 : ((a.den : Int) * b.den) = (g * h) * (r * (s * g')) := by
        rw [hr, hs]
        have : g * r * (g * s) = g * (r * (s * g)) := by grind
        rw [this]
        conv => lhs; arg 2; rw [eg]
        grind
      rw [m1, m2, Rat.divInt_mul_left]
      intro z
      rcases Int.mul_eq_zero.mp z with q | q <;> omega
    rw [e, e2]
  rw [val]
  refine fr_eq bp ?_
  -- lowest terms
  have crs : Nat.Coprime r.natAbs s.natAbs := by
    have e1 : a.den = g.natAbs * r.natAbs := by rw [← Int.natAbs_mul, ← hr]; simp
    have e2 : b.den = g.natAbs * s.natAbs := by rw [← Int.natAbs_mul, ← hs]; simp
    have e3 : g.natAbs = Nat.gcd a.den b.den := by rw [hg]; simp
    rw [e1, e2, Nat.gcd_mul_left] at e3
    have : 0 < g.natAbs := by omega
    exact Nat.eq_of_mul_eq_mul_left this (by omega)
  have car : Nat.Coprime a.num.natAbs r.natAbs := by
    have e1 : a.den = g.natAbs * r.natAbs := by rw [← Int.natAbs_mul, ← hr]; simp
    have c := a.reduced
    rw [e1] at c
    exact Nat.Coprime.coprime_mul_left_right c
  have cbs : Nat.Coprime b.num.natAbs s.natAbs := by
    have e1 : b.den = g.natAbs * s.natAbs := by rw [← Int.natAbs_mul, ← hs]; simp
    have c := b.reduced
    rw [e1] at c
    exact Nat.Coprime.coprime_mul_left_right c
  have ctr : Nat.Coprime t.natAbs r.natAbs := by
    have c1 : Int.gcd (a.num * s) r = 1 := by
      show Nat.gcd (a.num * s).natAbs r.natAbs = 1
      rw [Int.natAbs_mul]
      exact Nat.Coprime.mul_left car crs.symm
    show Int.gcd t r = 1
    rw [ht, Int.gcd_add_mul_right_left] <;> exact c1
  have cts : Nat.Coprime t.natAbs s.natAbs := by
    have c1 : Int.gcd (b.num * r) s = 1 := by
      show Nat.gcd (b.num * r).natAbs s.natAbs = 1
      rw [Int.natAbs_mul]
      exact Nat.Coprime.mul_left cbs crs
    show Int.gcd t s = 1
    rw [ht, Int.add_comm, Int.gcd_add_mul_right_left] <;> exact c1
  have ctg : Nat.Coprime t'.natAbs g'.natAbs := by
    have z : h.natAbs = Nat.gcd t.natAbs g.natAbs := by
      have q := congrArg Int.natAbs hh
      simpa using q
    rw [et, eg, Int.natAbs_mul, Int.natAbs_mul, Nat.gcd_mul_left] at z
    have : 0 < h.natAbs := by omega
    exact Nat.eq_of_mul_eq_mul_left this (by omega)
  have down : ∀ {k : Int}, Nat.Coprime t.natAbs k.natAbs → Nat.Coprime t'.natAbs k.natAbs := fun {k} c => by
    rw [et, Int.natAbs_mul] at c
    exact Nat.Coprime.coprime_mul_left c
  rw [Int.natAbs_mul, Int.natAbs_mul]
  exact Nat.Coprime.mul_right (down ctr) (Nat.Coprime.mul_right (down cts) ctg)
theorem mul_parts (a b : Rat) : (a * b).num = a.num / (Nat.gcd a.num.natAbs b.den : Nat) * (b.num / (Nat.gcd b.num.natAbs a.den : Nat)) ∧ (a * b).den = a.den / Nat.gcd b.num.natAbs a.den * (b.den / Nat.gcd a.num.natAbs b.den) := by
  show (Rat.mul a b).num = _ ∧ (Rat.mul a b).den = _
  unfold Rat.mul
  simp [Int.divExact_eq_tdiv, Nat.divExact_eq_div]
theorem fdiv_nat {a g : Nat} (hg : 0 < g) (h : g ∣ a) : ((a : Int)).fdiv (g : Int) = ((a / g : Nat) : Int) := by
  obtain ⟨k, rfl⟩ := h
  rw [Nat.mul_div_cancel_left _ hg]
  have : ((g * k : Nat) : Int) = (g : Int) * k := by simp
  rw [this, Int.mul_fdiv_cancel_left _ (by omega)]
theorem mul_frac (a b : Rat) : PyData.tuple [.int (a.num.fdiv (Nat.gcd a.num.natAbs b.den : Nat) * b.num.fdiv (Nat.gcd b.num.natAbs a.den : Nat)), .int ((a.den : Int).fdiv (Nat.gcd b.num.natAbs a.den : Nat) * (b.den : Int).fdiv (Nat.gcd a.num.natAbs b.den : Nat))] = fr (a * b) := by
  have g1 : 0 < Nat.gcd a.num.natAbs b.den := Nat.gcd_pos_of_pos_right _ b.den_pos
  have g2 : 0 < Nat.gcd b.num.natAbs a.den := Nat.gcd_pos_of_pos_right _ a.den_pos
  obtain ⟨e1, e2⟩ := mul_parts a b
  unfold fr
  rw [e1, e2, Int.fdiv_eq_ediv_of_nonneg _ (by omega), Int.fdiv_eq_ediv_of_nonneg _ (by omega), fdiv_nat g2 (Nat.gcd_dvd_right _ _), fdiv_nat g1 (Nat.gcd_dvd_right _ _)]
  simp
theorem inv_frac (b : Rat) (b0 : b ≠ 0) : fr b⁻¹ = if 0 < b.num then .tuple [.int b.den, .int b.num] else .tuple [.int (-b.den), .int (-b.num)] := by
  have bn : b.num ≠ 0 := fun z => b0 (Rat.num_eq_zero.mp z)
  unfold fr
  rw [Rat.num_inv, Rat.den_inv, if_neg bn]
  by_cases c : 0 < b.num
  · rw [if_pos c, Int.sign_eq_one_of_pos c]
    have : ((b.num.natAbs : Nat) : Int) = b.num := by omega
    rw [this]; simp
  · rw [if_neg c, Int.sign_eq_neg_one_of_neg (by omega)]
    have : ((b.num.natAbs : Nat) : Int) = -b.num := by omega
    rw [this]; simp
theorem quo_le {i : Int} {g : Nat} {n : Nat} (h : i.natAbs < 2 ^ n) (hg : 0 < g) (hd : (g : Int) ∣ i) : (i.fdiv g).natAbs < 2 ^ n := by
  obtain ⟨k, rfl⟩ := hd
  rw [Int.mul_fdiv_cancel_left _ (by omega)]
  rw [Int.natAbs_mul] at h
  exact Nat.lt_of_le_of_lt (Nat.le_mul_of_pos_left _ (by simpa using hg)) h
end K01
namespace K01
open PySem PySem.Spec L2 Fw
variable [Tabs]
theorem vc_is_integer : ∀ ds Q X, p_is_integer ds Q X → ms_is_integer { nx := fun _ => Q .none, rt := Q, xx := fun x _ => X x } (startE N_is_integer ds) := by
  rintro ds Q X ⟨d, rfl, q⟩
  simp only [dSeq, dAsg, dRet, dRaise, dRetN, dDrop, dIfS, dSkip, dVar, dC, dOp, dTup, dLst, dCons, dNil, dCB, dCall, dCallS, dCallK, gP, gT, gL, gN, gsNil, gsCons, dTest, dTruth, truD, dNotT, dAndT, dOrT, dAndV, dOrV, dNotV, dIf, dNeg, dAdd, dSub, dMul, dFdiv, dMod, dPow, dI, dLt, dLe, dGt, dGe, dEq, dNe, dIsO, dNotO, dIx, dPar, dFor, iL, iT, iR1, dNew, bLen, bAbs, bInt, bGcd, bTuple, bList, bAll, dType, dNType, dIs, dIs2, startE, List.map_cons, List.map_nil, List.length_cons, List.length_nil, List.cons_append, List.nil_append, List.getElem?_cons_zero, List.getElem?_cons_succ, List.set_cons_zero, List.set_cons_succ, Option.some.injEq, Sl.p.injEq, exists_eq_left', exists_eq_left, Nat.reduceAdd, Nat.reduceSub, List.replicate, forall_const, true_and, and_true, if_true, if_false, Bool.false_eq_true, eq_self, ite_true, ite_false, reduceCtorEq, ms_is_integer]
  exact q
theorem vc_is_fraction : ∀ ds Q X, p_is_fraction ds Q X → ms_is_fraction { nx := fun _ => Q .none, rt := Q, xx := fun x _ => X x } (startE N_is_fraction ds) := by
  rintro ds Q X ⟨d, rfl, q⟩
  simp only [dSeq, dAsg, dRet, dRaise, dRetN, dDrop, dIfS, dSkip, dVar, dC, dOp, dTup, dLst, dCons, dNil, dCB, dCall, dCallS, dCallK, gP, gT, gL, gN, gsNil, gsCons, dTest, dTruth, truD, dNotT, dAndT, dOrT, dAndV, dOrV, dNotV, dIf, dNeg, dAdd, dSub, dMul, dFdiv, dMod, dPow, dI, dLt, dLe, dGt, dGe, dEq, dNe, dIsO, dNotO, dIx, dPar, dFor, iL, iT, iR1, dNew, bLen, bAbs, bInt, bGcd, bTuple, bList, bAll, dType, dNType, dIs, dIs2, startE, List.map_cons, List.map_nil, List.length_cons, List.length_nil, List.cons_append, List.nil_append, List.getElem?_cons_zero, List.getElem?_cons_succ, List.set_cons_zero, List.set_cons_succ, Option.some.injEq, Sl.p.injEq, exists_eq_left', exists_eq_left, Nat.reduceAdd, Nat.reduceSub, List.replicate, forall_const, true_and, and_true, if_true, if_false, Bool.false_eq_true, eq_self, ite_true, ite_false, reduceCtorEq, ms_is_fraction, p_is_integer]
  cases d with
  | tuple xs =>
    simp only [tyD, shaped_int, eqv_int]
    rcases xs with _ | ⟨x, _ | ⟨y, _ | ⟨z, r⟩⟩⟩
    · simpa [isFr] using q
    · simpa [isFr] using q
    · cases x <;> cases y <;> simp_all [isFr, tyD, shaped_int, eqv_int]
      rename_i t b
      by_cases c : 1 ≤ b
      · simp_all
        exact_mod_cast q
      · simp_all
        intro z
        omega
    · have : ¬ ((r.length : Int) + 1 + 1 + 1 = 2) := by omega
      simpa [isFr, this] using q
  | _ => simpa [isFr, tyD] using q
theorem vc__law_low : ∀ ds Q X, p__law_low ds Q X → ms__law_low { nx := fun _ => Q .none, rt := Q, xx := fun x _ => X x } (startE N__law_low ds) := by
  rintro ds Q X ⟨t, b, rfl, hb, hz, q⟩
  simp only [dSeq, dAsg, dRet, dRaise, dRetN, dDrop, dIfS, dSkip, dVar, dC, dOp, dTup, dLst, dCons, dNil, dCB, dCall, dCallS, dCallK, gP, gT, gL, gN, gsNil, gsCons, dTest, dTruth, truD, dNotT, dAndT, dOrT, dAndV, dOrV, dNotV, dIf, dNeg, dAdd, dSub, dMul, dFdiv, dMod, dPow, dI, dLt, dLe, dGt, dGe, dEq, dNe, dIsO, dNotO, dIx, dPar, dFor, iL, iT, iR1, dNew, bLen, bAbs, bInt, bGcd, bTuple, bList, bAll, dType, dNType, dIs, dIs2, startE, List.map_cons, List.map_nil, List.length_cons, List.length_nil, List.cons_append, List.nil_append, List.getElem?_cons_zero, List.getElem?_cons_succ, List.set_cons_zero, List.set_cons_succ, Option.some.injEq, Sl.p.injEq, exists_eq_left', exists_eq_left, Nat.reduceAdd, Nat.reduceSub, List.replicate, forall_const, true_and, and_true, if_true, if_false, Bool.false_eq_true, eq_self, ite_true, ite_false, reduceCtorEq, ms__law_low, dWhile]
  have ab : ∀ i : Int, (if i < 0 then -i else i) = ((i.natAbs : Nat) : Int) := fun i => by split <;> omega
  rw [ab, ab]
  refine ⟨fun es => ∃ x y : Nat, es = [.p (.int t), .p (.int b), .p (.int x), .p (.int y)] ∧ Nat.gcd x y = Nat.gcd t.natAbs b.natAbs, fun es => match es with
    | [_, _, _, .p (.int y)] => y.toNat
    | _ => 0, ⟨_, _, rfl, rfl⟩, ?_⟩
  rintro es ⟨x, y, rfl, h⟩
  simp only [dSeq, dAsg, dRet, dRaise, dRetN, dDrop, dIfS, dSkip, dVar, dC, dOp, dTup, dLst, dCons, dNil, dCB, dCall, dCallS, dCallK, gP, gT, gL, gN, gsNil, gsCons, dTest, dTruth, truD, dNotT, dAndT, dOrT, dAndV, dOrV, dNotV, dIf, dNeg, dAdd, dSub, dMul, dFdiv, dMod, dPow, dI, dLt, dLe, dGt, dGe, dEq, dNe, dIsO, dNotO, dIx, dPar, dFor, iL, iT, iR1, dNew, bLen, bAbs, bInt, bGcd, bTuple, bList, bAll, dType, dNType, dIs, dIs2, startE, List.map_cons, List.map_nil, List.length_cons, List.length_nil, List.cons_append, List.nil_append, List.getElem?_cons_zero, List.getElem?_cons_succ, List.set_cons_zero, List.set_cons_succ, Option.some.injEq, Sl.p.injEq, exists_eq_left', exists_eq_left, Nat.reduceAdd, Nat.reduceSub, List.replicate, forall_const, true_and, and_true, if_true, if_false, Bool.false_eq_true, eq_self, ite_true, ite_false, reduceCtorEq]
  by_cases c : 0 < (y : Int)
  · rw [if_pos (decide_eq_true c)]
    have y0 : 0 < y := by omega
    refine ⟨by omega, ⟨y, x % y, by rw [fmod_nat], ?_⟩, ?_⟩
    · rw [Nat.gcd_comm, ← Nat.gcd_rec, Nat.gcd_comm, h]
    · rw [fmod_nat]
      show (((x % y : Nat) : Int)).toNat < ((y : Nat) : Int).toNat
      rw [Int.toNat_natCast, Int.toNat_natCast]
      exact Nat.mod_lt x y0
  · rw [if_neg (by simpa using c)]
    have y0 : y = 0 := by omega
    subst y0
    rw [Nat.gcd_zero_right] at h
    have gs := gcd_small (t := t) hb hz
    have gp : 0 < Nat.gcd t.natAbs b.natAbs := Nat.gcd_pos_of_pos_right _ (Int.natAbs_pos.mpr hb)
    have k : ∀ c : Int, c.natAbs = Nat.gcd t.natAbs b.natAbs → 0 < c * b → DivOk t c ∧ DivOk b c ∧ 2 ≤ 16777216 ∧ Q (.tuple [.int (t.fdiv c), .int (b.fdiv c)]) := fun c e hs => by
      have c0 : c ≠ 0 := by intro z; subst z; simp at hs
      have cs : c.natAbs < 2 ^ 9000 := by rw [e]; exact gs
      refine ⟨div_ok c0 cs (by decide) (by decide) _, div_ok c0 cs (by decide) (by decide) _, two_le, ?_⟩
      rw [red_frac hb e hs]
      exact q
    by_cases c : 0 < b
    · rw [if_pos (decide_eq_true c)]
      exact k _ (by simpa using h) (Int.mul_pos (by omega) c)
    · rw [if_neg (by simpa using c)]
      exact k _ (by simpa using h) (Int.mul_pos_of_neg_of_neg (by omega) (by omega))
theorem vc__law_add : ∀ ds Q X, p__law_add ds Q X → ms__law_add { nx := fun _ => Q .none, rt := Q, xx := fun x _ => X x } (startE N__law_add ds) := by
  rintro ds Q X ⟨a, b, rfl, ha, hb, q⟩
  simp only [dSeq, dAsg, dRet, dRaise, dRetN, dDrop, dIfS, dSkip, dVar, dC, dOp, dTup, dLst, dCons, dNil, dCB, dCall, dCallS, dCallK, gP, gT, gL, gN, gsNil, gsCons, dTest, dTruth, truD, dNotT, dAndT, dOrT, dAndV, dOrV, dNotV, dIf, dNeg, dAdd, dSub, dMul, dFdiv, dMod, dPow, dI, dLt, dLe, dGt, dGe, dEq, dNe, dIsO, dNotO, dIx, dPar, dFor, iL, iT, iR1, dNew, bLen, bAbs, bInt, bGcd, bTuple, bList, bAll, dType, dNType, dIs, dIs2, startE, List.map_cons, List.map_nil, List.length_cons, List.length_nil, List.cons_append, List.nil_append, List.getElem?_cons_zero, List.getElem?_cons_succ, List.set_cons_zero, List.set_cons_succ, Option.some.injEq, Sl.p.injEq, exists_eq_left', exists_eq_left, Nat.reduceAdd, Nat.reduceSub, List.replicate, forall_const, true_and, and_true, if_true, if_false, Bool.false_eq_true, eq_self, ite_true, ite_false, reduceCtorEq, ms__law_add, fr, at0, at1]
  have w0 : (0:Nat) < 4400 := by decide
  have w1 : 4400 + 4400 ≤ 1000000 := by decide
  have da := den_pos a
  have db := den_pos b
  have ad : (a.den : Int).natAbs < 2 ^ 4400 := by simpa using ha.2
  have bd : (b.den : Int).natAbs < 2 ^ 4400 := by simpa using hb.2
  refine ⟨MulOk.w ha.1 bd w0 w0 w1, MulOk.w hb.1 ad w0 w0 w1, MulOk.w ad bd w0 w0 w1, _, _, rfl, ?_, ?_, ?_⟩
  · have := Int.mul_pos da db
    omega
  · exact Nat.lt_of_lt_of_le (wide_lt (a := 4400) (b := 4400) ad bd) (Nat.pow_le_pow_right (by decide) (by decide))
  · have e : Rat.divInt (a.num * b.den + b.num * a.den) (a.den * b.den) = a + b := by
      rw [Rat.add_def', ← Rat.divInt_ofNat]; simp
    rw [e]
    exact q
theorem vc__law_mul : ∀ ds Q X, p__law_mul ds Q X → ms__law_mul { nx := fun _ => Q .none, rt := Q, xx := fun x _ => X x } (startE N__law_mul ds) := by
  rintro ds Q X ⟨a, b, rfl, ha, hb, q⟩
  simp only [dSeq, dAsg, dRet, dRaise, dRetN, dDrop, dIfS, dSkip, dVar, dC, dOp, dTup, dLst, dCons, dNil, dCB, dCall, dCallS, dCallK, gP, gT, gL, gN, gsNil, gsCons, dTest, dTruth, truD, dNotT, dAndT, dOrT, dAndV, dOrV, dNotV, dIf, dNeg, dAdd, dSub, dMul, dFdiv, dMod, dPow, dI, dLt, dLe, dGt, dGe, dEq, dNe, dIsO, dNotO, dIx, dPar, dFor, iL, iT, iR1, dNew, bLen, bAbs, bInt, bGcd, bTuple, bList, bAll, dType, dNType, dIs, dIs2, startE, List.map_cons, List.map_nil, List.length_cons, List.length_nil, List.cons_append, List.nil_append, List.getElem?_cons_zero, List.getElem?_cons_succ, List.set_cons_zero, List.set_cons_succ, Option.some.injEq, Sl.p.injEq, exists_eq_left', exists_eq_left, Nat.reduceAdd, Nat.reduceSub, List.replicate, forall_const, true_and, and_true, if_true, if_false, Bool.false_eq_true, eq_self, ite_true, ite_false, reduceCtorEq, ms__law_mul, fr, at0, at1]
  have w0 : (0:Nat) < 4400 := by decide
  have w1 : 4400 + 4400 ≤ 1000000 := by decide
  have da := den_pos a
  have db := den_pos b
  have ad : (a.den : Int).natAbs < 2 ^ 4400 := by simpa using ha.2
  have bd : (b.den : Int).natAbs < 2 ^ 4400 := by simpa using hb.2
  refine ⟨MulOk.w ha.1 hb.1 w0 w0 w1, MulOk.w ad bd w0 w0 w1, _, _, rfl, ?_, ?_, ?_⟩
  · have := Int.mul_pos da db
    omega
  · exact Nat.lt_of_lt_of_le (wide_lt (a := 4400) (b := 4400) ad bd) (Nat.pow_le_pow_right (by decide) (by decide))
  · have : Rat.divInt (a.num * b.num) (a.den * b.den) = a * b := by
      rw [Rat.mul_def', ← Rat.divInt_ofNat]; simp
    rw [this]; exact q
theorem vc__law_take : ∀ ds Q X, p__law_take ds Q X → ms__law_take { nx := fun _ => Q .none, rt := Q, xx := fun x _ => X x } (startE N__law_take ds) := by
  rintro ds Q X ⟨a, b, rfl, ha, hb, q⟩
  simp only [dSeq, dAsg, dRet, dRaise, dRetN, dDrop, dIfS, dSkip, dVar, dC, dOp, dTup, dLst, dCons, dNil, dCB, dCall, dCallS, dCallK, gP, gT, gL, gN, gsNil, gsCons, dTest, dTruth, truD, dNotT, dAndT, dOrT, dAndV, dOrV, dNotV, dIf, dNeg, dAdd, dSub, dMul, dFdiv, dMod, dPow, dI, dLt, dLe, dGt, dGe, dEq, dNe, dIsO, dNotO, dIx, dPar, dFor, iL, iT, iR1, dNew, bLen, bAbs, bInt, bGcd, bTuple, bList, bAll, dType, dNType, dIs, dIs2, startE, List.map_cons, List.map_nil, List.length_cons, List.length_nil, List.cons_append, List.nil_append, List.getElem?_cons_zero, List.getElem?_cons_succ, List.set_cons_zero, List.set_cons_succ, Option.some.injEq, Sl.p.injEq, exists_eq_left', exists_eq_left, Nat.reduceAdd, Nat.reduceSub, List.replicate, forall_const, true_and, and_true, if_true, if_false, Bool.false_eq_true, eq_self, ite_true, ite_false, reduceCtorEq, ms__law_take, fr, at0, at1]
  have w0 : (0:Nat) < 4400 := by decide
  have w1 : 4400 + 4400 ≤ 1000000 := by decide
  have da := den_pos a
  have db := den_pos b
  have ad : (a.den : Int).natAbs < 2 ^ 4400 := by simpa using ha.2
  have bd : (b.den : Int).natAbs < 2 ^ 4400 := by simpa using hb.2
  refine ⟨MulOk.w ha.1 bd w0 w0 w1, MulOk.w hb.1 ad w0 w0 w1, MulOk.w ad bd w0 w0 w1, _, _, rfl, ?_, ?_, ?_⟩
  · have := Int.mul_pos da db
    omega
  · exact Nat.lt_of_lt_of_le (wide_lt (a := 4400) (b := 4400) ad bd) (Nat.pow_le_pow_right (by decide) (by decide))
  · have e : Rat.divInt (a.num * b.den - b.num * a.den) (a.den * b.den) = a - b := by
      rw [Rat.sub_eq_add_neg, Rat.add_def', ← Rat.divInt_ofNat]
      simp [Rat.neg_num, Rat.neg_den, Int.sub_eq_add_neg, Int.neg_mul]
    rw [e]
    exact q
theorem vc_is_less : ∀ ds Q X, p_is_less ds Q X → ms_is_less { nx := fun _ => Q .none, rt := Q, xx := fun x _ => X x } (startE N_is_less ds) := by
  rintro ds Q X ⟨t, b, u, c, rfl, h1, h2, h3, h4, q⟩
  simp only [dSeq, dAsg, dRet, dRaise, dRetN, dDrop, dIfS, dSkip, dVar, dC, dOp, dTup, dLst, dCons, dNil, dCB, dCall, dCallS, dCallK, gP, gT, gL, gN, gsNil, gsCons, dTest, dTruth, truD, dNotT, dAndT, dOrT, dAndV, dOrV, dNotV, dIf, dNeg, dAdd, dSub, dMul, dFdiv, dMod, dPow, dI, dLt, dLe, dGt, dGe, dEq, dNe, dIsO, dNotO, dIx, dPar, dFor, iL, iT, iR1, dNew, bLen, bAbs, bInt, bGcd, bTuple, bList, bAll, dType, dNType, dIs, dIs2, startE, List.map_cons, List.map_nil, List.length_cons, List.length_nil, List.cons_append, List.nil_append, List.getElem?_cons_zero, List.getElem?_cons_succ, List.set_cons_zero, List.set_cons_succ, Option.some.injEq, Sl.p.injEq, exists_eq_left', exists_eq_left, Nat.reduceAdd, Nat.reduceSub, List.replicate, forall_const, true_and, and_true, if_true, if_false, Bool.false_eq_true, eq_self, ite_true, ite_false, reduceCtorEq, ms_is_less, at0, at1]
  have w0 : (0:Nat) < 4400 := by decide
  have w1 : 4400 + 4400 ≤ 1000000 := by decide
  exact ⟨MulOk.w h1 h4 w0 w0 w1, MulOk.w h3 h2 w0 w0 w1, q⟩
theorem vc__law_under : ∀ ds Q X, p__law_under ds Q X → ms__law_under { nx := fun _ => Q .none, rt := Q, xx := fun x _ => X x } (startE N__law_under ds) := vc_is_less
theorem len_eqv (n m : Nat) : PyData.eqv (.int (n : Int)) (.int (m : Int)) = decide (n = m) := by
  rw [eqv_int]
  exact decide_eq_decide.mpr (by omega)
theorem vc_is_tuple_of : ∀ ds Q X, p_is_tuple_of ds Q X → ms_is_tuple_of { nx := fun _ => Q .none, rt := Q, xx := fun x _ => X x } (startE N_is_tuple_of ds) := by
  rintro ds Q X ⟨d, n, rfl, q⟩
  simp only [dSeq, dAsg, dRet, dRaise, dRetN, dDrop, dIfS, dSkip, dVar, dC, dOp, dTup, dLst, dCons, dNil, dCB, dCall, dCallS, dCallK, gP, gT, gL, gN, gsNil, gsCons, dTest, dTruth, truD, dNotT, dAndT, dOrT, dAndV, dOrV, dNotV, dIf, dNeg, dAdd, dSub, dMul, dFdiv, dMod, dPow, dI, dLt, dLe, dGt, dGe, dEq, dNe, dIsO, dNotO, dIx, dPar, dFor, iL, iT, iR1, dNew, bLen, bAbs, bInt, bGcd, bTuple, bList, bAll, dType, dNType, dIs, dIs2, startE, List.map_cons, List.map_nil, List.length_cons, List.length_nil, List.cons_append, List.nil_append, List.getElem?_cons_zero, List.getElem?_cons_succ, List.set_cons_zero, List.set_cons_succ, Option.some.injEq, Sl.p.injEq, exists_eq_left', exists_eq_left, Nat.reduceAdd, Nat.reduceSub, List.replicate, forall_const, true_and, and_true, if_true, if_false, Bool.false_eq_true, eq_self, ite_true, ite_false, reduceCtorEq, ms_is_tuple_of]
  cases d with
  | tuple xs => 
    simp only [tyD, shaped_int, len_eqv, dSeq, dAsg, dRet, dRaise, dRetN, dDrop, dIfS, dSkip, dVar, dC, dOp, dTup, dLst, dCons, dNil, dCB, dCall, dCallS, dCallK, gP, gT, gL, gN, gsNil, gsCons, dTest, dTruth, truD, dNotT, dAndT, dOrT, dAndV, dOrV, dNotV, dIf, dNeg, dAdd, dSub, dMul, dFdiv, dMod, dPow, dI, dLt, dLe, dGt, dGe, dEq, dNe, dIsO, dNotO, dIx, dPar, dFor, iL, iT, iR1, dNew, bLen, bAbs, bInt, bGcd, bTuple, bList, bAll, dType, dNType, dIs, dIs2, startE, List.map_cons, List.map_nil, List.length_cons, List.length_nil, List.cons_append, List.nil_append, List.getElem?_cons_zero, List.getElem?_cons_succ, List.set_cons_zero, List.set_cons_succ, Option.some.injEq, Sl.p.injEq, exists_eq_left', exists_eq_left, Nat.reduceAdd, Nat.reduceSub, List.replicate, forall_const, true_and, and_true, if_true, if_false, Bool.false_eq_true, eq_self, ite_true, ite_false, reduceCtorEq]
    simpa [tupN] using q
  | _ => simpa [tyD, tupN] using q
theorem vc_is_above_nought : ∀ ds Q X, p_is_above_nought ds Q X → ms_is_above_nought { nx := fun _ => Q .none, rt := Q, xx := fun x _ => X x } (startE N_is_above_nought ds) := by
  rintro ds Q X ⟨d, rfl, q⟩
  simp only [dSeq, dAsg, dRet, dRaise, dRetN, dDrop, dIfS, dSkip, dVar, dC, dOp, dTup, dLst, dCons, dNil, dCB, dCall, dCallS, dCallK, gP, gT, gL, gN, gsNil, gsCons, dTest, dTruth, truD, dNotT, dAndT, dOrT, dAndV, dOrV, dNotV, dIf, dNeg, dAdd, dSub, dMul, dFdiv, dMod, dPow, dI, dLt, dLe, dGt, dGe, dEq, dNe, dIsO, dNotO, dIx, dPar, dFor, iL, iT, iR1, dNew, bLen, bAbs, bInt, bGcd, bTuple, bList, bAll, dType, dNType, dIs, dIs2, startE, List.map_cons, List.map_nil, List.length_cons, List.length_nil, List.cons_append, List.nil_append, List.getElem?_cons_zero, List.getElem?_cons_succ, List.set_cons_zero, List.set_cons_succ, Option.some.injEq, Sl.p.injEq, exists_eq_left', exists_eq_left, Nat.reduceAdd, Nat.reduceSub, List.replicate, forall_const, true_and, and_true, if_true, if_false, Bool.false_eq_true, eq_self, ite_true, ite_false, reduceCtorEq, ms_is_above_nought, p_is_fraction]
  refine ⟨d, rfl, ?_⟩
  cases h : isFr d with
  | true =>
    obtain ⟨r, rfl⟩ := isFr_of h
    have e : isAb (fr r) = decide (0 < r.num) := by
      show (isFr (fr r) && decide (0 < r.num)) = _
      rw [h, Bool.true_and]
    rw [e] at q
    simpa [fr, at0, dIx, dGt, dI, truD] using q
  | false =>
    have e : isAb d = false := by
      unfold isAb
      split
      · rw [h]; rfl
      · rfl
    rw [e] at q
    simpa [truD] using q
theorem vc_is_from_nought : ∀ ds Q X, p_is_from_nought ds Q X → ms_is_from_nought { nx := fun _ => Q .none, rt := Q, xx := fun x _ => X x } (startE N_is_from_nought ds) := by
  rintro ds Q X ⟨d, rfl, q⟩
  simp only [dSeq, dAsg, dRet, dRaise, dRetN, dDrop, dIfS, dSkip, dVar, dC, dOp, dTup, dLst, dCons, dNil, dCB, dCall, dCallS, dCallK, gP, gT, gL, gN, gsNil, gsCons, dTest, dTruth, truD, dNotT, dAndT, dOrT, dAndV, dOrV, dNotV, dIf, dNeg, dAdd, dSub, dMul, dFdiv, dMod, dPow, dI, dLt, dLe, dGt, dGe, dEq, dNe, dIsO, dNotO, dIx, dPar, dFor, iL, iT, iR1, dNew, bLen, bAbs, bInt, bGcd, bTuple, bList, bAll, dType, dNType, dIs, dIs2, startE, List.map_cons, List.map_nil, List.length_cons, List.length_nil, List.cons_append, List.nil_append, List.getElem?_cons_zero, List.getElem?_cons_succ, List.set_cons_zero, List.set_cons_succ, Option.some.injEq, Sl.p.injEq, exists_eq_left', exists_eq_left, Nat.reduceAdd, Nat.reduceSub, List.replicate, forall_const, true_and, and_true, if_true, if_false, Bool.false_eq_true, eq_self, ite_true, ite_false, reduceCtorEq, ms_is_from_nought, p_is_fraction]
  refine ⟨d, rfl, ?_⟩
  cases h : isFr d with
  | true =>
    obtain ⟨r, rfl⟩ := isFr_of h
    have e : isNn (fr r) = decide (0 ≤ r.num) := by
      show (isFr (fr r) && decide (0 ≤ r.num)) = _
      rw [h, Bool.true_and]
    rw [e] at q
    simpa [fr, at0, dIx, dGe, dI, truD] using q
  | false =>
    have e : isNn d = false := by
      unfold isNn
      split
      · rw [h]; rfl
      · rfl
    rw [e] at q
    simpa [truD] using q
theorem vc_added : ∀ ds Q X, p_added ds Q X → ms_added { nx := fun _ => Q .none, rt := Q, xx := fun x _ => X x } (startE N_added ds) := by
  rintro ds Q X ⟨a, b, rfl, ha, hb, q⟩
  simp only [dSeq, dAsg, dRet, dRaise, dRetN, dDrop, dIfS, dSkip, dVar, dC, dOp, dTup, dLst, dCons, dNil, dCB, dCall, dCallS, dCallK, gP, gT, gL, gN, gsNil, gsCons, dTest, dTruth, truD, dNotT, dAndT, dOrT, dAndV, dOrV, dNotV, dIf, dNeg, dAdd, dSub, dMul, dFdiv, dMod, dPow, dI, dLt, dLe, dGt, dGe, dEq, dNe, dIsO, dNotO, dIx, dPar, dFor, iL, iT, iR1, dNew, bLen, bAbs, bInt, bGcd, bTuple, bList, bAll, dType, dNType, dIs, dIs2, startE, List.map_cons, List.map_nil, List.length_cons, List.length_nil, List.cons_append, List.nil_append, List.getElem?_cons_zero, List.getElem?_cons_succ, List.set_cons_zero, List.set_cons_succ, Option.some.injEq, Sl.p.injEq, exists_eq_left', exists_eq_left, Nat.reduceAdd, Nat.reduceSub, List.replicate, forall_const, true_and, and_true, if_true, if_false, Bool.false_eq_true, eq_self, ite_true, ite_false, reduceCtorEq, ms_added, fr, nat_abs_den]
  have da := a.den_pos
  have db := b.den_pos
  have gpn : 0 < Nat.gcd a.den b.den := Nat.gcd_pos_of_pos_left _ da
  generalize hg : ((Nat.gcd a.den b.den : Nat) : Int) = g
  have g0 : g ≠ 0 := by omega
  have gs : g.natAbs < 2 ^ 4400 := by rw [← hg]; exact Nat.lt_of_le_of_lt (by simpa using Nat.gcd_le_left _ da) ha.2
  obtain ⟨r, hr⟩ : g ∣ (a.den : Int) := by rw [← hg]; exact Int.natCast_dvd_natCast.mpr (Nat.gcd_dvd_left _ _)
  obtain ⟨s, hs⟩ : g ∣ (b.den : Int) := by rw [← hg]; exact Int.natCast_dvd_natCast.mpr (Nat.gcd_dvd_right _ _)
  have fr_ : (a.den : Int).fdiv g = r := by rw [hr]; exact exact_div g0
  have fs_ : (b.den : Int).fdiv g = s := by rw [hs]; exact exact_div g0
  rw [fr_, fs_]
  generalize ht : a.num * s + b.num * r = t
  generalize hh : ((Nat.gcd t.natAbs g.natAbs : Nat) : Int) = h
  obtain ⟨t', g', et, eg, hp, gp, rp, sp, e⟩ := add_frac a b hg.symm hr hs ht.symm hh.symm
  have h0 : h ≠ 0 := by omega
  have hle : h.natAbs < 2 ^ 4400 := by
    rw [← hh]
    exact Nat.lt_of_le_of_lt (by simpa using Nat.gcd_le_right _ (Int.natAbs_pos.mpr g0)) gs
  have rs : r.natAbs < 2 ^ 4400 := by
    refine Nat.lt_of_le_of_lt ?_ ha.2
    have z : a.den = g.natAbs * r.natAbs := by rw [← Int.natAbs_mul, ← hr]; simp
    rw [z]
    exact Nat.le_mul_of_pos_left _ (by omega)
  have ss : s.natAbs < 2 ^ 4400 := by
    refine Nat.lt_of_le_of_lt ?_ hb.2
    have z : b.den = g.natAbs * s.natAbs := by rw [← Int.natAbs_mul, ← hs]; simp
    rw [z]
    exact Nat.le_mul_of_pos_left _ (by omega)
  have e1 : t.fdiv h = t' := by rw [et]; exact exact_div h0
  have e2 : (b.den : Int).fdiv h = s * g' := by
    have : (b.den : Int) = h * (s * g') := by rw [hs, eg]; grind
    rw [this]; exact exact_div h0
  have sgs : (s * g').natAbs < 2 ^ 4400 := by
    refine Nat.lt_of_le_of_lt ?_ hb.2
    have z : b.den = h.natAbs * (s * g').natAbs := by
      rw [← Int.natAbs_mul]
      have : (b.den : Int) = h * (s * g') := by rw [hs, eg]; grind
      rw [← this]; simp
    rw [z]
    exact Nat.le_mul_of_pos_left _ (by omega)
  rw [e1, e2, e]
  have w0 : (0:Nat) < 4400 := by decide
  have w1 : 4400 + 4400 ≤ 1000000 := by decide
  have w9 : 4400 ≤ 9000 := by decide
  exact ⟨div_ok g0 gs w0 w9 _, div_ok g0 gs w0 w9 _, MulOk.w ha.1 ss w0 w0 w1, MulOk.w hb.1 rs w0 w0 w1, div_ok h0 hle w0 w9 _, div_ok h0 hle w0 w9 _, MulOk.w rs sgs w0 w0 w1, two_le, q⟩
theorem vc_opposite : ∀ ds Q X, p_opposite ds Q X → ms_opposite { nx := fun _ => Q .none, rt := Q, xx := fun x _ => X x } (startE N_opposite ds) := by
  rintro ds Q X ⟨b, rfl, q⟩
  have e1 : fr b = .tuple [.int b.num, .int b.den] := rfl
  simp only [dSeq, dAsg, dRet, dRaise, dRetN, dDrop, dIfS, dSkip, dVar, dC, dOp, dTup, dLst, dCons, dNil, dCB, dCall, dCallS, dCallK, gP, gT, gL, gN, gsNil, gsCons, dTest, dTruth, truD, dNotT, dAndT, dOrT, dAndV, dOrV, dNotV, dIf, dNeg, dAdd, dSub, dMul, dFdiv, dMod, dPow, dI, dLt, dLe, dGt, dGe, dEq, dNe, dIsO, dNotO, dIx, dPar, dFor, iL, iT, iR1, dNew, bLen, bAbs, bInt, bGcd, bTuple, bList, bAll, dType, dNType, dIs, dIs2, startE, List.map_cons, List.map_nil, List.length_cons, List.length_nil, List.cons_append, List.nil_append, List.getElem?_cons_zero, List.getElem?_cons_succ, List.set_cons_zero, List.set_cons_succ, Option.some.injEq, Sl.p.injEq, exists_eq_left', exists_eq_left, Nat.reduceAdd, Nat.reduceSub, List.replicate, forall_const, true_and, and_true, if_true, if_false, Bool.false_eq_true, eq_self, ite_true, ite_false, reduceCtorEq, ms_opposite, e1, at0, at1]
  refine ⟨two_le, ?_⟩
  rw [fr_neg]
  exact q
theorem vc_subtracted : ∀ ds Q X, p_subtracted ds Q X → ms_subtracted { nx := fun _ => Q .none, rt := Q, xx := fun x _ => X x } (startE N_subtracted ds) := by
  rintro ds Q X ⟨a, b, rfl, ha, hb, q⟩
  simp only [dSeq, dAsg, dRet, dRaise, dRetN, dDrop, dIfS, dSkip, dVar, dC, dOp, dTup, dLst, dCons, dNil, dCB, dCall, dCallS, dCallK, gP, gT, gL, gN, gsNil, gsCons, dTest, dTruth, truD, dNotT, dAndT, dOrT, dAndV, dOrV, dNotV, dIf, dNeg, dAdd, dSub, dMul, dFdiv, dMod, dPow, dI, dLt, dLe, dGt, dGe, dEq, dNe, dIsO, dNotO, dIx, dPar, dFor, iL, iT, iR1, dNew, bLen, bAbs, bInt, bGcd, bTuple, bList, bAll, dType, dNType, dIs, dIs2, startE, List.map_cons, List.map_nil, List.length_cons, List.length_nil, List.cons_append, List.nil_append, List.getElem?_cons_zero, List.getElem?_cons_succ, List.set_cons_zero, List.set_cons_succ, Option.some.injEq, Sl.p.injEq, exists_eq_left', exists_eq_left, Nat.reduceAdd, Nat.reduceSub, List.replicate, forall_const, true_and, and_true, if_true, if_false, Bool.false_eq_true, eq_self, ite_true, ite_false, reduceCtorEq, ms_subtracted]
  refine ⟨b, rfl, a, -b, rfl, ha, sz_neg hb, ?_⟩
  rw [← Rat.sub_eq_add_neg]
  exact q
theorem vc_multiplied : ∀ ds Q X, p_multiplied ds Q X → ms_multiplied { nx := fun _ => Q .none, rt := Q, xx := fun x _ => X x } (startE N_multiplied ds) := by
  rintro ds Q X ⟨a, b, rfl, ha, hb, q⟩
  simp only [dSeq, dAsg, dRet, dRaise, dRetN, dDrop, dIfS, dSkip, dVar, dC, dOp, dTup, dLst, dCons, dNil, dCB, dCall, dCallS, dCallK, gP, gT, gL, gN, gsNil, gsCons, dTest, dTruth, truD, dNotT, dAndT, dOrT, dAndV, dOrV, dNotV, dIf, dNeg, dAdd, dSub, dMul, dFdiv, dMod, dPow, dI, dLt, dLe, dGt, dGe, dEq, dNe, dIsO, dNotO, dIx, dPar, dFor, iL, iT, iR1, dNew, bLen, bAbs, bInt, bGcd, bTuple, bList, bAll, dType, dNType, dIs, dIs2, startE, List.map_cons, List.map_nil, List.length_cons, List.length_nil, List.cons_append, List.nil_append, List.getElem?_cons_zero, List.getElem?_cons_succ, List.set_cons_zero, List.set_cons_succ, Option.some.injEq, Sl.p.injEq, exists_eq_left', exists_eq_left, Nat.reduceAdd, Nat.reduceSub, List.replicate, forall_const, true_and, and_true, if_true, if_false, Bool.false_eq_true, eq_self, ite_true, ite_false, reduceCtorEq, ms_multiplied, fr, nat_abs_den]
  have g1 : 0 < Nat.gcd a.num.natAbs b.den := Nat.gcd_pos_of_pos_right _ b.den_pos
  have g2 : 0 < Nat.gcd b.num.natAbs a.den := Nat.gcd_pos_of_pos_right _ a.den_pos
  have w0 : (0:Nat) < 4400 := by decide
  have w1 : 4400 + 4400 ≤ 1000000 := by decide
  have w9 : 4400 ≤ 9000 := by decide
  have s1 : ((Nat.gcd a.num.natAbs b.den : Nat) : Int).natAbs < 2 ^ 4400 := Nat.lt_of_le_of_lt (by simpa using Nat.gcd_le_right _ b.den_pos) hb.2
  have s2 : ((Nat.gcd b.num.natAbs a.den : Nat) : Int).natAbs < 2 ^ 4400 := Nat.lt_of_le_of_lt (by simpa using Nat.gcd_le_right _ a.den_pos) ha.2
  have d1 : ((Nat.gcd a.num.natAbs b.den : Nat) : Int) ∣ a.num := Int.natAbs_dvd_natAbs.mp (by simpa using Nat.gcd_dvd_left _ _)
  have d2 : ((Nat.gcd b.num.natAbs a.den : Nat) : Int) ∣ b.num := Int.natAbs_dvd_natAbs.mp (by simpa using Nat.gcd_dvd_left _ _)
  have d3 : ((Nat.gcd b.num.natAbs a.den : Nat) : Int) ∣ (a.den : Int) := Int.natCast_dvd_natCast.mpr (Nat.gcd_dvd_right _ _)
  have d4 : ((Nat.gcd a.num.natAbs b.den : Nat) : Int) ∣ (b.den : Int) := Int.natCast_dvd_natCast.mpr (Nat.gcd_dvd_right _ _)
  refine ⟨div_ok (by omega) s1 w0 w9 _, div_ok (by omega) s2 w0 w9 _, MulOk.w (quo_le ha.1 g1 d1) (quo_le hb.1 g2 d2) w0 w0 w1, div_ok (by omega) s2 w0 w9 _, div_ok (by omega) s1 w0 w9 _, MulOk.w (quo_le (by simpa using ha.2) g2 d3) (quo_le (by simpa using hb.2) g1 d4) w0 w0 w1, two_le, ?_⟩
  rw [mul_frac]
  exact q
theorem vc_inverse : ∀ ds Q X, p_inverse ds Q X → ms_inverse { nx := fun _ => Q .none, rt := Q, xx := fun x _ => X x } (startE N_inverse ds) := by
  rintro ds Q X ⟨b, rfl, b0, q⟩
  have e := inv_frac b b0
  simp only [dSeq, dAsg, dRet, dRaise, dRetN, dDrop, dIfS, dSkip, dVar, dC, dOp, dTup, dLst, dCons, dNil, dCB, dCall, dCallS, dCallK, gP, gT, gL, gN, gsNil, gsCons, dTest, dTruth, truD, dNotT, dAndT, dOrT, dAndV, dOrV, dNotV, dIf, dNeg, dAdd, dSub, dMul, dFdiv, dMod, dPow, dI, dLt, dLe, dGt, dGe, dEq, dNe, dIsO, dNotO, dIx, dPar, dFor, iL, iT, iR1, dNew, bLen, bAbs, bInt, bGcd, bTuple, bList, bAll, dType, dNType, dIs, dIs2, startE, List.map_cons, List.map_nil, List.length_cons, List.length_nil, List.cons_append, List.nil_append, List.getElem?_cons_zero, List.getElem?_cons_succ, List.set_cons_zero, List.set_cons_succ, Option.some.injEq, Sl.p.injEq, exists_eq_left', exists_eq_left, Nat.reduceAdd, Nat.reduceSub, List.replicate, forall_const, true_and, and_true, if_true, if_false, Bool.false_eq_true, eq_self, ite_true, ite_false, reduceCtorEq, ms_inverse, fr]
  by_cases c : 0 < b.num
  · rw [if_pos c] at e
    rw [if_pos (decide_eq_true c)]
    refine ⟨two_le, ?_⟩
    rw [← e]; exact q
  · rw [if_neg c] at e
    rw [if_neg (by simpa using c)]
    refine ⟨two_le, ?_⟩
    rw [← e]; exact q
theorem sz_inv0 {b : Rat} {m : Nat} (b0 : b ≠ 0) (hb : Sz b m) : Sz b⁻¹ m := by
  have bn : b.num ≠ 0 := fun z => b0 (Rat.num_eq_zero.mp z)
  constructor
  · rw [Rat.num_inv, Int.natAbs_mul]
    have : b.num.sign.natAbs = 1 := Int.natAbs_sign_of_ne_zero bn
    rw [this, Nat.one_mul]
    simpa using hb.2
  · rw [Rat.den_inv, if_neg bn]
    exact hb.1
theorem vc_divided : ∀ ds Q X, p_divided ds Q X → ms_divided { nx := fun _ => Q .none, rt := Q, xx := fun x _ => X x } (startE N_divided ds) := by
  rintro ds Q X ⟨a, b, rfl, ha, hb, b0, q⟩
  simp only [dSeq, dAsg, dRet, dRaise, dRetN, dDrop, dIfS, dSkip, dVar, dC, dOp, dTup, dLst, dCons, dNil, dCB, dCall, dCallS, dCallK, gP, gT, gL, gN, gsNil, gsCons, dTest, dTruth, truD, dNotT, dAndT, dOrT, dAndV, dOrV, dNotV, dIf, dNeg, dAdd, dSub, dMul, dFdiv, dMod, dPow, dI, dLt, dLe, dGt, dGe, dEq, dNe, dIsO, dNotO, dIx, dPar, dFor, iL, iT, iR1, dNew, bLen, bAbs, bInt, bGcd, bTuple, bList, bAll, dType, dNType, dIs, dIs2, startE, List.map_cons, List.map_nil, List.length_cons, List.length_nil, List.cons_append, List.nil_append, List.getElem?_cons_zero, List.getElem?_cons_succ, List.set_cons_zero, List.set_cons_succ, Option.some.injEq, Sl.p.injEq, exists_eq_left', exists_eq_left, Nat.reduceAdd, Nat.reduceSub, List.replicate, forall_const, true_and, and_true, if_true, if_false, Bool.false_eq_true, eq_self, ite_true, ite_false, reduceCtorEq, ms_divided]
  refine ⟨b, rfl, b0, a, b⁻¹, rfl, ha, sz_inv0 b0 hb, ?_⟩
  rw [← Rat.div_def]
  exact q
theorem sz_inv {b : Rat} {m : Nat} (b0 : b ≠ 0) (hb : Sz b m) : Sz b⁻¹ m := by
  have e := Rat.num_divInt_den b
  have e2 : b⁻¹ = Rat.divInt b.den b.num := by
    conv => lhs; rw [← e]
    rw [Rat.inv_divInt]
  rw [e2]
  exact divInt_sz (fun z => b0 (Rat.num_eq_zero.mp z)) (by simpa using hb.2) hb.1
theorem sz_div {a b : Rat} {n m : Nat} (ha : Sz a n) (hb : Sz b m) (b0 : b ≠ 0) : Sz (a / b) (n + m) := by
  rw [Rat.div_def]
  exact sz_mul ha (sz_inv b0 hb)
end K01
namespace K01
open PySem PySem.Spec L2 Fw
variable [Tabs]
theorem gxAll_all {mg : DG} {me : DE} {es0 : En} {f : D → Bool} {P : D → Prop} : ∀ (ds : List D), (∀ d ∈ ds, ∀ R : D → Prop, R (.bool (f d)) → mg d es0 (fun es1 => me es1 R (fun _ => False))) → P (.bool (ds.all f)) → gxAll true mg me es0 ds P
  | [], _, q => q
  | d :: r, h, q => by
    unfold gxAll
    refine h d List.mem_cons_self _ ?_
    rw [List.all_cons] at q
    cases hf : f d with
    | true =>
      rw [hf, Bool.true_and] at q
      show (if true = true then _ else _)
      rw [if_pos rfl]
      exact gxAll_all r (fun x m => h x (List.mem_cons_of_mem _ m)) q
    | false =>
      rw [hf, Bool.false_and] at q
      show (if false = true then _ else _)
      rw [if_neg (by decide)]
      exact q
theorem vc_is_point : ∀ ds Q X, p_is_point ds Q X → ms_is_point { nx := fun _ => Q .none, rt := Q, xx := fun x _ => X x } (startE N_is_point ds) := by
  rintro ds Q X ⟨d, rfl, q⟩
  simp only [dSeq, dAsg, dRet, dRaise, dRetN, dDrop, dIfS, dSkip, dVar, dC, dOp, dTup, dLst, dCons, dNil, dCB, dCall, dCallS, dCallK, gP, gT, gL, gN, gsNil, gsCons, dTest, dTruth, truD, dNotT, dAndT, dOrT, dAndV, dOrV, dNotV, dIf, dNeg, dAdd, dSub, dMul, dFdiv, dMod, dPow, dI, dLt, dLe, dGt, dGe, dEq, dNe, dIsO, dNotO, dIx, dPar, dFor, iL, iT, iR1, dNew, bLen, bAbs, bInt, bGcd, bTuple, bList, bAll, dType, dNType, dIs, dIs2, startE, List.map_cons, List.map_nil, List.length_cons, List.length_nil, List.cons_append, List.nil_append, List.getElem?_cons_zero, List.getElem?_cons_succ, List.set_cons_zero, List.set_cons_succ, Option.some.injEq, Sl.p.injEq, exists_eq_left', exists_eq_left, Nat.reduceAdd, Nat.reduceSub, List.replicate, forall_const, true_and, and_true, if_true, if_false, Bool.false_eq_true, eq_self, ite_true, ite_false, reduceCtorEq, ms_is_point, dAllG, wipeE]
  cases d with
  | tuple xs =>
    simp only [dSeq, dAsg, dRet, dRaise, dRetN, dDrop, dIfS, dSkip, dVar, dC, dOp, dTup, dLst, dCons, dNil, dCB, dCall, dCallS, dCallK, gP, gT, gL, gN, gsNil, gsCons, dTest, dTruth, truD, dNotT, dAndT, dOrT, dAndV, dOrV, dNotV, dIf, dNeg, dAdd, dSub, dMul, dFdiv, dMod, dPow, dI, dLt, dLe, dGt, dGe, dEq, dNe, dIsO, dNotO, dIx, dPar, dFor, iL, iT, iR1, dNew, bLen, bAbs, bInt, bGcd, bTuple, bList, bAll, dType, dNType, dIs, dIs2, startE, List.map_cons, List.map_nil, List.length_cons, List.length_nil, List.cons_append, List.nil_append, List.getElem?_cons_zero, List.getElem?_cons_succ, List.set_cons_zero, List.set_cons_succ, Option.some.injEq, Sl.p.injEq, exists_eq_left', exists_eq_left, Nat.reduceAdd, Nat.reduceSub, List.replicate, forall_const, true_and, and_true, if_true, if_false, Bool.false_eq_true, eq_self, ite_true, ite_false, reduceCtorEq, tyD, decide_true, Bool.not_true, if_false]
    by_cases c1 : 1 ≤ xs.length
    · by_cases c2 : xs.length ≤ 3
      · have e : isPt (.tuple xs) = xs.all isFr := by simp [isPt, c1, c2]
        rw [e] at q
        have c1' : (1 : Int) ≤ xs.length := by omega
        have c2' : (xs.length : Int) ≤ 3 := by omega
        simp [dChain, c_MOST_AXES, c1', c2', dSeq, dAsg, dRet, dRaise, dRetN, dDrop, dIfS, dSkip, dVar, dC, dOp, dTup, dLst, dCons, dNil, dCB, dCall, dCallS, dCallK, gP, gT, gL, gN, gsNil, gsCons, dTest, dTruth, truD, dNotT, dAndT, dOrT, dAndV, dOrV, dNotV, dIf, dNeg, dAdd, dSub, dMul, dFdiv, dMod, dPow, dI, dLt, dLe, dGt, dGe, dEq, dNe, dIsO, dNotO, dIx, dPar, dFor, iL, iT, iR1, dNew, bLen, bAbs, bInt, bGcd, bTuple, bList, bAll, dType, dNType, dIs, dIs2, startE, List.map_cons, List.map_nil, List.length_cons, List.length_nil, List.cons_append, List.nil_append, List.getElem?_cons_zero, List.getElem?_cons_succ, List.set_cons_zero, List.set_cons_succ, Option.some.injEq, Sl.p.injEq, exists_eq_left', exists_eq_left, Nat.reduceAdd, Nat.reduceSub, List.replicate, forall_const, true_and, and_true, if_true, if_false, Bool.false_eq_true, eq_self, ite_true, ite_false, reduceCtorEq]
        refine gxAll_all xs (fun x m R r => ?_) q
        simp only [dSeq, dAsg, dRet, dRaise, dRetN, dDrop, dIfS, dSkip, dVar, dC, dOp, dTup, dLst, dCons, dNil, dCB, dCall, dCallS, dCallK, gP, gT, gL, gN, gsNil, gsCons, dTest, dTruth, truD, dNotT, dAndT, dOrT, dAndV, dOrV, dNotV, dIf, dNeg, dAdd, dSub, dMul, dFdiv, dMod, dPow, dI, dLt, dLe, dGt, dGe, dEq, dNe, dIsO, dNotO, dIx, dPar, dFor, iL, iT, iR1, dNew, bLen, bAbs, bInt, bGcd, bTuple, bList, bAll, dType, dNType, dIs, dIs2, startE, List.map_cons, List.map_nil, List.length_cons, List.length_nil, List.cons_append, List.nil_append, List.getElem?_cons_zero, List.getElem?_cons_succ, List.set_cons_zero, List.set_cons_succ, Option.some.injEq, Sl.p.injEq, exists_eq_left', exists_eq_left, Nat.reduceAdd, Nat.reduceSub, List.replicate, forall_const, true_and, and_true, if_true, if_false, Bool.false_eq_true, eq_self, ite_true, ite_false, reduceCtorEq, p_is_fraction]
        exact ⟨x, rfl, r⟩
      · have e : isPt (.tuple xs) = false := by simp [isPt, c2]
        rw [e] at q
        have c1' : (1 : Int) ≤ xs.length := by omega
        have c2' : ¬ (xs.length : Int) ≤ 3 := by omega
        simp [dChain, c_MOST_AXES, c1', c2', dSeq, dAsg, dRet, dRaise, dRetN, dDrop, dIfS, dSkip, dVar, dC, dOp, dTup, dLst, dCons, dNil, dCB, dCall, dCallS, dCallK, gP, gT, gL, gN, gsNil, gsCons, dTest, dTruth, truD, dNotT, dAndT, dOrT, dAndV, dOrV, dNotV, dIf, dNeg, dAdd, dSub, dMul, dFdiv, dMod, dPow, dI, dLt, dLe, dGt, dGe, dEq, dNe, dIsO, dNotO, dIx, dPar, dFor, iL, iT, iR1, dNew, bLen, bAbs, bInt, bGcd, bTuple, bList, bAll, dType, dNType, dIs, dIs2, startE, List.map_cons, List.map_nil, List.length_cons, List.length_nil, List.cons_append, List.nil_append, List.getElem?_cons_zero, List.getElem?_cons_succ, List.set_cons_zero, List.set_cons_succ, Option.some.injEq, Sl.p.injEq, exists_eq_left', exists_eq_left, Nat.reduceAdd, Nat.reduceSub, List.replicate, forall_const, true_and, and_true, if_true, if_false, Bool.false_eq_true, eq_self, ite_true, ite_false, reduceCtorEq]
        exact q
    · have e : isPt (.tuple xs) = false := by simp [isPt, c1]
      rw [e] at q
      have c1' : ¬ (1 : Int) ≤ xs.length := by omega
      simp [dChain, c_MOST_AXES, c1', dSeq, dAsg, dRet, dRaise, dRetN, dDrop, dIfS, dSkip, dVar, dC, dOp, dTup, dLst, dCons, dNil, dCB, dCall, dCallS, dCallK, gP, gT, gL, gN, gsNil, gsCons, dTest, dTruth, truD, dNotT, dAndT, dOrT, dAndV, dOrV, dNotV, dIf, dNeg, dAdd, dSub, dMul, dFdiv, dMod, dPow, dI, dLt, dLe, dGt, dGe, dEq, dNe, dIsO, dNotO, dIx, dPar, dFor, iL, iT, iR1, dNew, bLen, bAbs, bInt, bGcd, bTuple, bList, bAll, dType, dNType, dIs, dIs2, startE, List.map_cons, List.map_nil, List.length_cons, List.length_nil, List.cons_append, List.nil_append, List.getElem?_cons_zero, List.getElem?_cons_succ, List.set_cons_zero, List.set_cons_succ, Option.some.injEq, Sl.p.injEq, exists_eq_left', exists_eq_left, Nat.reduceAdd, Nat.reduceSub, List.replicate, forall_const, true_and, and_true, if_true, if_false, Bool.false_eq_true, eq_self, ite_true, ite_false, reduceCtorEq]
      exact q
  | _ => simpa [tyD, isPt] using q
theorem tup4 {s : D} (h : tupN 4 s = true) : ∃ x y z w, s = .tuple [x, y, z, w] := by
  cases s with
  | tuple xs =>
    rcases xs with _ | ⟨x, _ | ⟨y, _ | ⟨z, _ | ⟨w, _ | ⟨v, r⟩⟩⟩⟩⟩ <;> simp [tupN] at h
    exact ⟨x, y, z, w, rfl⟩
  | _ => simp [tupN] at h
theorem tup2 {s : D} (h : tupN 2 s = true) : ∃ x y, s = .tuple [x, y] := by
  cases s with
  | tuple xs =>
    rcases xs with _ | ⟨x, _ | ⟨y, _ | ⟨z, r⟩⟩⟩ <;> simp [tupN] at h
    exact ⟨x, y, rfl⟩
  | _ => simp [tupN] at h
theorem tup3 {s : D} (h : tupN 3 s = true) : ∃ x y z, s = .tuple [x, y, z] := by
  cases s with
  | tuple xs =>
    rcases xs with _ | ⟨x, _ | ⟨y, _ | ⟨z, _ | ⟨w, r⟩⟩⟩⟩ <;> simp [tupN] at h
    exact ⟨x, y, z, rfl⟩
  | _ => simp [tupN] at h
theorem stepF_no {a s : D} (h : tupN 4 s = false) : stepF a s = .tuple [] := by
  unfold stepF
  split
  · simp [tupN] at h
  · rfl
theorem allFr {xs : List D} (h : xs.all isFr = true) : ∃ qs : List Rat, xs = qs.map fr := by
  induction xs with
  | nil => exact ⟨[], rfl⟩
  | cons x r ih =>
    rw [List.all_cons, Bool.and_eq_true] at h
    obtain ⟨q, rfl⟩ := isFr_of h.1
    obtain ⟨qs, rfl⟩ := ih h.2
    exact ⟨q :: qs, rfl⟩
theorem all_fr (qs : List Rat) : (qs.map fr).all isFr = true := by
  rw [List.all_eq_true]
  intro x m
  obtain ⟨q, _, rfl⟩ := List.mem_map.mp m
  exact isFr_fr q
theorem isPt_of {d : D} (h : isPt d = true) : ∃ qs, d = pt qs ∧ 1 ≤ qs.length ∧ qs.length ≤ 3 := by
  unfold isPt at h
  split at h
  · simp only [Bool.and_eq_true, decide_eq_true_eq] at h
    obtain ⟨⟨h1, h2⟩, h3⟩ := h
    obtain ⟨qs, rfl⟩ := allFr h3
    rw [List.length_map] at h1 h2
    exact ⟨qs, rfl, h1, h2⟩
  · cases h
theorem isPt_pt {qs : List Rat} (h1 : 1 ≤ qs.length) (h2 : qs.length ≤ 3) : isPt (pt qs) = true := by
  unfold isPt pt
  simp only [List.length_map, h1, h2, decide_true, Bool.true_and]
  exact all_fr qs
theorem frs_lay : ∀ qs : List Rat, PyData.canLayAll0 (qs.map fr) = true
  | [] => by simp [PyData.canLayAll0]
  | q :: r => by simp [PyData.canLayAll0, PyData.canLay0, fr, frs_lay r]
theorem frs_depth : ∀ qs : List Rat, PyData.depthAll (qs.map fr) ≤ 1
  | [] => by simp [PyData.depthAll]
  | q :: r => by
    have := frs_depth r
    simp [PyData.depthAll, PyData.depth, fr]
    exact Nat.max_le.mpr ⟨Nat.le_refl _, this⟩
theorem pt_shaped (qs : List Rat) : SeqAt.shaped (pt qs) = true := by
  unfold SeqAt.shaped pt
  have := frs_depth qs
  simp [PyData.canLay0, frs_lay, PyData.depth]
  omega
theorem frs_eqv : ∀ a b : List Rat, PyData.eqvAll (a.map fr) (b.map fr) = decide (a = b)
  | [], [] => by simp [PyData.eqvAll]
  | [], _ :: _ => by simp [PyData.eqvAll]
  | _ :: _, [] => by simp [PyData.eqvAll]
  | x :: a, y :: b => by
    rw [List.map_cons, List.map_cons, PyData.eqvAll, fr_eqv, frs_eqv a b]
    by_cases h : x = y <;> by_cases g : a = b <;> simp [h, g]
theorem pt_eqv (a b : List Rat) : PyData.eqv (pt a) (pt b) = decide (a = b) := by
  unfold pt
  rw [PyData.eqv]
  exact frs_eqv a b
theorem lenD_pt (a : List Rat) : lenD (pt a) = a.length := by simp [lenD, pt]
theorem bLen_pt (a : List Rat) (P : D → Prop) : bLen [pt a] P = P (.int a.length) := by
  show P (.int ((a.map fr).length : Int)) = _
  rw [List.length_map]
end K01
namespace K01
open PySem PySem.Spec L2 Fw
variable [Tabs]
theorem smA_mem {b : Nat} : ∀ {xs : List D} {k : Nat} {x : D}, SmA b k xs → x ∈ xs → Sm b k x
  | [], _, _, _, m => by cases m
  | y :: ys, k, x, h, m => by
    unfold SmA at h
    rcases List.mem_cons.mp m with rfl | m
    · exact h.1
    · exact smA_mem h.2 m
theorem wtA_mem : ∀ {xs : List D} {x : D}, x ∈ xs → wt x ≤ wtA xs
  | [], _, m => by cases m
  | y :: ys, x, m => by
    unfold wtA
    rcases List.mem_cons.mp m with rfl | m
    · omega
    · have := wtA_mem m
      omega
theorem wt_tup (xs : List D) : wt (.tuple xs) = 1 + wtA xs := by rw [wt]
theorem wt_lst (xs : List D) : wt (.list xs) = 1 + wtA xs := by rw [wt]
theorem wt_pos (d : D) : 1 ≤ wt d := by cases d <;> simp [wt]
theorem wtA_len : ∀ xs : List D, xs.length ≤ wtA xs
  | [] => by simp
  | x :: r => by
    have := wtA_len r
    have := wt_pos x
    rw [wtA, List.length_cons]
    omega
theorem sm_tup {b k : Nat} {xs : List D} (h : Sm b k (.tuple xs)) : ∃ j, k = j + 1 ∧ SmA b j xs := by
  cases k with
  | zero => exact (show False from h).elim
  | succ j => exact ⟨j, rfl, h⟩
/-- parts of small data -/
theorem Sd.part {b k n : Nat} {xs : List D} {x : D} (h : Sd b k n (.tuple xs)) (m : x ∈ xs) : ∃ j, k = j + 1 ∧ Sd b j n x := by
  obtain ⟨j, e, s⟩ := sm_tup h.sm
  refine ⟨j, e, smA_mem s m, ?_⟩
  have := h.w
  rw [wt_tup] at this
  have := wtA_mem m
  omega
mutual
theorem sm_up {b b' : Nat} (hb : b ≤ b') : ∀ {k k' : Nat} {d : D}, k ≤ k' → Sm b k d → Sm b' k' d
  | k, k', .none, _, _ => by cases k' <;> trivial
  | k, k', .bool _, _, _ => by cases k' <;> trivial
  | k, k', .int i, _, h => by
    have h : i.natAbs < 2 ^ b := by cases k <;> exact h
    have h : i.natAbs < 2 ^ b' := Nat.lt_of_lt_of_le h (Nat.pow_le_pow_right (by decide) hb)
    cases k' <;> exact h
  | k, k', .str s, _, h => by
    have h : s.length ≤ 8 ∧ (PyData.strOk s = true ∧ (reprText s).length ≤ 90 ∧ PyData.strOk (reprText s) = true) := by cases k <;> exact h
    cases k' <;> exact h
  | 0, _, .list xs, _, h => (show False from h).elim
  | 0, _, .tuple xs, _, h => (show False from h).elim
  | 0, _, .dict xs, _, h => (show False from h).elim
  | k + 1, 0, .list xs, l, h => by omega
  | k + 1, 0, .tuple xs, l, h => by omega
  | k + 1, k' + 1, .list xs, l, h => (show SmA b' k' xs from smA_up hb (by omega) (show SmA b k xs from h))
  | k + 1, k' + 1, .tuple xs, l, h => (show SmA b' k' xs from smA_up hb (by omega) (show SmA b k xs from h))
  | k + 1, _, .dict xs, _, h => (show False from h).elim
theorem smA_up {b b' : Nat} (hb : b ≤ b') : ∀ {k k' : Nat} {xs : List D}, k ≤ k' → SmA b k xs → SmA b' k' xs
  | _, _, [], _, _ => by unfold SmA; trivial
  | k, k', x :: r, l, h => by
    unfold SmA at h ⊢
    exact ⟨sm_up hb l h.1, smA_up hb l h.2⟩
end
theorem Sd.up {b k n b' k' n' : Nat} {d : D} (h : Sd b k n d) (hb : b ≤ b') (hk : k ≤ k') (hn : n ≤ n') : Sd b' k' n' d := ⟨sm_up hb hk h.sm, Nat.le_trans h.w hn⟩
theorem PB.part {xs : List D} {x : D} (h : PB (.tuple xs)) (m : x ∈ xs) : PB x := by
  obtain ⟨j, e, s⟩ := Sd.part h m
  exact s.up (Nat.le_refl _) (by omega) (Nat.le_refl _)
theorem PB.len {xs : List D} (h : PB (.tuple xs)) : xs.length ≤ 100000 := by
  have := h.w
  rw [wt_tup] at this
  have := wtA_len xs
  omega
theorem sm_int {b k : Nat} {i : Int} (h : Sm b k (.int i)) : i.natAbs < 2 ^ b := by cases k <;> exact h
theorem PB.int {i : Int} (h : PB (.int i)) : i.natAbs < 2 ^ 450 := sm_int h.sm
theorem PB.fr {q : Rat} (h : PB (fr q)) : Sz q 450 := ⟨(PB.part h (by simp)).int, by have := (PB.part (x := .int q.den) h (by simp)).int; simpa using this⟩
theorem isAb_of {d : D} (h : isAb d = true) : ∃ q, d = fr q ∧ 0 < q.num := by
  have f : isFr d = true := by
    unfold isAb at h
    split at h
    · simp at h; exact h.1
    · cases h
  obtain ⟨q, rfl⟩ := isFr_of f
  refine ⟨q, rfl, ?_⟩
  have : (isFr (fr q) && decide (0 < q.num)) = true := h
  simpa [f] using this
theorem isNn_of {d : D} (h : isNn d = true) : ∃ q, d = fr q ∧ 0 ≤ q.num := by
  have f : isFr d = true := by
    unfold isNn at h
    split at h
    · simp at h; exact h.1
    · cases h
  obtain ⟨q, rfl⟩ := isFr_of f
  refine ⟨q, rfl, ?_⟩
  have : (isFr (fr q) && decide (0 ≤ q.num)) = true := h
  simpa [f] using this
theorem is_less_ok {Q : D → Prop} {X : XP} {f l : Rat} {n : Nat} (hn : n ≤ 4400) (hf : Sz f n) (hl : Sz l n) (q : Q (.bool (lessD (fr f) (fr l)))) : p_is_less [fr f, fr l] Q X := by
  have hf := sz_mono hf hn
  have hl := sz_mono hl hn
  exact ⟨_, _, _, _, rfl, hf.1, by simpa using hf.2, hl.1, by simpa using hl.2, q⟩
theorem stepF4 (a x y z w : D) : stepF a (.tuple [x, y, z, w]) = (if (!isPt x || !decide (lenD x = lenD a) || PyData.eqv x a) = true then .tuple [.int 0] else if (!isAb y) = true then .tuple [.int 1] else if (!isNn z || lessD y z) = true then .tuple [.int 2] else if tyD w = "bool" then .none else .tuple [.int 3]) := rfl
theorem vc_step_fault : ∀ ds Q X, p_step_fault ds Q X → ms_step_fault { nx := fun _ => Q .none, rt := Q, xx := fun x _ => X x } (startE N_step_fault ds) := by
  rintro ds Q X ⟨a, s, rfl, ha, hs, q⟩
  simp only [dSeq, dAsg, dRet, dRaise, dRetN, dDrop, dIfS, dSkip, dVar, dC, dOp, dTup, dLst, dCons, dNil, dCB, dCall, dCallS, dCallK, gP, gT, gL, gN, gsNil, gsCons, dTest, dTruth, truD, dNotT, dAndT, dOrT, dAndV, dOrV, dNotV, dIf, dNeg, dAdd, dSub, dMul, dFdiv, dMod, dPow, dI, dLt, dLe, dGt, dGe, dEq, dNe, dIsO, dNotO, dIx, dPar, dFor, iL, iT, iR1, dNew, bLen, bAbs, bInt, bGcd, bTuple, bList, bAll, dType, dNType, dIs, dIs2, startE, List.map_cons, List.map_nil, List.length_cons, List.length_nil, List.cons_append, List.nil_append, List.getElem?_cons_zero, List.getElem?_cons_succ, List.set_cons_zero, List.set_cons_succ, Option.some.injEq, Sl.p.injEq, exists_eq_left', exists_eq_left, Nat.reduceAdd, Nat.reduceSub, List.replicate, forall_const, true_and, and_true, if_true, if_false, Bool.false_eq_true, eq_self, ite_true, ite_false, reduceCtorEq, ms_step_fault]
  refine ⟨s, 4, rfl, ?_⟩
  cases h4 : tupN 4 s with
  | false =>
    rw [stepF_no h4] at q
    simpa using q
  | true =>
    obtain ⟨x, y, z, w, rfl⟩ := tup4 h4
    obtain ⟨qa, rfl, a1, a2⟩ := isPt_of ha
    rw [stepF4] at q
    simp only [dSeq, dAsg, dRet, dRaise, dRetN, dDrop, dIfS, dSkip, dVar, dC, dOp, dTup, dLst, dCons, dNil, dCB, dCall, dCallS, dCallK, gP, gT, gL, gN, gsNil, gsCons, dTest, dTruth, truD, dNotT, dAndT, dOrT, dAndV, dOrV, dNotV, dIf, dNeg, dAdd, dSub, dMul, dFdiv, dMod, dPow, dI, dLt, dLe, dGt, dGe, dEq, dNe, dIsO, dNotO, dIx, dPar, dFor, iL, iT, iR1, dNew, bLen, bAbs, bInt, bGcd, bTuple, bList, bAll, dType, dNType, dIs, dIs2, startE, List.map_cons, List.map_nil, List.length_cons, List.length_nil, List.cons_append, List.nil_append, List.getElem?_cons_zero, List.getElem?_cons_succ, List.set_cons_zero, List.set_cons_succ, Option.some.injEq, Sl.p.injEq, exists_eq_left', exists_eq_left, Nat.reduceAdd, Nat.reduceSub, List.replicate, forall_const, true_and, and_true, if_true, if_false, Bool.false_eq_true, eq_self, ite_true, ite_false, reduceCtorEq, Bool.not_true]
    refine ⟨x, rfl, ?_⟩
    cases hx : isPt x with
    | false =>
      rw [hx] at q
      simpa using q
    | true =>
      obtain ⟨qx, rfl, x1, x2⟩ := isPt_of hx
      rw [hx, lenD_pt, lenD_pt, pt_eqv] at q
      simp only [dSeq, dAsg, dRet, dRaise, dRetN, dDrop, dIfS, dSkip, dVar, dC, dOp, dTup, dLst, dCons, dNil, dCB, dCall, dCallS, dCallK, gP, gT, gL, gN, gsNil, gsCons, dTest, dTruth, truD, dNotT, dAndT, dOrT, dAndV, dOrV, dNotV, dIf, dNeg, dAdd, dSub, dMul, dFdiv, dMod, dPow, dI, dLt, dLe, dGt, dGe, dEq, dNe, dIsO, dNotO, dIx, dPar, dFor, iL, iT, iR1, dNew, bLen, bAbs, bInt, bGcd, bTuple, bList, bAll, dType, dNType, dIs, dIs2, startE, List.map_cons, List.map_nil, List.length_cons, List.length_nil, List.cons_append, List.nil_append, List.getElem?_cons_zero, List.getElem?_cons_succ, List.set_cons_zero, List.set_cons_succ, Option.some.injEq, Sl.p.injEq, exists_eq_left', exists_eq_left, Nat.reduceAdd, Nat.reduceSub, List.replicate, forall_const, true_and, and_true, if_true, if_false, Bool.false_eq_true, eq_self, ite_true, ite_false, reduceCtorEq, Bool.not_true, pt, List.length_map, shaped_int, len_eqv]
      by_cases c1 : qx.length = qa.length
      · simp only [c1, decide_true, Bool.not_true, Bool.false_eq_true, if_false] at q ⊢
        refine ⟨pt_shaped qx, pt_shaped qa, ?_⟩
        have pe : PyData.eqv (.tuple (qx.map fr)) (.tuple (qa.map fr)) = decide (qx = qa) := pt_eqv qx qa
        simp only [pe]
        by_cases c2 : qx = qa
        · simp only [c2, decide_true, if_true, Bool.false_or, Bool.true_or, Bool.or_true] at q ⊢
          exact ⟨by decide, q⟩
        · simp only [c2, decide_false, Bool.false_eq_true, if_false, Bool.or_false] at q ⊢
          refine ⟨y, rfl, ?_⟩
          cases hy : isAb y with
          | false =>
            rw [hy] at q
            exact ⟨by decide, q⟩
          | true =>
            obtain ⟨fy, rfl, fp⟩ := isAb_of hy
            rw [hy] at q
            simp only [Bool.not_true, Bool.false_eq_true, if_false] at q ⊢
            refine ⟨z, rfl, ?_⟩
            cases hz : isNn z with
            | false =>
              rw [hz] at q
              exact ⟨by decide, q⟩
            | true =>
              obtain ⟨fz, rfl, zp⟩ := isNn_of hz
              rw [hz] at q
              simp only [Bool.not_true, Bool.false_eq_true, if_false, Bool.false_or] at q ⊢
              refine is_less_ok (n := 450) (by decide) (PB.part hs (by simp)).fr (PB.part hs (by simp)).fr ?_
              simp only []
              cases hl : lessD (fr fy) (fr fz) with
              | true =>
                rw [hl] at q
                exact ⟨by decide, q⟩
              | false =>
                rw [hl] at q
                simp only [Bool.false_eq_true, if_false] at q ⊢
                by_cases ct : tyD w = "bool"
                · simp only [ct, decide_true, Bool.not_true, Bool.false_eq_true, if_false, if_true] at q ⊢
                  exact q
                · simp only [ct, decide_false, Bool.not_false, if_true, if_false] at q ⊢
                  exact ⟨by decide, q⟩
      · simp only [c1, decide_false, Bool.not_false, Bool.not_true, Bool.false_or, Bool.true_or, if_true] at q ⊢
        exact ⟨by decide, q⟩
theorem stepF_out {a s : D} : stepF a s = .none ∨ ∃ xs, stepF a s = .tuple xs ∧ xs.length ≤ 1 := by
  unfold stepF
  split
  · split
    · exact .inr ⟨_, rfl, by simp⟩
    · split
      · exact .inr ⟨_, rfl, by simp⟩
      · split
        · exact .inr ⟨_, rfl, by simp⟩
        · split
          · exact .inl rfl
          · exact .inr ⟨_, rfl, by simp⟩
  · exact .inr ⟨_, rfl, by simp⟩
theorem stepF_none {a s : D} (h : stepF a s = .none) : ∃ x r, s = .tuple (x :: r) ∧ isPt x = true ∧ lenD x = lenD a := by
  unfold stepF at h
  split at h
  · rename_i x y z w
    refine ⟨x, [y, z, w], rfl, ?_⟩
    split at h
    · cases h
    · rename_i c
      rw [Bool.or_eq_true, Bool.or_eq_true, not_or, not_or] at c
      exact ⟨by simpa using c.1.1, by simpa using c.1.2⟩
  · cases h
theorem atI_succ {α : Type} {l : List α} {k : Nat} {x : α} (h : l[k]? = some x) : atI l (k : Int) = some x := atI_nat h
end K01
namespace K01
open PySem PySem.Spec L2 Fw
variable [Tabs]
def idx (k : Nat) (l : List D) : List D := l.mapIdx fun i x => .tuple [.int ((k + i : Nat) : Int), x]
theorem idx_nil (k : Nat) : idx k [] = [] := rfl
theorem idx_cons (k : Nat) (x : D) (r : List D) : idx k (x :: r) = .tuple [.int k, x] :: idx (k + 1) r := by
  unfold idx
  rw [List.mapIdx_cons]
  congr 1
  congr 1
  funext i y
  rw [show k + (i + 1) = k + 1 + i by omega]
theorem idx_zero (l : List D) : (l.mapIdx fun i x => PyData.tuple [.int (i : Int), x]) = idx 0 l := by
  unfold idx
  congr 1
  funext i x
  rw [Nat.zero_add]
theorem stepsF_cons (a : D) (k : Nat) (s : D) (r : List D) : stepsF a k (s :: r) = (match stepF a s with
    | .tuple xs => .tuple ([.int 1, .int k] ++ xs)
    | _ => stepsF (headD s) (k + 1) r) := rfl
theorem prog_go {E : Eo} {d0 st ss0 : D} {mb : DS} (hmb : mb = dSeq (dAsg (dCall p_step_fault (dCons (dVar 3) (dCons (dVar 5) dNil))) (gP 6))
  (dSeq (dIfS (dTest (dOp dNotO (dVar 6) (dC .none)))
  (dRet (dOp dAdd (dTup (dCons (dC (.int 1)) (dCons (dVar 4) dNil))) (dVar 6)))
  dSkip)
  (dAsg (dOp dIx (dVar 5) (dC (.int 0))) (gP 3)))) : ∀ (ss : List D) (k : Nat) (a : D) (x4 x5 x6 : Sl), isPt a = true → (∀ s ∈ ss, PB s) → (stepsF a k ss = .none → ∀ es, E.nx es) → (∀ xs, stepsF a k ss = .tuple xs → E.rt (.tuple xs)) →
    forGo (gT (gN 2 (gsCons (gP 4) (gsCons (gP 5) gsNil)))) mb E (idx k ss) [.p d0, .p st, .p ss0, .p a, x4, x5, x6]
  | [], k, a, x4, x5, x6, _, _, hn, _ => by
    rw [idx_nil, forGo_nil]
    exact hn rfl _
  | s :: r, k, a, x4, x5, x6, ha, hs, hn, hr => by
    rw [idx_cons, forGo_cons]
    subst hmb
    simp only [dSeq, dAsg, dRet, dRaise, dRetN, dDrop, dIfS, dSkip, dVar, dC, dOp, dTup, dLst, dCons, dNil, dCB, dCall, dCallS, dCallK, gP, gT, gL, gN, gsNil, gsCons, dTest, dTruth, truD, dNotT, dAndT, dOrT, dAndV, dOrV, dNotV, dIf, dNeg, dAdd, dSub, dMul, dFdiv, dMod, dPow, dI, dLt, dLe, dGt, dGe, dEq, dNe, dIsO, dNotO, dIx, dPar, dFor, iL, iT, iR1, dNew, bLen, bAbs, bInt, bGcd, bTuple, bList, bAll, dType, dNType, dIs, dIs2, startE, List.map_cons, List.map_nil, List.length_cons, List.length_nil, List.cons_append, List.nil_append, List.getElem?_cons_zero, List.getElem?_cons_succ, List.set_cons_zero, List.set_cons_succ, Option.some.injEq, Sl.p.injEq, exists_eq_left', exists_eq_left, Nat.reduceAdd, Nat.reduceSub, List.replicate, forall_const, true_and, and_true, if_true, if_false, Bool.false_eq_true, eq_self, ite_true, ite_false, reduceCtorEq]
    refine ⟨a, s, rfl, ha, hs s List.mem_cons_self, ?_⟩
    rw [stepsF_cons] at hn hr
    rcases stepF_out (a := a) (s := s) with e | ⟨xs, e, l⟩
    · rw [e] at hn hr ⊢
      obtain ⟨x, t, rfl, hx, hl⟩ := stepF_none e
      simp only [dSeq, dAsg, dRet, dRaise, dRetN, dDrop, dIfS, dSkip, dVar, dC, dOp, dTup, dLst, dCons, dNil, dCB, dCall, dCallS, dCallK, gP, gT, gL, gN, gsNil, gsCons, dTest, dTruth, truD, dNotT, dAndT, dOrT, dAndV, dOrV, dNotV, dIf, dNeg, dAdd, dSub, dMul, dFdiv, dMod, dPow, dI, dLt, dLe, dGt, dGe, dEq, dNe, dIsO, dNotO, dIx, dPar, dFor, iL, iT, iR1, dNew, bLen, bAbs, bInt, bGcd, bTuple, bList, bAll, dType, dNType, dIs, dIs2, startE, List.map_cons, List.map_nil, List.length_cons, List.length_nil, List.cons_append, List.nil_append, List.getElem?_cons_zero, List.getElem?_cons_succ, List.set_cons_zero, List.set_cons_succ, Option.some.injEq, Sl.p.injEq, exists_eq_left', exists_eq_left, Nat.reduceAdd, Nat.reduceSub, List.replicate, forall_const, true_and, and_true, if_true, if_false, Bool.false_eq_true, eq_self, ite_true, ite_false, reduceCtorEq]
      refine ⟨x, at0 _ _, ?_⟩
      exact prog_go rfl r (k + 1) x _ _ _ hx (fun s m => hs s (List.mem_cons_of_mem _ m)) hn hr
    · rw [e] at hn hr ⊢
      simp only [dSeq, dAsg, dRet, dRaise, dRetN, dDrop, dIfS, dSkip, dVar, dC, dOp, dTup, dLst, dCons, dNil, dCB, dCall, dCallS, dCallK, gP, gT, gL, gN, gsNil, gsCons, dTest, dTruth, truD, dNotT, dAndT, dOrT, dAndV, dOrV, dNotV, dIf, dNeg, dAdd, dSub, dMul, dFdiv, dMod, dPow, dI, dLt, dLe, dGt, dGe, dEq, dNe, dIsO, dNotO, dIx, dPar, dFor, iL, iT, iR1, dNew, bLen, bAbs, bInt, bGcd, bTuple, bList, bAll, dType, dNType, dIs, dIs2, startE, List.map_cons, List.map_nil, List.length_cons, List.length_nil, List.cons_append, List.nil_append, List.getElem?_cons_zero, List.getElem?_cons_succ, List.set_cons_zero, List.set_cons_succ, Option.some.injEq, Sl.p.injEq, exists_eq_left', exists_eq_left, Nat.reduceAdd, Nat.reduceSub, List.replicate, forall_const, true_and, and_true, if_true, if_false, Bool.false_eq_true, eq_self, ite_true, ite_false, reduceCtorEq]
      rw [if_pos (show (!isN (PyData.tuple xs)) = true from rfl)]
      exact ⟨by decide, by omega, hr _ rfl⟩
theorem stepsF_out : ∀ (ss : List D) (a : D) (k : Nat), stepsF a k ss = .none ∨ ∃ xs, stepsF a k ss = .tuple xs ∧ xs.length ≤ 3
  | [], _, _ => .inl rfl
  | s :: r, a, k => by
    rw [stepsF_cons]
    rcases stepF_out (a := a) (s := s) with e | ⟨xs, e, l⟩
    · rw [e]
      exact stepsF_out r _ _
    · rw [e]
      exact .inr ⟨_, rfl, by simp; omega⟩
theorem progF2 (x y : D) : progF (.tuple [x, y]) = (if (!isPt x) = true then .tuple [.int 0] else match y with
    | .tuple xs => if 1 ≤ xs.length ∧ xs.length ≤ 30 then stepsF x 0 xs else .tuple [.int 1]
    | _ => .tuple [.int 1]) := rfl
theorem progF_no {d : D} (h : tupN 2 d = false) : progF d = .tuple [] := by
  unfold progF
  split
  · simp [tupN] at h
  · rfl
theorem vc_program_fault : ∀ ds Q X, p_program_fault ds Q X → ms_program_fault { nx := fun _ => Q .none, rt := Q, xx := fun x _ => X x } (startE N_program_fault ds) := by
  rintro ds Q X ⟨d, rfl, hd, q⟩
  simp only [dSeq, dAsg, dRet, dRaise, dRetN, dDrop, dIfS, dSkip, dVar, dC, dOp, dTup, dLst, dCons, dNil, dCB, dCall, dCallS, dCallK, gP, gT, gL, gN, gsNil, gsCons, dTest, dTruth, truD, dNotT, dAndT, dOrT, dAndV, dOrV, dNotV, dIf, dNeg, dAdd, dSub, dMul, dFdiv, dMod, dPow, dI, dLt, dLe, dGt, dGe, dEq, dNe, dIsO, dNotO, dIx, dPar, dFor, iL, iT, iR1, dNew, bLen, bAbs, bInt, bGcd, bTuple, bList, bAll, dType, dNType, dIs, dIs2, startE, List.map_cons, List.map_nil, List.length_cons, List.length_nil, List.cons_append, List.nil_append, List.getElem?_cons_zero, List.getElem?_cons_succ, List.set_cons_zero, List.set_cons_succ, Option.some.injEq, Sl.p.injEq, exists_eq_left', exists_eq_left, Nat.reduceAdd, Nat.reduceSub, List.replicate, forall_const, true_and, and_true, if_true, if_false, Bool.false_eq_true, eq_self, ite_true, ite_false, reduceCtorEq, ms_program_fault]
  refine ⟨d, 2, rfl, ?_⟩
  cases h2 : tupN 2 d with
  | false =>
    rw [progF_no h2] at q
    simpa using q
  | true =>
    obtain ⟨x, y, rfl⟩ := tup2 h2
    rw [progF2] at q
    simp only [dSeq, dAsg, dRet, dRaise, dRetN, dDrop, dIfS, dSkip, dVar, dC, dOp, dTup, dLst, dCons, dNil, dCB, dCall, dCallS, dCallK, gP, gT, gL, gN, gsNil, gsCons, dTest, dTruth, truD, dNotT, dAndT, dOrT, dAndV, dOrV, dNotV, dIf, dNeg, dAdd, dSub, dMul, dFdiv, dMod, dPow, dI, dLt, dLe, dGt, dGe, dEq, dNe, dIsO, dNotO, dIx, dPar, dFor, iL, iT, iR1, dNew, bLen, bAbs, bInt, bGcd, bTuple, bList, bAll, dType, dNType, dIs, dIs2, startE, List.map_cons, List.map_nil, List.length_cons, List.length_nil, List.cons_append, List.nil_append, List.getElem?_cons_zero, List.getElem?_cons_succ, List.set_cons_zero, List.set_cons_succ, Option.some.injEq, Sl.p.injEq, exists_eq_left', exists_eq_left, Nat.reduceAdd, Nat.reduceSub, List.replicate, forall_const, true_and, and_true, if_true, if_false, Bool.false_eq_true, eq_self, ite_true, ite_false, reduceCtorEq, Bool.not_true]
    refine ⟨x, rfl, ?_⟩
    cases hx : isPt x with
    | false =>
      rw [hx] at q
      simpa using q
    | true =>
      rw [hx] at q
      simp only [Bool.not_true, Bool.false_eq_true, if_false] at q ⊢
      cases y with
      | tuple xs =>
        simp only [dSeq, dAsg, dRet, dRaise, dRetN, dDrop, dIfS, dSkip, dVar, dC, dOp, dTup, dLst, dCons, dNil, dCB, dCall, dCallS, dCallK, gP, gT, gL, gN, gsNil, gsCons, dTest, dTruth, truD, dNotT, dAndT, dOrT, dAndV, dOrV, dNotV, dIf, dNeg, dAdd, dSub, dMul, dFdiv, dMod, dPow, dI, dLt, dLe, dGt, dGe, dEq, dNe, dIsO, dNotO, dIx, dPar, dFor, iL, iT, iR1, dNew, bLen, bAbs, bInt, bGcd, bTuple, bList, bAll, dType, dNType, dIs, dIs2, startE, List.map_cons, List.map_nil, List.length_cons, List.length_nil, List.cons_append, List.nil_append, List.getElem?_cons_zero, List.getElem?_cons_succ, List.set_cons_zero, List.set_cons_succ, Option.some.injEq, Sl.p.injEq, exists_eq_left', exists_eq_left, Nat.reduceAdd, Nat.reduceSub, List.replicate, forall_const, true_and, and_true, if_true, if_false, Bool.false_eq_true, eq_self, ite_true, ite_false, reduceCtorEq, tyD, decide_true, Bool.not_true, dChain, c_MOST_STEPS, iET, idx_zero]
        by_cases c : 1 ≤ xs.length ∧ xs.length ≤ 30
        · simp only [c, and_self, if_true] at q
          have c1 : (1 : Int) ≤ xs.length := by omega
          have c2 : (xs.length : Int) ≤ 30 := by omega
          simp only [c1, c2, decide_true, if_true, Bool.not_true, Bool.false_eq_true, if_false]
          refine prog_go rfl xs 0 x _ _ _ hx (fun s m => PB.part (PB.part hd (by simp)) m) (fun e es => ?_) (fun ys e => ?_)
          · simp only [dSeq, dAsg, dRet, dRaise, dRetN, dDrop, dIfS, dSkip, dVar, dC, dOp, dTup, dLst, dCons, dNil, dCB, dCall, dCallS, dCallK, gP, gT, gL, gN, gsNil, gsCons, dTest, dTruth, truD, dNotT, dAndT, dOrT, dAndV, dOrV, dNotV, dIf, dNeg, dAdd, dSub, dMul, dFdiv, dMod, dPow, dI, dLt, dLe, dGt, dGe, dEq, dNe, dIsO, dNotO, dIx, dPar, dFor, iL, iT, iR1, dNew, bLen, bAbs, bInt, bGcd, bTuple, bList, bAll, dType, dNType, dIs, dIs2, startE, List.map_cons, List.map_nil, List.length_cons, List.length_nil, List.cons_append, List.nil_append, List.getElem?_cons_zero, List.getElem?_cons_succ, List.set_cons_zero, List.set_cons_succ, Option.some.injEq, Sl.p.injEq, exists_eq_left', exists_eq_left, Nat.reduceAdd, Nat.reduceSub, List.replicate, forall_const, true_and, and_true, if_true, if_false, Bool.false_eq_true, eq_self, ite_true, ite_false, reduceCtorEq]
            rw [e] at q
            exact q
          · rw [e] at q
            exact q
        · simp only [c, if_false] at q
          by_cases c1 : 1 ≤ xs.length
          · have c1' : (1 : Int) ≤ xs.length := by omega
            have c2 : ¬ (xs.length : Int) ≤ 30 := by omega
            simp only [c1', c2, decide_true, decide_false, if_true, Bool.not_false, Bool.not_true, Bool.false_eq_true, if_false]
            exact ⟨by decide, q⟩
          · have c1' : ¬ (1 : Int) ≤ xs.length := by omega
            simp only [c1', decide_true, decide_false, if_true, Bool.not_false, Bool.not_true, Bool.false_eq_true, if_false]
            exact ⟨by decide, q⟩
      | _ => simpa [tyD] using q
theorem vc_check_program : ∀ ds Q X, p_check_program ds Q X → ms_check_program { nx := fun _ => Q .none, rt := Q, xx := fun x _ => X x } (startE N_check_program ds) := by
  rintro ds Q X ⟨d, rfl, hd, q1, q2⟩
  simp only [dSeq, dAsg, dRet, dRaise, dRetN, dDrop, dIfS, dSkip, dVar, dC, dOp, dTup, dLst, dCons, dNil, dCB, dCall, dCallS, dCallK, gP, gT, gL, gN, gsNil, gsCons, dTest, dTruth, truD, dNotT, dAndT, dOrT, dAndV, dOrV, dNotV, dIf, dNeg, dAdd, dSub, dMul, dFdiv, dMod, dPow, dI, dLt, dLe, dGt, dGe, dEq, dNe, dIsO, dNotO, dIx, dPar, dFor, iL, iT, iR1, dNew, bLen, bAbs, bInt, bGcd, bTuple, bList, bAll, dType, dNType, dIs, dIs2, startE, List.map_cons, List.map_nil, List.length_cons, List.length_nil, List.cons_append, List.nil_append, List.getElem?_cons_zero, List.getElem?_cons_succ, List.set_cons_zero, List.set_cons_succ, Option.some.injEq, Sl.p.injEq, exists_eq_left', exists_eq_left, Nat.reduceAdd, Nat.reduceSub, List.replicate, forall_const, true_and, and_true, if_true, if_false, Bool.false_eq_true, eq_self, ite_true, ite_false, reduceCtorEq, ms_check_program, dRaiseF]
  refine ⟨d, rfl, hd, ?_⟩
  cases h : progF d with
  | none =>
    rw [h] at q1
    exact q1 rfl
  | _ =>
    unfold xP at q2
    rw [h] at q2
    exact q2 rfl
theorem Told.none' : True := trivial
/-- a program without a fault: its start -/
theorem progF_ok {d : D} (h : isNone (progF d) = true) : ∃ x y, d = .tuple [x, y] ∧ isPt x = true := by
  cases h2 : tupN 2 d with
  | false =>
    rw [progF_no h2] at h
    cases h
  | true =>
    obtain ⟨x, y, rfl⟩ := tup2 h2
    refine ⟨x, y, rfl, ?_⟩
    rw [progF2] at h
    cases hx : isPt x with
    | true => rfl
    | false =>
      rw [hx] at h
      cases h
theorem progF_cases (d : D) : (isNone (progF d) = true ∧ progF d = .none) ∨ (isNone (progF d) = false ∧ progF d ≠ .none) := by
  cases h : progF d <;> simp [isNone]
end K01
namespace K01
open PySem PySem.Spec L2 Fw
variable [Tabs]
theorem tyD_int (i : Int) : tyD (.int i) = "int" := rfl
theorem low_ok {Q : D → Prop} {X : XP} {t b : Int} (h : b ≠ 0) (hb : b.natAbs < 2 ^ 9000) (q : Q (fr (Rat.divInt t b))) : p__law_low [.int t, .int b] Q X := ⟨t, b, rfl, h, hb, q⟩
theorem big9 {n k : Nat} (h : n < 2 ^ k) (hk : k ≤ 9000) : n < 2 ^ 9000 := Nat.lt_of_lt_of_le h (Nat.pow_le_pow_right (by decide) hk)
theorem pair_shaped (t b : Int) : SeqAt.shaped (.tuple [.int t, .int b]) = true := by
  unfold SeqAt.shaped
  simp [PyData.canLay0, PyData.canLayAll0, PyData.depth, PyData.depthAll]
/-- lowest terms: the same pair again -/
theorem low_eqv {t b : Int} (hb : 1 ≤ b) : PyData.eqv (fr (Rat.divInt t b)) (.tuple [.int t, .int b]) = isFr (.tuple [.int t, .int b]) := by
  by_cases g : Nat.gcd t.natAbs b.natAbs = 1
  · rw [fr_eq (by omega) g, fr_eqv, isFr_fr]
    simp
  · have e : isFr (.tuple [.int t, .int b]) = false := isFr_pair (fun z => g z.2)
    rw [e]
    cases h : PyData.eqv (fr (Rat.divInt t b)) (.tuple [.int t, .int b]) with
    | false => rfl
    | true =>
      unfold fr at h
      simp only [PyData.eqv, PyData.eqvAll, Bool.and_true, Bool.and_eq_true, beq_iff_eq] at h
      have z := (Rat.divInt t b).reduced
      have h2 : ((Rat.divInt t b).den : Int).natAbs = b.natAbs := by rw [h.2]
      rw [Int.natAbs_natCast] at h2
      unfold Nat.Coprime at z
      rw [h.1, h2] at z
      exact absurd z g
end K01
namespace K01
open PySem PySem.Spec L2 Fw
variable [Tabs]
mutual
theorem sm_lay {b : Nat} : ∀ {k : Nat} {d : D}, Sm b k d → d.canLay0 = true ∧ d.depth ≤ k
  | k, .none, _ => by simp [PyData.canLay0, PyData.depth]
  | k, .bool _, _ => by simp [PyData.canLay0, PyData.depth]
  | k, .int i, h => by simp [PyData.canLay0, PyData.depth]
  | k, .str s, h => by
    have h : s.length ≤ 8 ∧ (PyData.strOk s = true ∧ (reprText s).length ≤ 90 ∧ PyData.strOk (reprText s) = true) := by cases k <;> exact h
    simp [PyData.canLay0, PyData.depth, h.2.1]
  | 0, .list xs, h => (show False from h).elim
  | 0, .tuple xs, h => (show False from h).elim
  | 0, .dict xs, h => (show False from h).elim
  | k + 1, .list xs, h => by
    have := smA_lay (show SmA b k xs from h)
    rw [PyData.canLay0, PyData.depth]
    exact ⟨this.1, by omega⟩
  | k + 1, .tuple xs, h => by
    have := smA_lay (show SmA b k xs from h)
    rw [PyData.canLay0, PyData.depth]
    exact ⟨this.1, by omega⟩
  | k + 1, .dict xs, h => (show False from h).elim
theorem smA_lay {b : Nat} : ∀ {k : Nat} {xs : List D}, SmA b k xs → PyData.canLayAll0 xs = true ∧ PyData.depthAll xs ≤ k
  | _, [], _ => by simp [PyData.canLayAll0, PyData.depthAll]
  | k, x :: r, h => by
    unfold SmA at h
    have h1 := sm_lay h.1
    have h2 := smA_lay h.2
    rw [PyData.canLayAll0, PyData.depthAll, h1.1, h2.1]
    exact ⟨rfl, Nat.max_le.mpr ⟨h1.2, h2.2⟩⟩
end
theorem sm_shaped {b k : Nat} {d : D} (h : Sm b k d) (hk : k ≤ 64) : SeqAt.shaped d = true := by
  have := sm_lay h
  unfold SeqAt.shaped
  rw [this.1, Bool.true_and]
  exact decide_eq_true (by omega)
theorem smA_of {b k : Nat} : ∀ {xs : List D}, (∀ x ∈ xs, Sm b k x) → SmA b k xs
  | [], _ => by unfold SmA; trivial
  | x :: r, h => by
    unfold SmA
    exact ⟨h x List.mem_cons_self, smA_of fun y m => h y (List.mem_cons_of_mem _ m)⟩
theorem PB.shaped {d : D} (h : PB d) : SeqAt.shaped d = true := sm_shaped h.sm (by decide)
theorem pbs_shaped {xs : List D} (h : ∀ x ∈ xs, PB x) : SeqAt.shaped (.list xs) = true :=
  sm_shaped (b := 450) (k := 10) (show SmA 450 9 xs from smA_of fun x m => (h x m).sm) (by decide)
theorem eqv_nil (xs : List D) : PyData.eqv (.list xs) (.list []) = xs.isEmpty := by
  cases xs <;> simp [PyData.eqv, PyData.eqvAll]
theorem tyD_tup (xs : List D) : tyD (.tuple xs) = "tuple" := rfl
theorem isB_tup (xs : List D) : isB (tyD (.tuple xs)) "tuple" = true := rfl
theorem isB_no {d : D} (h : ∀ xs, d ≠ .tuple xs) : isB (tyD d) "tuple" = false := by
  cases d with
  | tuple xs => exact absurd rfl (h xs)
  | _ => rfl
theorem isB_bool (d : D) : isB (tyD d) "bool" = decide (tyD d = "bool") := by
  cases d <;> rfl
theorem eqv44 : PyData.eqv (.int 4) (.int 4) = true := by rw [eqv_int]; rfl
theorem fr_at0 (q : Rat) (P : D → Prop) (h : P (.int q.num)) : dIx (fr q) (.int 0) P := by rw [dIx_fr0]; exact h
end K01
namespace K01
open PySem PySem.Spec L2 Fw
variable [Tabs]
theorem shaped_bool (b : Bool) : SeqAt.shaped (.bool b) = true := by cases b <;> decide
theorem eqv_bool (a b : Bool) : PyData.eqv (.bool a) (.bool b) = (a == b) := by
  cases a <;> cases b <;> simp [PyData.eqv]
theorem vc__law_same (pr : Spc) (n : Nat) (hpr : ∀ d (Q : D → Prop) X, n = n → (∃ m, n = m + 1 ∧ flat m d) → Q (.bool true) → pr [d, d] Q X) : ∀ ds Q X, pa n ds Q X → ms__law_same pr { nx := fun _ => Q .none, rt := Q, xx := fun x _ => X x } (startE N__law_same ds) := by
  rintro ds Q X ⟨d, rfl, hf, q⟩
  simp only [dSeq, dAsg, dRet, dRaise, dRetN, dDrop, dIfS, dSkip, dVar, dC, dOp, dTup, dLst, dCons, dNil, dCB, dCall, dCallS, dCallK, gP, gT, gL, gN, gsNil, gsCons, dTest, dTruth, truD, dNotT, dAndT, dOrT, dAndV, dOrV, dNotV, dIf, dNeg, dAdd, dSub, dMul, dFdiv, dMod, dPow, dI, dLt, dLe, dGt, dGe, dEq, dNe, dIsO, dNotO, dIx, dPar, dFor, iL, iT, iR1, dNew, bLen, bAbs, bInt, bGcd, bTuple, bList, bAll, dType, dNType, dIs, dIs2, startE, List.map_cons, List.map_nil, List.length_cons, List.length_nil, List.cons_append, List.nil_append, List.getElem?_cons_zero, List.getElem?_cons_succ, List.set_cons_zero, List.set_cons_succ, Option.some.injEq, Sl.p.injEq, exists_eq_left', exists_eq_left, Nat.reduceAdd, Nat.reduceSub, List.replicate, forall_const, true_and, and_true, if_true, if_false, Bool.false_eq_true, eq_self, ite_true, ite_false, reduceCtorEq, ms__law_same, dLc, wipeE]
  cases d with
  | none => simpa [tyD, isB, truD, shaped_bool, eqv_bool, dSeq, dAsg, dRet, dRaise, dRetN, dDrop, dIfS, dSkip, dVar, dC, dOp, dTup, dLst, dCons, dNil, dCB, dCall, dCallS, dCallK, gP, gT, gL, gN, gsNil, gsCons, dTest, dTruth, truD, dNotT, dAndT, dOrT, dAndV, dOrV, dNotV, dIf, dNeg, dAdd, dSub, dMul, dFdiv, dMod, dPow, dI, dLt, dLe, dGt, dGe, dEq, dNe, dIsO, dNotO, dIx, dPar, dFor, iL, iT, iR1, dNew, bLen, bAbs, bInt, bGcd, bTuple, bList, bAll, dType, dNType, dIs, dIs2, startE, List.map_cons, List.map_nil, List.length_cons, List.length_nil, List.cons_append, List.nil_append, List.getElem?_cons_zero, List.getElem?_cons_succ, List.set_cons_zero, List.set_cons_succ, Option.some.injEq, Sl.p.injEq, exists_eq_left', exists_eq_left, Nat.reduceAdd, Nat.reduceSub, List.replicate, forall_const, true_and, and_true, if_true, if_false, Bool.false_eq_true, eq_self, ite_true, ite_false, reduceCtorEq, PyData.eqv] using ⟨by decide, q⟩
  | bool b => simpa [tyD, isB, truD, shaped_bool, eqv_bool, dSeq, dAsg, dRet, dRaise, dRetN, dDrop, dIfS, dSkip, dVar, dC, dOp, dTup, dLst, dCons, dNil, dCB, dCall, dCallS, dCallK, gP, gT, gL, gN, gsNil, gsCons, dTest, dTruth, truD, dNotT, dAndT, dOrT, dAndV, dOrV, dNotV, dIf, dNeg, dAdd, dSub, dMul, dFdiv, dMod, dPow, dI, dLt, dLe, dGt, dGe, dEq, dNe, dIsO, dNotO, dIx, dPar, dFor, iL, iT, iR1, dNew, bLen, bAbs, bInt, bGcd, bTuple, bList, bAll, dType, dNType, dIs, dIs2, startE, List.map_cons, List.map_nil, List.length_cons, List.length_nil, List.cons_append, List.nil_append, List.getElem?_cons_zero, List.getElem?_cons_succ, List.set_cons_zero, List.set_cons_succ, Option.some.injEq, Sl.p.injEq, exists_eq_left', exists_eq_left, Nat.reduceAdd, Nat.reduceSub, List.replicate, forall_const, true_and, and_true, if_true, if_false, Bool.false_eq_true, eq_self, ite_true, ite_false, reduceCtorEq, PyData.eqv] using q
  | int i => simpa [tyD, isB, truD, shaped_bool, shaped_int, eqv_int, eqv_bool, dSeq, dAsg, dRet, dRaise, dRetN, dDrop, dIfS, dSkip, dVar, dC, dOp, dTup, dLst, dCons, dNil, dCB, dCall, dCallS, dCallK, gP, gT, gL, gN, gsNil, gsCons, dTest, dTruth, truD, dNotT, dAndT, dOrT, dAndV, dOrV, dNotV, dIf, dNeg, dAdd, dSub, dMul, dFdiv, dMod, dPow, dI, dLt, dLe, dGt, dGe, dEq, dNe, dIsO, dNotO, dIx, dPar, dFor, iL, iT, iR1, dNew, bLen, bAbs, bInt, bGcd, bTuple, bList, bAll, dType, dNType, dIs, dIs2, startE, List.map_cons, List.map_nil, List.length_cons, List.length_nil, List.cons_append, List.nil_append, List.getElem?_cons_zero, List.getElem?_cons_succ, List.set_cons_zero, List.set_cons_succ, Option.some.injEq, Sl.p.injEq, exists_eq_left', exists_eq_left, Nat.reduceAdd, Nat.reduceSub, List.replicate, forall_const, true_and, and_true, if_true, if_false, Bool.false_eq_true, eq_self, ite_true, ite_false, reduceCtorEq, PyData.eqv] using q
  | str s => cases n <;> exact (show False from hf).elim
  | dict kv => cases n <;> exact (show False from hf).elim
  | list xs =>
    cases n with
    | zero => exact (show False from hf).elim
    | succ m =>
      obtain ⟨hl, hx⟩ : xs.length ≤ 1000 ∧ flatAll m xs := hf
      simp only [tyD, isB, decide_true, truD, Bool.true_or, Bool.or_true, if_true, dSeq, dAsg, dRet, dRaise, dRetN, dDrop, dIfS, dSkip, dVar, dC, dOp, dTup, dLst, dCons, dNil, dCB, dCall, dCallS, dCallK, gP, gT, gL, gN, gsNil, gsCons, dTest, dTruth, truD, dNotT, dAndT, dOrT, dAndV, dOrV, dNotV, dIf, dNeg, dAdd, dSub, dMul, dFdiv, dMod, dPow, dI, dLt, dLe, dGt, dGe, dEq, dNe, dIsO, dNotO, dIx, dPar, dFor, iL, iT, iR1, dNew, bLen, bAbs, bInt, bGcd, bTuple, bList, bAll, dType, dNType, dIs, dIs2, startE, List.map_cons, List.map_nil, List.length_cons, List.length_nil, List.cons_append, List.nil_append, List.getElem?_cons_zero, List.getElem?_cons_succ, List.set_cons_zero, List.set_cons_succ, Option.some.injEq, Sl.p.injEq, exists_eq_left', exists_eq_left, Nat.reduceAdd, Nat.reduceSub, List.replicate, forall_const, true_and, and_true, if_true, if_false, Bool.false_eq_true, eq_self, ite_true, ite_false, reduceCtorEq, shaped_int, eqv_int, shaped_bool, eqv_bool, beq_self_eq_true, Bool.not_true]
      refine ⟨by omega, by omega, ?_⟩
      refine lcGo_map (f := fun _ => .bool true) _ [] (fun x mx R r => ?_) (by simp [Fw.intsFrom]; omega) ?_
      · obtain ⟨k, hk, rfl⟩ := intsFrom_mem mx
        have hk' : k < xs.length := by simpa using hk
        simp only [dSeq, dAsg, dRet, dRaise, dRetN, dDrop, dIfS, dSkip, dVar, dC, dOp, dTup, dLst, dCons, dNil, dCB, dCall, dCallS, dCallK, gP, gT, gL, gN, gsNil, gsCons, dTest, dTruth, truD, dNotT, dAndT, dOrT, dAndV, dOrV, dNotV, dIf, dNeg, dAdd, dSub, dMul, dFdiv, dMod, dPow, dI, dLt, dLe, dGt, dGe, dEq, dNe, dIsO, dNotO, dIx, dPar, dFor, iL, iT, iR1, dNew, bLen, bAbs, bInt, bGcd, bTuple, bList, bAll, dType, dNType, dIs, dIs2, startE, List.map_cons, List.map_nil, List.length_cons, List.length_nil, List.cons_append, List.nil_append, List.getElem?_cons_zero, List.getElem?_cons_succ, List.set_cons_zero, List.set_cons_succ, Option.some.injEq, Sl.p.injEq, exists_eq_left', exists_eq_left, Nat.reduceAdd, Nat.reduceSub, List.replicate, forall_const, true_and, and_true, if_true, if_false, Bool.false_eq_true, eq_self, ite_true, ite_false, reduceCtorEq]
        have e : atI xs (k : Int) = some xs[k] := atI_nat (List.getElem?_eq_getElem hk')
        exact ⟨_, e, _, e, hpr _ _ _ rfl ⟨m, rfl, flat_get hx (List.getElem_mem hk')⟩ r⟩
      · refine ⟨List.replicate xs.length true, by simpa using map_true xs.length, ?_⟩
        simpa using q
  | tuple xs =>
    cases n with
    | zero => exact (show False from hf).elim
    | succ m =>
      obtain ⟨hl, hx⟩ : xs.length ≤ 1000 ∧ flatAll m xs := hf
      simp only [tyD, isB, decide_true, truD, Bool.true_or, Bool.or_true, if_true, dSeq, dAsg, dRet, dRaise, dRetN, dDrop, dIfS, dSkip, dVar, dC, dOp, dTup, dLst, dCons, dNil, dCB, dCall, dCallS, dCallK, gP, gT, gL, gN, gsNil, gsCons, dTest, dTruth, truD, dNotT, dAndT, dOrT, dAndV, dOrV, dNotV, dIf, dNeg, dAdd, dSub, dMul, dFdiv, dMod, dPow, dI, dLt, dLe, dGt, dGe, dEq, dNe, dIsO, dNotO, dIx, dPar, dFor, iL, iT, iR1, dNew, bLen, bAbs, bInt, bGcd, bTuple, bList, bAll, dType, dNType, dIs, dIs2, startE, List.map_cons, List.map_nil, List.length_cons, List.length_nil, List.cons_append, List.nil_append, List.getElem?_cons_zero, List.getElem?_cons_succ, List.set_cons_zero, List.set_cons_succ, Option.some.injEq, Sl.p.injEq, exists_eq_left', exists_eq_left, Nat.reduceAdd, Nat.reduceSub, List.replicate, forall_const, true_and, and_true, if_true, if_false, Bool.false_eq_true, eq_self, ite_true, ite_false, reduceCtorEq, shaped_int, eqv_int, shaped_bool, eqv_bool, beq_self_eq_true, Bool.not_true]
      refine ⟨by omega, by omega, ?_⟩
      refine lcGo_map (f := fun _ => .bool true) _ [] (fun x mx R r => ?_) (by simp [Fw.intsFrom]; omega) ?_
      · obtain ⟨k, hk, rfl⟩ := intsFrom_mem mx
        have hk' : k < xs.length := by simpa using hk
        simp only [dSeq, dAsg, dRet, dRaise, dRetN, dDrop, dIfS, dSkip, dVar, dC, dOp, dTup, dLst, dCons, dNil, dCB, dCall, dCallS, dCallK, gP, gT, gL, gN, gsNil, gsCons, dTest, dTruth, truD, dNotT, dAndT, dOrT, dAndV, dOrV, dNotV, dIf, dNeg, dAdd, dSub, dMul, dFdiv, dMod, dPow, dI, dLt, dLe, dGt, dGe, dEq, dNe, dIsO, dNotO, dIx, dPar, dFor, iL, iT, iR1, dNew, bLen, bAbs, bInt, bGcd, bTuple, bList, bAll, dType, dNType, dIs, dIs2, startE, List.map_cons, List.map_nil, List.length_cons, List.length_nil, List.cons_append, List.nil_append, List.getElem?_cons_zero, List.getElem?_cons_succ, List.set_cons_zero, List.set_cons_succ, Option.some.injEq, Sl.p.injEq, exists_eq_left', exists_eq_left, Nat.reduceAdd, Nat.reduceSub, List.replicate, forall_const, true_and, and_true, if_true, if_false, Bool.false_eq_true, eq_self, ite_true, ite_false, reduceCtorEq]
        have e : atI xs (k : Int) = some xs[k] := atI_nat (List.getElem?_eq_getElem hk')
        exact ⟨_, e, _, e, hpr _ _ _ rfl ⟨m, rfl, flat_get hx (List.getElem_mem hk')⟩ r⟩
      · refine ⟨List.replicate xs.length true, by simpa using map_true xs.length, ?_⟩
        simpa using q
end K01
namespace K01
open PySem PySem.Spec L2 Fw
variable [Tabs]
theorem DD0 : DD ≠ 0 := by decide
theorem DD_small : DD.natAbs < 2 ^ 203 := by decide
theorem gd_of {t x c : Int} {n : Nat} (hx : c * x = DD) (h : (c * t).natAbs < 2 ^ n) : Gd (Rat.divInt t x) n := by
  have hc : c ≠ 0 := by
    intro z
    rw [z, Int.zero_mul] at hx
    exact DD0 hx.symm
  exact ⟨c * t, by rw [← hx, Rat.divInt_mul_left hc], h⟩
theorem gd_up {q : Rat} {n m : Nat} (h : Gd q n) (l : n ≤ m) : Gd q m := by
  obtain ⟨k, e, s⟩ := h
  exact ⟨k, e, Nat.lt_of_lt_of_le s (Nat.pow_le_pow_right (by decide) l)⟩
theorem gd_sz {q : Rat} {n : Nat} (h : Gd q n) (l : 203 ≤ n) : Sz q n := by
  obtain ⟨k, rfl, s⟩ := h
  exact divInt_sz DD0 s (Nat.lt_of_lt_of_le DD_small (Nat.pow_le_pow_right (by decide) l))
theorem divInt_add_same (m k d : Int) (hd : d ≠ 0) : Rat.divInt m d + Rat.divInt k d = Rat.divInt (m + k) d := by
  rw [Rat.divInt_add_divInt _ _ hd hd]
  have : m * d + k * d = d * (m + k) := by grind
  rw [this, Rat.divInt_mul_left hd]
theorem gd_add {a b : Rat} {n : Nat} (ha : Gd a n) (hb : Gd b n) : Gd (a + b) (n + 1) := by
  obtain ⟨m, rfl, h1⟩ := ha
  obtain ⟨k, rfl, h2⟩ := hb
  refine ⟨m + k, divInt_add_same m k DD DD0, ?_⟩
  rw [Nat.pow_succ]
  omega
theorem gd_neg {a : Rat} {n : Nat} (ha : Gd a n) : Gd (-a) n := by
  obtain ⟨m, rfl, h1⟩ := ha
  exact ⟨-m, by rw [Rat.neg_divInt], by rw [Int.natAbs_neg]; exact h1⟩
theorem gd_sub {a b : Rat} {n : Nat} (ha : Gd a n) (hb : Gd b n) : Gd (a - b) (n + 1) := by
  rw [Rat.sub_eq_add_neg]
  exact gd_add ha (gd_neg hb)
theorem gd_mulI {a : Rat} {n : Nat} (f : Int) (hf : f.natAbs ≤ 2) (ha : Gd a n) : Gd (a * Rat.divInt f 1) (n + 1) := by
  obtain ⟨m, rfl, h1⟩ := ha
  refine ⟨m * f, by rw [Rat.divInt_mul_divInt, Int.mul_one], ?_⟩
  rw [Int.natAbs_mul, Nat.pow_succ]
  exact Nat.lt_of_le_of_lt (Nat.mul_le_mul_left _ hf) (by omega)
theorem fr_tiny : PyData.tuple [.int 1, .int (10 ^ 60)] = fr (Rat.divInt 1 (10 ^ 60)) := fr_eq (by decide) (by simp)
theorem gd_tiny : Gd (Rat.divInt 1 (10 ^ 60)) 203 := gd_of (c := 6) (by decide) (by decide)
theorem fr_one : PyData.tuple [.int 1, .int 1] = fr (Rat.divInt 1 1) := fr_eq (by decide) (by decide)
theorem gd_one : Gd (Rat.divInt 1 1) 203 := gd_of (c := DD) (by decide) (by decide)
theorem tooth_ok {Q : D → Prop} {X : XP} {n : Int} (h0 : 0 < n) (h : n.natAbs ≤ 1000) (q : ∀ r : Int, 0 ≤ r → r < n → Q (.int r)) : p__law_tooth [.int n] Q X :=
  ⟨n, rfl, h0, Nat.lt_of_le_of_lt h (Nat.lt_of_lt_of_le (by decide : 1000 < 2 ^ 10) (Nat.pow_le_pow_right (by decide) (by decide))), q⟩
theorem small9 {n : Nat} (h : n ≤ 1000) : n < 2 ^ 9000 := Nat.lt_of_le_of_lt h (Nat.lt_of_lt_of_le (by decide : 1000 < 2 ^ 10) (Nat.pow_le_pow_right (by decide) (by decide)))
theorem add_ok {Q : D → Prop} {X : XP} {a b : Rat} {n : Nat} (hn : n ≤ 4400) (ha : Sz a n) (hb : Sz b n) (q : Q (fr (a + b))) : p__law_add [fr a, fr b] Q X := ⟨a, b, rfl, sz_mono ha hn, sz_mono hb hn, q⟩
theorem take_ok {Q : D → Prop} {X : XP} {a b : Rat} {n : Nat} (hn : n ≤ 4400) (ha : Sz a n) (hb : Sz b n) (q : Q (fr (a - b))) : p__law_take [fr a, fr b] Q X := ⟨a, b, rfl, sz_mono ha hn, sz_mono hb hn, q⟩
theorem mul_ok {Q : D → Prop} {X : XP} {a b : Rat} {n : Nat} (hn : n ≤ 4400) (ha : Sz a n) (hb : Sz b n) (q : Q (fr (a * b))) : p__law_mul [fr a, fr b] Q X := ⟨a, b, rfl, sz_mono ha hn, sz_mono hb hn, q⟩
theorem spot_loop {E : Eo} {n : Nat} (hn : n ≤ 3) {mb : DS} (hmb : mb = dSeq (dAsg (dCall p__law_low (dCons (dOp dSub (dCallS 0 p__law_tooth (dCons (dC (.int 21)) dNil)) (dC (.int 10))) (dCons (dOp dIx (dLst (dCons (dC (.int 1)) (dCons (dC (.int 1)) (dCons (dC (.int 2)) (dCons (dC (.int 3)) dNil))))) (dCallS 0 p__law_tooth (dCons (dC (.int 4)) dNil))) dNil))) (gP 4))
  (dApp 2 (dIf (dTest (dOp dEq (dCallS 0 p__law_tooth (dCons (dC (.int 12)) dNil)) (dC (.int 0)))) (dCall p__law_add (dCons (dVar 4) (dCons (dTup (dCons (dC (.int 1)) (dCons (dOp dPow (dC (.int 10)) (dC (.int 60))) dNil))) dNil))) (dVar 4)))) : ∀ (r : Nat) (lo : Int) (qs : List Rat) (x3 x4 : Sl), qs.length + r = n → (∀ q ∈ qs, Gd q 210) → (∀ (qs : List Rat) (x3 x4 : Sl), qs.length = n → (∀ q ∈ qs, Gd q 210) → E.nx [.s, .p (.int n), .o (qs.map fr), x3, x4]) →
    forGo (gP 3) mb E (Fw.intsFrom lo r) [.s, .p (.int n), .o (qs.map fr), x3, x4]
  | 0, lo, qs, x3, x4, hl, hq, hn => by
    show E.nx _
    exact hn qs _ _ (by omega) hq
  | r + 1, lo, qs, x3, x4, hl, hq, hnx => by
    rw [intsFrom_cons, forGo_cons]
    have fin : ∀ (q : Rat) (x4 : Sl), Gd q 209 → forGo (gP 3) mb E (Fw.intsFrom (lo + 1) r) [.s, .p (.int n), .o (qs.map fr ++ [fr q]), .p (.int lo), x4] := fun q x4 g => by
      have e : qs.map fr ++ [fr q] = (qs ++ [q]).map fr := by simp
      rw [e]
      exact spot_loop hn hmb r (lo + 1) (qs ++ [q]) _ _ (by simp; omega) (fun y m => by
        rcases List.mem_append.mp m with m | m
        · exact hq y m
        · rw [List.mem_singleton.mp m]; exact gd_up g (by decide)) hnx
    generalize forGo (gP 3) mb E (Fw.intsFrom (lo + 1) r) = F at fin ⊢
    rw [hmb]
    simp only [dSeq, dAsg, dRet, dRaise, dRetN, dDrop, dIfS, dSkip, dVar, dC, dOp, dTup, dLst, dCons, dNil, dCB, dCall, dCallS, dCallK, gP, gT, gL, gN, gsNil, gsCons, dTest, dTruth, truD, dNotT, dAndT, dOrT, dAndV, dOrV, dNotV, dIf, dNeg, dAdd, dSub, dMul, dFdiv, dMod, dPow, dI, dLt, dLe, dGt, dGe, dEq, dNe, dIsO, dNotO, dIx, dPar, dFor, iL, iT, iR1, dNew, bLen, bAbs, bInt, bGcd, bTuple, bList, bAll, dType, dNType, dIs, dIs2, startE, List.map_cons, List.map_nil, List.length_cons, List.length_nil, List.cons_append, List.nil_append, List.getElem?_cons_zero, List.getElem?_cons_succ, List.set_cons_zero, List.set_cons_succ, Option.some.injEq, Sl.p.injEq, exists_eq_left', exists_eq_left, Nat.reduceAdd, Nat.reduceSub, List.replicate, forall_const, true_and, and_true, if_true, if_false, Bool.false_eq_true, eq_self, ite_true, ite_false, reduceCtorEq, dApp]
    refine tooth_ok (by decide) (by decide) fun t t0 t1 => ⟨by decide, tooth_ok (by decide) (by decide) fun k k0 k1 => ?_⟩
    obtain ⟨x, hx, e⟩ := atI_of (l := [PyData.int 1, .int 1, .int 2, .int 3]) k0 (by simpa using k1)
    refine ⟨x, e, ?_⟩
    have key : ∀ c y : Int, x = .int y → c * y = DD → y ≠ 0 → y.natAbs < 1000 → p__law_low [.int (t - 10), x] (fun d => ∃ ds, Sl.o (qs.map fr) = Sl.o ds ∧ p__law_tooth [.int 12] (fun a => SeqAt.shaped a = true ∧ SeqAt.shaped (PyData.int 0) = true ∧ if PyData.eqv a (PyData.int 0) = true then CPow 10 60 ∧ 2 ≤ 16777216 ∧ p__law_add [d, .tuple [.int 1, .int (10 ^ Int.toNat 60)]] (fun d_1 => ds.length < 16777216 ∧ F [Sl.s, Sl.p (.int n), Sl.o (ds ++ [d_1]), Sl.p (.int lo), Sl.p d]) (fun x => E.xx x [Sl.s, Sl.p (.int n), Sl.o (qs.map fr), Sl.p (.int lo), Sl.p d]) else ds.length < 16777216 ∧ F [Sl.s, Sl.p (.int n), Sl.o (ds ++ [d]), Sl.p (.int lo), Sl.p d]) (fun x => E.xx x [Sl.s, Sl.p (.int n), Sl.o (qs.map fr), Sl.p (.int lo), Sl.p d])) (fun x => E.xx x [Sl.s, Sl.p (.int n), Sl.o (qs.map fr), Sl.p (.int lo), x4]) := fun c y ex hc y0 ys => by
      rw [ex]
      have g : Gd (Rat.divInt (t - 10) y) 208 := gd_of hc (by
        rw [Int.natAbs_mul]
        have c1 : c.natAbs < 2 ^ 203 := Nat.lt_of_le_of_lt (Nat.le_of_dvd (by decide) (Int.natAbs_dvd_natAbs.mpr ⟨y, hc.symm⟩)) DD_small
        have t2 : (t - 10).natAbs ≤ 2 ^ 5 := by omega
        exact Nat.lt_of_lt_of_le (Nat.mul_lt_mul_of_lt_of_le c1 t2 (by decide)) (by decide))
      refine low_ok y0 (small9 (by omega)) ⟨_, rfl, tooth_ok (by decide) (by decide) fun z z0 z1 => ⟨shaped_int _, shaped_int _, ?_⟩⟩
      have ll : (qs.map fr).length < 16777216 := by simp; omega
      rw [eqv_int]
      by_cases zz : z = 0
      · rw [if_pos (decide_eq_true zz)]
        refine ⟨⟨by decide, by decide, by decide⟩, by decide, ?_⟩
        have ft : PyData.tuple [.int 1, .int (10 ^ Int.toNat 60)] = fr (Rat.divInt 1 (10 ^ 60)) := fr_tiny
        rw [ft]
        exact add_ok (n := 208) (by decide) (gd_sz g (by decide)) (gd_sz (gd_up gd_tiny (by decide)) (by decide)) ⟨ll, fin _ _ (gd_add g (gd_up gd_tiny (by decide)))⟩
      · rw [if_neg (by simpa using zz)]
        exact ⟨ll, fin _ _ (gd_up g (by decide))⟩
    simp only [List.mem_cons, List.not_mem_nil, or_false] at hx
    rcases hx with h | h | h | h
    · exact key DD 1 h (by decide) (by decide) (by decide)
    · exact key DD 1 h (by decide) (by decide) (by decide)
    · exact key (3 * 10 ^ 60) 2 h (by decide) (by decide) (by decide)
    · exact key (2 * 10 ^ 60) 3 h (by decide) (by decide) (by decide)
theorem vc__law_spot : ∀ ds Q X, p__law_spot ds Q X → ms__law_spot { nx := fun _ => Q .none, rt := Q, xx := fun x _ => X x } (startS N__law_spot ds) := by
  rintro ds Q X ⟨n, rfl, n1, n3, q⟩
  simp only [dSeq, dAsg, dRet, dRaise, dRetN, dDrop, dIfS, dSkip, dVar, dC, dOp, dTup, dLst, dCons, dNil, dCB, dCall, dCallS, dCallK, gP, gT, gL, gN, gsNil, gsCons, dTest, dTruth, truD, dNotT, dAndT, dOrT, dAndV, dOrV, dNotV, dIf, dNeg, dAdd, dSub, dMul, dFdiv, dMod, dPow, dI, dLt, dLe, dGt, dGe, dEq, dNe, dIsO, dNotO, dIx, dPar, dFor, iL, iT, iR1, dNew, bLen, bAbs, bInt, bGcd, bTuple, bList, bAll, dType, dNType, dIs, dIs2, startE, List.map_cons, List.map_nil, List.length_cons, List.length_nil, List.cons_append, List.nil_append, List.getElem?_cons_zero, List.getElem?_cons_succ, List.set_cons_zero, List.set_cons_succ, Option.some.injEq, Sl.p.injEq, exists_eq_left', exists_eq_left, Nat.reduceAdd, Nat.reduceSub, List.replicate, forall_const, true_and, and_true, if_true, if_false, Bool.false_eq_true, eq_self, ite_true, ite_false, reduceCtorEq, ms__law_spot, startS, dAsgO, mLst, dFrz]
  refine ⟨by decide, by decide, by omega, by omega, ?_⟩
  rw [Int.toNat_natCast]
  refine spot_loop n3 rfl n 0 [] _ _ (by simp) (fun _ m => by cases m) (fun qs x3 x4 hl hq => ?_)
  refine ⟨_, rfl, ?_⟩
  simp only [dSeq, dAsg, dRet, dRaise, dRetN, dDrop, dIfS, dSkip, dVar, dC, dOp, dTup, dLst, dCons, dNil, dCB, dCall, dCallS, dCallK, gP, gT, gL, gN, gsNil, gsCons, dTest, dTruth, truD, dNotT, dAndT, dOrT, dAndV, dOrV, dNotV, dIf, dNeg, dAdd, dSub, dMul, dFdiv, dMod, dPow, dI, dLt, dLe, dGt, dGe, dEq, dNe, dIsO, dNotO, dIx, dPar, dFor, iL, iT, iR1, dNew, bLen, bAbs, bInt, bGcd, bTuple, bList, bAll, dType, dNType, dIs, dIs2, startE, List.map_cons, List.map_nil, List.length_cons, List.length_nil, List.cons_append, List.nil_append, List.getElem?_cons_zero, List.getElem?_cons_succ, List.set_cons_zero, List.set_cons_succ, Option.some.injEq, Sl.p.injEq, exists_eq_left', exists_eq_left, Nat.reduceAdd, Nat.reduceSub, List.replicate, forall_const, true_and, and_true, if_true, if_false, Bool.false_eq_true, eq_self, ite_true, ite_false, reduceCtorEq]
  exact q qs hl hq
end K01
namespace K01
open PySem PySem.Spec L2 Fw
variable [Tabs]
def st__law_next_0 : DS := (dPar 3 4 (dCons (dCB bLen (dCons (dVar 1) dNil)) (dCons (dCallS 0 p__law_tooth (dCons (dC (.int 10)) dNil)) dNil)))
def st__law_next_1 : DS := (dAsgO 5 (mList (dCons (dCallS 0 p__law_spot (dCons (dVar 3) dNil)) dNil)))
def st__law_next_2 : DS := (dIfS (dAndT (dTest (dOp dLt (dVar 4) (dC (.int 5)))) (dAndT (dTest (dOp dNe (dVar 2) (dTup dNil))) (dTest (dOp dEq (dNew (dLc (iT (dVar 1)) (gP 6) (dTest (dOp dGt (dCB bAbs (dCons (dOp dIx (dVar 6) (dC (.int 0))) dNil)) (dOp dMul (dC (.int 1000)) (dOp dIx (dVar 6) (dC (.int 1)))))) (dC (.int 1)) [6])) (dLst dNil))))) (dSeq (dAsg (dOp dIx (dLst (dCons (dTup (dCons (dC (.int 1)) (dCons (dC (.int 1)) dNil))) (dCons (dTup (dCons (dC (.int 2)) (dCons (dC (.int 1)) dNil))) (dCons (dTup (dCons (dNeg (dC (.int 1))) (dCons (dC (.int 1)) dNil))) (dCons (dTup (dCons (dNeg (dC (.int 2))) (dCons (dC (.int 1)) dNil))) (dCons (dTup (dCons (dC (.int 1)) (dCons (dC (.int 1)) dNil))) dNil)))))) (dVar 4)) (gP 7)) (dSeq (dFrz 5 (dAsgO 5 (dLc (iZ (dCons (dVar 1) (dCons (dVar 2) dNil))) (gT (gN 2 (gsCons (gP 8) (gsCons (gP 9) gsNil)))) mYes (dCall p__law_add (dCons (dVar 8) (dCons (dCall p__law_mul (dCons (dVar 9) (dCons (dVar 7) dNil))) dNil))) [8, 9]))) (dPut 5 (dIf (dTest (dOp dEq (dVar 4) (dC (.int 4)))) (dCall p__law_add (dCons (dIxO 5 (dC (.int 0))) (dCons (dTup (dCons (dC (.int 1)) (dCons (dOp dPow (dC (.int 10)) (dC (.int 60))) dNil))) dNil))) (dIxO 5 (dC (.int 0)))) (dC (.int 0))))) dSkip)
def st__law_next_3 : DS := (dIfS (dOrT (dTest (dOp dEq (dVar 4) (dC (.int 5)))) (dTest (dOp dEq (dVar 4) (dC (.int 6))))) (dSeq (dAsg (dCallS 0 p__law_tooth (dCons (dVar 3) dNil)) (gP 10)) (dFrz 5 (dAsgO 5 (mCat (dOp dAdd (dCB bList (dCons (dSl (dVar 1) dNoPart (dPart (dVar 10))) dNil)) (dLst (dCons (dIf (dTest (dOp dEq (dVar 4) (dC (.int 5)))) (dOp dIx (dVar 5) (dVar 10)) (dCall p__law_add (dCons (dOp dIx (dVar 1) (dVar 10)) (dCons (dTup (dCons (dC (.int 1)) (dCons (dOp dPow (dC (.int 10)) (dC (.int 60))) dNil))) dNil)))) dNil))) (dCB bList (dCons (dSl (dVar 1) (dPart (dOp dAdd (dVar 10) (dC (.int 1)))) dNoPart) dNil)))))) dSkip)
def st__law_next_4 : DS := (dIfS (dTest (dOp dEq (dTupO 5) (dVar 1))) (dPut 5 (dCall p__law_add (dCons (dIxO 5 (dC (.int 0))) (dCons (dTup (dCons (dC (.int 1)) (dCons (dC (.int 1)) dNil))) dNil))) (dC (.int 0))) dSkip)
def st__law_next_5 : DS := (dFrz 5 (dRet (dCB bTuple (dCons (dVar 5) dNil))))
theorem split__law_next : ms__law_next = dSeq st__law_next_0 (dSeq st__law_next_1 (dSeq st__law_next_2 (dSeq st__law_next_3 (dSeq st__law_next_4 (st__law_next_5))))) := rfl
/-- the slots while a next place is drawn -/
structure Jn (a g : List Rat) (sort : Int) (m : Nat) (qs : List Rat) (es : En) : Prop where
  ex : ∃ s6 s7 s8 s9 s10 : Sl, es = [.s, .p (pt a), .p (pt g), .p (.int a.length), .p (.int sort), .o (qs.map fr), s6, s7, s8, s9, s10]
  len : qs.length = a.length
  gd : ∀ q ∈ qs, Gd q m
theorem big_go {s0 s1 s2 s3 s4 s5 s6 s7 s8 s9 s10 : Sl} {P : List D → Prop} {n : Nat} (hn : n ≤ 400) : ∀ (qs : List Rat) (acc : List D), (∀ q ∈ qs, Sz q n) → acc.length + qs.length ≤ 1000 → (∀ k, k ≤ qs.length → P (acc ++ List.replicate k (.int 1))) →
    lcGo (gP 6) (dTest (dOp dGt (dCB bAbs (dCons (dOp dIx (dVar 6) (dC (.int 0))) dNil)) (dOp dMul (dC (.int 1000)) (dOp dIx (dVar 6) (dC (.int 1)))))) (dC (.int 1)) [s0, s1, s2, s3, s4, s5, s6, s7, s8, s9, s10] (qs.map fr) acc P
  | [], acc, _, _, q => by
    show P acc
    simpa using q 0 (Nat.le_refl _)
  | d :: r, acc, h, l, q => by
    rw [List.map_cons]
    unfold lcGo
    rw [List.length_cons] at l q
    have hs := h d List.mem_cons_self
    simp only [dSeq, dAsg, dRet, dRaise, dRetN, dDrop, dIfS, dSkip, dVar, dC, dOp, dTup, dLst, dCons, dNil, dCB, dCall, dCallS, dCallK, gP, gT, gL, gN, gsNil, gsCons, dTest, dTruth, truD, dNotT, dAndT, dOrT, dAndV, dOrV, dNotV, dIf, dNeg, dAdd, dSub, dMul, dFdiv, dMod, dPow, dI, dLt, dLe, dGt, dGe, dEq, dNe, dIsO, dNotO, dIx, dPar, dFor, iL, iT, iR1, dNew, bLen, bAbs, bInt, bGcd, bTuple, bList, bAll, dType, dNType, dIs, dIs2, startE, List.map_cons, List.map_nil, List.length_cons, List.length_nil, List.cons_append, List.nil_append, List.getElem?_cons_zero, List.getElem?_cons_succ, List.set_cons_zero, List.set_cons_succ, Option.some.injEq, Sl.p.injEq, exists_eq_left', exists_eq_left, Nat.reduceAdd, Nat.reduceSub, List.replicate, forall_const, true_and, and_true, if_true, if_false, Bool.false_eq_true, eq_self, ite_true, ite_false, reduceCtorEq, dIx_fr0, dIx_fr1]
    have e1 : fr d = .tuple [.int d.num, .int d.den] := rfl
    simp only [e1, dSeq, dAsg, dRet, dRaise, dRetN, dDrop, dIfS, dSkip, dVar, dC, dOp, dTup, dLst, dCons, dNil, dCB, dCall, dCallS, dCallK, gP, gT, gL, gN, gsNil, gsCons, dTest, dTruth, truD, dNotT, dAndT, dOrT, dAndV, dOrV, dNotV, dIf, dNeg, dAdd, dSub, dMul, dFdiv, dMod, dPow, dI, dLt, dLe, dGt, dGe, dEq, dNe, dIsO, dNotO, dIx, dPar, dFor, iL, iT, iR1, dNew, bLen, bAbs, bInt, bGcd, bTuple, bList, bAll, dType, dNType, dIs, dIs2, startE, List.map_cons, List.map_nil, List.length_cons, List.length_nil, List.cons_append, List.nil_append, List.getElem?_cons_zero, List.getElem?_cons_succ, List.set_cons_zero, List.set_cons_succ, Option.some.injEq, Sl.p.injEq, exists_eq_left', exists_eq_left, Nat.reduceAdd, Nat.reduceSub, List.replicate, forall_const, true_and, and_true, if_true, if_false, Bool.false_eq_true, eq_self, ite_true, ite_false, reduceCtorEq, at0, at1]
    refine ⟨MulOk.w (a := 10) (b := 400) (by decide) (by
      have := sz_mono hs hn
      simpa using this.2) (by decide) (by decide) (by decide), ?_⟩
    generalize decide (1000 * (d.den : Int) < (if d.num < 0 then -d.num else d.num)) = bb
    cases bb with
    | true =>
      refine ⟨by omega, big_go hn r _ (fun x m => h x (List.mem_cons_of_mem _ m)) (by simp; omega) fun k hk => ?_⟩
      have := q (k + 1) (by omega)
      rw [List.replicate_succ] at this
      rw [List.append_assoc]
      exact this
    | false => exact big_go hn r acc (fun x m => h x (List.mem_cons_of_mem _ m)) (by omega) fun k hk => q k (by omega)
theorem ones_shaped (k : Nat) : SeqAt.shaped (.list (List.replicate k (.int 1))) = true :=
  sm_shaped (b := 5) (k := 1) (show SmA 5 0 _ from smA_of fun x m => by
    rw [(List.mem_replicate.mp m).2]
    exact (show (1 : Int).natAbs < 2 ^ 5 by decide)) (by decide)
theorem factor_of {sort : Int} (h0 : 0 ≤ sort) (h1 : sort < 5) : ∃ f : Int, f.natAbs ≤ 2 ∧ atI [PyData.tuple [.int 1, .int 1], .tuple [.int 2, .int 1], .tuple [.int (-1), .int 1], .tuple [.int (-2), .int 1], .tuple [.int 1, .int 1]] sort = some (fr (Rat.divInt f 1)) := by
  obtain ⟨x, hx, e⟩ := atI_of (l := [PyData.tuple [.int 1, .int 1], .tuple [.int 2, .int 1], .tuple [.int (-1), .int 1], .tuple [.int (-2), .int 1], .tuple [.int 1, .int 1]]) h0 (by simpa using h1)
  have key : ∀ f : Int, f.natAbs ≤ 2 → x = .tuple [.int f, .int 1] → ∃ f : Int, f.natAbs ≤ 2 ∧ atI [PyData.tuple [.int 1, .int 1], .tuple [.int 2, .int 1], .tuple [.int (-1), .int 1], .tuple [.int (-2), .int 1], .tuple [.int 1, .int 1]] sort = some (fr (Rat.divInt f 1)) := fun f hf ex => ⟨f, hf, by rw [e, ex, fr_eq (by decide) (by simp)]⟩
  simp only [List.mem_cons, List.not_mem_nil, or_false] at hx
  rcases hx with h | h | h | h | h
  · exact key 1 (by decide) h
  · exact key 2 (by decide) h
  · exact key (-1) (by decide) h
  · exact key (-2) (by decide) h
  · exact key 1 (by decide) h
theorem zip_go {me : DE} {s0 s1 s2 s3 s4 s5 s6 s7 s10 : Sl} {f : Rat → Rat → Rat} {G : Rat → Rat → Prop} {P : List D → Prop} (hme : ∀ x y : Rat, G x y → ∀ R : D → Prop, R (fr (f x y)) → me [s0, s1, s2, s3, s4, s5, s6, s7, .p (fr x), .p (fr y), s10] R (fun _ => False)) : ∀ (a g : List Rat) (acc : List D), g.length = a.length → (∀ x ∈ a, ∀ y ∈ g, G x y) → acc.length + a.length ≤ 1000 → (∀ bs : List Rat, bs.length = a.length → (∀ b ∈ bs, ∃ x ∈ a, ∃ y ∈ g, b = f x y) → P (acc ++ bs.map fr)) →
    lcGo (gT (gN 2 (gsCons (gP 8) (gsCons (gP 9) gsNil)))) mYes me [s0, s1, s2, s3, s4, s5, s6, s7, .un, .un, s10] (zipD (a.map fr) (g.map fr)) acc P
  | [], [], acc, _, _, _, q => by
    show P acc
    simpa using q [] rfl (fun _ m => by cases m)
  | [], _ :: _, _, l, _, _, _ => by simp at l
  | _ :: _, [], _, l, _, _, _ => by simp at l
  | x :: a, y :: g, acc, l, hG, hl, q => by
    rw [List.map_cons, List.map_cons]
    rw [List.length_cons] at hl
    show lcGo _ _ _ _ (.tuple [fr x, fr y] :: zipD (a.map fr) (g.map fr)) acc P
    unfold lcGo mYes
    simp only [if_true, dSeq, dAsg, dRet, dRaise, dRetN, dDrop, dIfS, dSkip, dVar, dC, dOp, dTup, dLst, dCons, dNil, dCB, dCall, dCallS, dCallK, gP, gT, gL, gN, gsNil, gsCons, dTest, dTruth, truD, dNotT, dAndT, dOrT, dAndV, dOrV, dNotV, dIf, dNeg, dAdd, dSub, dMul, dFdiv, dMod, dPow, dI, dLt, dLe, dGt, dGe, dEq, dNe, dIsO, dNotO, dIx, dPar, dFor, iL, iT, iR1, dNew, bLen, bAbs, bInt, bGcd, bTuple, bList, bAll, dType, dNType, dIs, dIs2, startE, List.map_cons, List.map_nil, List.length_cons, List.length_nil, List.cons_append, List.nil_append, List.getElem?_cons_zero, List.getElem?_cons_succ, List.set_cons_zero, List.set_cons_succ, Option.some.injEq, Sl.p.injEq, exists_eq_left', exists_eq_left, Nat.reduceAdd, Nat.reduceSub, List.replicate, forall_const, true_and, and_true, if_true, if_false, Bool.false_eq_true, eq_self, ite_true, ite_false, reduceCtorEq]
    refine hme x y (hG x List.mem_cons_self y List.mem_cons_self) _ ⟨by omega, ?_⟩
    refine zip_go hme a g _ (by simpa using l) (fun x m y n => hG x (List.mem_cons_of_mem _ m) y (List.mem_cons_of_mem _ n)) (by simp; omega) fun bs lb hb => ?_
    have := q (f x y :: bs) (by simp [lb]) (fun b m => by
      rcases List.mem_cons.mp m with rfl | m
      · exact ⟨x, List.mem_cons_self, y, List.mem_cons_self, rfl⟩
      · obtain ⟨u, hu, v, hv, e⟩ := hb b m
        exact ⟨u, List.mem_cons_of_mem _ hu, v, List.mem_cons_of_mem _ hv, e⟩)
    rw [List.append_assoc]
    exact this
end K01
namespace K01
open PySem PySem.Spec L2 Fw
variable [Tabs]
section
variable {a g : List Rat} {n : Nat} {sort : Int} {E : Eo}
theorem ft60 : PyData.tuple [.int 1, .int (10 ^ Int.toNat 60)] = fr (Rat.divInt 1 (10 ^ 60)) := fr_tiny
theorem cpow60 : CPow 10 60 := ⟨by decide, by decide, by decide⟩
theorem zip_ok {m : Nat} {x y : Rat} {f : Int} (hf : f.natAbs ≤ 2) (hx : Gd x m) (hy : Gd y (m + 1)) : Gd (x + y * Rat.divInt f 1) (m + 3) :=
  gd_add (gd_up hx (by omega)) (gd_mulI f hf hy)
/-- the first number of the list of a slot's own becomes greater by r -/
theorem put_go {me : DE} {es : En} {qs : List Rat} {m : Nat} {r : Rat} (h0 : es[5]? = some (.o (qs.map fr))) (q0 : qs ≠ []) (hm : ∀ R X, (∀ x, qs.head? = some x → R (fr (x + r))) → me es R X) (q : ∀ x t, qs = x :: t → E.nx (es.set 5 (.o (((x + r) :: t).map fr)))) : dPut 5 me (dC (.int 0)) E es := by
  refine ⟨_, h0, hm _ _ fun x hx => ?_⟩
  cases qs with
  | nil => exact absurd rfl q0
  | cons y t =>
    cases hx
    refine ⟨0, by simp [ixN], ?_⟩
    exact q x t rfl
theorem stage2 (a1 : 1 ≤ a.length) (a3 : a.length ≤ 3) (hg : g = [] ∨ g.length = a.length) (n0 : 210 ≤ n) (n1 : n ≤ 370) (ha : ∀ q ∈ a, Gd q n) (hgg : ∀ q ∈ g, Gd q (n + 1)) (c0 : 0 ≤ sort) {es : En} {qs : List Rat} (J : Jn a g sort n qs es) (q : ∀ qs es, Jn a g sort (n + 4) qs es → E.nx es) : st__law_next_2 E es := by
  obtain ⟨⟨s6, s7, s8, s9, s10, rfl⟩, hl, hq⟩ := J
  have skip : E.nx [.s, .p (pt a), .p (pt g), .p (.int a.length), .p (.int sort), .o (qs.map fr), s6, s7, s8, s9, s10] := q qs _ ⟨⟨s6, s7, s8, s9, s10, rfl⟩, hl, fun x m => gd_up (hq x m) (by omega)⟩
  unfold st__law_next_2
  have ept : ∀ b : List Rat, pt b = .tuple (b.map fr) := fun _ => rfl
  simp only [dSeq, dAsg, dRet, dRaise, dRetN, dDrop, dIfS, dSkip, dVar, dC, dOp, dTup, dLst, dCons, dNil, dCB, dCall, dCallS, dCallK, gP, gT, gL, gN, gsNil, gsCons, dTest, dTruth, truD, dNotT, dAndT, dOrT, dAndV, dOrV, dNotV, dIf, dNeg, dAdd, dSub, dMul, dFdiv, dMod, dPow, dI, dLt, dLe, dGt, dGe, dEq, dNe, dIsO, dNotO, dIx, dPar, dFor, iL, iT, iR1, dNew, bLen, bAbs, bInt, bGcd, bTuple, bList, bAll, dType, dNType, dIs, dIs2, startE, List.map_cons, List.map_nil, List.length_cons, List.length_nil, List.cons_append, List.nil_append, List.getElem?_cons_zero, List.getElem?_cons_succ, List.set_cons_zero, List.set_cons_succ, Option.some.injEq, Sl.p.injEq, exists_eq_left', exists_eq_left, Nat.reduceAdd, Nat.reduceSub, List.replicate, forall_const, true_and, and_true, if_true, if_false, Bool.false_eq_true, eq_self, ite_true, ite_false, reduceCtorEq, dLc, wipeE]
  by_cases c5 : sort < 5
  · rw [if_pos (decide_eq_true c5)]
    refine ⟨by decide, pt_shaped g, by decide, ?_⟩
    have en : PyData.eqv (pt g) (.tuple []) = decide (g = []) := pt_eqv g []
    simp only [en]
    by_cases cg : g = []
    · simp only [cg, decide_true, Bool.not_true, Bool.false_eq_true, if_false]
      rw [cg] at skip
      exact skip
    · simp only [cg, decide_false, Bool.not_false, if_true]
      rw [ept a]
      simp only []
      refine big_go (n := 370) (by decide) a [] (fun x m => gd_sz (gd_up (ha x m) n1) (by decide)) (by simp; omega) fun k hk => ?_
      simp only [List.nil_append]
      refine ⟨by decide, ones_shaped k, by decide, ?_⟩
      by_cases hbb : PyData.eqv (.list (List.replicate k (.int 1))) (.list []) = true
      case neg =>
        rw [if_neg hbb]
        exact skip
      case pos =>
        rw [if_pos hbb]
        obtain ⟨f, hf, ef⟩ := factor_of c0 c5
        refine ⟨by decide, by decide, by decide, by decide, by decide, by decide, _, ef, ?_⟩
        have lg : g.length = a.length := by
          rcases hg with h | h
          · exact absurd h cg
          · exact h
        simp only [dFrz, dAsgO, dLc, wipeE, dSeq, dAsg, dRet, dRaise, dRetN, dDrop, dIfS, dSkip, dVar, dC, dOp, dTup, dLst, dCons, dNil, dCB, dCall, dCallS, dCallK, gP, gT, gL, gN, gsNil, gsCons, dTest, dTruth, truD, dNotT, dAndT, dOrT, dAndV, dOrV, dNotV, dIf, dNeg, dAdd, dSub, dMul, dFdiv, dMod, dPow, dI, dLt, dLe, dGt, dGe, dEq, dNe, dIsO, dNotO, dIx, dPar, dFor, iL, iT, iR1, dNew, bLen, bAbs, bInt, bGcd, bTuple, bList, bAll, dType, dNType, dIs, dIs2, startE, List.map_cons, List.map_nil, List.length_cons, List.length_nil, List.cons_append, List.nil_append, List.getElem?_cons_zero, List.getElem?_cons_succ, List.set_cons_zero, List.set_cons_succ, Option.some.injEq, Sl.p.injEq, exists_eq_left', exists_eq_left, Nat.reduceAdd, Nat.reduceSub, List.replicate, forall_const, true_and, and_true, if_true, if_false, Bool.false_eq_true, eq_self, ite_true, ite_false, reduceCtorEq, ept g]
        refine ⟨_, rfl, ?_⟩
        simp only [iZ, dSeq, dAsg, dRet, dRaise, dRetN, dDrop, dIfS, dSkip, dVar, dC, dOp, dTup, dLst, dCons, dNil, dCB, dCall, dCallS, dCallK, gP, gT, gL, gN, gsNil, gsCons, dTest, dTruth, truD, dNotT, dAndT, dOrT, dAndV, dOrV, dNotV, dIf, dNeg, dAdd, dSub, dMul, dFdiv, dMod, dPow, dI, dLt, dLe, dGt, dGe, dEq, dNe, dIsO, dNotO, dIx, dPar, dFor, iL, iT, iR1, dNew, bLen, bAbs, bInt, bGcd, bTuple, bList, bAll, dType, dNType, dIs, dIs2, startE, List.map_cons, List.map_nil, List.length_cons, List.length_nil, List.cons_append, List.nil_append, List.getElem?_cons_zero, List.getElem?_cons_succ, List.set_cons_zero, List.set_cons_succ, Option.some.injEq, Sl.p.injEq, exists_eq_left', exists_eq_left, Nat.reduceAdd, Nat.reduceSub, List.replicate, forall_const, true_and, and_true, if_true, if_false, Bool.false_eq_true, eq_self, ite_true, ite_false, reduceCtorEq]
        refine zip_go (f := fun x y => x + y * Rat.divInt f 1) (G := fun x y => Gd x n ∧ Gd y (n + 1)) (fun x y h R r => ?_) a g [] lg (fun x m y k => ⟨ha x m, hgg y k⟩) (by simp; omega) fun bs lb hb => ?_
        · simp only [dSeq, dAsg, dRet, dRaise, dRetN, dDrop, dIfS, dSkip, dVar, dC, dOp, dTup, dLst, dCons, dNil, dCB, dCall, dCallS, dCallK, gP, gT, gL, gN, gsNil, gsCons, dTest, dTruth, truD, dNotT, dAndT, dOrT, dAndV, dOrV, dNotV, dIf, dNeg, dAdd, dSub, dMul, dFdiv, dMod, dPow, dI, dLt, dLe, dGt, dGe, dEq, dNe, dIsO, dNotO, dIx, dPar, dFor, iL, iT, iR1, dNew, bLen, bAbs, bInt, bGcd, bTuple, bList, bAll, dType, dNType, dIs, dIs2, startE, List.map_cons, List.map_nil, List.length_cons, List.length_nil, List.cons_append, List.nil_append, List.getElem?_cons_zero, List.getElem?_cons_succ, List.set_cons_zero, List.set_cons_succ, Option.some.injEq, Sl.p.injEq, exists_eq_left', exists_eq_left, Nat.reduceAdd, Nat.reduceSub, List.replicate, forall_const, true_and, and_true, if_true, if_false, Bool.false_eq_true, eq_self, ite_true, ite_false, reduceCtorEq]
          have hf2 : Gd (Rat.divInt f 1) 205 := gd_of (c := DD) (by decide) (by
            rw [Int.natAbs_mul]
            exact Nat.lt_of_lt_of_le (Nat.mul_lt_mul_of_lt_of_le DD_small hf (by decide)) (by decide))
          refine mul_ok (n := n + 1) (by omega) (gd_sz h.2 (by omega)) (gd_sz (gd_up hf2 (by omega)) (by omega)) ?_
          refine add_ok (n := n + 2) (by omega) (gd_sz (gd_up h.1 (by omega)) (by omega)) (gd_sz (gd_mulI f hf h.2) (by omega)) r
        · have gb : ∀ b ∈ bs, Gd b (n + 3) := fun b m => by
            obtain ⟨x, hx, y, hy, rfl⟩ := hb b m
            exact zip_ok hf (ha x hx) (hgg y hy)
          refine ⟨by decide, ?_⟩
          simp only [List.nil_append]
          cases bs with
          | nil => simp at lb; omega
          | cons b t =>
            refine ⟨_, rfl, ?_⟩
            simp only [dSeq, dAsg, dRet, dRaise, dRetN, dDrop, dIfS, dSkip, dVar, dC, dOp, dTup, dLst, dCons, dNil, dCB, dCall, dCallS, dCallK, gP, gT, gL, gN, gsNil, gsCons, dTest, dTruth, truD, dNotT, dAndT, dOrT, dAndV, dOrV, dNotV, dIf, dNeg, dAdd, dSub, dMul, dFdiv, dMod, dPow, dI, dLt, dLe, dGt, dGe, dEq, dNe, dIsO, dNotO, dIx, dPar, dFor, iL, iT, iR1, dNew, bLen, bAbs, bInt, bGcd, bTuple, bList, bAll, dType, dNType, dIs, dIs2, startE, List.map_cons, List.map_nil, List.length_cons, List.length_nil, List.cons_append, List.nil_append, List.getElem?_cons_zero, List.getElem?_cons_succ, List.set_cons_zero, List.set_cons_succ, Option.some.injEq, Sl.p.injEq, exists_eq_left', exists_eq_left, Nat.reduceAdd, Nat.reduceSub, List.replicate, forall_const, true_and, and_true, if_true, if_false, Bool.false_eq_true, eq_self, ite_true, ite_false, reduceCtorEq, dIxO]
            have fin : ∀ x, Gd x (n + 4) → E.nx [Sl.s, Sl.p (.tuple (a.map fr)), Sl.p (.tuple (g.map fr)), Sl.p (.int a.length), Sl.p (.int sort), Sl.o (fr x :: t.map fr), s6, Sl.p (fr (Rat.divInt f 1)), s8, s9, s10] := fun x hx =>
              q (x :: t) _ ⟨⟨s6, _, s8, s9, s10, rfl⟩, by simpa using lb, fun y m => by
                rcases List.mem_cons.mp m with rfl | m
                · exact hx
                · exact gd_up (gb y (List.mem_cons_of_mem _ m)) (by omega)⟩
            have ix : ixN ((t.map fr).length + 1) 0 = some 0 := by simp [ixN]
            have gb0 := gb b List.mem_cons_self
            refine ⟨shaped_int _, shaped_int _, ?_⟩
            by_cases h4 : PyData.eqv (.int sort) (.int 4) = true
            · rw [if_pos h4]
              refine ⟨_, rfl, _, at0 _ _, cpow60, by decide, ?_⟩
              rw [ft60]
              exact add_ok (n := n + 3) (by omega) (gd_sz gb0 (by omega)) (gd_sz (gd_up gd_tiny (by omega)) (by omega)) ⟨0, ix, fin _ (gd_add gb0 (gd_up gd_tiny (by omega)))⟩
            · rw [if_neg h4]
              exact ⟨_, rfl, _, at0 _ _, 0, ix, fin _ (gd_up gb0 (by omega))⟩
  · rw [if_neg (by simpa using c5)]
    exact skip
theorem cut_lo (xs : List D) (k : Nat) : cutD xs none (some (k : Int)) = xs.take k := by
  have h : ¬ (k : Int) < 0 := by omega
  unfold cutD
  simp only [HT.sIx, h, if_false, Int.toNat_natCast, Nat.sub_zero, List.drop_zero]
  by_cases c : k ≤ xs.length
  · rw [Nat.min_eq_left c]
  · rw [Nat.min_eq_right (by omega), List.take_of_length_le (Nat.le_refl _), List.take_of_length_le (by omega)]
theorem cut_hi (xs : List D) (k : Nat) : cutD xs (some (k : Int)) none = xs.drop k := by
  have h : ¬ (k : Int) < 0 := by omega
  unfold cutD
  simp only [HT.sIx, h, if_false, Int.toNat_natCast]
  by_cases c : k ≤ xs.length
  · rw [Nat.min_eq_left c, List.take_of_length_le (by simp)]
  · rw [Nat.min_eq_right (by omega), List.drop_of_length_le (Nat.le_refl _), List.drop_of_length_le (by omega)]
    simp
theorem cut_hi1 (xs : List D) (k : Nat) : cutD xs (some ((k : Int) + 1)) none = xs.drop (k + 1) := by
  have := cut_hi xs (k + 1)
  rw [← this]
  rfl
theorem stage3 (a1 : 1 ≤ a.length) (a3 : a.length ≤ 3) (n0 : 210 ≤ n) (n1 : n ≤ 370) (ha : ∀ q ∈ a, Gd q n) {es : En} {qs : List Rat} (J : Jn a g sort (n + 4) qs es) (q : ∀ qs es, Jn a g sort (n + 4) qs es → E.nx es) : st__law_next_3 E es := by
  have J0 := J
  obtain ⟨⟨s6, s7, s8, s9, s10, rfl⟩, hl, hq⟩ := J
  have skip := q qs _ J0
  unfold st__law_next_3
  have ept : pt a = .tuple (a.map fr) := rfl
  have fin : ∀ (k : Nat) (x : Rat), k < a.length → Gd x (n + 4) → E.nx [.s, .p (.tuple (a.map fr)), .p (pt g), .p (.int a.length), .p (.int sort), .o ((a.map fr).take k ++ [fr x] ++ (a.map fr).drop (k + 1)), s6, s7, s8, s9, .p (.int k)] := fun k x hk hx => by
    have e : (a.map fr).take k ++ [fr x] ++ (a.map fr).drop (k + 1) = (a.take k ++ [x] ++ a.drop (k + 1)).map fr := by simp [List.map_take, List.map_drop]
    rw [e]
    refine q _ _ ⟨⟨s6, s7, s8, s9, _, rfl⟩, by simp; omega, fun y m => ?_⟩
    rcases List.mem_append.mp m with m | m
    · rcases List.mem_append.mp m with m | m
      · exact gd_up (ha y (List.mem_of_mem_take m)) (by omega)
      · rw [List.mem_singleton.mp m]; exact hx
    · exact gd_up (ha y (List.mem_of_mem_drop m)) (by omega)
  have la : (a.map fr).length ≤ 3 := by simpa using a3
  have at_ : ∀ (k : Nat) (h : k < a.length), atI (a.map fr) (k : Int) = some (fr a[k]) := fun k h => atI_nat (by rw [List.getElem?_map, List.getElem?_eq_getElem h]; rfl)
  have atq : ∀ (k : Nat) (h : k < qs.length), atI (qs.map fr) (k : Int) = some (fr qs[k]) := fun k h => atI_nat (by rw [List.getElem?_map, List.getElem?_eq_getElem h]; rfl)
  have tooth : ∀ {Q : D → Prop} {X : XP}, (∀ k : Nat, k < a.length → Q (.int k)) → p__law_tooth [.int a.length] Q X := fun q => tooth_ok (by omega) (by omega) fun r r0 r1 => by
    obtain ⟨k, rfl⟩ := Int.eq_ofNat_of_zero_le r0
    exact q k (by omega)
  simp only [dSeq, dAsg, dRet, dRaise, dRetN, dDrop, dIfS, dSkip, dVar, dC, dOp, dTup, dLst, dCons, dNil, dCB, dCall, dCallS, dCallK, gP, gT, gL, gN, gsNil, gsCons, dTest, dTruth, truD, dNotT, dAndT, dOrT, dAndV, dOrV, dNotV, dIf, dNeg, dAdd, dSub, dMul, dFdiv, dMod, dPow, dI, dLt, dLe, dGt, dGe, dEq, dNe, dIsO, dNotO, dIx, dPar, dFor, iL, iT, iR1, dNew, bLen, bAbs, bInt, bGcd, bTuple, bList, bAll, dType, dNType, dIs, dIs2, startE, List.map_cons, List.map_nil, List.length_cons, List.length_nil, List.cons_append, List.nil_append, List.getElem?_cons_zero, List.getElem?_cons_succ, List.set_cons_zero, List.set_cons_succ, Option.some.injEq, Sl.p.injEq, exists_eq_left', exists_eq_left, Nat.reduceAdd, Nat.reduceSub, List.replicate, forall_const, true_and, and_true, if_true, if_false, Bool.false_eq_true, eq_self, ite_true, ite_false, reduceCtorEq, dFrz, dAsgO, mCat, ept, dSl, dPart, dNoPart, slD]
  refine ⟨shaped_int _, shaped_int _, ?_⟩
  by_cases h5 : PyData.eqv (.int sort) (.int 5) = true
  · rw [if_pos h5]
    refine tooth fun k hk => ⟨_, rfl, ?_⟩
    simp only [dSeq, dAsg, dRet, dRaise, dRetN, dDrop, dIfS, dSkip, dVar, dC, dOp, dTup, dLst, dCons, dNil, dCB, dCall, dCallS, dCallK, gP, gT, gL, gN, gsNil, gsCons, dTest, dTruth, truD, dNotT, dAndT, dOrT, dAndV, dOrV, dNotV, dIf, dNeg, dAdd, dSub, dMul, dFdiv, dMod, dPow, dI, dLt, dLe, dGt, dGe, dEq, dNe, dIsO, dNotO, dIx, dPar, dFor, iL, iT, iR1, dNew, bLen, bAbs, bInt, bGcd, bTuple, bList, bAll, dType, dNType, dIs, dIs2, startE, List.map_cons, List.map_nil, List.length_cons, List.length_nil, List.cons_append, List.nil_append, List.getElem?_cons_zero, List.getElem?_cons_succ, List.set_cons_zero, List.set_cons_succ, Option.some.injEq, Sl.p.injEq, exists_eq_left', exists_eq_left, Nat.reduceAdd, Nat.reduceSub, List.replicate, forall_const, true_and, and_true, if_true, if_false, Bool.false_eq_true, eq_self, ite_true, ite_false, reduceCtorEq, cut_lo, cut_hi1]
    refine ⟨shaped_int _, shaped_int _, ?_⟩
    rw [if_pos h5]
    refine ⟨_, atq k (by omega), by decide, ?_, ?_, by decide, fin k _ hk (hq _ (List.getElem_mem _))⟩
    · simp only [List.length_take, List.length_singleton]; omega
    · simp only [List.length_append, List.length_take, List.length_drop, List.length_singleton]; omega
  · rw [if_neg h5]
    refine ⟨shaped_int _, shaped_int _, ?_⟩
    by_cases h6 : PyData.eqv (.int sort) (.int 6) = true
    · rw [if_pos h6]
      refine tooth fun k hk => ⟨_, rfl, ?_⟩
      simp only [dSeq, dAsg, dRet, dRaise, dRetN, dDrop, dIfS, dSkip, dVar, dC, dOp, dTup, dLst, dCons, dNil, dCB, dCall, dCallS, dCallK, gP, gT, gL, gN, gsNil, gsCons, dTest, dTruth, truD, dNotT, dAndT, dOrT, dAndV, dOrV, dNotV, dIf, dNeg, dAdd, dSub, dMul, dFdiv, dMod, dPow, dI, dLt, dLe, dGt, dGe, dEq, dNe, dIsO, dNotO, dIx, dPar, dFor, iL, iT, iR1, dNew, bLen, bAbs, bInt, bGcd, bTuple, bList, bAll, dType, dNType, dIs, dIs2, startE, List.map_cons, List.map_nil, List.length_cons, List.length_nil, List.cons_append, List.nil_append, List.getElem?_cons_zero, List.getElem?_cons_succ, List.set_cons_zero, List.set_cons_succ, Option.some.injEq, Sl.p.injEq, exists_eq_left', exists_eq_left, Nat.reduceAdd, Nat.reduceSub, List.replicate, forall_const, true_and, and_true, if_true, if_false, Bool.false_eq_true, eq_self, ite_true, ite_false, reduceCtorEq, cut_lo, cut_hi1]
      refine ⟨shaped_int _, shaped_int _, ?_⟩
      rw [if_neg h5]
      refine ⟨_, at_ k hk, cpow60, by decide, ?_⟩
      rw [ft60]
      have gk := ha _ (List.getElem_mem hk)
      refine add_ok (n := n) (by omega) (gd_sz gk (by omega)) (gd_sz (gd_up gd_tiny (by omega)) (by omega)) ⟨by decide, ?_, ?_, by decide, fin k _ hk (gd_up (gd_add gk (gd_up gd_tiny (by omega))) (by omega))⟩
      · simp only [List.length_take, List.length_singleton]; omega
      · simp only [List.length_append, List.length_take, List.length_drop, List.length_singleton]; omega
    · rw [if_neg h6]
      exact skip
theorem stage4 (a1 : 1 ≤ a.length) (a3 : a.length ≤ 3) (n0 : 210 ≤ n) (n1 : n ≤ 370) {es : En} {qs : List Rat} (J : Jn a g sort (n + 4) qs es) (q : ∀ qs es, Jn a g sort (n + 5) qs es → qs ≠ a → E.nx es) : st__law_next_4 E es := by
  obtain ⟨⟨s6, s7, s8, s9, s10, rfl⟩, hl, hq⟩ := J
  unfold st__law_next_4
  simp only [dSeq, dAsg, dRet, dRaise, dRetN, dDrop, dIfS, dSkip, dVar, dC, dOp, dTup, dLst, dCons, dNil, dCB, dCall, dCallS, dCallK, gP, gT, gL, gN, gsNil, gsCons, dTest, dTruth, truD, dNotT, dAndT, dOrT, dAndV, dOrV, dNotV, dIf, dNeg, dAdd, dSub, dMul, dFdiv, dMod, dPow, dI, dLt, dLe, dGt, dGe, dEq, dNe, dIsO, dNotO, dIx, dPar, dFor, iL, iT, iR1, dNew, bLen, bAbs, bInt, bGcd, bTuple, bList, bAll, dType, dNType, dIs, dIs2, startE, List.map_cons, List.map_nil, List.length_cons, List.length_nil, List.cons_append, List.nil_append, List.getElem?_cons_zero, List.getElem?_cons_succ, List.set_cons_zero, List.set_cons_succ, Option.some.injEq, Sl.p.injEq, exists_eq_left', exists_eq_left, Nat.reduceAdd, Nat.reduceSub, List.replicate, forall_const, true_and, and_true, if_true, if_false, Bool.false_eq_true, eq_self, ite_true, ite_false, reduceCtorEq, dTupO, dPut, dIxO]
  refine ⟨_, rfl, pt_shaped qs, pt_shaped a, ?_⟩
  have en : PyData.eqv (.tuple (qs.map fr)) (pt a) = decide (qs = a) := pt_eqv qs a
  simp only [en]
  by_cases c : qs = a
  · subst c
    simp only [decide_true, if_true]
    cases qs with
    | nil => simp at a1
    | cons x t =>
      simp only [List.map_cons]
      refine ⟨_, rfl, _, rfl, _, at0 _ _, by decide, ?_⟩
      rw [fr_one]
      have gx := hq x List.mem_cons_self
      refine add_ok (n := n + 4) (by omega) (gd_sz gx (by omega)) (gd_sz (gd_up gd_one (by omega)) (by omega)) ⟨0, by simp [ixN], ?_⟩
      refine q ((x + Rat.divInt 1 1) :: t) _ ⟨⟨s6, s7, s8, s9, s10, rfl⟩, by simp, fun y m => ?_⟩ (fun z => ?_)
      · rcases List.mem_cons.mp m with rfl | m
        · exact gd_add gx (gd_up gd_one (by omega))
        · exact gd_up (hq y (List.mem_cons_of_mem _ m)) (by omega)
      · injection z with z _
        have z1 : (Rat.divInt 1 1) = (0 : Rat) := by grind
        exact absurd z1 (by decide)
  · simp only [c, decide_false, Bool.false_eq_true, if_false]
    exact q qs _ ⟨⟨s6, s7, s8, s9, s10, rfl⟩, hl, fun y m => gd_up (hq y m) (by omega)⟩ c
end
theorem vc__law_next : ∀ ds Q X, p__law_next ds Q X → ms__law_next { nx := fun _ => Q .none, rt := Q, xx := fun x _ => X x } (startS N__law_next ds) := by
  rintro ds Q X ⟨a, g, n, rfl, a1, a3, hg, n0, n1, ha, hgg, q⟩
  rw [split__law_next]
  have ept : pt a = .tuple (a.map fr) := rfl
  simp only [dSeq, dAsg, dRet, dRaise, dRetN, dDrop, dIfS, dSkip, dVar, dC, dOp, dTup, dLst, dCons, dNil, dCB, dCall, dCallS, dCallK, gP, gT, gL, gN, gsNil, gsCons, dTest, dTruth, truD, dNotT, dAndT, dOrT, dAndV, dOrV, dNotV, dIf, dNeg, dAdd, dSub, dMul, dFdiv, dMod, dPow, dI, dLt, dLe, dGt, dGe, dEq, dNe, dIsO, dNotO, dIx, dPar, dFor, iL, iT, iR1, dNew, bLen, bAbs, bInt, bGcd, bTuple, bList, bAll, dType, dNType, dIs, dIs2, startE, List.map_cons, List.map_nil, List.length_cons, List.length_nil, List.cons_append, List.nil_append, List.getElem?_cons_zero, List.getElem?_cons_succ, List.set_cons_zero, List.set_cons_succ, Option.some.injEq, Sl.p.injEq, exists_eq_left', exists_eq_left, Nat.reduceAdd, Nat.reduceSub, List.replicate, forall_const, true_and, and_true, if_true, if_false, Bool.false_eq_true, eq_self, ite_true, ite_false, reduceCtorEq, st__law_next_0, st__law_next_1, startS, dAsgO, mList, ept]
  refine tooth_ok (by decide) (by decide) fun sort c0 c1 => ?_
  refine ⟨a.length, by simp, a1, a3, fun qs lq hq => ?_⟩
  refine ⟨by decide, ?_⟩
  refine stage2 a1 a3 hg n0 n1 ha hgg c0 (qs := qs) ⟨⟨.un, .un, .un, .un, .un, by simp [pt]⟩, lq, fun x m => gd_up (hq x m) n0⟩ fun qs es J => ?_
  refine stage3 a1 a3 n0 n1 ha J fun qs es J => ?_
  refine stage4 a1 a3 n0 n1 J fun qs es J ne => ?_
  obtain ⟨⟨s6, s7, s8, s9, s10, rfl⟩, hl, hq⟩ := J
  simp only [st__law_next_5, dFrz]
  refine ⟨_, rfl, ?_⟩
  simp only [dSeq, dAsg, dRet, dRaise, dRetN, dDrop, dIfS, dSkip, dVar, dC, dOp, dTup, dLst, dCons, dNil, dCB, dCall, dCallS, dCallK, gP, gT, gL, gN, gsNil, gsCons, dTest, dTruth, truD, dNotT, dAndT, dOrT, dAndV, dOrV, dNotV, dIf, dNeg, dAdd, dSub, dMul, dFdiv, dMod, dPow, dI, dLt, dLe, dGt, dGe, dEq, dNe, dIsO, dNotO, dIx, dPar, dFor, iL, iT, iR1, dNew, bLen, bAbs, bInt, bGcd, bTuple, bList, bAll, dType, dNType, dIs, dIs2, startE, List.map_cons, List.map_nil, List.length_cons, List.length_nil, List.cons_append, List.nil_append, List.getElem?_cons_zero, List.getElem?_cons_succ, List.set_cons_zero, List.set_cons_succ, Option.some.injEq, Sl.p.injEq, exists_eq_left', exists_eq_left, Nat.reduceAdd, Nat.reduceSub, List.replicate, forall_const, true_and, and_true, if_true, if_false, Bool.false_eq_true, eq_self, ite_true, ite_false, reduceCtorEq]
  exact q qs hl ne hq
end K01
namespace K01
open PySem PySem.Spec L2 Fw
variable [Tabs]
def st__law_steps_0 : DS := (dPar3O 3 4 5 (mLst dNil) (dCons (dVar 1) (dCons (dTup dNil) dNil)))
def st__law_steps_1 : DS := (dFor (iR1 (dCons (dVar 2) dNil)) (gP 6) (dSeq (dAsg (dCallS 0 p__law_next (dCons (dVar 4) (dCons (dVar 5) dNil))) (gP 7)) (dSeq (dPar 5 4 (dCons (dCB bTuple (dCons (dNew (dLc (iZ (dCons (dVar 7) (dCons (dVar 4) dNil))) (gT (gN 2 (gsCons (gP 8) (gsCons (gP 9) gsNil)))) mYes (dCall p__law_take (dCons (dVar 8) (dCons (dVar 9) dNil))) [8, 9])) dNil)) (dCons (dVar 7) dNil))) (dSeq (dAsg (dCall p__law_low (dCons (dOp dAdd (dC (.int 1)) (dCallS 0 p__law_tooth (dCons (dC (.int 12)) dNil))) (dCons (dOp dIx (dLst (dCons (dC (.int 1)) (dCons (dC (.int 1)) (dCons (dC (.int 2)) (dCons (dC (.int 5)) dNil))))) (dCallS 0 p__law_tooth (dCons (dC (.int 4)) dNil))) dNil))) (gP 10)) (dSeq (dAsg (dOp dIx (dLst (dCons (dTup (dCons (dC (.int 0)) (dCons (dC (.int 1)) dNil))) (dCons (dTup (dCons (dC (.int 0)) (dCons (dC (.int 1)) dNil))) (dCons (dVar 10) (dCons (dCall p__law_mul (dCons (dVar 10) (dCons (dTup (dCons (dC (.int 1)) (dCons (dC (.int 3)) dNil))) dNil))) dNil))))) (dCallS 0 p__law_tooth (dCons (dC (.int 4)) dNil))) (gP 11)) (dApp 3 (dTup (dCons (dVar 7) (dCons (dVar 10) (dCons (dVar 11) (dCons (dOp dEq (dCallS 0 p__law_tooth (dCons (dC (.int 5)) dNil)) (dC (.int 0))) dNil)))))))))))
def st__law_steps_2 : DS := (dFrz 3 (dRet (dCB bTuple (dCons (dVar 3) dNil))))
theorem split__law_steps : ms__law_steps = dSeq st__law_steps_0 (dSeq st__law_steps_1 (st__law_steps_2)) := rfl
def bd__law_steps_1_0 : DS := (dAsg (dCallS 0 p__law_next (dCons (dVar 4) (dCons (dVar 5) dNil))) (gP 7))
def bd__law_steps_1_1 : DS := (dPar 5 4 (dCons (dCB bTuple (dCons (dNew (dLc (iZ (dCons (dVar 7) (dCons (dVar 4) dNil))) (gT (gN 2 (gsCons (gP 8) (gsCons (gP 9) gsNil)))) mYes (dCall p__law_take (dCons (dVar 8) (dCons (dVar 9) dNil))) [8, 9])) dNil)) (dCons (dVar 7) dNil)))
def bd__law_steps_1_2 : DS := (dAsg (dCall p__law_low (dCons (dOp dAdd (dC (.int 1)) (dCallS 0 p__law_tooth (dCons (dC (.int 12)) dNil))) (dCons (dOp dIx (dLst (dCons (dC (.int 1)) (dCons (dC (.int 1)) (dCons (dC (.int 2)) (dCons (dC (.int 5)) dNil))))) (dCallS 0 p__law_tooth (dCons (dC (.int 4)) dNil))) dNil))) (gP 10))
def bd__law_steps_1_3 : DS := (dAsg (dOp dIx (dLst (dCons (dTup (dCons (dC (.int 0)) (dCons (dC (.int 1)) dNil))) (dCons (dTup (dCons (dC (.int 0)) (dCons (dC (.int 1)) dNil))) (dCons (dVar 10) (dCons (dCall p__law_mul (dCons (dVar 10) (dCons (dTup (dCons (dC (.int 1)) (dCons (dC (.int 3)) dNil))) dNil))) dNil))))) (dCallS 0 p__law_tooth (dCons (dC (.int 4)) dNil))) (gP 11))
def bd__law_steps_1_4 : DS := (dApp 3 (dTup (dCons (dVar 7) (dCons (dVar 10) (dCons (dVar 11) (dCons (dOp dEq (dCallS 0 p__law_tooth (dCons (dC (.int 5)) dNil)) (dC (.int 0))) dNil))))))
theorem split__law_steps_1 : st__law_steps_1 = dFor (iR1 (dCons (dVar 2) dNil)) (gP 6) (dSeq bd__law_steps_1_0 (dSeq bd__law_steps_1_1 (dSeq bd__law_steps_1_2 (dSeq bd__law_steps_1_3 (bd__law_steps_1_4))))) := rfl
theorem zipG {mg : DG} {me : DE} {es0 : En} {f : Rat → Rat → Rat} {G : Rat → Rat → Prop} {P : List D → Prop} (hme : ∀ x y : Rat, G x y → ∀ R : D → Prop, R (fr (f x y)) → mg (.tuple [fr x, fr y]) es0 (fun es1 => me es1 R (fun _ => False))) : ∀ (a g : List Rat) (acc : List D), g.length = a.length → (∀ x ∈ a, ∀ y ∈ g, G x y) → acc.length + a.length ≤ 1000 → (∀ bs : List Rat, bs.length = a.length → (∀ b ∈ bs, ∃ x ∈ a, ∃ y ∈ g, b = f x y) → P (acc ++ bs.map fr)) →
    lcGo mg mYes me es0 (zipD (a.map fr) (g.map fr)) acc P
  | [], [], acc, _, _, _, q => by
    show P acc
    simpa using q [] rfl (fun _ m => by cases m)
  | [], _ :: _, _, l, _, _, _ => by simp at l
  | _ :: _, [], _, l, _, _, _ => by simp at l
  | x :: a, y :: g, acc, l, hG, hl, q => by
    rw [List.map_cons, List.map_cons]
    rw [List.length_cons] at hl
    show lcGo _ _ _ _ (.tuple [fr x, fr y] :: zipD (a.map fr) (g.map fr)) acc P
    unfold lcGo mYes
    simp only [if_true]
    refine hme x y (hG x List.mem_cons_self y List.mem_cons_self) _ ⟨by omega, ?_⟩
    refine zipG hme a g _ (by simpa using l) (fun x m y n => hG x (List.mem_cons_of_mem _ m) y (List.mem_cons_of_mem _ n)) (by simp; omega) fun bs lb hb => ?_
    have := q (f x y :: bs) (by simp [lb]) (fun b m => by
      rcases List.mem_cons.mp m with rfl | m
      · exact ⟨x, List.mem_cons_self, y, List.mem_cons_self, rfl⟩
      · obtain ⟨u, hu, v, hv, e⟩ := hb b m
        exact ⟨u, List.mem_cons_of_mem _ hu, v, List.mem_cons_of_mem _ hv, e⟩)
    rw [List.append_assoc]
    exact this
theorem lessD_lt (f l : Rat) : lessD (fr f) (fr l) = decide (f < l) := by
  show decide (f.num * (l.den : Int) < l.num * f.den) = _
  exact decide_eq_decide.mpr (Rat.lt_iff f l).symm
theorem num_pos_of {f : Rat} (h : 0 < f) : 0 < f.num := by
  have := (Rat.lt_iff 0 f).mp h
  simpa using this
theorem isAb_fr {f : Rat} (h : 0 < f.num) : isAb (fr f) = true := by
  have : isAb (fr f) = (isFr (fr f) && decide (0 < f.num)) := rfl
  rw [this, isFr_fr, decide_eq_true h]
  rfl
theorem isNn_fr {f : Rat} (h : 0 ≤ f.num) : isNn (fr f) = true := by
  have : isNn (fr f) = (isFr (fr f) && decide (0 ≤ f.num)) := rfl
  rw [this, isFr_fr, decide_eq_true h]
  rfl
theorem pos_div {n d : Int} (hn : 0 < n) (hd : 0 < d) : 0 < (Rat.divInt n d).num := by
  refine num_pos_of ?_
  have e : (0 : Rat) = Rat.divInt 0 1 := by decide
  rw [e, divInt_lt (by decide) hd]
  omega
/-- the least square aside: none, the feed, a third of it -/
theorem slow_ok {n d : Int} (hn : 0 < n) (hd : 0 < d) (hs : n.natAbs < 2 ^ 8) (ds : d.natAbs < 2 ^ 8) {l : Rat} (h : l = 0 ∨ l = Rat.divInt n d ∨ l = Rat.divInt n d * Rat.divInt 1 3) : Sz l 12 ∧ isNn (fr l) = true ∧ lessD (fr (Rat.divInt n d)) (fr l) = false := by
  have fp := pos_div hn hd
  have e0 : (0 : Rat) = Rat.divInt 0 1 := by decide
  rw [lessD_lt]
  rcases h with rfl | rfl | rfl
  · refine ⟨sz_mono sz_zero (by decide), isNn_fr (by decide), decide_eq_false ?_⟩
    rw [e0, divInt_lt hd (by decide)]
    omega
  · exact ⟨sz_mono (divInt_sz (by omega) hs ds) (by decide), isNn_fr (by omega), decide_eq_false (fun z => Rat.lt_irrefl z)⟩
  · rw [Rat.divInt_mul_divInt]
    have d3 : 0 < d * 3 := by omega
    have p := pos_div (n := n * 1) (by omega) d3
    refine ⟨divInt_sz (by omega) (by omega) (by omega), isNn_fr (by omega), decide_eq_false ?_⟩
    rw [divInt_lt hd d3]
    have e1 : n * (d * 3) = 3 * (n * d) := by grind
    have e2 : n * 1 * d = n * d := by grind
    have := Int.mul_pos hn hd
    rw [e1, e2]
    omega
end K01
namespace K01
open PySem PySem.Spec L2 Fw
variable [Tabs]
section
variable {E : Eo} {st many : D} {mb : DS}
theorem fr_zero : PyData.tuple [.int 0, .int 1] = fr 0 := rfl
theorem fr_third : PyData.tuple [.int 1, .int 3] = fr (Rat.divInt 1 3) := fr_eq (by decide) (by decide)
theorem sz_third : Sz (Rat.divInt 1 3) 3 := divInt_sz (by decide) (by decide) (by decide)
theorem steps_loop (hmb : mb = dSeq bd__law_steps_1_0 (dSeq bd__law_steps_1_1 (dSeq bd__law_steps_1_2 (dSeq bd__law_steps_1_3 (bd__law_steps_1_4))))) : ∀ (r : Nat) (lo : Int) (a g : List Rat) (n : Nat) (ss0 : List D) (x6 x7 x8 x9 x10 x11 : Sl), 1 ≤ a.length → a.length ≤ 3 → (g = [] ∨ g.length = a.length) → 210 ≤ n → n + 5 * r ≤ 370 → (∀ q ∈ a, Gd q n) → (∀ q ∈ g, Gd q (n + 1)) → ss0.length + r ≤ 1000 →
    (∀ (ss : List D) (x4 x5 x6 x7 x8 x9 x10 x11 : Sl), ss.length = r → Chain a ss → E.nx [.s, .p st, .p many, .o (ss0 ++ ss), x4, x5, x6, x7, x8, x9, x10, x11]) →
    forGo (gP 6) mb E (Fw.intsFrom lo r) [.s, .p st, .p many, .o ss0, .p (pt a), .p (pt g), x6, x7, x8, x9, x10, x11]
  | 0, lo, a, g, n, ss0, x6, x7, x8, x9, x10, x11, a1, a3, hg, n0, n1, ha, hgg, l, hnx => by
    show E.nx _
    have := hnx [] (.p (pt a)) (.p (pt g)) x6 x7 x8 x9 x10 x11 rfl (by unfold Chain; trivial)
    simpa using this
  | r + 1, lo, a, g, n, ss0, x6, x7, x8, x9, x10, x11, a1, a3, hg, n0, n1, ha, hgg, l, hnx => by
    rw [intsFrom_cons, forGo_cons]
    have ih : ∀ (b g' : List Rat) (f sl : Rat) (stp : Bool) (x7 x8 x9 x10 x11 : Sl), b.length = a.length → b ≠ a → (∀ q ∈ b, Gd q (n + 5)) → g'.length = b.length → (∀ q ∈ g', Gd q (n + 6)) → Sz f 12 → Sz sl 12 → isAb (fr f) = true → isNn (fr sl) = true → lessD (fr f) (fr sl) = false →
        forGo (gP 6) mb E (Fw.intsFrom (lo + 1) r) [.s, .p st, .p many, .o (ss0 ++ [.tuple [pt b, fr f, fr sl, .bool stp]]), .p (pt b), .p (pt g'), .p (.int lo), x7, x8, x9, x10, x11] := fun b g' f sl stp x7 x8 x9 x10 x11 hb hne gb lg gg' z1 z2 z3 z4 z5 =>
      steps_loop hmb r (lo + 1) b g' (n + 5) _ _ _ _ _ _ _ (by omega) (by omega) (.inr lg) (by omega) (by omega) gb gg' (by simp; omega) fun ss y4 y5 y6 y7 y8 y9 y10 y11 ls hc => by
        rw [List.append_assoc]
        refine hnx (.tuple [pt b, fr f, fr sl, .bool stp] :: ss) _ _ _ _ _ _ _ _ (by simp [ls]) ?_
        unfold Chain
        exact ⟨b, f, sl, stp, rfl, hb, hne, fun q m => gd_up (gb q m) (by omega), z1, z2, z3, z4, z5, hc⟩
    generalize forGo (gP 6) mb E (Fw.intsFrom (lo + 1) r) = F at ih ⊢
    rw [hmb]
    have ept : ∀ b : List Rat, pt b = .tuple (b.map fr) := fun _ => rfl
    simp only [dSeq, dAsg, dRet, dRaise, dRetN, dDrop, dIfS, dSkip, dVar, dC, dOp, dTup, dLst, dCons, dNil, dCB, dCall, dCallS, dCallK, gP, gT, gL, gN, gsNil, gsCons, dTest, dTruth, truD, dNotT, dAndT, dOrT, dAndV, dOrV, dNotV, dIf, dNeg, dAdd, dSub, dMul, dFdiv, dMod, dPow, dI, dLt, dLe, dGt, dGe, dEq, dNe, dIsO, dNotO, dIx, dPar, dFor, iL, iT, iR1, dNew, bLen, bAbs, bInt, bGcd, bTuple, bList, bAll, dType, dNType, dIs, dIs2, startE, List.map_cons, List.map_nil, List.length_cons, List.length_nil, List.cons_append, List.nil_append, List.getElem?_cons_zero, List.getElem?_cons_succ, List.set_cons_zero, List.set_cons_succ, Option.some.injEq, Sl.p.injEq, exists_eq_left', exists_eq_left, Nat.reduceAdd, Nat.reduceSub, List.replicate, forall_const, true_and, and_true, if_true, if_false, Bool.false_eq_true, eq_self, ite_true, ite_false, reduceCtorEq, bd__law_steps_1_0]
    refine ⟨a, g, n, rfl, a1, a3, hg, n0, by omega, ha, hgg, fun b hb hne gb => ?_⟩
    simp only [dSeq, dAsg, dRet, dRaise, dRetN, dDrop, dIfS, dSkip, dVar, dC, dOp, dTup, dLst, dCons, dNil, dCB, dCall, dCallS, dCallK, gP, gT, gL, gN, gsNil, gsCons, dTest, dTruth, truD, dNotT, dAndT, dOrT, dAndV, dOrV, dNotV, dIf, dNeg, dAdd, dSub, dMul, dFdiv, dMod, dPow, dI, dLt, dLe, dGt, dGe, dEq, dNe, dIsO, dNotO, dIx, dPar, dFor, iL, iT, iR1, dNew, bLen, bAbs, bInt, bGcd, bTuple, bList, bAll, dType, dNType, dIs, dIs2, startE, List.map_cons, List.map_nil, List.length_cons, List.length_nil, List.cons_append, List.nil_append, List.getElem?_cons_zero, List.getElem?_cons_succ, List.set_cons_zero, List.set_cons_succ, Option.some.injEq, Sl.p.injEq, exists_eq_left', exists_eq_left, Nat.reduceAdd, Nat.reduceSub, List.replicate, forall_const, true_and, and_true, if_true, if_false, Bool.false_eq_true, eq_self, ite_true, ite_false, reduceCtorEq, bd__law_steps_1_1, dLc, iZ, wipeE, ept]
    refine zipG (f := fun x y => x - y) (G := fun x y => Gd x (n + 5) ∧ Gd y n) (fun x y h R r => ?_) b a [] (by omega) (fun x m y k => ⟨gb x m, ha y k⟩) (by simp; omega) fun bs lb hbs => ?_
    · simp only [dSeq, dAsg, dRet, dRaise, dRetN, dDrop, dIfS, dSkip, dVar, dC, dOp, dTup, dLst, dCons, dNil, dCB, dCall, dCallS, dCallK, gP, gT, gL, gN, gsNil, gsCons, dTest, dTruth, truD, dNotT, dAndT, dOrT, dAndV, dOrV, dNotV, dIf, dNeg, dAdd, dSub, dMul, dFdiv, dMod, dPow, dI, dLt, dLe, dGt, dGe, dEq, dNe, dIsO, dNotO, dIx, dPar, dFor, iL, iT, iR1, dNew, bLen, bAbs, bInt, bGcd, bTuple, bList, bAll, dType, dNType, dIs, dIs2, startE, List.map_cons, List.map_nil, List.length_cons, List.length_nil, List.cons_append, List.nil_append, List.getElem?_cons_zero, List.getElem?_cons_succ, List.set_cons_zero, List.set_cons_succ, Option.some.injEq, Sl.p.injEq, exists_eq_left', exists_eq_left, Nat.reduceAdd, Nat.reduceSub, List.replicate, forall_const, true_and, and_true, if_true, if_false, Bool.false_eq_true, eq_self, ite_true, ite_false, reduceCtorEq]
      exact take_ok (n := n + 5) (by omega) (gd_sz h.1 (by omega)) (gd_sz (gd_up h.2 (by omega)) (by omega)) r
    have gbs : ∀ q ∈ bs, Gd q (n + 6) := fun q m => by
      obtain ⟨x, hx, y, hy, rfl⟩ := hbs q m
      exact gd_sub (gb x hx) (gd_up (ha y hy) (by omega))
    simp only [List.nil_append, dSeq, dAsg, dRet, dRaise, dRetN, dDrop, dIfS, dSkip, dVar, dC, dOp, dTup, dLst, dCons, dNil, dCB, dCall, dCallS, dCallK, gP, gT, gL, gN, gsNil, gsCons, dTest, dTruth, truD, dNotT, dAndT, dOrT, dAndV, dOrV, dNotV, dIf, dNeg, dAdd, dSub, dMul, dFdiv, dMod, dPow, dI, dLt, dLe, dGt, dGe, dEq, dNe, dIsO, dNotO, dIx, dPar, dFor, iL, iT, iR1, dNew, bLen, bAbs, bInt, bGcd, bTuple, bList, bAll, dType, dNType, dIs, dIs2, startE, List.map_cons, List.map_nil, List.length_cons, List.length_nil, List.cons_append, List.nil_append, List.getElem?_cons_zero, List.getElem?_cons_succ, List.set_cons_zero, List.set_cons_succ, Option.some.injEq, Sl.p.injEq, exists_eq_left', exists_eq_left, Nat.reduceAdd, Nat.reduceSub, List.replicate, forall_const, true_and, and_true, if_true, if_false, Bool.false_eq_true, eq_self, ite_true, ite_false, reduceCtorEq, bd__law_steps_1_2]
    refine tooth_ok (by decide) (by decide) fun t t0 t1 => ⟨by decide, tooth_ok (by decide) (by decide) fun k k0 k1 => ?_⟩
    obtain ⟨x, hx, e⟩ := atI_of (l := [PyData.int 1, .int 1, .int 2, .int 5]) k0 (by simpa using k1)
    refine ⟨x, e, ?_⟩
    have hx2 : ∃ d : Int, x = .int d ∧ 0 < d ∧ d ≤ 5 := by
      simp only [List.mem_cons, List.not_mem_nil, or_false] at hx
      rcases hx with h | h | h | h
      · exact ⟨1, h, by decide, by decide⟩
      · exact ⟨1, h, by decide, by decide⟩
      · exact ⟨2, h, by decide, by decide⟩
      · exact ⟨5, h, by decide, by decide⟩
    obtain ⟨d, rfl, d0, d5⟩ := hx2
    have fs : Sz (Rat.divInt (1 + t) d) 5 := divInt_sz (by omega) (by omega) (by omega)
    refine low_ok (by omega) (small9 (by omega)) ?_
    simp only [dSeq, dAsg, dRet, dRaise, dRetN, dDrop, dIfS, dSkip, dVar, dC, dOp, dTup, dLst, dCons, dNil, dCB, dCall, dCallS, dCallK, gP, gT, gL, gN, gsNil, gsCons, dTest, dTruth, truD, dNotT, dAndT, dOrT, dAndV, dOrV, dNotV, dIf, dNeg, dAdd, dSub, dMul, dFdiv, dMod, dPow, dI, dLt, dLe, dGt, dGe, dEq, dNe, dIsO, dNotO, dIx, dPar, dFor, iL, iT, iR1, dNew, bLen, bAbs, bInt, bGcd, bTuple, bList, bAll, dType, dNType, dIs, dIs2, startE, List.map_cons, List.map_nil, List.length_cons, List.length_nil, List.cons_append, List.nil_append, List.getElem?_cons_zero, List.getElem?_cons_succ, List.set_cons_zero, List.set_cons_succ, Option.some.injEq, Sl.p.injEq, exists_eq_left', exists_eq_left, Nat.reduceAdd, Nat.reduceSub, List.replicate, forall_const, true_and, and_true, if_true, if_false, Bool.false_eq_true, eq_self, ite_true, ite_false, reduceCtorEq, bd__law_steps_1_3]
    refine ⟨by decide, by decide, by decide, ?_⟩
    rw [fr_third]
    refine mul_ok (n := 5) (by decide) fs (sz_mono sz_third (by decide)) ⟨by decide, tooth_ok (by decide) (by decide) fun m m0 m1 => ?_⟩
    obtain ⟨y, hy, e2⟩ := atI_of (l := [PyData.tuple [.int 0, .int 1], .tuple [.int 0, .int 1], fr (Rat.divInt (1 + t) d), fr (Rat.divInt (1 + t) d * Rat.divInt 1 3)]) m0 (by simpa using m1)
    refine ⟨y, e2, ?_⟩
    have hy2 : ∃ sl : Rat, y = fr sl ∧ (sl = 0 ∨ sl = Rat.divInt (1 + t) d ∨ sl = Rat.divInt (1 + t) d * Rat.divInt 1 3) := by
      simp only [List.mem_cons, List.not_mem_nil, or_false] at hy
      rcases hy with h | h | h | h
      · exact ⟨0, h, .inl rfl⟩
      · exact ⟨0, h, .inl rfl⟩
      · exact ⟨_, h, .inr (.inl rfl)⟩
      · exact ⟨_, h, .inr (.inr rfl)⟩
    obtain ⟨sl, rfl, hsl⟩ := hy2
    obtain ⟨s1, s2, s3⟩ := slow_ok (n := 1 + t) (d := d) (by omega) d0 (by omega) (by omega) hsl
    simp only [dSeq, dAsg, dRet, dRaise, dRetN, dDrop, dIfS, dSkip, dVar, dC, dOp, dTup, dLst, dCons, dNil, dCB, dCall, dCallS, dCallK, gP, gT, gL, gN, gsNil, gsCons, dTest, dTruth, truD, dNotT, dAndT, dOrT, dAndV, dOrV, dNotV, dIf, dNeg, dAdd, dSub, dMul, dFdiv, dMod, dPow, dI, dLt, dLe, dGt, dGe, dEq, dNe, dIsO, dNotO, dIx, dPar, dFor, iL, iT, iR1, dNew, bLen, bAbs, bInt, bGcd, bTuple, bList, bAll, dType, dNType, dIs, dIs2, startE, List.map_cons, List.map_nil, List.length_cons, List.length_nil, List.cons_append, List.nil_append, List.getElem?_cons_zero, List.getElem?_cons_succ, List.set_cons_zero, List.set_cons_succ, Option.some.injEq, Sl.p.injEq, exists_eq_left', exists_eq_left, Nat.reduceAdd, Nat.reduceSub, List.replicate, forall_const, true_and, and_true, if_true, if_false, Bool.false_eq_true, eq_self, ite_true, ite_false, reduceCtorEq, bd__law_steps_1_4, dApp]
    refine ⟨_, rfl, tooth_ok (by decide) (by decide) fun u u0 u1 => ⟨shaped_int _, shaped_int _, by decide, by omega, ?_⟩⟩
    exact ih b bs _ sl _ _ _ _ _ _ hb hne gb lb gbs (sz_mono fs (by decide)) s1 (isAb_fr (pos_div (by omega) d0)) s2 s3
end
theorem vc__law_steps : ∀ ds Q X, p__law_steps ds Q X → ms__law_steps { nx := fun _ => Q .none, rt := Q, xx := fun x _ => X x } (startS N__law_steps ds) := by
  rintro ds Q X ⟨a, m, rfl, a1, a3, ha, hm, q⟩
  rw [split__law_steps, split__law_steps_1]
  simp only [dSeq, dAsg, dRet, dRaise, dRetN, dDrop, dIfS, dSkip, dVar, dC, dOp, dTup, dLst, dCons, dNil, dCB, dCall, dCallS, dCallK, gP, gT, gL, gN, gsNil, gsCons, dTest, dTruth, truD, dNotT, dAndT, dOrT, dAndV, dOrV, dNotV, dIf, dNeg, dAdd, dSub, dMul, dFdiv, dMod, dPow, dI, dLt, dLe, dGt, dGe, dEq, dNe, dIsO, dNotO, dIx, dPar, dFor, iL, iT, iR1, dNew, bLen, bAbs, bInt, bGcd, bTuple, bList, bAll, dType, dNType, dIs, dIs2, startE, List.map_cons, List.map_nil, List.length_cons, List.length_nil, List.cons_append, List.nil_append, List.getElem?_cons_zero, List.getElem?_cons_succ, List.set_cons_zero, List.set_cons_succ, Option.some.injEq, Sl.p.injEq, exists_eq_left', exists_eq_left, Nat.reduceAdd, Nat.reduceSub, List.replicate, forall_const, true_and, and_true, if_true, if_false, Bool.false_eq_true, eq_self, ite_true, ite_false, reduceCtorEq, st__law_steps_0, startS, dPar3O, mLst]
  refine ⟨by decide, by decide, by decide, by omega, by omega, ?_⟩
  rw [Int.toNat_natCast]
  refine steps_loop rfl m 0 a [] 210 [] _ _ _ _ _ _ a1 a3 (.inl rfl) (by decide) (by omega) ha (fun _ m => by cases m) (by simp; omega) fun ss x4 x5 x6 x7 x8 x9 x10 x11 hl hc => ?_
  simp only [st__law_steps_2, dFrz, List.nil_append]
  refine ⟨_, rfl, ?_⟩
  simp only [dSeq, dAsg, dRet, dRaise, dRetN, dDrop, dIfS, dSkip, dVar, dC, dOp, dTup, dLst, dCons, dNil, dCB, dCall, dCallS, dCallK, gP, gT, gL, gN, gsNil, gsCons, dTest, dTruth, truD, dNotT, dAndT, dOrT, dAndV, dOrV, dNotV, dIf, dNeg, dAdd, dSub, dMul, dFdiv, dMod, dPow, dI, dLt, dLe, dGt, dGe, dEq, dNe, dIsO, dNotO, dIx, dPar, dFor, iL, iT, iR1, dNew, bLen, bAbs, bInt, bGcd, bTuple, bList, bAll, dType, dNType, dIs, dIs2, startE, List.map_cons, List.map_nil, List.length_cons, List.length_nil, List.cons_append, List.nil_append, List.getElem?_cons_zero, List.getElem?_cons_succ, List.set_cons_zero, List.set_cons_succ, Option.some.injEq, Sl.p.injEq, exists_eq_left', exists_eq_left, Nat.reduceAdd, Nat.reduceSub, List.replicate, forall_const, true_and, and_true, if_true, if_false, Bool.false_eq_true, eq_self, ite_true, ite_false, reduceCtorEq]
  exact q ss hl hc
theorem vc__law_program : ∀ ds Q X, p__law_program ds Q X → ms__law_program { nx := fun _ => Q .none, rt := Q, xx := fun x _ => X x } (startS N__law_program ds) := by
  rintro ds Q X ⟨n, rfl, n1, n3, q⟩
  simp only [dSeq, dAsg, dRet, dRaise, dRetN, dDrop, dIfS, dSkip, dVar, dC, dOp, dTup, dLst, dCons, dNil, dCB, dCall, dCallS, dCallK, gP, gT, gL, gN, gsNil, gsCons, dTest, dTruth, truD, dNotT, dAndT, dOrT, dAndV, dOrV, dNotV, dIf, dNeg, dAdd, dSub, dMul, dFdiv, dMod, dPow, dI, dLt, dLe, dGt, dGe, dEq, dNe, dIsO, dNotO, dIx, dPar, dFor, iL, iT, iR1, dNew, bLen, bAbs, bInt, bGcd, bTuple, bList, bAll, dType, dNType, dIs, dIs2, startE, List.map_cons, List.map_nil, List.length_cons, List.length_nil, List.cons_append, List.nil_append, List.getElem?_cons_zero, List.getElem?_cons_succ, List.set_cons_zero, List.set_cons_succ, Option.some.injEq, Sl.p.injEq, exists_eq_left', exists_eq_left, Nat.reduceAdd, Nat.reduceSub, List.replicate, forall_const, true_and, and_true, if_true, if_false, Bool.false_eq_true, eq_self, ite_true, ite_false, reduceCtorEq, ms__law_program, startS]
  refine tooth_ok (by decide) (by decide) fun t t0 t1 => ?_
  obtain ⟨k, rfl⟩ := Int.eq_ofNat_of_zero_le t0
  refine ⟨1 + k, by simp, by omega, by omega, fun qs lq hq => ?_⟩
  simp only [dSeq, dAsg, dRet, dRaise, dRetN, dDrop, dIfS, dSkip, dVar, dC, dOp, dTup, dLst, dCons, dNil, dCB, dCall, dCallS, dCallK, gP, gT, gL, gN, gsNil, gsCons, dTest, dTruth, truD, dNotT, dAndT, dOrT, dAndV, dOrV, dNotV, dIf, dNeg, dAdd, dSub, dMul, dFdiv, dMod, dPow, dI, dLt, dLe, dGt, dGe, dEq, dNe, dIsO, dNotO, dIx, dPar, dFor, iL, iT, iR1, dNew, bLen, bAbs, bInt, bGcd, bTuple, bList, bAll, dType, dNType, dIs, dIs2, startE, List.map_cons, List.map_nil, List.length_cons, List.length_nil, List.cons_append, List.nil_append, List.getElem?_cons_zero, List.getElem?_cons_succ, List.set_cons_zero, List.set_cons_succ, Option.some.injEq, Sl.p.injEq, exists_eq_left', exists_eq_left, Nat.reduceAdd, Nat.reduceSub, List.replicate, forall_const, true_and, and_true, if_true, if_false, Bool.false_eq_true, eq_self, ite_true, ite_false, reduceCtorEq]
  refine tooth_ok (by omega) (by omega) fun u u0 u1 => ?_
  obtain ⟨j, rfl⟩ := Int.eq_ofNat_of_zero_le u0
  refine ⟨qs, 1 + j, by simp, by omega, by omega, hq, by omega, fun ss ls hc => ⟨by decide, q _ ⟨qs, ss, rfl, by omega, by omega, hq, by omega, by omega, hc⟩ ?_⟩⟩
  show ss.length ≤ n
  omega
end K01
namespace K01
open PySem PySem.Spec L2 Fw
variable [Tabs]
/-! ### bent data -/
theorem wtA_app (a b : List D) : wtA (a ++ b) = wtA a + wtA b := by
  induction a with
  | nil => simp [wtA]
  | cons x a ih => rw [List.cons_append, wtA, wtA, ih]; omega
theorem wtA_rev (a : List D) : wtA a.reverse = wtA a := by
  induction a with
  | nil => rfl
  | cons x a ih => rw [List.reverse_cons, wtA_app, ih, wtA, wtA, wtA]; omega
theorem wtA_take (a : List D) (k : Nat) : wtA (a.take k) + wtA (a.drop k) = wtA a := by rw [← wtA_app, List.take_append_drop]
theorem smA_take {b k : Nat} {xs : List D} (h : SmA b k xs) (i : Nat) : SmA b k (xs.take i) := smA_of fun x m => smA_mem h (List.mem_of_mem_take m)
theorem smA_drop {b k : Nat} {xs : List D} (h : SmA b k xs) (i : Nat) : SmA b k (xs.drop i) := smA_of fun x m => smA_mem h (List.mem_of_mem_drop m)
theorem smA_app {b k : Nat} {xs ys : List D} (h : SmA b k xs) (g : SmA b k ys) : SmA b k (xs ++ ys) := smA_of fun x m => by
  rcases List.mem_append.mp m with m | m
  · exact smA_mem h m
  · exact smA_mem g m
theorem smA_rev {b k : Nat} {xs : List D} (h : SmA b k xs) : SmA b k xs.reverse := smA_of fun x m => smA_mem h (List.mem_reverse.mp m)
theorem cut_mid (xs : List D) (k : Nat) : cutD xs (some (k : Int)) (some ((k : Int) + 1)) = (xs.drop k).take 1 := by
  have h : ¬ (k : Int) < 0 := by omega
  have h1 : ¬ (k : Int) + 1 < 0 := by omega
  have e : ((k : Int) + 1).toNat = k + 1 := by omega
  unfold cutD
  simp only [HT.sIx, h, h1, if_false, Int.toNat_natCast, e]
  by_cases c : k + 1 ≤ xs.length
  · rw [Nat.min_eq_left c, Nat.min_eq_left (by omega)]
    congr 1
    omega
  · rw [Nat.min_eq_right (by omega)]
    by_cases c2 : k = xs.length
    · subst c2; simp
    · rw [Nat.min_eq_right (by omega)]
      simp [List.drop_of_length_le (show xs.length ≤ k by omega)]
end K01
namespace K01
open PySem PySem.Spec L2 Fw
variable [Tabs]
def st_law_0 : DS := (dFor (iR1 (dCons (dOp dAdd (dC (.int 4)) (dCB bMin (dCons (dC (.int 5)) (dCons (dCB bLen (dCons (dVar 0) dNil)) dNil)))) dNil)) (gP 2) (dSeq (dAsg (dCallS 1 p__law_program (dCons (dOp dIx (dLst (dCons (dC (.int 3)) (dCons (dC (.int 10)) (dCons (dC (.int 30)) dNil)))) (dCallS 1 p__law_tooth (dCons (dC (.int 3)) dNil))) dNil)) (gP 3)) (dSeq (dAsg (dCB bRepr (dCons (dVar 3) dNil)) (gP 4)) (dSeq (dPar3 5 6 7 (dCons (dCB bTuple (dCons (dNew (dLc (iL (dCall p__law_gaps (dCons (dVar 3) dNil))) (gP 8) mYes (dCall p__law_long (dCons (dVar 8) dNil)) [8])) dNil)) (dCons (dCB bTuple (dCons (dCall p__law_heads (dCons (dVar 3) dNil)) dNil)) (dCons (dCB bTuple (dCons (dCall p__law_marks (dCons (dVar 3) dNil)) dNil)) dNil)))) (dSeq (dIfS (dNotT (dTruth (dCall p__law_same (dCons (dLst (dCons (dCall p_lengths (dCons (dVar 3) dNil)) (dCons (dCallK 1 (permL [0]) p_lengths (dCons (dVar 3) dNil)) (dCons (dCall p_directions (dCons (dVar 3) dNil)) (dCons (dCallK 1 (permL [0]) p_directions (dCons (dVar 3) dNil)) dNil))))) (dCons (dLst (dCons (dVar 5) (dCons (dVar 5) (dCons (dVar 6) (dCons (dVar 6) dNil))))) dNil))))) (dRet (dC (.bool false))) dSkip) (dSeq (dIfS (dNotT (dTruth (dCall p__law_same (dCons (dLst (dCons (dCall p_ways (dCons (dVar 3) dNil)) (dCons (dCallK 1 (permL [0]) p_ways (dCons (dVar 3) dNil)) (dCons (dCall p_whole (dCons (dVar 3) dNil)) (dCons (dCallK 1 (permL [0]) p_whole (dCons (dVar 3) dNil)) dNil))))) (dCons (dLst (dCons (dVar 7) (dCons (dVar 7) (dCons (dOp dIx (dVar 7) (dNeg (dC (.int 1)))) (dCons (dOp dIx (dVar 7) (dNeg (dC (.int 1)))) dNil))))) dNil))))) (dRet (dC (.bool false))) dSkip) (dIfS (dOrT (dTest (dOp dNe (dNew (dLc (iT (dCall p_directions (dCons (dVar 3) dNil))) (gP 9) (dTest (dOp dNe (dCall p__law_long (dCons (dVar 9) dNil)) (dTup (dCons (dC (.int 1)) (dCons (dC (.int 1)) dNil))))) (dC (.int 1)) [9])) (dLst dNil))) (dTest (dOp dNe (dCB bRepr (dCons (dVar 3) dNil)) (dVar 4)))) (dRet (dC (.bool false))) dSkip)))))))
def st_law_1 : DS := (dRet (dC (.bool true)))
theorem split_law : ms_law = dSeq st_law_0 (st_law_1) := rfl
def bd_law_0_0 : DS := (dAsg (dCallS 1 p__law_program (dCons (dOp dIx (dLst (dCons (dC (.int 3)) (dCons (dC (.int 10)) (dCons (dC (.int 30)) dNil)))) (dCallS 1 p__law_tooth (dCons (dC (.int 3)) dNil))) dNil)) (gP 3))
def bd_law_0_1 : DS := (dAsg (dCB bRepr (dCons (dVar 3) dNil)) (gP 4))
def bd_law_0_2 : DS := (dPar3 5 6 7 (dCons (dCB bTuple (dCons (dNew (dLc (iL (dCall p__law_gaps (dCons (dVar 3) dNil))) (gP 8) mYes (dCall p__law_long (dCons (dVar 8) dNil)) [8])) dNil)) (dCons (dCB bTuple (dCons (dCall p__law_heads (dCons (dVar 3) dNil)) dNil)) (dCons (dCB bTuple (dCons (dCall p__law_marks (dCons (dVar 3) dNil)) dNil)) dNil))))
def bd_law_0_3 : DS := (dIfS (dNotT (dTruth (dCall p__law_same (dCons (dLst (dCons (dCall p_lengths (dCons (dVar 3) dNil)) (dCons (dCallK 1 (permL [0]) p_lengths (dCons (dVar 3) dNil)) (dCons (dCall p_directions (dCons (dVar 3) dNil)) (dCons (dCallK 1 (permL [0]) p_directions (dCons (dVar 3) dNil)) dNil))))) (dCons (dLst (dCons (dVar 5) (dCons (dVar 5) (dCons (dVar 6) (dCons (dVar 6) dNil))))) dNil))))) (dRet (dC (.bool false))) dSkip)
def bd_law_0_4 : DS := (dIfS (dNotT (dTruth (dCall p__law_same (dCons (dLst (dCons (dCall p_ways (dCons (dVar 3) dNil)) (dCons (dCallK 1 (permL [0]) p_ways (dCons (dVar 3) dNil)) (dCons (dCall p_whole (dCons (dVar 3) dNil)) (dCons (dCallK 1 (permL [0]) p_whole (dCons (dVar 3) dNil)) dNil))))) (dCons (dLst (dCons (dVar 7) (dCons (dVar 7) (dCons (dOp dIx (dVar 7) (dNeg (dC (.int 1)))) (dCons (dOp dIx (dVar 7) (dNeg (dC (.int 1)))) dNil))))) dNil))))) (dRet (dC (.bool false))) dSkip)
def bd_law_0_5 : DS := (dIfS (dOrT (dTest (dOp dNe (dNew (dLc (iT (dCall p_directions (dCons (dVar 3) dNil))) (gP 9) (dTest (dOp dNe (dCall p__law_long (dCons (dVar 9) dNil)) (dTup (dCons (dC (.int 1)) (dCons (dC (.int 1)) dNil))))) (dC (.int 1)) [9])) (dLst dNil))) (dTest (dOp dNe (dCB bRepr (dCons (dVar 3) dNil)) (dVar 4)))) (dRet (dC (.bool false))) dSkip)
theorem split_law_0 : st_law_0 = dFor (iR1 (dCons (dOp dAdd (dC (.int 4)) (dCB bMin (dCons (dC (.int 5)) (dCons (dCB bLen (dCons (dVar 0) dNil)) dNil)))) dNil)) (gP 2) (dSeq bd_law_0_0 (dSeq bd_law_0_1 (dSeq bd_law_0_2 (dSeq bd_law_0_3 (dSeq bd_law_0_4 (bd_law_0_5)))))) := rfl
open PyProof.Rows in
theorem listText_le (ts : List Str) : (listText ts).length ≤ piled ts + 2 := by
  unfold listText
  cases ts with
  | nil =>
    rw [app_len]
    decide +kernel
  | cons t r =>
    have e : textFrom 0 "[" (t :: r) = textFrom 1 ("[" ++ ((if 0 > 0 then ", " else "" : String) : Str) ++ t) r := rfl
    rw [app_len, e, textFrom_length_pos r 1 _ (by decide), app_len, app_len, piled_cons]
    have h1 : (Str.ofString "[").length = 1 := by decide +kernel
    have h2 : (Str.ofString "]").length = 1 := by decide +kernel
    have h3 : ((if 0 > 0 then ", " else "" : String) : Str).length = 0 := by decide +kernel
    omega
open PyProof.Rows in
theorem tupleText_le (ts : List Str) : (tupleText ts).length ≤ piled ts + 3 := by
  unfold tupleText
  have h1 : (Str.ofString "(").length = 1 := by decide +kernel
  have h2 : (Str.ofString ",)").length = 2 := by decide +kernel
  have h3 : (Str.ofString ")").length = 1 := by decide +kernel
  have hc : ((if ts.length == 1 then ",)" else ")" : String) : Str).length ≤ 2 := by split <;> omega
  rw [app_len, app_len]
  by_cases h : ts = []
  · subst h
    have hj : (Str.join ", " ([] : List Str)).length = 0 := by decide +kernel
    omega
  · have := join_length_add ts h
    omega
mutual
theorem shown_le {b : Nat} (hb : b ≤ 450) : ∀ {k : Nat} {d : D}, Sm b k d → (PyData.shown d).length + 2 ≤ 500 * wt d ∧ PyData.showable d = true
  | k, .none, _ => by
    refine ⟨?_, by rw [PyData.showable]⟩
    rw [PyData.shown]
    decide +kernel
  | k, .bool bb, _ => by
    refine ⟨?_, by rw [PyData.showable]⟩
    rw [PyData.shown]
    cases bb <;> decide +kernel
  | k, .int i, h => by
    have hi := sm_int h
    have hl : i.natAbs.log2 < 451 := log_lt (Nat.lt_of_lt_of_le hi (Nat.pow_le_pow_right (by decide) (by omega))) (by decide)
    refine ⟨?_, by rw [PyData.showable]; exact decide_eq_true (by omega)⟩
    have e := int_text_length_le (k := 451) (by decide) hl
    rw [PyData.shown, ofString_length]
    simp only [wt]
    omega
  | k, .str s, h => by
    have h : s.length ≤ 8 ∧ (PyData.strOk s = true ∧ (reprText s).length ≤ 90 ∧ PyData.strOk (reprText s) = true) := by cases k <;> exact h
    have h9 := h.2.2.1
    refine ⟨?_, by rw [PyData.showable]⟩
    rw [PyData.shown]
    simp only [wt]
    omega
  | 0, .list xs, h => (show False from h).elim
  | 0, .tuple xs, h => (show False from h).elim
  | 0, .dict xs, h => (show False from h).elim
  | k + 1, .list xs, h => by
    have := shownA_le hb (show SmA b k xs from h)
    have l := listText_le (PyData.shownAll xs)
    rw [PyData.shown, PyData.showable, wt_lst]
    exact ⟨by omega, this.2⟩
  | k + 1, .tuple xs, h => by
    have := shownA_le hb (show SmA b k xs from h)
    have l := tupleText_le (PyData.shownAll xs)
    rw [PyData.shown, PyData.showable, wt_tup]
    exact ⟨by omega, this.2⟩
  | k + 1, .dict xs, h => (show False from h).elim
theorem shownA_le {b : Nat} (hb : b ≤ 450) : ∀ {k : Nat} {xs : List D}, SmA b k xs → piled (PyData.shownAll xs) ≤ 500 * wtA xs ∧ PyData.showableAll xs = true
  | _, [], _ => by simp [PyData.shownAll, piled, wtA, PyData.showableAll]
  | k, x :: r, h => by
    unfold SmA at h
    have h1 := shown_le hb h.1
    have h2 := shownA_le hb h.2
    rw [PyData.shownAll, piled_cons, wtA, PyData.showableAll, h1.2, h2.2]
    exact ⟨by omega, rfl⟩
end
theorem repr_ok {n : Nat} {xs : List D} (h : SmA 450 20 xs) (hw : wtA xs ≤ 30000) {P : D → Prop} (q : P (.str (PyData.shown (.list xs)))) : bRepr [.list xs] P := by
  have s := shown_le (b := 450) (k := 21) (d := .list xs) (Nat.le_refl _) h
  have l := sm_lay (b := 450) (k := 21) (d := .list xs) h
  have w := s.1
  rw [wt_lst] at w
  exact ⟨rfl, s.2, l.1, by omega, by omega, q⟩
end K01
namespace K01
open PySem PySem.Spec L2 Fw
variable [Tabs]
theorem sm_fr {b k : Nat} {q : Rat} (h : Sz q b) : Sm b (k + 1) (fr q) := show SmA b k _ from smA_of fun x m => by
  simp only [List.mem_cons, List.not_mem_nil, or_false] at m
  rcases m with rfl | rfl
  · cases k <;> exact h.1
  · have : ((q.den : Int)).natAbs < 2 ^ b := by simpa using h.2
    cases k <;> exact this
theorem wt_fr (q : Rat) : wt (fr q) = 3 := by simp [fr, wt, wtA]
theorem wt_frs : ∀ qs : List Rat, wtA (qs.map fr) = 3 * qs.length
  | [] => rfl
  | q :: r => by rw [List.map_cons, wtA, wt_fr, wt_frs r, List.length_cons]; omega
theorem sm_pt {b k : Nat} {qs : List Rat} (h : ∀ q ∈ qs, Sz q b) : Sm b (k + 2) (pt qs) := show SmA b (k + 1) _ from smA_of fun x m => by
  obtain ⟨q, hq, rfl⟩ := List.mem_map.mp m
  exact sm_fr (h q hq)
theorem wt_pt (qs : List Rat) : wt (pt qs) = 1 + 3 * qs.length := by
  unfold pt
  rw [wt_tup, wt_frs]
theorem stepF_good {a b : List Rat} {f l : Rat} {st : Bool} (b1 : 1 ≤ b.length) (b3 : b.length ≤ 3) (hl : b.length = a.length) (hne : b ≠ a) (z3 : isAb (fr f) = true) (z4 : isNn (fr l) = true) (z5 : lessD (fr f) (fr l) = false) : stepF (pt a) (.tuple [pt b, fr f, fr l, .bool st]) = .none := by
  rw [stepF4, isPt_pt b1 b3, lenD_pt, lenD_pt, pt_eqv, z3, z4, z5, decide_eq_true hl, decide_eq_false hne]
  rfl
theorem chain_ok : ∀ (ss : List D) (a : List Rat) (k : Nat), 1 ≤ a.length → a.length ≤ 3 → Chain a ss → stepsF (pt a) k ss = .none
  | [], _, _, _, _, _ => rfl
  | s :: r, a, k, a1, a3, h => by
    unfold Chain at h
    obtain ⟨b, f, l, st, rfl, hl, hne, gb, s1, s2, z3, z4, z5, hc⟩ := h
    rw [stepsF_cons, stepF_good (by omega) (by omega) hl hne z3 z4 z5]
    exact chain_ok r b (k + 1) (by omega) (by omega) hc
theorem chain_sm : ∀ (ss : List D) (a : List Rat), a.length ≤ 3 → Chain a ss → SmA 450 7 ss ∧ wtA ss ≤ 18 * ss.length
  | [], _, _, _ => by
    unfold SmA
    simp [wtA]
  | s :: r, a, a3, h => by
    unfold Chain at h
    obtain ⟨b, f, l, st, rfl, hl, hne, gb, s1, s2, z3, z4, z5, hc⟩ := h
    have ih := chain_sm r b (by omega) hc
    have e : Sm 450 7 (.tuple [pt b, fr f, fr l, .bool st]) := show SmA 450 6 _ from smA_of fun x m => by
      simp only [List.mem_cons, List.not_mem_nil, or_false] at m
      rcases m with rfl | rfl | rfl | rfl
      · exact sm_pt fun q m => sz_mono (gd_sz (gb q m) (by decide)) (by decide)
      · exact sm_fr (sz_mono s1 (by decide))
      · exact sm_fr (sz_mono s2 (by decide))
      · trivial
    have w : wt (.tuple [pt b, fr f, fr l, .bool st]) ≤ 18 := by
      have := wt_pt b
      rw [wt_tup]
      simp only [wtA, wt_fr, this]
      simp only [wt]
      omega
    unfold SmA
    refine ⟨⟨e, ih.1⟩, ?_⟩
    rw [wtA, List.length_cons]
    have := ih.2
    omega
theorem told_ok {d : D} (h : Told d) : ∃ a ss, d = .tuple [pt a, .tuple ss] ∧ 1 ≤ a.length ∧ a.length ≤ 3 ∧ 1 ≤ ss.length ∧ ss.length ≤ 31 ∧ PB (pt a) ∧ Sm 450 8 (pt a) ∧ SmA 450 7 ss ∧ wtA ss ≤ 558 ∧ PB d ∧ (ss.length ≤ 30 → isNone (progF d) = true) := by
  obtain ⟨a, ss, rfl, a1, a3, ha, s1, s4, hc⟩ := h
  obtain ⟨c1, c2⟩ := chain_sm ss a a3 hc
  have pa : Sm 450 8 (pt a) := sm_pt fun q m => sz_mono (gd_sz (ha q m) (by decide)) (by decide)
  have wa := wt_pt a
  refine ⟨a, ss, rfl, a1, a3, s1, s4, ⟨sm_up (Nat.le_refl _) (by decide) pa, by omega⟩, pa, c1, by omega, ⟨show SmA 450 8 _ from smA_of fun x m => ?_, ?_⟩, ?_⟩
  · simp only [List.mem_cons, List.not_mem_nil, or_false] at m
    rcases m with rfl | rfl
    · exact pa
    · exact show SmA 450 7 ss from c1
  · rw [wt_tup]
    simp only [wtA, wa, wt_tup]
    omega
  · intro s30
    rw [progF2, isPt_pt a1 a3]
    simp only [Bool.not_true, Bool.false_eq_true, if_false]
    rw [if_pos ⟨s1, by omega⟩, chain_ok ss a 0 a1 a3 hc]
    rfl
end K01
namespace K01
open PySem PySem.Spec L2 Fw
variable [Tabs]
/-- a place: none, a few ints -/
def Place (d : D) : Prop := d = .none ∨ ∃ l : List Int, d = .tuple (l.map PyData.int) ∧ l.length ≤ 3
theorem stepF_place (a s : D) : stepF a s = .none ∨ ∃ l : List Int, stepF a s = .tuple (l.map PyData.int) ∧ l.length ≤ 1 := by
  unfold stepF
  split
  · split
    · exact .inr ⟨[0], rfl, by simp⟩
    · split
      · exact .inr ⟨[1], rfl, by simp⟩
      · split
        · exact .inr ⟨[2], rfl, by simp⟩
        · split
          · exact .inl rfl
          · exact .inr ⟨[3], rfl, by simp⟩
  · exact .inr ⟨[], rfl, by simp⟩
theorem stepsF_place : ∀ (ss : List D) (a : D) (k : Nat), Place (stepsF a k ss)
  | [], _, _ => .inl rfl
  | s :: r, a, k => by
    rw [stepsF_cons]
    rcases stepF_place a s with e | ⟨l, e, hl⟩
    · rw [e]
      exact stepsF_place r _ _
    · rw [e]
      exact .inr ⟨1 :: (k : Int) :: l, rfl, by simp; omega⟩
theorem progF_place (d : D) : Place (progF d) := by
  unfold progF
  split
  · split
    · exact .inr ⟨[0], rfl, by simp⟩
    · split
      · split
        · exact stepsF_place _ _ _
        · exact .inr ⟨[1], rfl, by simp⟩
      · exact .inr ⟨[1], rfl, by simp⟩
  · exact .inr ⟨[], rfl, by simp⟩
theorem ints_flat : ∀ l : List Int, flatAll 0 (l.map PyData.int)
  | [] => by simp [flatAll]
  | i :: r => by
    rw [List.map_cons]
    unfold flatAll
    exact ⟨trivial, ints_flat r⟩
theorem place_flat {d : D} (h : Place d) : flat 3 d := by
  rcases h with rfl | ⟨l, rfl, hl⟩
  · trivial
  · refine (show (l.map PyData.int).length ≤ 1000 ∧ flatAll 2 (l.map PyData.int) from ⟨by simp; omega, ?_⟩)
    have : ∀ (n : Nat) (l : List Int), flatAll n (l.map PyData.int) := fun n l => by
      induction l with
      | nil => unfold flatAll; trivial
      | cons i r ih =>
        rw [List.map_cons]
        unfold flatAll
        exact ⟨by cases n <;> trivial, ih⟩
    exact this 2 l
theorem one_flat {d : D} (h : flat 3 d) : flat 4 (.list [d]) := show [d].length ≤ 1000 ∧ flatAll 3 [d] from ⟨by simp, by unfold flatAll flatAll; exact ⟨h, trivial⟩⟩
theorem two_flat {d : D} (h : flat 3 d) : flat 4 (.list [d, d]) := show [d, d].length ≤ 1000 ∧ flatAll 3 [d, d] from ⟨by simp, by unfold flatAll flatAll flatAll; exact ⟨h, h, trivial⟩⟩
theorem same_ok {Q : D → Prop} {X : XP} {d e : D} (z : d = e) (h : flat 4 d) (q : Q (.bool true)) : p__law_same [d, e] Q X := ⟨d, by rw [z], h, q⟩
end K01
namespace K01
open PySem PySem.Spec L2 Fw
variable [Tabs]
theorem ok_app (a b : Str) : PyData.strOk (a ++ b) = (PyData.strOk a && PyData.strOk b) := by
  show (a.cps ++ b.cps).all _ = _
  rw [Array.all_append]
  rfl
theorem okT (a b : Str) (h : PyData.strOk a = true) (g : PyData.strOk b = true) : PyData.strOk (a ++ b) = true := by rw [ok_app, h, g]; rfl
theorem ok_S {l : List Nat} (h : ∀ c ∈ l, c < 128) : PyData.strOk (SX.S l) = true := by
  unfold PyData.strOk
  rw [Array.all_eq_true]
  intro i hi
  have := h _ (List.getElem_mem (by simpa [SX.S] using hi))
  exact decide_eq_true (by
    show (SX.S l).cps[i] < 1114112
    simp [SX.S] at this ⊢
    omega)
open PyProof.Rows in
theorem ok_from : ∀ (ts : List Str) (k : Nat) (acc : Str), (∀ t ∈ ts, PyData.strOk t = true) → PyData.strOk acc = true → PyData.strOk (textFrom k acc ts) = true
  | [], _, acc, _, h => h
  | t :: r, k, acc, ht, h => by
    refine ok_from r (k + 1) _ (fun x m => ht x (List.mem_cons_of_mem _ m)) (okT _ _ (okT _ _ h ?_) (ht t List.mem_cons_self))
    split <;> decide +kernel
theorem ok_list {ts : List Str} (h : ∀ t ∈ ts, PyData.strOk t = true) : PyData.strOk (listText ts) = true := okT _ _ (ok_from ts 0 _ h (by decide +kernel)) (by decide +kernel)
theorem ok_join : ∀ {ts : List Str}, (∀ t ∈ ts, PyData.strOk t = true) → PyData.strOk (Str.join ", " ts) = true
  | [], _ => by decide +kernel
  | [x], h => h x List.mem_cons_self
  | x :: y :: r, h => by
    show PyData.strOk (x ++ ", " ++ Str.join ", " (y :: r)) = true
    exact okT _ _ (okT _ _ (h x List.mem_cons_self) (by decide +kernel)) (ok_join fun t m => h t (List.mem_cons_of_mem _ m))
theorem ok_tuple {ts : List Str} (h : ∀ t ∈ ts, PyData.strOk t = true) : PyData.strOk (tupleText ts) = true := by
  refine okT _ _ (okT _ _ (by decide +kernel) (ok_join h)) ?_
  split <;> decide +kernel
mutual
theorem shown_ok {b : Nat} : ∀ {k : Nat} {d : D}, Sm b k d → PyData.strOk (PyData.shown d) = true
  | k, .none, _ => by rw [PyData.shown]; decide +kernel
  | k, .bool bb, _ => by rw [PyData.shown]; cases bb <;> decide +kernel
  | k, .int i, h => by
    rw [PyData.shown, str_int]
    exact ok_S fun c m => by
      rcases List.mem_append.mp m with m | m
      · exact sg_lt _ c m
      · exact dg_lt (num_dig _) c m
  | k, .str s, h => by
    have h : s.length ≤ 8 ∧ (PyData.strOk s = true ∧ (reprText s).length ≤ 90 ∧ PyData.strOk (reprText s) = true) := by cases k <;> exact h
    rw [PyData.shown]
    exact h.2.2.2
  | 0, .list xs, h => (show False from h).elim
  | 0, .tuple xs, h => (show False from h).elim
  | 0, .dict xs, h => (show False from h).elim
  | k + 1, .list xs, h => by
    rw [PyData.shown]
    exact ok_list (shownA_ok (show SmA b k xs from h))
  | k + 1, .tuple xs, h => by
    rw [PyData.shown]
    exact ok_tuple (shownA_ok (show SmA b k xs from h))
  | k + 1, .dict xs, h => (show False from h).elim
theorem shownA_ok {b : Nat} : ∀ {k : Nat} {xs : List D}, SmA b k xs → ∀ t ∈ PyData.shownAll xs, PyData.strOk t = true
  | _, [], _ => fun t m => by simp [PyData.shownAll] at m
  | k, x :: r, h => fun t m => by
    unfold SmA at h
    rw [PyData.shownAll] at m
    rcases List.mem_cons.mp m with rfl | m
    · exact shown_ok h.1
    · exact shownA_ok h.2 t m
end
end K01
namespace K01
open PySem PySem.Spec L2 Fw
variable [Tabs]
theorem progF_good {d : D} (h : isNone (progF d) = true) : ∃ (x : D) (ss : List D), d = .tuple [x, .tuple ss] ∧ isPt x = true ∧ ss.length ≤ 30 ∧ stepsF x 0 ss = .none := by
  obtain ⟨x, y, rfl, hx⟩ := progF_ok h
  rw [progF2, hx] at h
  simp only [Bool.not_true, Bool.false_eq_true, if_false] at h
  cases y with
  | tuple ss =>
    simp only [] at h
    by_cases c : 1 ≤ ss.length ∧ ss.length ≤ 30
    · rw [if_pos c] at h
      refine ⟨x, ss, rfl, hx, c.2, ?_⟩
      cases e : stepsF x 0 ss <;> rw [e] at h <;> first | rfl | cases h
    · rw [if_neg c] at h
      cases h
  | _ => cases h
theorem stepsF_heads : ∀ (ss : List D) (a : D) (k : Nat), stepsF a k ss = .none → ∀ s ∈ ss, ∃ y r, s = .tuple (y :: r) ∧ isPt y = true
  | [], _, _, _ => fun _ m => by cases m
  | s :: r, a, k, h => by
    rw [stepsF_cons] at h
    rcases stepF_out (a := a) (s := s) with e | ⟨xs, e, l⟩
    · rw [e] at h
      obtain ⟨x, t, rfl, hx, _⟩ := stepF_none e
      intro z m
      rcases List.mem_cons.mp m with rfl | m
      · exact ⟨x, t, rfl, hx⟩
      · exact stepsF_heads r _ _ h z m
    · rw [e] at h
      cases h
theorem heads_go {mg : DG} {me : DE} {es0 : En} {P : List D → Prop} (hm : ∀ (y : D) (r : List D) (R : D → Prop), R y → mg (.tuple (y :: r)) es0 (fun es1 => me es1 R (fun _ => False))) : ∀ (ss acc : List D), (∀ s ∈ ss, ∃ y r, s = .tuple (y :: r)) → acc.length + ss.length ≤ 10000 → P (acc ++ ss.map headD) → lcGo mg mYes me es0 ss acc P
  | [], acc, _, _, q => by
    show P acc
    simpa using q
  | s :: r, acc, h, l, q => by
    obtain ⟨y, t, rfl⟩ := h s List.mem_cons_self
    unfold lcGo mYes
    simp only [if_true]
    rw [List.length_cons] at l
    refine hm y t _ ⟨by omega, heads_go hm r _ (fun x m => h x (List.mem_cons_of_mem _ m)) (by simp; omega) ?_⟩
    rw [List.append_assoc]
    exact q
theorem vc_path : ∀ ds Q X, p_path ds Q X → ms_path { nx := fun _ => Q .none, rt := Q, xx := fun x _ => X x } (startE N_path ds) := by
  rintro ds Q X ⟨d, rfl, hd, q1, q2⟩
  simp only [dSeq, dAsg, dRet, dRaise, dRetN, dDrop, dIfS, dSkip, dVar, dC, dOp, dTup, dLst, dCons, dNil, dCB, dCall, dCallS, dCallK, gP, gT, gL, gN, gsNil, gsCons, dTest, dTruth, truD, dNotT, dAndT, dOrT, dAndV, dOrV, dNotV, dIf, dNeg, dAdd, dSub, dMul, dFdiv, dMod, dPow, dI, dLt, dLe, dGt, dGe, dEq, dNe, dIsO, dNotO, dIx, dPar, dFor, iL, iT, iR1, dNew, bLen, bAbs, bInt, bGcd, bTuple, bList, bAll, dType, dNType, dIs, dIs2, startE, List.map_cons, List.map_nil, List.length_cons, List.length_nil, List.cons_append, List.nil_append, List.getElem?_cons_zero, List.getElem?_cons_succ, List.set_cons_zero, List.set_cons_succ, Option.some.injEq, Sl.p.injEq, exists_eq_left', exists_eq_left, Nat.reduceAdd, Nat.reduceSub, List.replicate, forall_const, true_and, and_true, if_true, if_false, Bool.false_eq_true, eq_self, ite_true, ite_false, reduceCtorEq, ms_path, dTupG, wipeE]
  refine ⟨d, rfl, hd, fun h => ?_, q2⟩
  have q := q1 h
  obtain ⟨x, ss, rfl, hx, hl, hs⟩ := progF_good h
  simp only [dSeq, dAsg, dRet, dRaise, dRetN, dDrop, dIfS, dSkip, dVar, dC, dOp, dTup, dLst, dCons, dNil, dCB, dCall, dCallS, dCallK, gP, gT, gL, gN, gsNil, gsCons, dTest, dTruth, truD, dNotT, dAndT, dOrT, dAndV, dOrV, dNotV, dIf, dNeg, dAdd, dSub, dMul, dFdiv, dMod, dPow, dI, dLt, dLe, dGt, dGe, dEq, dNe, dIsO, dNotO, dIx, dPar, dFor, iL, iT, iR1, dNew, bLen, bAbs, bInt, bGcd, bTuple, bList, bAll, dType, dNType, dIs, dIs2, startE, List.map_cons, List.map_nil, List.length_cons, List.length_nil, List.cons_append, List.nil_append, List.getElem?_cons_zero, List.getElem?_cons_succ, List.set_cons_zero, List.set_cons_succ, Option.some.injEq, Sl.p.injEq, exists_eq_left', exists_eq_left, Nat.reduceAdd, Nat.reduceSub, List.replicate, forall_const, true_and, and_true, if_true, if_false, Bool.false_eq_true, eq_self, ite_true, ite_false, reduceCtorEq]
  have hh := stepsF_heads ss x 0 hs
  refine ⟨by decide, heads_go (fun y r R hr => ?_) ss [] (fun s m => by
    obtain ⟨y, r, e, _⟩ := hh s m
    exact ⟨y, r, e⟩) (by simp; omega) ?_⟩
  · simp only [dSeq, dAsg, dRet, dRaise, dRetN, dDrop, dIfS, dSkip, dVar, dC, dOp, dTup, dLst, dCons, dNil, dCB, dCall, dCallS, dCallK, gP, gT, gL, gN, gsNil, gsCons, dTest, dTruth, truD, dNotT, dAndT, dOrT, dAndV, dOrV, dNotV, dIf, dNeg, dAdd, dSub, dMul, dFdiv, dMod, dPow, dI, dLt, dLe, dGt, dGe, dEq, dNe, dIsO, dNotO, dIx, dPar, dFor, iL, iT, iR1, dNew, bLen, bAbs, bInt, bGcd, bTuple, bList, bAll, dType, dNType, dIs, dIs2, startE, List.map_cons, List.map_nil, List.length_cons, List.length_nil, List.cons_append, List.nil_append, List.getElem?_cons_zero, List.getElem?_cons_succ, List.set_cons_zero, List.set_cons_succ, Option.some.injEq, Sl.p.injEq, exists_eq_left', exists_eq_left, Nat.reduceAdd, Nat.reduceSub, List.replicate, forall_const, true_and, and_true, if_true, if_false, Bool.false_eq_true, eq_self, ite_true, ite_false, reduceCtorEq]
    exact ⟨y, at0 _ _, hr⟩
  · simp only [List.nil_append]
    refine ⟨by simp; omega, q⟩
theorem vc__law_trail : ∀ ds Q X, p__law_trail ds Q X → ms__law_trail { nx := fun _ => Q .none, rt := Q, xx := fun x _ => X x } (startE N__law_trail ds) := by
  rintro ds Q X ⟨x, ss, rfl, hh, hl, q⟩
  simp only [dSeq, dAsg, dRet, dRaise, dRetN, dDrop, dIfS, dSkip, dVar, dC, dOp, dTup, dLst, dCons, dNil, dCB, dCall, dCallS, dCallK, gP, gT, gL, gN, gsNil, gsCons, dTest, dTruth, truD, dNotT, dAndT, dOrT, dAndV, dOrV, dNotV, dIf, dNeg, dAdd, dSub, dMul, dFdiv, dMod, dPow, dI, dLt, dLe, dGt, dGe, dEq, dNe, dIsO, dNotO, dIx, dPar, dFor, iL, iT, iR1, dNew, bLen, bAbs, bInt, bGcd, bTuple, bList, bAll, dType, dNType, dIs, dIs2, startE, List.map_cons, List.map_nil, List.length_cons, List.length_nil, List.cons_append, List.nil_append, List.getElem?_cons_zero, List.getElem?_cons_succ, List.set_cons_zero, List.set_cons_succ, Option.some.injEq, Sl.p.injEq, exists_eq_left', exists_eq_left, Nat.reduceAdd, Nat.reduceSub, List.replicate, forall_const, true_and, and_true, if_true, if_false, Bool.false_eq_true, eq_self, ite_true, ite_false, reduceCtorEq, ms__law_trail, dLc, wipeE, at0, at1]
  refine ⟨by decide, heads_go (fun y r R hr => ?_) ss [] hh (by simp; omega) ?_⟩
  · simp only [dSeq, dAsg, dRet, dRaise, dRetN, dDrop, dIfS, dSkip, dVar, dC, dOp, dTup, dLst, dCons, dNil, dCB, dCall, dCallS, dCallK, gP, gT, gL, gN, gsNil, gsCons, dTest, dTruth, truD, dNotT, dAndT, dOrT, dAndV, dOrV, dNotV, dIf, dNeg, dAdd, dSub, dMul, dFdiv, dMod, dPow, dI, dLt, dLe, dGt, dGe, dEq, dNe, dIsO, dNotO, dIx, dPar, dFor, iL, iT, iR1, dNew, bLen, bAbs, bInt, bGcd, bTuple, bList, bAll, dType, dNType, dIs, dIs2, startE, List.map_cons, List.map_nil, List.length_cons, List.length_nil, List.cons_append, List.nil_append, List.getElem?_cons_zero, List.getElem?_cons_succ, List.set_cons_zero, List.set_cons_succ, Option.some.injEq, Sl.p.injEq, exists_eq_left', exists_eq_left, Nat.reduceAdd, Nat.reduceSub, List.replicate, forall_const, true_and, and_true, if_true, if_false, Bool.false_eq_true, eq_self, ite_true, ite_false, reduceCtorEq]
    exact ⟨y, at0 _ _, hr⟩
  · simp only [List.nil_append]
    exact ⟨by simp; omega, q⟩
theorem fr_abs (q : Rat) : PyData.tuple [.int (if q.num < 0 then -q.num else q.num), .int q.den] = fr (absR q) := by
  unfold absR
  by_cases c : q.num < 0
  · rw [if_pos c, if_pos c]
    unfold fr
    rw [Rat.neg_num, Rat.neg_den]
  · rw [if_neg c, if_neg c]
    rfl
theorem sz_abs {q : Rat} {n : Nat} (h : Sz q n) : Sz (absR q) n := by
  unfold absR
  split
  · exact sz_neg h
  · exact h
theorem gd_abs {q : Rat} {n : Nat} (h : Gd q n) : Gd (absR q) n := by
  unfold absR
  split
  · exact gd_neg h
  · exact h
theorem vc_absolute : ∀ ds Q X, p_absolute ds Q X → ms_absolute { nx := fun _ => Q .none, rt := Q, xx := fun x _ => X x } (startE N_absolute ds) := by
  rintro ds Q X ⟨q, rfl, h⟩
  have e1 : fr q = .tuple [.int q.num, .int q.den] := rfl
  simp only [dSeq, dAsg, dRet, dRaise, dRetN, dDrop, dIfS, dSkip, dVar, dC, dOp, dTup, dLst, dCons, dNil, dCB, dCall, dCallS, dCallK, gP, gT, gL, gN, gsNil, gsCons, dTest, dTruth, truD, dNotT, dAndT, dOrT, dAndV, dOrV, dNotV, dIf, dNeg, dAdd, dSub, dMul, dFdiv, dMod, dPow, dI, dLt, dLe, dGt, dGe, dEq, dNe, dIsO, dNotO, dIx, dPar, dFor, iL, iT, iR1, dNew, bLen, bAbs, bInt, bGcd, bTuple, bList, bAll, dType, dNType, dIs, dIs2, startE, List.map_cons, List.map_nil, List.length_cons, List.length_nil, List.cons_append, List.nil_append, List.getElem?_cons_zero, List.getElem?_cons_succ, List.set_cons_zero, List.set_cons_succ, Option.some.injEq, Sl.p.injEq, exists_eq_left', exists_eq_left, Nat.reduceAdd, Nat.reduceSub, List.replicate, forall_const, true_and, and_true, if_true, if_false, Bool.false_eq_true, eq_self, ite_true, ite_false, reduceCtorEq, ms_absolute, e1, at0, at1]
  refine ⟨by decide, ?_⟩
  rw [fr_abs]
  exact h
theorem vc__law_size : ∀ ds Q X, p__law_size ds Q X → ms__law_size { nx := fun _ => Q .none, rt := Q, xx := fun x _ => X x } (startE N__law_size ds) := by
  rintro ds Q X ⟨q, rfl, h⟩
  have e1 : fr q = .tuple [.int q.num, .int q.den] := rfl
  simp only [dSeq, dAsg, dRet, dRaise, dRetN, dDrop, dIfS, dSkip, dVar, dC, dOp, dTup, dLst, dCons, dNil, dCB, dCall, dCallS, dCallK, gP, gT, gL, gN, gsNil, gsCons, dTest, dTruth, truD, dNotT, dAndT, dOrT, dAndV, dOrV, dNotV, dIf, dNeg, dAdd, dSub, dMul, dFdiv, dMod, dPow, dI, dLt, dLe, dGt, dGe, dEq, dNe, dIsO, dNotO, dIx, dPar, dFor, iL, iT, iR1, dNew, bLen, bAbs, bInt, bGcd, bTuple, bList, bAll, dType, dNType, dIs, dIs2, startE, List.map_cons, List.map_nil, List.length_cons, List.length_nil, List.cons_append, List.nil_append, List.getElem?_cons_zero, List.getElem?_cons_succ, List.set_cons_zero, List.set_cons_succ, Option.some.injEq, Sl.p.injEq, exists_eq_left', exists_eq_left, Nat.reduceAdd, Nat.reduceSub, List.replicate, forall_const, true_and, and_true, if_true, if_false, Bool.false_eq_true, eq_self, ite_true, ite_false, reduceCtorEq, ms__law_size, e1, at0, at1]
  refine ⟨by decide, ?_⟩
  rw [fr_abs]
  exact h
theorem max_go {E : Eo} {d0 : D} {mb : DS} (hmb : mb = dIfS (dTruth (dCall p_is_less (dCons (dVar 1) (dCons (dVar 2) dNil)))) (dAsg (dVar 2) (gP 1)) dSkip) : ∀ (r : List Rat) (m : Rat) (s2 : Sl), SzA r 1000 → Sz m 1000 → (∀ s2, E.nx [.p d0, .p (fr (maxR m r)), s2]) →
    forGo (gP 2) mb E (r.map fr) [.p d0, .p (fr m), s2]
  | [], m, s2, _, _, q => q _
  | x :: r, m, s2, hs, hm, q => by
    rw [List.map_cons, forGo_cons]
    have hx := hs x List.mem_cons_self
    have hr : SzA r 1000 := fun y k => hs y (List.mem_cons_of_mem _ k)
    have ih : ∀ (s2 : Sl), forGo (gP 2) mb E (r.map fr) [.p d0, .p (fr (if m < x then x else m)), s2] := fun s2 => max_go hmb r _ s2 hr (by split <;> assumption) q
    generalize forGo (gP 2) mb E (r.map fr) = F at ih ⊢
    rw [hmb]
    simp only [dSeq, dAsg, dRet, dRaise, dRetN, dDrop, dIfS, dSkip, dVar, dC, dOp, dTup, dLst, dCons, dNil, dCB, dCall, dCallS, dCallK, gP, gT, gL, gN, gsNil, gsCons, dTest, dTruth, truD, dNotT, dAndT, dOrT, dAndV, dOrV, dNotV, dIf, dNeg, dAdd, dSub, dMul, dFdiv, dMod, dPow, dI, dLt, dLe, dGt, dGe, dEq, dNe, dIsO, dNotO, dIx, dPar, dFor, iL, iT, iR1, dNew, bLen, bAbs, bInt, bGcd, bTuple, bList, bAll, dType, dNType, dIs, dIs2, startE, List.map_cons, List.map_nil, List.length_cons, List.length_nil, List.cons_append, List.nil_append, List.getElem?_cons_zero, List.getElem?_cons_succ, List.set_cons_zero, List.set_cons_succ, Option.some.injEq, Sl.p.injEq, exists_eq_left', exists_eq_left, Nat.reduceAdd, Nat.reduceSub, List.replicate, forall_const, true_and, and_true, if_true, if_false, Bool.false_eq_true, eq_self, ite_true, ite_false, reduceCtorEq]
    refine is_less_ok (n := 1000) (by decide) hm hx ?_
    simp only [lessD_lt]
    by_cases c : m < x
    · rw [if_pos c] at ih
      simp only [c, decide_true, if_true]
      exact ih _
    · rw [if_neg c] at ih
      simp only [c, decide_false, Bool.false_eq_true, if_false]
      exact ih _
theorem vc_largest : ∀ ds Q X, p_largest ds Q X → ms_largest { nx := fun _ => Q .none, rt := Q, xx := fun x _ => X x } (startE N_largest ds) := by
  rintro ds Q X ⟨x, r, rfl, hl, hs, q⟩
  simp only [dSeq, dAsg, dRet, dRaise, dRetN, dDrop, dIfS, dSkip, dVar, dC, dOp, dTup, dLst, dCons, dNil, dCB, dCall, dCallS, dCallK, gP, gT, gL, gN, gsNil, gsCons, dTest, dTruth, truD, dNotT, dAndT, dOrT, dAndV, dOrV, dNotV, dIf, dNeg, dAdd, dSub, dMul, dFdiv, dMod, dPow, dI, dLt, dLe, dGt, dGe, dEq, dNe, dIsO, dNotO, dIx, dPar, dFor, iL, iT, iR1, dNew, bLen, bAbs, bInt, bGcd, bTuple, bList, bAll, dType, dNType, dIs, dIs2, startE, List.map_cons, List.map_nil, List.length_cons, List.length_nil, List.cons_append, List.nil_append, List.getElem?_cons_zero, List.getElem?_cons_succ, List.set_cons_zero, List.set_cons_succ, Option.some.injEq, Sl.p.injEq, exists_eq_left', exists_eq_left, Nat.reduceAdd, Nat.reduceSub, List.replicate, forall_const, true_and, and_true, if_true, if_false, Bool.false_eq_true, eq_self, ite_true, ite_false, reduceCtorEq, ms_largest]
  refine ⟨fr x, at0 _ _, ?_⟩
  refine max_go rfl (x :: r) x _ hs (hs x List.mem_cons_self) fun s2 => ?_
  have e : maxR x (x :: r) = maxR x r := by
    show maxR (if x < x then x else x) r = _
    rw [if_neg (Rat.lt_irrefl)]
  rw [e]
  simp only [dSeq, dAsg, dRet, dRaise, dRetN, dDrop, dIfS, dSkip, dVar, dC, dOp, dTup, dLst, dCons, dNil, dCB, dCall, dCallS, dCallK, gP, gT, gL, gN, gsNil, gsCons, dTest, dTruth, truD, dNotT, dAndT, dOrT, dAndV, dOrV, dNotV, dIf, dNeg, dAdd, dSub, dMul, dFdiv, dMod, dPow, dI, dLt, dLe, dGt, dGe, dEq, dNe, dIsO, dNotO, dIx, dPar, dFor, iL, iT, iR1, dNew, bLen, bAbs, bInt, bGcd, bTuple, bList, bAll, dType, dNType, dIs, dIs2, startE, List.map_cons, List.map_nil, List.length_cons, List.length_nil, List.cons_append, List.nil_append, List.getElem?_cons_zero, List.getElem?_cons_succ, List.set_cons_zero, List.set_cons_succ, Option.some.injEq, Sl.p.injEq, exists_eq_left', exists_eq_left, Nat.reduceAdd, Nat.reduceSub, List.replicate, forall_const, true_and, and_true, if_true, if_false, Bool.false_eq_true, eq_self, ite_true, ite_false, reduceCtorEq]
  exact q
theorem zipE {mg : DG} {me : DE} {es0 : En} {f : Rat → Rat → Rat} {G : Rat → Rat → Prop} {P : List D → Prop} (hme : ∀ x y : Rat, G x y → ∀ R : D → Prop, R (fr (f x y)) → mg (.tuple [fr x, fr y]) es0 (fun es1 => me es1 R (fun _ => False))) : ∀ (a g : List Rat) (acc : List D), g.length = a.length → (∀ x ∈ a, ∀ y ∈ g, G x y) → acc.length + a.length ≤ 1000 → P (acc ++ (List.zipWith f a g).map fr) →
    lcGo mg mYes me es0 (zipD (a.map fr) (g.map fr)) acc P
  | [], [], acc, _, _, _, q => by
    show P acc
    simpa using q
  | [], _ :: _, _, l, _, _, _ => by simp at l
  | _ :: _, [], _, l, _, _, _ => by simp at l
  | x :: a, y :: g, acc, l, hG, hl, q => by
    rw [List.map_cons, List.map_cons]
    rw [List.length_cons] at hl
    show lcGo _ _ _ _ (.tuple [fr x, fr y] :: zipD (a.map fr) (g.map fr)) acc P
    unfold lcGo mYes
    simp only [if_true]
    refine hme x y (hG x List.mem_cons_self y List.mem_cons_self) _ ⟨by omega, ?_⟩
    refine zipE hme a g _ (by simpa using l) (fun x m y n => hG x (List.mem_cons_of_mem _ m) y (List.mem_cons_of_mem _ n)) (by simp; omega) ?_
    rw [List.append_assoc]
    simpa using q
theorem mapE {α : Type} {mg : DG} {me : DE} {es0 : En} {i o : α → D} {G : α → Prop} {P : List D → Prop} (hme : ∀ x : α, G x → ∀ R : D → Prop, R (o x) → mg (i x) es0 (fun es1 => me es1 R (fun _ => False))) : ∀ (a : List α) (acc : List D), (∀ x ∈ a, G x) → acc.length + a.length ≤ 1000 → P (acc ++ a.map o) → lcGo mg mYes me es0 (a.map i) acc P
  | [], acc, _, _, q => by
    show P acc
    simpa using q
  | x :: a, acc, hG, hl, q => by
    rw [List.map_cons]
    rw [List.length_cons] at hl
    unfold lcGo mYes
    simp only [if_true]
    refine hme x (hG x List.mem_cons_self) _ ⟨by omega, ?_⟩
    refine mapE hme a _ (fun x m => hG x (List.mem_cons_of_mem _ m)) (by simp; omega) ?_
    rw [List.append_assoc]
    simpa using q
theorem vc_apart : ∀ ds Q X, p_apart ds Q X → ms_apart { nx := fun _ => Q .none, rt := Q, xx := fun x _ => X x } (startE N_apart ds) := by
  rintro ds Q X ⟨a, b, rfl, hl, h3, ha, hb, q⟩
  have ept : ∀ g : List Rat, pt g = .tuple (g.map fr) := fun _ => rfl
  simp only [dSeq, dAsg, dRet, dRaise, dRetN, dDrop, dIfS, dSkip, dVar, dC, dOp, dTup, dLst, dCons, dNil, dCB, dCall, dCallS, dCallK, gP, gT, gL, gN, gsNil, gsCons, dTest, dTruth, truD, dNotT, dAndT, dOrT, dAndV, dOrV, dNotV, dIf, dNeg, dAdd, dSub, dMul, dFdiv, dMod, dPow, dI, dLt, dLe, dGt, dGe, dEq, dNe, dIsO, dNotO, dIx, dPar, dFor, iL, iT, iR1, dNew, bLen, bAbs, bInt, bGcd, bTuple, bList, bAll, dType, dNType, dIs, dIs2, startE, List.map_cons, List.map_nil, List.length_cons, List.length_nil, List.cons_append, List.nil_append, List.getElem?_cons_zero, List.getElem?_cons_succ, List.set_cons_zero, List.set_cons_succ, Option.some.injEq, Sl.p.injEq, exists_eq_left', exists_eq_left, Nat.reduceAdd, Nat.reduceSub, List.replicate, forall_const, true_and, and_true, if_true, if_false, Bool.false_eq_true, eq_self, ite_true, ite_false, reduceCtorEq, ms_apart, dTupG, wipeE, iZ, ept]
  refine zipE (f := fun x y => y - x) (G := fun x y => Sz x 1000 ∧ Sz y 1000) (fun x y h R r => ?_) a b [] hl (fun x m y k => ⟨ha x m, hb y k⟩) (by simp; omega) ?_
  · simp only [dSeq, dAsg, dRet, dRaise, dRetN, dDrop, dIfS, dSkip, dVar, dC, dOp, dTup, dLst, dCons, dNil, dCB, dCall, dCallS, dCallK, gP, gT, gL, gN, gsNil, gsCons, dTest, dTruth, truD, dNotT, dAndT, dOrT, dAndV, dOrV, dNotV, dIf, dNeg, dAdd, dSub, dMul, dFdiv, dMod, dPow, dI, dLt, dLe, dGt, dGe, dEq, dNe, dIsO, dNotO, dIx, dPar, dFor, iL, iT, iR1, dNew, bLen, bAbs, bInt, bGcd, bTuple, bList, bAll, dType, dNType, dIs, dIs2, startE, List.map_cons, List.map_nil, List.length_cons, List.length_nil, List.cons_append, List.nil_append, List.getElem?_cons_zero, List.getElem?_cons_succ, List.set_cons_zero, List.set_cons_succ, Option.some.injEq, Sl.p.injEq, exists_eq_left', exists_eq_left, Nat.reduceAdd, Nat.reduceSub, List.replicate, forall_const, true_and, and_true, if_true, if_false, Bool.false_eq_true, eq_self, ite_true, ite_false, reduceCtorEq]
    exact ⟨y, x, rfl, sz_mono h.2 (by decide), sz_mono h.1 (by decide), r⟩
  · exact q
theorem maxR_first {x : Rat} {r : List Rat} (h : absR x = maxR 0 [absR x]) : True := trivial
end K01
namespace K01
open PySem PySem.Spec L2 Fw
variable [Tabs]
theorem absR_nn (q : Rat) : 0 ≤ absR q := by
  unfold absR
  by_cases c : q.num < 0
  · rw [if_pos c]
    have : q < 0 := by rw [Rat.lt_iff]; simpa using c
    grind
  · rw [if_neg c]
    have : ¬ q < 0 := by rw [Rat.lt_iff]; simpa using c
    grind
theorem absR_zero {q : Rat} (h : absR q = 0) : q = 0 := by
  unfold absR at h
  split at h <;> grind
theorem maxR_ge : ∀ (l : List Rat) (m : Rat), m ≤ maxR m l ∧ ∀ x ∈ l, x ≤ maxR m l
  | [], m => ⟨Rat.le_refl, fun _ k => by cases k⟩
  | x :: r, m => by
    have ih := maxR_ge r (if m < x then x else m)
    show m ≤ maxR (if m < x then x else m) r ∧ ∀ y ∈ x :: r, y ≤ maxR (if m < x then x else m) r
    have h1 : m ≤ (if m < x then x else m) ∧ x ≤ (if m < x then x else m) := by split <;> grind
    refine ⟨Rat.le_trans h1.1 ih.1, fun y k => ?_⟩
    rcases List.mem_cons.mp k with rfl | k
    · exact Rat.le_trans h1.2 ih.1
    · exact ih.2 y k
theorem maxR_nn {x : Rat} (h : 0 ≤ x) (r : List Rat) : maxR 0 (x :: r) = maxR x r := by
  show maxR (if (0 : Rat) < x then x else 0) r = _
  by_cases c : (0 : Rat) < x
  · rw [if_pos c]
  · rw [if_neg c]
    have : x = 0 := by grind
    rw [this]
theorem longR_first (x : Rat) (r : List Rat) : longR (x :: r) = maxR (absR x) (r.map absR) := maxR_nn (absR_nn x) _
theorem maxR_mem : ∀ (l : List Rat) (m : Rat), maxR m l = m ∨ maxR m l ∈ l
  | [], m => .inl rfl
  | x :: r, m => by
    have ih := maxR_mem r (if m < x then x else m)
    show maxR (if m < x then x else m) r = m ∨ maxR (if m < x then x else m) r ∈ x :: r
    rcases ih with e | k
    · rw [e]
      split
      · exact .inr List.mem_cons_self
      · exact .inl rfl
    · exact .inr (List.mem_cons_of_mem _ k)
theorem longR_nn (g : List Rat) : 0 ≤ longR g := (maxR_ge (g.map absR) 0).1
theorem longR_pos {g : List Rat} {q : Rat} (h : q ∈ g) (n : q ≠ 0) : 0 < longR g := by
  have h1 := (maxR_ge (g.map absR) 0).2 (absR q) (List.mem_map.mpr ⟨q, h, rfl⟩)
  have h2 := absR_nn q
  have h3 : absR q ≠ 0 := fun z => n (absR_zero z)
  unfold longR
  grind
theorem longR_gd {g : List Rat} {n : Nat} (h : ∀ q ∈ g, Gd q n) : Gd (longR g) n := by
  rcases maxR_mem (g.map absR) 0 with e | k
  · unfold longR
    rw [e]
    exact ⟨0, by decide, Nat.two_pow_pos n⟩
  · obtain ⟨q, hq, e⟩ := List.mem_map.mp k
    unfold longR
    rw [← e]
    exact gd_abs (h q hq)
theorem longR_sz {g : List Rat} {n : Nat} (h : SzA g n) (h1 : 1 ≤ n) : Sz (longR g) n := by
  rcases maxR_mem (g.map absR) 0 with e | k
  · unfold longR
    rw [e]
    exact sz_mono sz_zero h1
  · obtain ⟨q, hq, e⟩ := List.mem_map.mp k
    unfold longR
    rw [← e]
    exact sz_abs (h q hq)
theorem absR_mul (x c : Rat) (hc : 0 < c) : absR (x * c) = absR x * c := by
  have neg : ∀ q : Rat, q.num < 0 ↔ q < 0 := fun q => by rw [Rat.lt_iff]; simp
  have hn : x * c < 0 ↔ x < 0 := by
    constructor
    · intro h
      refine Classical.byContradiction fun k => ?_
      have := Rat.mul_nonneg (show 0 ≤ x by grind) (Rat.le_of_lt hc)
      grind
    · intro h
      have := Rat.mul_pos (show 0 < -x by grind) hc
      grind
  unfold absR
  by_cases h : x < 0
  · rw [if_pos ((neg x).mpr h), if_pos ((neg _).mpr (hn.mpr h))]
    grind
  · rw [if_neg (fun z => h ((neg x).mp z)), if_neg (fun z => h (hn.mp ((neg _).mp z)))]
theorem maxR_scale (c : Rat) (hc : 0 < c) : ∀ (l : List Rat) (m : Rat), maxR (m * c) (l.map (· * c)) = maxR m l * c
  | [], _ => rfl
  | x :: r, m => by
    have e : (if m * c < x * c then x * c else m * c) = (if m < x then x else m) * c := by
      have k : m * c < x * c ↔ m < x := by
        constructor
        · intro h
          refine Classical.byContradiction fun n => ?_
          have := Rat.mul_nonneg (show 0 ≤ m - x by grind) (Rat.le_of_lt hc)
          grind
        · intro h
          have := Rat.mul_pos (show 0 < x - m by grind) hc
          grind
      by_cases h : m < x
      · rw [if_pos h, if_pos (k.mpr h)]
      · rw [if_neg h, if_neg (fun z => h (k.mp z))]
    show maxR (if m * c < x * c then x * c else m * c) (r.map (· * c)) = _
    rw [e, maxR_scale c hc r]
    rfl
theorem longR_head {g : List Rat} (h : 0 < longR g) : longR (headR g) = 1 := by
  have hc : 0 < (longR g)⁻¹ := Rat.inv_pos.mpr h
  have e : (headR g).map absR = (g.map absR).map (· * (longR g)⁻¹) := by
    unfold headR
    rw [List.map_map, List.map_map]
    apply List.map_congr_left
    intro x _
    show absR (x / longR g) = absR x * (longR g)⁻¹
    rw [Rat.div_def, absR_mul _ _ hc]
  show maxR 0 ((headR g).map absR) = 1
  rw [e]
  have := maxR_scale _ hc (g.map absR) 0
  rw [Rat.zero_mul] at this
  rw [this]
  show longR g * (longR g)⁻¹ = 1
  exact Rat.mul_inv_cancel _ (by grind)
/-- what lies between the points -/
theorem gaps_ok : ∀ (ps : List (List Rat)) (a : List Rat), 1 ≤ a.length → (∀ q ∈ a, Gd q 370) → Wk a ps → ∀ g ∈ gapsR a ps, g.length = a.length ∧ (∀ q ∈ g, Gd q 371) ∧ 0 < longR g
  | [], _, _, _, _ => fun _ m => by cases m
  | b :: r, a, a1, ga, h => by
    unfold Wk at h
    obtain ⟨hl, hne, gb, hw⟩ := h
    intro g m
    rcases List.mem_cons.mp (show g ∈ gapR a b :: gapsR b r from m) with rfl | m
    · refine ⟨by simp [gapR, hl], fun q k => ?_, ?_⟩
      · obtain ⟨i, hi, rfl⟩ := List.getElem_of_mem k
        simp only [gapR, List.getElem_zipWith]
        exact gd_sub (gb _ (List.getElem_mem _)) (ga _ (List.getElem_mem _))
      · refine Classical.byContradiction fun n => hne ?_
        apply List.ext_getElem hl
        intro i h1 h2
        refine Classical.byContradiction fun z => n (longR_pos (q := b[i] - a[i]) ?_ (fun w => z (by grind)))
        have hi : i < (gapR a b).length := by simp [gapR]; omega
        have : (gapR a b)[i] = b[i] - a[i] := by simp [gapR]
        rw [← this]
        exact List.getElem_mem hi
    · have := gaps_ok r b (by omega) gb hw g m
      exact ⟨by omega, this.2⟩
theorem gaps_len : ∀ (ps : List (List Rat)) (a : List Rat), (gapsR a ps).length = ps.length
  | [], _ => rfl
  | b :: r, a => by
    show (gapsR b r).length + 1 = _
    rw [gaps_len r b]
    rfl
end K01
namespace K01
open PySem PySem.Spec L2 Fw
variable [Tabs]
theorem gd_szA {g : List Rat} {n m : Nat} (h : ∀ q ∈ g, Gd q n) (h1 : 203 ≤ n) (h2 : n ≤ m) : SzA g m := fun q k => sz_mono (gd_sz (h q k) h1) h2
theorem vc_length_of : ∀ ds Q X, p_length_of ds Q X → ms_length_of { nx := fun _ => Q .none, rt := Q, xx := fun x _ => X x } (startE N_length_of ds) := by
  rintro ds Q X ⟨g, rfl, hne, h3, hs, q⟩
  have ept : ∀ g : List Rat, pt g = .tuple (g.map fr) := fun _ => rfl
  simp only [dSeq, dAsg, dRet, dRaise, dRetN, dDrop, dIfS, dSkip, dVar, dC, dOp, dTup, dLst, dCons, dNil, dCB, dCall, dCallS, dCallK, gP, gT, gL, gN, gsNil, gsCons, dTest, dTruth, truD, dNotT, dAndT, dOrT, dAndV, dOrV, dNotV, dIf, dNeg, dAdd, dSub, dMul, dFdiv, dMod, dPow, dI, dLt, dLe, dGt, dGe, dEq, dNe, dIsO, dNotO, dIx, dPar, dFor, iL, iT, iR1, dNew, bLen, bAbs, bInt, bGcd, bTuple, bList, bAll, dType, dNType, dIs, dIs2, startE, List.map_cons, List.map_nil, List.length_cons, List.length_nil, List.cons_append, List.nil_append, List.getElem?_cons_zero, List.getElem?_cons_succ, List.set_cons_zero, List.set_cons_succ, Option.some.injEq, Sl.p.injEq, exists_eq_left', exists_eq_left, Nat.reduceAdd, Nat.reduceSub, List.replicate, forall_const, true_and, and_true, if_true, if_false, Bool.false_eq_true, eq_self, ite_true, ite_false, reduceCtorEq, ms_length_of, dLc, wipeE, ept]
  refine mapE (i := fr) (o := fun x => fr (absR x)) (G := fun x => Sz x 1000) (fun x h R r => ?_) g [] hs (by simp; omega) ?_
  · simp only [dSeq, dAsg, dRet, dRaise, dRetN, dDrop, dIfS, dSkip, dVar, dC, dOp, dTup, dLst, dCons, dNil, dCB, dCall, dCallS, dCallK, gP, gT, gL, gN, gsNil, gsCons, dTest, dTruth, truD, dNotT, dAndT, dOrT, dAndV, dOrV, dNotV, dIf, dNeg, dAdd, dSub, dMul, dFdiv, dMod, dPow, dI, dLt, dLe, dGt, dGe, dEq, dNe, dIsO, dNotO, dIx, dPar, dFor, iL, iT, iR1, dNew, bLen, bAbs, bInt, bGcd, bTuple, bList, bAll, dType, dNType, dIs, dIs2, startE, List.map_cons, List.map_nil, List.length_cons, List.length_nil, List.cons_append, List.nil_append, List.getElem?_cons_zero, List.getElem?_cons_succ, List.set_cons_zero, List.set_cons_succ, Option.some.injEq, Sl.p.injEq, exists_eq_left', exists_eq_left, Nat.reduceAdd, Nat.reduceSub, List.replicate, forall_const, true_and, and_true, if_true, if_false, Bool.false_eq_true, eq_self, ite_true, ite_false, reduceCtorEq]
    exact ⟨x, rfl, r⟩
  · cases g with
    | nil => exact absurd rfl hne
    | cons x r =>
      rw [longR_first] at q
      refine ⟨absR x, r.map absR, by simp, by simp at h3 ⊢; omega, fun y k => ?_, q⟩
      rcases List.mem_cons.mp k with rfl | k
      · exact sz_abs (hs x List.mem_cons_self)
      · obtain ⟨z, hz, rfl⟩ := List.mem_map.mp k
        exact sz_abs (hs z (List.mem_cons_of_mem _ hz))
theorem vc_direction_of : ∀ ds Q X, p_direction_of ds Q X → ms_direction_of { nx := fun _ => Q .none, rt := Q, xx := fun x _ => X x } (startE N_direction_of ds) := by
  rintro ds Q X ⟨g, rfl, hne, h3, hs, hL, q⟩
  have ept : ∀ g : List Rat, pt g = .tuple (g.map fr) := fun _ => rfl
  simp only [dSeq, dAsg, dRet, dRaise, dRetN, dDrop, dIfS, dSkip, dVar, dC, dOp, dTup, dLst, dCons, dNil, dCB, dCall, dCallS, dCallK, gP, gT, gL, gN, gsNil, gsCons, dTest, dTruth, truD, dNotT, dAndT, dOrT, dAndV, dOrV, dNotV, dIf, dNeg, dAdd, dSub, dMul, dFdiv, dMod, dPow, dI, dLt, dLe, dGt, dGe, dEq, dNe, dIsO, dNotO, dIx, dPar, dFor, iL, iT, iR1, dNew, bLen, bAbs, bInt, bGcd, bTuple, bList, bAll, dType, dNType, dIs, dIs2, startE, List.map_cons, List.map_nil, List.length_cons, List.length_nil, List.cons_append, List.nil_append, List.getElem?_cons_zero, List.getElem?_cons_succ, List.set_cons_zero, List.set_cons_succ, Option.some.injEq, Sl.p.injEq, exists_eq_left', exists_eq_left, Nat.reduceAdd, Nat.reduceSub, List.replicate, forall_const, true_and, and_true, if_true, if_false, Bool.false_eq_true, eq_self, ite_true, ite_false, reduceCtorEq, ms_direction_of, dTupG, wipeE]
  refine ⟨g, rfl, hne, h3, hs, ?_⟩
  have hl := longR_sz hs (by decide)
  simp only [dSeq, dAsg, dRet, dRaise, dRetN, dDrop, dIfS, dSkip, dVar, dC, dOp, dTup, dLst, dCons, dNil, dCB, dCall, dCallS, dCallK, gP, gT, gL, gN, gsNil, gsCons, dTest, dTruth, truD, dNotT, dAndT, dOrT, dAndV, dOrV, dNotV, dIf, dNeg, dAdd, dSub, dMul, dFdiv, dMod, dPow, dI, dLt, dLe, dGt, dGe, dEq, dNe, dIsO, dNotO, dIx, dPar, dFor, iL, iT, iR1, dNew, bLen, bAbs, bInt, bGcd, bTuple, bList, bAll, dType, dNType, dIs, dIs2, startE, List.map_cons, List.map_nil, List.length_cons, List.length_nil, List.cons_append, List.nil_append, List.getElem?_cons_zero, List.getElem?_cons_succ, List.set_cons_zero, List.set_cons_succ, Option.some.injEq, Sl.p.injEq, exists_eq_left', exists_eq_left, Nat.reduceAdd, Nat.reduceSub, List.replicate, forall_const, true_and, and_true, if_true, if_false, Bool.false_eq_true, eq_self, ite_true, ite_false, reduceCtorEq, ept]
  refine mapE (i := fr) (o := fun x => fr (x / longR g)) (G := fun x => Sz x 1000) (fun x h R r => ?_) g [] hs (by simp; omega) ?_
  · simp only [dSeq, dAsg, dRet, dRaise, dRetN, dDrop, dIfS, dSkip, dVar, dC, dOp, dTup, dLst, dCons, dNil, dCB, dCall, dCallS, dCallK, gP, gT, gL, gN, gsNil, gsCons, dTest, dTruth, truD, dNotT, dAndT, dOrT, dAndV, dOrV, dNotV, dIf, dNeg, dAdd, dSub, dMul, dFdiv, dMod, dPow, dI, dLt, dLe, dGt, dGe, dEq, dNe, dIsO, dNotO, dIx, dPar, dFor, iL, iT, iR1, dNew, bLen, bAbs, bInt, bGcd, bTuple, bList, bAll, dType, dNType, dIs, dIs2, startE, List.map_cons, List.map_nil, List.length_cons, List.length_nil, List.cons_append, List.nil_append, List.getElem?_cons_zero, List.getElem?_cons_succ, List.set_cons_zero, List.set_cons_succ, Option.some.injEq, Sl.p.injEq, exists_eq_left', exists_eq_left, Nat.reduceAdd, Nat.reduceSub, List.replicate, forall_const, true_and, and_true, if_true, if_false, Bool.false_eq_true, eq_self, ite_true, ite_false, reduceCtorEq]
    exact ⟨x, longR g, rfl, sz_mono h (by decide), sz_mono hl (by decide), hL, r⟩
  · simp only [List.nil_append]
    have : g.map (fun x => fr (x / longR g)) = (headR g).map fr := by simp [headR]
    rw [this]
    exact q
theorem tp_gaps {d : D} {a : List Rat} {ps : List (List Rat)} (h : Tp d a ps) : ∀ g ∈ gapsR a ps, g ≠ [] ∧ g.length ≤ 3 ∧ SzA g 1000 ∧ 0 < longR g ∧ (∀ q ∈ g, Gd q 371) := fun g m => by
  obtain ⟨h1, h2, h3⟩ := gaps_ok ps a h.a1 h.ga h.wk g m
  have a1 := h.a1
  have a3 := h.a3
  exact ⟨fun z => by rw [z] at h1; simp at h1; omega, by omega, gd_szA h2 (by decide) (by decide), h3, h2⟩
theorem dist_go {P : List D → Prop} {me : DE} {mg : DG} {es0 : En} (hme : ∀ a b : List Rat, b.length = a.length → a.length ≤ 3 → SzA a 1000 → SzA b 1000 → ∀ R : D → Prop, R (pt (gapR a b)) → mg (.tuple [pt a, pt b]) es0 (fun es1 => me es1 R (fun _ => False))) : ∀ (ps : List (List Rat)) (a : List Rat) (acc : List D), a.length ≤ 3 → (∀ q ∈ a, Gd q 370) → Wk a ps → acc.length + ps.length ≤ 1000 → P (acc ++ (gapsR a ps).map pt) →
    lcGo mg mYes me es0 (zipD ((a :: ps).map pt) (ps.map pt)) acc P
  | [], a, acc, _, _, _, _, q => by
    show P acc
    simpa [gapsR] using q
  | b :: r, a, acc, a3, ga, h, hl, q => by
    unfold Wk at h
    obtain ⟨e, hne, gb, hw⟩ := h
    rw [List.length_cons] at hl
    show lcGo _ _ _ _ (.tuple [pt a, pt b] :: zipD ((b :: r).map pt) (r.map pt)) acc P
    unfold lcGo mYes
    simp only [if_true]
    refine hme a b e a3 (gd_szA ga (by decide) (by decide)) (gd_szA gb (by decide) (by decide)) _ ⟨by omega, ?_⟩
    refine dist_go hme r b _ (by omega) gb hw (by simp; omega) ?_
    rw [List.append_assoc]
    exact q
theorem cut_tail (x : D) (xs : List D) : cutD (x :: xs) (some 1) none = xs := by
  have := cut_hi (x :: xs) 1
  simpa using this
theorem vc_distances : ∀ ds Q X, p_distances ds Q X → ms_distances { nx := fun _ => Q .none, rt := Q, xx := fun x _ => X x } (startE N_distances ds) := by
  rintro ds Q X ⟨d, a, ps, rfl, h, q⟩
  simp only [dSeq, dAsg, dRet, dRaise, dRetN, dDrop, dIfS, dSkip, dVar, dC, dOp, dTup, dLst, dCons, dNil, dCB, dCall, dCallS, dCallK, gP, gT, gL, gN, gsNil, gsCons, dTest, dTruth, truD, dNotT, dAndT, dOrT, dAndV, dOrV, dNotV, dIf, dNeg, dAdd, dSub, dMul, dFdiv, dMod, dPow, dI, dLt, dLe, dGt, dGe, dEq, dNe, dIsO, dNotO, dIx, dPar, dFor, iL, iT, iR1, dNew, bLen, bAbs, bInt, bGcd, bTuple, bList, bAll, dType, dNType, dIs, dIs2, startE, List.map_cons, List.map_nil, List.length_cons, List.length_nil, List.cons_append, List.nil_append, List.getElem?_cons_zero, List.getElem?_cons_succ, List.set_cons_zero, List.set_cons_succ, Option.some.injEq, Sl.p.injEq, exists_eq_left', exists_eq_left, Nat.reduceAdd, Nat.reduceSub, List.replicate, forall_const, true_and, and_true, if_true, if_false, Bool.false_eq_true, eq_self, ite_true, ite_false, reduceCtorEq, ms_distances, dLc, wipeE]
  refine ⟨d, rfl, h.pb, fun _ => ?_, fun z => by rw [h.ok] at z; cases z⟩
  obtain ⟨ss, rfl, e, hh, hl⟩ := h.ex
  have et : trailD (.tuple [pt a, .tuple ss]) = (a :: ps).map pt := by
    show pt a :: ss.map headD = _
    rw [e]
    rfl
  rw [et]
  have p30 := h.p30
  simp only [dSeq, dAsg, dRet, dRaise, dRetN, dDrop, dIfS, dSkip, dVar, dC, dOp, dTup, dLst, dCons, dNil, dCB, dCall, dCallS, dCallK, gP, gT, gL, gN, gsNil, gsCons, dTest, dTruth, truD, dNotT, dAndT, dOrT, dAndV, dOrV, dNotV, dIf, dNeg, dAdd, dSub, dMul, dFdiv, dMod, dPow, dI, dLt, dLe, dGt, dGe, dEq, dNe, dIsO, dNotO, dIx, dPar, dFor, iL, iT, iR1, dNew, bLen, bAbs, bInt, bGcd, bTuple, bList, bAll, dType, dNType, dIs, dIs2, startE, List.map_cons, List.map_nil, List.length_cons, List.length_nil, List.cons_append, List.nil_append, List.getElem?_cons_zero, List.getElem?_cons_succ, List.set_cons_zero, List.set_cons_succ, Option.some.injEq, Sl.p.injEq, exists_eq_left', exists_eq_left, Nat.reduceAdd, Nat.reduceSub, List.replicate, forall_const, true_and, and_true, if_true, if_false, Bool.false_eq_true, eq_self, ite_true, ite_false, reduceCtorEq, iZ, dSl, dPart, dNoPart, slD, List.map_cons, cut_tail]
  refine dist_go (fun a b h1 h2 h3 h4 R r => ?_) ps a [] h.a3 h.ga h.wk (by simp; omega) ?_
  · simp only [dSeq, dAsg, dRet, dRaise, dRetN, dDrop, dIfS, dSkip, dVar, dC, dOp, dTup, dLst, dCons, dNil, dCB, dCall, dCallS, dCallK, gP, gT, gL, gN, gsNil, gsCons, dTest, dTruth, truD, dNotT, dAndT, dOrT, dAndV, dOrV, dNotV, dIf, dNeg, dAdd, dSub, dMul, dFdiv, dMod, dPow, dI, dLt, dLe, dGt, dGe, dEq, dNe, dIsO, dNotO, dIx, dPar, dFor, iL, iT, iR1, dNew, bLen, bAbs, bInt, bGcd, bTuple, bList, bAll, dType, dNType, dIs, dIs2, startE, List.map_cons, List.map_nil, List.length_cons, List.length_nil, List.cons_append, List.nil_append, List.getElem?_cons_zero, List.getElem?_cons_succ, List.set_cons_zero, List.set_cons_succ, Option.some.injEq, Sl.p.injEq, exists_eq_left', exists_eq_left, Nat.reduceAdd, Nat.reduceSub, List.replicate, forall_const, true_and, and_true, if_true, if_false, Bool.false_eq_true, eq_self, ite_true, ite_false, reduceCtorEq]
    exact ⟨a, b, rfl, h1, h2, h3, h4, r⟩
  · exact q
theorem vc_lengths : ∀ ds Q X, p_lengths ds Q X → ms_lengths { nx := fun _ => Q .none, rt := Q, xx := fun x _ => X x } (startE N_lengths ds) := by
  rintro ds Q X ⟨d, a, ps, rfl, h, q⟩
  simp only [dSeq, dAsg, dRet, dRaise, dRetN, dDrop, dIfS, dSkip, dVar, dC, dOp, dTup, dLst, dCons, dNil, dCB, dCall, dCallS, dCallK, gP, gT, gL, gN, gsNil, gsCons, dTest, dTruth, truD, dNotT, dAndT, dOrT, dAndV, dOrV, dNotV, dIf, dNeg, dAdd, dSub, dMul, dFdiv, dMod, dPow, dI, dLt, dLe, dGt, dGe, dEq, dNe, dIsO, dNotO, dIx, dPar, dFor, iL, iT, iR1, dNew, bLen, bAbs, bInt, bGcd, bTuple, bList, bAll, dType, dNType, dIs, dIs2, startE, List.map_cons, List.map_nil, List.length_cons, List.length_nil, List.cons_append, List.nil_append, List.getElem?_cons_zero, List.getElem?_cons_succ, List.set_cons_zero, List.set_cons_succ, Option.some.injEq, Sl.p.injEq, exists_eq_left', exists_eq_left, Nat.reduceAdd, Nat.reduceSub, List.replicate, forall_const, true_and, and_true, if_true, if_false, Bool.false_eq_true, eq_self, ite_true, ite_false, reduceCtorEq, ms_lengths, dTupG, wipeE, iL]
  refine ⟨d, a, ps, rfl, h, ?_⟩
  have gk := tp_gaps h
  have gl := gaps_len ps a
  have p30 := h.p30
  refine mapE (i := pt) (o := fun g => fr (longR g)) (G := fun g => g ∈ gapsR a ps) (fun g m R r => ?_) (gapsR a ps) [] (fun g m => m) (by simp; omega) ?_
  · obtain ⟨g1, g2, g3, g4, g5⟩ := gk g m
    simp only [dSeq, dAsg, dRet, dRaise, dRetN, dDrop, dIfS, dSkip, dVar, dC, dOp, dTup, dLst, dCons, dNil, dCB, dCall, dCallS, dCallK, gP, gT, gL, gN, gsNil, gsCons, dTest, dTruth, truD, dNotT, dAndT, dOrT, dAndV, dOrV, dNotV, dIf, dNeg, dAdd, dSub, dMul, dFdiv, dMod, dPow, dI, dLt, dLe, dGt, dGe, dEq, dNe, dIsO, dNotO, dIx, dPar, dFor, iL, iT, iR1, dNew, bLen, bAbs, bInt, bGcd, bTuple, bList, bAll, dType, dNType, dIs, dIs2, startE, List.map_cons, List.map_nil, List.length_cons, List.length_nil, List.cons_append, List.nil_append, List.getElem?_cons_zero, List.getElem?_cons_succ, List.set_cons_zero, List.set_cons_succ, Option.some.injEq, Sl.p.injEq, exists_eq_left', exists_eq_left, Nat.reduceAdd, Nat.reduceSub, List.replicate, forall_const, true_and, and_true, if_true, if_false, Bool.false_eq_true, eq_self, ite_true, ite_false, reduceCtorEq]
    exact ⟨g, rfl, g1, g2, g3, r⟩
  · simp only [List.nil_append]
    have : (gapsR a ps).map (fun g => fr (longR g)) = ((gapsR a ps).map longR).map fr := by simp
    rw [this]
    exact q
theorem vc_directions : ∀ ds Q X, p_directions ds Q X → ms_directions { nx := fun _ => Q .none, rt := Q, xx := fun x _ => X x } (startE N_directions ds) := by
  rintro ds Q X ⟨d, a, ps, rfl, h, q⟩
  simp only [dSeq, dAsg, dRet, dRaise, dRetN, dDrop, dIfS, dSkip, dVar, dC, dOp, dTup, dLst, dCons, dNil, dCB, dCall, dCallS, dCallK, gP, gT, gL, gN, gsNil, gsCons, dTest, dTruth, truD, dNotT, dAndT, dOrT, dAndV, dOrV, dNotV, dIf, dNeg, dAdd, dSub, dMul, dFdiv, dMod, dPow, dI, dLt, dLe, dGt, dGe, dEq, dNe, dIsO, dNotO, dIx, dPar, dFor, iL, iT, iR1, dNew, bLen, bAbs, bInt, bGcd, bTuple, bList, bAll, dType, dNType, dIs, dIs2, startE, List.map_cons, List.map_nil, List.length_cons, List.length_nil, List.cons_append, List.nil_append, List.getElem?_cons_zero, List.getElem?_cons_succ, List.set_cons_zero, List.set_cons_succ, Option.some.injEq, Sl.p.injEq, exists_eq_left', exists_eq_left, Nat.reduceAdd, Nat.reduceSub, List.replicate, forall_const, true_and, and_true, if_true, if_false, Bool.false_eq_true, eq_self, ite_true, ite_false, reduceCtorEq, ms_directions, dTupG, wipeE, iL]
  refine ⟨d, a, ps, rfl, h, ?_⟩
  have gk := tp_gaps h
  have gl := gaps_len ps a
  have p30 := h.p30
  refine mapE (i := pt) (o := fun g => pt (headR g)) (G := fun g => g ∈ gapsR a ps) (fun g m R r => ?_) (gapsR a ps) [] (fun g m => m) (by simp; omega) ?_
  · obtain ⟨g1, g2, g3, g4, g5⟩ := gk g m
    simp only [dSeq, dAsg, dRet, dRaise, dRetN, dDrop, dIfS, dSkip, dVar, dC, dOp, dTup, dLst, dCons, dNil, dCB, dCall, dCallS, dCallK, gP, gT, gL, gN, gsNil, gsCons, dTest, dTruth, truD, dNotT, dAndT, dOrT, dAndV, dOrV, dNotV, dIf, dNeg, dAdd, dSub, dMul, dFdiv, dMod, dPow, dI, dLt, dLe, dGt, dGe, dEq, dNe, dIsO, dNotO, dIx, dPar, dFor, iL, iT, iR1, dNew, bLen, bAbs, bInt, bGcd, bTuple, bList, bAll, dType, dNType, dIs, dIs2, startE, List.map_cons, List.map_nil, List.length_cons, List.length_nil, List.cons_append, List.nil_append, List.getElem?_cons_zero, List.getElem?_cons_succ, List.set_cons_zero, List.set_cons_succ, Option.some.injEq, Sl.p.injEq, exists_eq_left', exists_eq_left, Nat.reduceAdd, Nat.reduceSub, List.replicate, forall_const, true_and, and_true, if_true, if_false, Bool.false_eq_true, eq_self, ite_true, ite_false, reduceCtorEq]
    exact ⟨g, rfl, g1, g2, g3, by grind, r⟩
  · exact q
end K01
namespace K01
open PySem PySem.Spec L2 Fw
variable [Tabs]
theorem at_last {α : Type} (l : List α) (x : α) : atI (l ++ [x]) (-1) = some x := by
  exact atI_last l x
theorem last_at : ∀ (l : List Rat) (x : Rat), atI ((x :: l).map fr) (-1) = some (fr (lastR x l)) := fun l x => by
  have : ∃ t, x :: l = t ++ [lastR x l] := by
    induction l generalizing x with
    | nil => exact ⟨[], rfl⟩
    | cons y r ih =>
      obtain ⟨t, e⟩ := ih y
      exact ⟨x :: t, congrArg (x :: ·) e⟩
  obtain ⟨t, e⟩ := this
  rw [e, List.map_append]
  exact at_last _ _
theorem ways_loop {E : Eo} {d0 : D} {mb : DS} (hmb : mb = dApp 1 (dCall p_added (dCons (dIxO 1 (dNeg (dC (.int 1)))) (dCons (dVar 2) dNil)))) : ∀ (gs : List (List Rat)) (acc : List Rat) (w : Rat) (n : Nat) (s2 : Sl), (∀ g ∈ gs, ∀ q ∈ g, Gd q 371) → Gd w n → 371 ≤ n → n + gs.length ≤ 500 → acc.length + gs.length ≤ 1000 → (∀ s2, E.nx [.p d0, .o ((acc ++ w :: waysR w gs).map fr), s2]) →
    forGo (gP 2) mb E ((gs.map longR).map fr) [.p d0, .o ((acc ++ [w]).map fr), s2]
  | [], acc, w, n, s2, _, _, _, _, _, q => q _
  | g :: r, acc, w, n, s2, hg, hw, n0, hn, hl, q => by
    rw [List.map_cons, List.map_cons, forGo_cons]
    rw [List.length_cons] at hn hl
    have gl := longR_gd (hg g List.mem_cons_self)
    have gw := gd_add hw (gd_up gl n0)
    have ih : ∀ (s2 : Sl), forGo (gP 2) mb E ((r.map longR).map fr) [.p d0, .o (((acc ++ [w]) ++ [w + longR g]).map fr), s2] := fun s2 => ways_loop hmb r (acc ++ [w]) (w + longR g) (n + 1) s2 (fun y m => hg y (List.mem_cons_of_mem _ m)) gw (by omega) (by omega) (by simp; omega) (fun s2 => by
      rw [List.append_assoc]
      exact q s2)
    generalize forGo (gP 2) mb E ((r.map longR).map fr) = F at ih ⊢
    rw [hmb]
    simp only [dSeq, dAsg, dRet, dRaise, dRetN, dDrop, dIfS, dSkip, dVar, dC, dOp, dTup, dLst, dCons, dNil, dCB, dCall, dCallS, dCallK, gP, gT, gL, gN, gsNil, gsCons, dTest, dTruth, truD, dNotT, dAndT, dOrT, dAndV, dOrV, dNotV, dIf, dNeg, dAdd, dSub, dMul, dFdiv, dMod, dPow, dI, dLt, dLe, dGt, dGe, dEq, dNe, dIsO, dNotO, dIx, dPar, dFor, iL, iT, iR1, dNew, bLen, bAbs, bInt, bGcd, bTuple, bList, bAll, dType, dNType, dIs, dIs2, startE, List.map_cons, List.map_nil, List.length_cons, List.length_nil, List.cons_append, List.nil_append, List.getElem?_cons_zero, List.getElem?_cons_succ, List.set_cons_zero, List.set_cons_succ, Option.some.injEq, Sl.p.injEq, exists_eq_left', exists_eq_left, Nat.reduceAdd, Nat.reduceSub, List.replicate, forall_const, true_and, and_true, if_true, if_false, Bool.false_eq_true, eq_self, ite_true, ite_false, reduceCtorEq, dApp, dIxO, List.map_append, List.map_cons, List.map_nil]
    refine ⟨_, rfl, _, rfl, _, at_last _ _, ?_⟩
    refine ⟨w, longR g, rfl, sz_mono (gd_sz hw (by omega)) (by omega), sz_mono (gd_sz gl (by decide)) (by decide), by simp; omega, ?_⟩
    have := ih (.p (fr (longR g)))
    simp only [List.map_append, List.map_cons, List.map_nil] at this
    exact this
theorem gd_zero : Gd 0 371 := ⟨0, by decide, Nat.two_pow_pos _⟩
theorem vc_ways : ∀ ds Q X, p_ways ds Q X → ms_ways { nx := fun _ => Q .none, rt := Q, xx := fun x _ => X x } (startE N_ways ds) := by
  rintro ds Q X ⟨d, a, ps, rfl, h, q⟩
  simp only [dSeq, dAsg, dRet, dRaise, dRetN, dDrop, dIfS, dSkip, dVar, dC, dOp, dTup, dLst, dCons, dNil, dCB, dCall, dCallS, dCallK, gP, gT, gL, gN, gsNil, gsCons, dTest, dTruth, truD, dNotT, dAndT, dOrT, dAndV, dOrV, dNotV, dIf, dNeg, dAdd, dSub, dMul, dFdiv, dMod, dPow, dI, dLt, dLe, dGt, dGe, dEq, dNe, dIsO, dNotO, dIx, dPar, dFor, iL, iT, iR1, dNew, bLen, bAbs, bInt, bGcd, bTuple, bList, bAll, dType, dNType, dIs, dIs2, startE, List.map_cons, List.map_nil, List.length_cons, List.length_nil, List.cons_append, List.nil_append, List.getElem?_cons_zero, List.getElem?_cons_succ, List.set_cons_zero, List.set_cons_succ, Option.some.injEq, Sl.p.injEq, exists_eq_left', exists_eq_left, Nat.reduceAdd, Nat.reduceSub, List.replicate, forall_const, true_and, and_true, if_true, if_false, Bool.false_eq_true, eq_self, ite_true, ite_false, reduceCtorEq, ms_ways, dAsgO, mLst, iT]
  have gk := tp_gaps h
  have gl := gaps_len ps a
  have p30 := h.p30
  refine ⟨by decide, by decide, d, a, ps, rfl, h, ?_⟩
  refine ways_loop rfl (gapsR a ps) [] 0 371 _ (fun g m => (gk g m).2.2.2.2) gd_zero (by decide) (by omega) (by simp; omega) fun s2 => ?_
  simp only [dFrz, List.nil_append]
  refine ⟨_, rfl, ?_⟩
  simp only [dSeq, dAsg, dRet, dRaise, dRetN, dDrop, dIfS, dSkip, dVar, dC, dOp, dTup, dLst, dCons, dNil, dCB, dCall, dCallS, dCallK, gP, gT, gL, gN, gsNil, gsCons, dTest, dTruth, truD, dNotT, dAndT, dOrT, dAndV, dOrV, dNotV, dIf, dNeg, dAdd, dSub, dMul, dFdiv, dMod, dPow, dI, dLt, dLe, dGt, dGe, dEq, dNe, dIsO, dNotO, dIx, dPar, dFor, iL, iT, iR1, dNew, bLen, bAbs, bInt, bGcd, bTuple, bList, bAll, dType, dNType, dIs, dIs2, startE, List.map_cons, List.map_nil, List.length_cons, List.length_nil, List.cons_append, List.nil_append, List.getElem?_cons_zero, List.getElem?_cons_succ, List.set_cons_zero, List.set_cons_succ, Option.some.injEq, Sl.p.injEq, exists_eq_left', exists_eq_left, Nat.reduceAdd, Nat.reduceSub, List.replicate, forall_const, true_and, and_true, if_true, if_false, Bool.false_eq_true, eq_self, ite_true, ite_false, reduceCtorEq]
  exact q
theorem vc_whole : ∀ ds Q X, p_whole ds Q X → ms_whole { nx := fun _ => Q .none, rt := Q, xx := fun x _ => X x } (startE N_whole ds) := by
  rintro ds Q X ⟨d, a, ps, rfl, h, q⟩
  simp only [dSeq, dAsg, dRet, dRaise, dRetN, dDrop, dIfS, dSkip, dVar, dC, dOp, dTup, dLst, dCons, dNil, dCB, dCall, dCallS, dCallK, gP, gT, gL, gN, gsNil, gsCons, dTest, dTruth, truD, dNotT, dAndT, dOrT, dAndV, dOrV, dNotV, dIf, dNeg, dAdd, dSub, dMul, dFdiv, dMod, dPow, dI, dLt, dLe, dGt, dGe, dEq, dNe, dIsO, dNotO, dIx, dPar, dFor, iL, iT, iR1, dNew, bLen, bAbs, bInt, bGcd, bTuple, bList, bAll, dType, dNType, dIs, dIs2, startE, List.map_cons, List.map_nil, List.length_cons, List.length_nil, List.cons_append, List.nil_append, List.getElem?_cons_zero, List.getElem?_cons_succ, List.set_cons_zero, List.set_cons_succ, Option.some.injEq, Sl.p.injEq, exists_eq_left', exists_eq_left, Nat.reduceAdd, Nat.reduceSub, List.replicate, forall_const, true_and, and_true, if_true, if_false, Bool.false_eq_true, eq_self, ite_true, ite_false, reduceCtorEq, ms_whole]
  exact ⟨d, a, ps, rfl, h, _, last_at _ _, q⟩
theorem vc__law_div : ∀ ds Q X, p__law_div ds Q X → ms__law_div { nx := fun _ => Q .none, rt := Q, xx := fun x _ => X x } (startE N__law_div ds) := by
  rintro ds Q X ⟨a, b, rfl, ha, hb, b0, q⟩
  simp only [dSeq, dAsg, dRet, dRaise, dRetN, dDrop, dIfS, dSkip, dVar, dC, dOp, dTup, dLst, dCons, dNil, dCB, dCall, dCallS, dCallK, gP, gT, gL, gN, gsNil, gsCons, dTest, dTruth, truD, dNotT, dAndT, dOrT, dAndV, dOrV, dNotV, dIf, dNeg, dAdd, dSub, dMul, dFdiv, dMod, dPow, dI, dLt, dLe, dGt, dGe, dEq, dNe, dIsO, dNotO, dIx, dPar, dFor, iL, iT, iR1, dNew, bLen, bAbs, bInt, bGcd, bTuple, bList, bAll, dType, dNType, dIs, dIs2, startE, List.map_cons, List.map_nil, List.length_cons, List.length_nil, List.cons_append, List.nil_append, List.getElem?_cons_zero, List.getElem?_cons_succ, List.set_cons_zero, List.set_cons_succ, Option.some.injEq, Sl.p.injEq, exists_eq_left', exists_eq_left, Nat.reduceAdd, Nat.reduceSub, List.replicate, forall_const, true_and, and_true, if_true, if_false, Bool.false_eq_true, eq_self, ite_true, ite_false, reduceCtorEq, ms__law_div, fr, at0, at1]
  have w0 : (0:Nat) < 4400 := by decide
  have w1 : 4400 + 4400 ≤ 1000000 := by decide
  have da := den_pos a
  have bn : b.num ≠ 0 := fun z => b0 (Rat.num_eq_zero.mp z)
  have ad : (a.den : Int).natAbs < 2 ^ 4400 := by simpa using ha.2
  have bd : (b.den : Int).natAbs < 2 ^ 4400 := by simpa using hb.2
  refine ⟨MulOk.w ha.1 bd w0 w0 w1, MulOk.w ad hb.1 w0 w0 w1, _, _, rfl, ?_, ?_, ?_⟩
  · exact Int.mul_ne_zero (by omega) bn
  · exact Nat.lt_of_lt_of_le (wide_lt (a := 4400) (b := 4400) ad hb.1) (Nat.pow_le_pow_right (by decide) (by decide))
  · have e : Rat.divInt (a.num * b.den) (a.den * b.num) = a / b := by
      have ea : a = Rat.divInt a.num a.den := (Rat.num_divInt_den a).symm
      have eb : b = Rat.divInt b.num b.den := (Rat.num_divInt_den b).symm
      rw [Rat.div_def]
      conv => rhs; rw [ea, eb]
      rw [Rat.inv_divInt, Rat.divInt_mul_divInt]
    rw [e]
    exact q
theorem long_go {E : Eo} {d0 : D} {mb : DS} (hmb : mb = dIfS (dTruth (dCall p__law_under (dCons (dVar 1) (dCons (dCall p__law_size (dCons (dVar 2) dNil)) dNil)))) (dAsg (dCall p__law_size (dCons (dVar 2) dNil)) (gP 1)) dSkip) : ∀ (r : List Rat) (m : Rat) (s2 : Sl), SzA r 1000 → Sz m 1000 → (∀ s2, E.nx [.p d0, .p (fr (maxR m (r.map absR))), s2]) →
    forGo (gP 2) mb E (r.map fr) [.p d0, .p (fr m), s2]
  | [], m, s2, _, _, q => q _
  | x :: r, m, s2, hs, hm, q => by
    rw [List.map_cons, forGo_cons]
    have hx := sz_abs (hs x List.mem_cons_self)
    have hr : SzA r 1000 := fun y k => hs y (List.mem_cons_of_mem _ k)
    have ih : ∀ (s2 : Sl), forGo (gP 2) mb E (r.map fr) [.p d0, .p (fr (if m < absR x then absR x else m)), s2] := fun s2 => long_go hmb r _ s2 hr (by split <;> assumption) q
    generalize forGo (gP 2) mb E (r.map fr) = F at ih ⊢
    rw [hmb]
    simp only [dSeq, dAsg, dRet, dRaise, dRetN, dDrop, dIfS, dSkip, dVar, dC, dOp, dTup, dLst, dCons, dNil, dCB, dCall, dCallS, dCallK, gP, gT, gL, gN, gsNil, gsCons, dTest, dTruth, truD, dNotT, dAndT, dOrT, dAndV, dOrV, dNotV, dIf, dNeg, dAdd, dSub, dMul, dFdiv, dMod, dPow, dI, dLt, dLe, dGt, dGe, dEq, dNe, dIsO, dNotO, dIx, dPar, dFor, iL, iT, iR1, dNew, bLen, bAbs, bInt, bGcd, bTuple, bList, bAll, dType, dNType, dIs, dIs2, startE, List.map_cons, List.map_nil, List.length_cons, List.length_nil, List.cons_append, List.nil_append, List.getElem?_cons_zero, List.getElem?_cons_succ, List.set_cons_zero, List.set_cons_succ, Option.some.injEq, Sl.p.injEq, exists_eq_left', exists_eq_left, Nat.reduceAdd, Nat.reduceSub, List.replicate, forall_const, true_and, and_true, if_true, if_false, Bool.false_eq_true, eq_self, ite_true, ite_false, reduceCtorEq]
    refine ⟨x, rfl, ?_⟩
    refine is_less_ok (n := 1000) (by decide) hm hx ?_
    simp only [lessD_lt]
    by_cases c : m < absR x
    · rw [if_pos c] at ih
      simp only [c, decide_true, if_true]
      exact ⟨x, rfl, ih _⟩
    · rw [if_neg c] at ih
      simp only [c, decide_false, Bool.false_eq_true, if_false]
      exact ih _
theorem vc__law_long : ∀ ds Q X, p__law_long ds Q X → ms__law_long { nx := fun _ => Q .none, rt := Q, xx := fun x _ => X x } (startE N__law_long ds) := by
  rintro ds Q X ⟨d, g, rfl, hd, h3, hs, q⟩
  simp only [dSeq, dAsg, dRet, dRaise, dRetN, dDrop, dIfS, dSkip, dVar, dC, dOp, dTup, dLst, dCons, dNil, dCB, dCall, dCallS, dCallK, gP, gT, gL, gN, gsNil, gsCons, dTest, dTruth, truD, dNotT, dAndT, dOrT, dAndV, dOrV, dNotV, dIf, dNeg, dAdd, dSub, dMul, dFdiv, dMod, dPow, dI, dLt, dLe, dGt, dGe, dEq, dNe, dIsO, dNotO, dIx, dPar, dFor, iL, iT, iR1, dNew, bLen, bAbs, bInt, bGcd, bTuple, bList, bAll, dType, dNType, dIs, dIs2, startE, List.map_cons, List.map_nil, List.length_cons, List.length_nil, List.cons_append, List.nil_append, List.getElem?_cons_zero, List.getElem?_cons_succ, List.set_cons_zero, List.set_cons_succ, Option.some.injEq, Sl.p.injEq, exists_eq_left', exists_eq_left, Nat.reduceAdd, Nat.reduceSub, List.replicate, forall_const, true_and, and_true, if_true, if_false, Bool.false_eq_true, eq_self, ite_true, ite_false, reduceCtorEq, ms__law_long, iA]
  have go : ∀ s2 : Sl, forGo (gP 2) (dIfS (dTruth (dCall p__law_under (dCons (dVar 1) (dCons (dCall p__law_size (dCons (dVar 2) dNil)) dNil)))) (dAsg (dCall p__law_size (dCons (dVar 2) dNil)) (gP 1)) dSkip) { nx := dRet (dVar 1) { nx := fun _ => Q .none, rt := Q, xx := fun x _ => X x }, rt := Q, xx := fun x _ => X x } (g.map fr) [.p d, .p (fr 0), s2] := fun s2 => long_go rfl g 0 s2 hs (sz_mono sz_zero (by decide)) fun s2 => by
    simp only [dSeq, dAsg, dRet, dRaise, dRetN, dDrop, dIfS, dSkip, dVar, dC, dOp, dTup, dLst, dCons, dNil, dCB, dCall, dCallS, dCallK, gP, gT, gL, gN, gsNil, gsCons, dTest, dTruth, truD, dNotT, dAndT, dOrT, dAndV, dOrV, dNotV, dIf, dNeg, dAdd, dSub, dMul, dFdiv, dMod, dPow, dI, dLt, dLe, dGt, dGe, dEq, dNe, dIsO, dNotO, dIx, dPar, dFor, iL, iT, iR1, dNew, bLen, bAbs, bInt, bGcd, bTuple, bList, bAll, dType, dNType, dIs, dIs2, startE, List.map_cons, List.map_nil, List.length_cons, List.length_nil, List.cons_append, List.nil_append, List.getElem?_cons_zero, List.getElem?_cons_succ, List.set_cons_zero, List.set_cons_succ, Option.some.injEq, Sl.p.injEq, exists_eq_left', exists_eq_left, Nat.reduceAdd, Nat.reduceSub, List.replicate, forall_const, true_and, and_true, if_true, if_false, Bool.false_eq_true, eq_self, ite_true, ite_false, reduceCtorEq]
    exact q
  rcases hd with rfl | rfl
  · exact ⟨by decide, go _⟩
  · exact ⟨by decide, go _⟩
theorem gaps_go {P : List D → Prop} {me : DE} {es0 : En} {T : List D} (hme : ∀ (k : Nat) (a b : List Rat), T[k]? = some (pt a) → T[k + 1]? = some (pt b) → b.length = a.length → a.length ≤ 3 → SzA a 1000 → SzA b 1000 → ∀ R : D → Prop, R (.list ((gapR a b).map fr)) → gP 4 (.int k) es0 (fun es1 => me es1 R (fun _ => False))) : ∀ (ps : List (List Rat)) (a : List Rat) (k : Nat) (acc : List D), T.drop k = (a :: ps).map pt → a.length ≤ 3 → (∀ q ∈ a, Gd q 370) → Wk a ps → acc.length + ps.length ≤ 1000 → P (acc ++ (gapsR a ps).map fun g => PyData.list (g.map fr)) →
    lcGo (gP 4) mYes me es0 (Fw.intsFrom k ps.length) acc P
  | [], a, k, acc, _, _, _, _, _, q => by
    show P acc
    simpa [gapsR] using q
  | b :: r, a, k, acc, hT, a3, ga, h, hl, q => by
    unfold Wk at h
    obtain ⟨e, hne, gb, hw⟩ := h
    rw [List.length_cons] at hl ⊢
    rw [intsFrom_cons]
    have t0 : T[k]? = some (pt a) := by
      have z : (T.drop k)[0]? = some (pt a) := by rw [hT]; rfl
      rw [List.getElem?_drop] at z
      exact z
    have t1 : T[k + 1]? = some (pt b) := by
      have z : (T.drop k)[1]? = some (pt b) := by rw [hT]; rfl
      rw [List.getElem?_drop] at z
      exact z
    have hT1 : T.drop (k + 1) = (b :: r).map pt := by
      rw [← List.drop_drop, hT]
      rfl
    unfold lcGo mYes
    simp only [if_true]
    refine hme k a b t0 t1 e a3 (gd_szA ga (by decide) (by decide)) (gd_szA gb (by decide) (by decide)) _ ⟨by omega, ?_⟩
    refine gaps_go hme r b (k + 1) _ hT1 (by omega) gb hw (by simp; omega) ?_
    rw [List.append_assoc]
    exact q
theorem zipW_swap (f : Rat → Rat → Rat) : ∀ a b : List Rat, List.zipWith f a b = List.zipWith (fun y x => f x y) b a
  | [], [] => rfl
  | [], _ :: _ => rfl
  | _ :: _, [] => rfl
  | x :: a, y :: b => by
    show f x y :: _ = f x y :: _
    rw [zipW_swap f a b]
theorem vc__law_gaps : ∀ ds Q X, p__law_gaps ds Q X → ms__law_gaps { nx := fun _ => Q .none, rt := Q, xx := fun x _ => X x } (startE N__law_gaps ds) := by
  rintro ds Q X ⟨d, a, ps, rfl, h, q⟩
  obtain ⟨ss, rfl, e, hh, hl⟩ := h.ex
  have p30 := h.p30
  simp only [dSeq, dAsg, dRet, dRaise, dRetN, dDrop, dIfS, dSkip, dVar, dC, dOp, dTup, dLst, dCons, dNil, dCB, dCall, dCallS, dCallK, gP, gT, gL, gN, gsNil, gsCons, dTest, dTruth, truD, dNotT, dAndT, dOrT, dAndV, dOrV, dNotV, dIf, dNeg, dAdd, dSub, dMul, dFdiv, dMod, dPow, dI, dLt, dLe, dGt, dGe, dEq, dNe, dIsO, dNotO, dIx, dPar, dFor, iL, iT, iR1, dNew, bLen, bAbs, bInt, bGcd, bTuple, bList, bAll, dType, dNType, dIs, dIs2, startE, List.map_cons, List.map_nil, List.length_cons, List.length_nil, List.cons_append, List.nil_append, List.getElem?_cons_zero, List.getElem?_cons_succ, List.set_cons_zero, List.set_cons_succ, Option.some.injEq, Sl.p.injEq, exists_eq_left', exists_eq_left, Nat.reduceAdd, Nat.reduceSub, List.replicate, forall_const, true_and, and_true, if_true, if_false, Bool.false_eq_true, eq_self, ite_true, ite_false, reduceCtorEq, ms__law_gaps, dLc, wipeE]
  refine ⟨pt a, ss, rfl, hh, by omega, ?_⟩
  rw [e]
  have el : (((ps.map pt).length + 1 : Nat) : Int) - 1 = ps.length := by simp
  have ept : ∀ g : List Rat, pt g = .tuple (g.map fr) := fun _ => rfl
  simp only [dSeq, dAsg, dRet, dRaise, dRetN, dDrop, dIfS, dSkip, dVar, dC, dOp, dTup, dLst, dCons, dNil, dCB, dCall, dCallS, dCallK, gP, gT, gL, gN, gsNil, gsCons, dTest, dTruth, truD, dNotT, dAndT, dOrT, dAndV, dOrV, dNotV, dIf, dNeg, dAdd, dSub, dMul, dFdiv, dMod, dPow, dI, dLt, dLe, dGt, dGe, dEq, dNe, dIsO, dNotO, dIx, dPar, dFor, iL, iT, iR1, dNew, bLen, bAbs, bInt, bGcd, bTuple, bList, bAll, dType, dNType, dIs, dIs2, startE, List.map_cons, List.map_nil, List.length_cons, List.length_nil, List.cons_append, List.nil_append, List.getElem?_cons_zero, List.getElem?_cons_succ, List.set_cons_zero, List.set_cons_succ, Option.some.injEq, Sl.p.injEq, exists_eq_left', exists_eq_left, Nat.reduceAdd, Nat.reduceSub, List.replicate, forall_const, true_and, and_true, if_true, if_false, Bool.false_eq_true, eq_self, ite_true, ite_false, reduceCtorEq, el]
  refine ⟨by omega, by omega, ?_⟩
  rw [Int.toNat_natCast]
  refine gaps_go (T := pt a :: ps.map pt) (fun k x y tx ty h1 h2 h3 h4 R r => ?_) ps a 0 [] rfl h.a3 h.ga h.wk (by simp; omega) ?_
  · have t0 : atI (pt a :: ps.map pt) (k : Int) = some (pt x) := atI_nat tx
    have t1 : atI (pt a :: ps.map pt) ((k : Int) + 1) = some (pt y) := by
      have := atI_nat (j := k + 1) ty
      simpa using this
    simp only [dSeq, dAsg, dRet, dRaise, dRetN, dDrop, dIfS, dSkip, dVar, dC, dOp, dTup, dLst, dCons, dNil, dCB, dCall, dCallS, dCallK, gP, gT, gL, gN, gsNil, gsCons, dTest, dTruth, truD, dNotT, dAndT, dOrT, dAndV, dOrV, dNotV, dIf, dNeg, dAdd, dSub, dMul, dFdiv, dMod, dPow, dI, dLt, dLe, dGt, dGe, dEq, dNe, dIsO, dNotO, dIx, dPar, dFor, iL, iT, iR1, dNew, bLen, bAbs, bInt, bGcd, bTuple, bList, bAll, dType, dNType, dIs, dIs2, startE, List.map_cons, List.map_nil, List.length_cons, List.length_nil, List.cons_append, List.nil_append, List.getElem?_cons_zero, List.getElem?_cons_succ, List.set_cons_zero, List.set_cons_succ, Option.some.injEq, Sl.p.injEq, exists_eq_left', exists_eq_left, Nat.reduceAdd, Nat.reduceSub, List.replicate, forall_const, true_and, and_true, if_true, if_false, Bool.false_eq_true, eq_self, ite_true, ite_false, reduceCtorEq, dLc, wipeE, iZ]
    refine ⟨_, t1, _, t0, ?_⟩
    simp only [ept]
    refine zipE (f := fun u v => u - v) (G := fun u v => Sz u 1000 ∧ Sz v 1000) (fun u v hG R' r' => ?_) y x [] (by omega) (fun u m v n => ⟨h4 u m, h3 v n⟩) (by simp; omega) ?_
    · simp only [dSeq, dAsg, dRet, dRaise, dRetN, dDrop, dIfS, dSkip, dVar, dC, dOp, dTup, dLst, dCons, dNil, dCB, dCall, dCallS, dCallK, gP, gT, gL, gN, gsNil, gsCons, dTest, dTruth, truD, dNotT, dAndT, dOrT, dAndV, dOrV, dNotV, dIf, dNeg, dAdd, dSub, dMul, dFdiv, dMod, dPow, dI, dLt, dLe, dGt, dGe, dEq, dNe, dIsO, dNotO, dIx, dPar, dFor, iL, iT, iR1, dNew, bLen, bAbs, bInt, bGcd, bTuple, bList, bAll, dType, dNType, dIs, dIs2, startE, List.map_cons, List.map_nil, List.length_cons, List.length_nil, List.cons_append, List.nil_append, List.getElem?_cons_zero, List.getElem?_cons_succ, List.set_cons_zero, List.set_cons_succ, Option.some.injEq, Sl.p.injEq, exists_eq_left', exists_eq_left, Nat.reduceAdd, Nat.reduceSub, List.replicate, forall_const, true_and, and_true, if_true, if_false, Bool.false_eq_true, eq_self, ite_true, ite_false, reduceCtorEq]
      exact take_ok (n := 1000) (by decide) hG.1 hG.2 r'
    · have ee : List.zipWith (fun u v => u - v) y x = gapR x y := zipW_swap _ _ _
      rw [ee]
      exact r
  · exact q
end K01
namespace K01
open PySem PySem.Spec L2 Fw
variable [Tabs]
theorem heads_loop {E : Eo} {d0 : D} {mb : DS} (hmb : mb = dSeq (dAsg (dCall p__law_long (dCons (dVar 2) dNil)) (gP 3))
  (dApp 1 (dCB bTuple (dCons (dNew (dLc (iL (dVar 2)) (gP 4) mYes (dCall p__law_div (dCons (dVar 4) (dCons (dVar 3) dNil))) [4])) dNil)))) : ∀ (gs : List (List Rat)) (acc : List D) (s2 s3 s4 : Sl), (∀ g ∈ gs, g.length ≤ 3 ∧ SzA g 1000 ∧ 0 < longR g) → acc.length + gs.length ≤ 1000 → (∀ s2 s3 s4, E.nx [.p d0, .o (acc ++ gs.map fun g => pt (headR g)), s2, s3, s4]) →
    forGo (gP 2) mb E (gs.map fun g => PyData.list (g.map fr)) [.p d0, .o acc, s2, s3, s4]
  | [], acc, s2, s3, s4, _, _, q => by
    have := q s2 s3 s4
    show E.nx _
    simpa using this
  | g :: r, acc, s2, s3, s4, hg, hl, q => by
    rw [List.map_cons, forGo_cons]
    rw [List.length_cons] at hl
    obtain ⟨g3, gs, gp⟩ := hg g List.mem_cons_self
    have ih : ∀ (s2 s3 s4 : Sl), forGo (gP 2) mb E (r.map fun g => PyData.list (g.map fr)) [.p d0, .o (acc ++ [pt (headR g)]), s2, s3, s4] := fun s2 s3 s4 => heads_loop hmb r _ s2 s3 s4 (fun y m => hg y (List.mem_cons_of_mem _ m)) (by simp; omega) (fun s2 s3 s4 => by
      rw [List.append_assoc]
      exact q s2 s3 s4)
    generalize forGo (gP 2) mb E (r.map fun g => PyData.list (g.map fr)) = F at ih ⊢
    rw [hmb]
    have hL := longR_sz gs (by decide)
    simp only [dSeq, dAsg, dRet, dRaise, dRetN, dDrop, dIfS, dSkip, dVar, dC, dOp, dTup, dLst, dCons, dNil, dCB, dCall, dCallS, dCallK, gP, gT, gL, gN, gsNil, gsCons, dTest, dTruth, truD, dNotT, dAndT, dOrT, dAndV, dOrV, dNotV, dIf, dNeg, dAdd, dSub, dMul, dFdiv, dMod, dPow, dI, dLt, dLe, dGt, dGe, dEq, dNe, dIsO, dNotO, dIx, dPar, dFor, iL, iT, iR1, dNew, bLen, bAbs, bInt, bGcd, bTuple, bList, bAll, dType, dNType, dIs, dIs2, startE, List.map_cons, List.map_nil, List.length_cons, List.length_nil, List.cons_append, List.nil_append, List.getElem?_cons_zero, List.getElem?_cons_succ, List.set_cons_zero, List.set_cons_succ, Option.some.injEq, Sl.p.injEq, exists_eq_left', exists_eq_left, Nat.reduceAdd, Nat.reduceSub, List.replicate, forall_const, true_and, and_true, if_true, if_false, Bool.false_eq_true, eq_self, ite_true, ite_false, reduceCtorEq, dApp, dLc, wipeE, iL]
    refine ⟨_, g, rfl, .inl rfl, g3, gs, _, rfl, ?_⟩
    refine mapE (i := fr) (o := fun x => fr (x / longR g)) (G := fun x => Sz x 1000) (fun x h R r => ?_) g [] gs (by simp; omega) ?_
    · simp only [dSeq, dAsg, dRet, dRaise, dRetN, dDrop, dIfS, dSkip, dVar, dC, dOp, dTup, dLst, dCons, dNil, dCB, dCall, dCallS, dCallK, gP, gT, gL, gN, gsNil, gsCons, dTest, dTruth, truD, dNotT, dAndT, dOrT, dAndV, dOrV, dNotV, dIf, dNeg, dAdd, dSub, dMul, dFdiv, dMod, dPow, dI, dLt, dLe, dGt, dGe, dEq, dNe, dIsO, dNotO, dIx, dPar, dFor, iL, iT, iR1, dNew, bLen, bAbs, bInt, bGcd, bTuple, bList, bAll, dType, dNType, dIs, dIs2, startE, List.map_cons, List.map_nil, List.length_cons, List.length_nil, List.cons_append, List.nil_append, List.getElem?_cons_zero, List.getElem?_cons_succ, List.set_cons_zero, List.set_cons_succ, Option.some.injEq, Sl.p.injEq, exists_eq_left', exists_eq_left, Nat.reduceAdd, Nat.reduceSub, List.replicate, forall_const, true_and, and_true, if_true, if_false, Bool.false_eq_true, eq_self, ite_true, ite_false, reduceCtorEq]
      exact ⟨x, longR g, rfl, sz_mono h (by decide), sz_mono hL (by decide), by grind, r⟩
    · simp only [List.nil_append]
      have : g.map (fun x => fr (x / longR g)) = (headR g).map fr := by simp [headR]
      rw [this]
      exact ⟨by omega, ih _ _ _⟩
theorem vc__law_heads : ∀ ds Q X, p__law_heads ds Q X → ms__law_heads { nx := fun _ => Q .none, rt := Q, xx := fun x _ => X x } (startE N__law_heads ds) := by
  rintro ds Q X ⟨d, a, ps, rfl, h, q⟩
  have gk := tp_gaps h
  have gl := gaps_len ps a
  have p30 := h.p30
  simp only [dSeq, dAsg, dRet, dRaise, dRetN, dDrop, dIfS, dSkip, dVar, dC, dOp, dTup, dLst, dCons, dNil, dCB, dCall, dCallS, dCallK, gP, gT, gL, gN, gsNil, gsCons, dTest, dTruth, truD, dNotT, dAndT, dOrT, dAndV, dOrV, dNotV, dIf, dNeg, dAdd, dSub, dMul, dFdiv, dMod, dPow, dI, dLt, dLe, dGt, dGe, dEq, dNe, dIsO, dNotO, dIx, dPar, dFor, iL, iT, iR1, dNew, bLen, bAbs, bInt, bGcd, bTuple, bList, bAll, dType, dNType, dIs, dIs2, startE, List.map_cons, List.map_nil, List.length_cons, List.length_nil, List.cons_append, List.nil_append, List.getElem?_cons_zero, List.getElem?_cons_succ, List.set_cons_zero, List.set_cons_succ, Option.some.injEq, Sl.p.injEq, exists_eq_left', exists_eq_left, Nat.reduceAdd, Nat.reduceSub, List.replicate, forall_const, true_and, and_true, if_true, if_false, Bool.false_eq_true, eq_self, ite_true, ite_false, reduceCtorEq, ms__law_heads, dAsgO, mLst, iL]
  refine ⟨by decide, by decide, d, a, ps, rfl, h, ?_⟩
  refine heads_loop rfl (gapsR a ps) [] _ _ _ (fun g m => ⟨(gk g m).2.1, (gk g m).2.2.1, (gk g m).2.2.2.1⟩) (by simp; omega) fun s2 s3 s4 => ?_
  simp only [dFrz, List.nil_append]
  refine ⟨_, rfl, ?_⟩
  simp only [dSeq, dAsg, dRet, dRaise, dRetN, dDrop, dIfS, dSkip, dVar, dC, dOp, dTup, dLst, dCons, dNil, dCB, dCall, dCallS, dCallK, gP, gT, gL, gN, gsNil, gsCons, dTest, dTruth, truD, dNotT, dAndT, dOrT, dAndV, dOrV, dNotV, dIf, dNeg, dAdd, dSub, dMul, dFdiv, dMod, dPow, dI, dLt, dLe, dGt, dGe, dEq, dNe, dIsO, dNotO, dIx, dPar, dFor, iL, iT, iR1, dNew, bLen, bAbs, bInt, bGcd, bTuple, bList, bAll, dType, dNType, dIs, dIs2, startE, List.map_cons, List.map_nil, List.length_cons, List.length_nil, List.cons_append, List.nil_append, List.getElem?_cons_zero, List.getElem?_cons_succ, List.set_cons_zero, List.set_cons_succ, Option.some.injEq, Sl.p.injEq, exists_eq_left', exists_eq_left, Nat.reduceAdd, Nat.reduceSub, List.replicate, forall_const, true_and, and_true, if_true, if_false, Bool.false_eq_true, eq_self, ite_true, ite_false, reduceCtorEq]
  exact q
theorem marks_loop {E : Eo} {d0 : D} {mb : DS} (hmb : mb = dApp 1 (dCall p__law_add (dCons (dIxO 1 (dNeg (dC (.int 1)))) (dCons (dCall p__law_long (dCons (dVar 2) dNil)) dNil)))) : ∀ (gs : List (List Rat)) (acc : List Rat) (w : Rat) (n : Nat) (s2 : Sl), (∀ g ∈ gs, g.length ≤ 3 ∧ ∀ q ∈ g, Gd q 371) → Gd w n → 371 ≤ n → n + gs.length ≤ 500 → acc.length + gs.length ≤ 1000 → (∀ s2, E.nx [.p d0, .o ((acc ++ w :: waysR w gs).map fr), s2]) →
    forGo (gP 2) mb E (gs.map fun g => PyData.list (g.map fr)) [.p d0, .o ((acc ++ [w]).map fr), s2]
  | [], acc, w, n, s2, _, _, _, _, _, q => q _
  | g :: r, acc, w, n, s2, hg, hw, n0, hn, hl, q => by
    rw [List.map_cons, forGo_cons]
    rw [List.length_cons] at hn hl
    obtain ⟨g3, gg⟩ := hg g List.mem_cons_self
    have gl := longR_gd gg
    have gw := gd_add hw (gd_up gl n0)
    have ih : ∀ (s2 : Sl), forGo (gP 2) mb E (r.map fun g => PyData.list (g.map fr)) [.p d0, .o (((acc ++ [w]) ++ [w + longR g]).map fr), s2] := fun s2 => marks_loop hmb r (acc ++ [w]) (w + longR g) (n + 1) s2 (fun y m => hg y (List.mem_cons_of_mem _ m)) gw (by omega) (by omega) (by simp; omega) (fun s2 => by
      rw [List.append_assoc]
      exact q s2)
    generalize forGo (gP 2) mb E (r.map fun g => PyData.list (g.map fr)) = F at ih ⊢
    rw [hmb]
    simp only [dSeq, dAsg, dRet, dRaise, dRetN, dDrop, dIfS, dSkip, dVar, dC, dOp, dTup, dLst, dCons, dNil, dCB, dCall, dCallS, dCallK, gP, gT, gL, gN, gsNil, gsCons, dTest, dTruth, truD, dNotT, dAndT, dOrT, dAndV, dOrV, dNotV, dIf, dNeg, dAdd, dSub, dMul, dFdiv, dMod, dPow, dI, dLt, dLe, dGt, dGe, dEq, dNe, dIsO, dNotO, dIx, dPar, dFor, iL, iT, iR1, dNew, bLen, bAbs, bInt, bGcd, bTuple, bList, bAll, dType, dNType, dIs, dIs2, startE, List.map_cons, List.map_nil, List.length_cons, List.length_nil, List.cons_append, List.nil_append, List.getElem?_cons_zero, List.getElem?_cons_succ, List.set_cons_zero, List.set_cons_succ, Option.some.injEq, Sl.p.injEq, exists_eq_left', exists_eq_left, Nat.reduceAdd, Nat.reduceSub, List.replicate, forall_const, true_and, and_true, if_true, if_false, Bool.false_eq_true, eq_self, ite_true, ite_false, reduceCtorEq, dApp, dIxO, List.map_append, List.map_cons, List.map_nil]
    refine ⟨_, rfl, _, rfl, _, at_last _ _, ?_⟩
    refine ⟨_, g, rfl, .inl rfl, g3, gd_szA gg (by decide) (by decide), ?_⟩
    refine ⟨w, longR g, rfl, sz_mono (gd_sz hw (by omega)) (by omega), sz_mono (gd_sz gl (by decide)) (by decide), by simp; omega, ?_⟩
    have := ih (.p (.list (g.map fr)))
    simp only [List.map_append, List.map_cons, List.map_nil] at this
    exact this
theorem vc__law_marks : ∀ ds Q X, p__law_marks ds Q X → ms__law_marks { nx := fun _ => Q .none, rt := Q, xx := fun x _ => X x } (startE N__law_marks ds) := by
  rintro ds Q X ⟨d, a, ps, rfl, h, q⟩
  have gk := tp_gaps h
  have gl := gaps_len ps a
  have p30 := h.p30
  simp only [dSeq, dAsg, dRet, dRaise, dRetN, dDrop, dIfS, dSkip, dVar, dC, dOp, dTup, dLst, dCons, dNil, dCB, dCall, dCallS, dCallK, gP, gT, gL, gN, gsNil, gsCons, dTest, dTruth, truD, dNotT, dAndT, dOrT, dAndV, dOrV, dNotV, dIf, dNeg, dAdd, dSub, dMul, dFdiv, dMod, dPow, dI, dLt, dLe, dGt, dGe, dEq, dNe, dIsO, dNotO, dIx, dPar, dFor, iL, iT, iR1, dNew, bLen, bAbs, bInt, bGcd, bTuple, bList, bAll, dType, dNType, dIs, dIs2, startE, List.map_cons, List.map_nil, List.length_cons, List.length_nil, List.cons_append, List.nil_append, List.getElem?_cons_zero, List.getElem?_cons_succ, List.set_cons_zero, List.set_cons_succ, Option.some.injEq, Sl.p.injEq, exists_eq_left', exists_eq_left, Nat.reduceAdd, Nat.reduceSub, List.replicate, forall_const, true_and, and_true, if_true, if_false, Bool.false_eq_true, eq_self, ite_true, ite_false, reduceCtorEq, ms__law_marks, dAsgO, mLst, iL]
  refine ⟨by decide, by decide, by decide, d, a, ps, rfl, h, ?_⟩
  refine marks_loop rfl (gapsR a ps) [] 0 371 _ (fun g m => ⟨(gk g m).2.1, (gk g m).2.2.2.2⟩) gd_zero (by decide) (by omega) (by simp; omega) fun s2 => ?_
  simp only [dFrz, List.nil_append]
  refine ⟨_, rfl, ?_⟩
  simp only [dSeq, dAsg, dRet, dRaise, dRetN, dDrop, dIfS, dSkip, dVar, dC, dOp, dTup, dLst, dCons, dNil, dCB, dCall, dCallS, dCallK, gP, gT, gL, gN, gsNil, gsCons, dTest, dTruth, truD, dNotT, dAndT, dOrT, dAndV, dOrV, dNotV, dIf, dNeg, dAdd, dSub, dMul, dFdiv, dMod, dPow, dI, dLt, dLe, dGt, dGe, dEq, dNe, dIsO, dNotO, dIx, dPar, dFor, iL, iT, iR1, dNew, bLen, bAbs, bInt, bGcd, bTuple, bList, bAll, dType, dNType, dIs, dIs2, startE, List.map_cons, List.map_nil, List.length_cons, List.length_nil, List.cons_append, List.nil_append, List.getElem?_cons_zero, List.getElem?_cons_succ, List.set_cons_zero, List.set_cons_succ, Option.some.injEq, Sl.p.injEq, exists_eq_left', exists_eq_left, Nat.reduceAdd, Nat.reduceSub, List.replicate, forall_const, true_and, and_true, if_true, if_false, Bool.false_eq_true, eq_self, ite_true, ite_false, reduceCtorEq]
  exact q
end K01
namespace K01
open PySem PySem.Spec L2 Fw
variable [Tabs]
theorem chain_pts : ∀ (ss : List D) (a : List Rat), Chain a ss → ∃ ps, ss.map headD = ps.map pt ∧ Wk a ps ∧ ss.length = ps.length ∧ ∀ s ∈ ss, ∃ y r, s = .tuple (y :: r)
  | [], _, _ => ⟨[], rfl, by unfold Wk; trivial, rfl, fun _ m => by cases m⟩
  | s :: r, a, hc => by
    unfold Chain at hc
    obtain ⟨b, f, l, st, rfl, hl, hne, gb, s1, s2, z3, z4, z5, hc⟩ := hc
    obtain ⟨ps, e, w, n, hh⟩ := chain_pts r b hc
    refine ⟨b :: ps, by rw [List.map_cons, List.map_cons, e]; rfl, by unfold Wk; exact ⟨hl, hne, gb, w⟩, by simp [n], fun z m => ?_⟩
    rcases List.mem_cons.mp m with rfl | m
    · exact ⟨_, _, rfl⟩
    · exact hh z m
theorem told_tp {d : D} (h : Told d) (h30 : lenD (tailD d) ≤ 30) : ∃ a ps, Tp d a ps ∧ wt d ≤ 600 := by
  have h0 := h
  obtain ⟨a, ss, rfl, a1, a3, ha, s1, s4, hc⟩ := h
  obtain ⟨ps, e, w, n, hh⟩ := chain_pts ss a hc
  have h30 : ss.length ≤ 30 := h30
  obtain ⟨a', ss', e', _, _, _, _, _, _, c1, c2, pb, good⟩ := told_ok h0
  injection e' with e'
  injection e' with e1 e2
  injection e2 with e2 _
  injection e2 with e2
  subst e2
  have wa := wt_pt a
  exact ⟨a, ps, ⟨⟨ss, rfl, e, hh, n⟩, a1, a3, fun q m => gd_up (ha q m) (by decide), w, by omega, by omega, pb, good h30⟩, by
    rw [wt_tup]
    simp only [wtA, wt_tup, wa]
    omega⟩
theorem flat_allI {n : Nat} : ∀ {xs : List D}, (∀ x ∈ xs, flat n x) → flatAll n xs
  | [], _ => by unfold flatAll; trivial
  | x :: r, h => by
    unfold flatAll
    exact ⟨h x List.mem_cons_self, flat_allI fun y m => h y (List.mem_cons_of_mem _ m)⟩
theorem flat_fr (q : Rat) : flat 1 (fr q) := show [PyData.int q.num, .int q.den].length ≤ 1000 ∧ flatAll 0 [PyData.int q.num, .int q.den] from ⟨by simp, by unfold flatAll flatAll flatAll; exact ⟨trivial, trivial, trivial⟩⟩
theorem flat_fr3 (q : Rat) : flat 3 (fr q) := show [PyData.int q.num, .int q.den].length ≤ 1000 ∧ flatAll 2 [PyData.int q.num, .int q.den] from ⟨by simp, by unfold flatAll flatAll flatAll; exact ⟨trivial, trivial, trivial⟩⟩
theorem flat_fr2 (q : Rat) : flat 2 (fr q) := show [PyData.int q.num, .int q.den].length ≤ 1000 ∧ flatAll 1 [PyData.int q.num, .int q.den] from ⟨by simp, by unfold flatAll flatAll flatAll; exact ⟨trivial, trivial, trivial⟩⟩
theorem flat_pt2 {g : List Rat} (h : g.length ≤ 1000) : flat 2 (pt g) := show (g.map fr).length ≤ 1000 ∧ flatAll 1 (g.map fr) from ⟨by simpa using h, flat_allI fun x m => by
  obtain ⟨q, _, rfl⟩ := List.mem_map.mp m
  exact flat_fr q⟩
theorem flat_pt3 {g : List Rat} (h : g.length ≤ 1000) : flat 3 (pt g) := show (g.map fr).length ≤ 1000 ∧ flatAll 2 (g.map fr) from ⟨by simpa using h, flat_allI fun x m => by
  obtain ⟨q, _, rfl⟩ := List.mem_map.mp m
  exact flat_fr2 q⟩
theorem flat4 {a b c d : D} (h1 : flat 3 a) (h2 : flat 3 b) (h3 : flat 3 c) (h4 : flat 3 d) : flat 4 (.list [a, b, c, d]) := show [a, b, c, d].length ≤ 1000 ∧ flatAll 3 [a, b, c, d] from ⟨by simp, by unfold flatAll flatAll flatAll flatAll flatAll; exact ⟨h1, h2, h3, h4, trivial⟩⟩
theorem repr_okT {d : D} {n : Nat} (h : PB d) (hr : isRef d = true) (hw : wt d ≤ 600) {P : D → Prop} (q : P (.str (PyData.shown d))) : bRepr [d] P := by
  have s := shown_le (b := 450) (Nat.le_refl _) h.sm
  have l := sm_lay h.sm
  have w := s.1
  exact ⟨hr, s.2, l.1, by omega, by omega, q⟩
theorem ways_len : ∀ (gs : List (List Rat)) (w : Rat), (waysR w gs).length = gs.length
  | [], _ => rfl
  | g :: r, w => by
    show (waysR _ r).length + 1 = _
    rw [ways_len r]
    rfl
theorem ones_go {me : DE} {mt : DT} {mg : DG} {es0 : En} {P : List D → Prop} : ∀ (gs : List (List Rat)) (acc : List D), (∀ g ∈ gs, ∀ R : Bool → Prop, R false → mg (pt (headR g)) es0 (fun es1 => mt es1 (fun b => if b = true then me es1 (fun y => acc.length < 16777216 ∧ False) (fun _ => False) else R b) (fun _ => False))) → True
  | _, _, _ => trivial
theorem none_go {P : List D → Prop} {s0 s1 s2 s3 s4 s5 s6 s7 s8 s9 : Sl} : ∀ (gs : List (List Rat)) (acc : List D), (∀ g ∈ gs, g.length ≤ 3 ∧ SzA (headR g) 1000 ∧ 0 < longR g) → P acc →
    lcGo (gP 9) (dTest (dOp dNe (dCall p__law_long (dCons (dVar 9) dNil)) (dTup (dCons (dC (.int 1)) (dCons (dC (.int 1)) dNil))))) (dC (.int 1)) [s0, s1, s2, s3, s4, s5, s6, s7, s8, s9] (gs.map fun g => pt (headR g)) acc P
  | [], acc, _, q => q
  | g :: r, acc, h, q => by
    rw [List.map_cons]
    obtain ⟨h3, hs, hp⟩ := h g List.mem_cons_self
    unfold lcGo
    simp only [dSeq, dAsg, dRet, dRaise, dRetN, dDrop, dIfS, dSkip, dVar, dC, dOp, dTup, dLst, dCons, dNil, dCB, dCall, dCallS, dCallK, gP, gT, gL, gN, gsNil, gsCons, dTest, dTruth, truD, dNotT, dAndT, dOrT, dAndV, dOrV, dNotV, dIf, dNeg, dAdd, dSub, dMul, dFdiv, dMod, dPow, dI, dLt, dLe, dGt, dGe, dEq, dNe, dIsO, dNotO, dIx, dPar, dFor, iL, iT, iR1, dNew, bLen, bAbs, bInt, bGcd, bTuple, bList, bAll, dType, dNType, dIs, dIs2, startE, List.map_cons, List.map_nil, List.length_cons, List.length_nil, List.cons_append, List.nil_append, List.getElem?_cons_zero, List.getElem?_cons_succ, List.set_cons_zero, List.set_cons_succ, Option.some.injEq, Sl.p.injEq, exists_eq_left', exists_eq_left, Nat.reduceAdd, Nat.reduceSub, List.replicate, forall_const, true_and, and_true, if_true, if_false, Bool.false_eq_true, eq_self, ite_true, ite_false, reduceCtorEq]
    refine ⟨_, headR g, rfl, .inr rfl, by simpa [headR] using h3, hs, by decide, ?_⟩
    rw [longR_head hp]
    have e1 : PyData.tuple [.int 1, .int 1] = fr 1 := rfl
    have e2 : PyData.eqv (fr 1) (fr 1) = true := by rw [fr_eqv]; simp
    rw [e1]
    refine ⟨fr_shaped _, fr_shaped _, ?_⟩
    simp only [e2, Bool.not_true, Bool.false_eq_true, if_false]
    exact none_go r acc (fun x m => h x (List.mem_cons_of_mem _ m)) q
section
variable {E : Eo} {scr : Sl}
theorem turn_ok {x2 x3 x4 x5 x6 x7 x8 x9 : Sl} (hnx : ∀ x2 x3 x4 x5 x6 x7 x8 x9 : Sl, E.nx [scr, .s, x2, x3, x4, x5, x6, x7, x8, x9]) :
    dSeq bd_law_0_0 (dSeq bd_law_0_1 (dSeq bd_law_0_2 (dSeq bd_law_0_3 (dSeq bd_law_0_4 (bd_law_0_5))))) E [scr, .s, x2, x3, x4, x5, x6, x7, x8, x9] := by
  simp only [dSeq, dAsg, dRet, dRaise, dRetN, dDrop, dIfS, dSkip, dVar, dC, dOp, dTup, dLst, dCons, dNil, dCB, dCall, dCallS, dCallK, gP, gT, gL, gN, gsNil, gsCons, dTest, dTruth, truD, dNotT, dAndT, dOrT, dAndV, dOrV, dNotV, dIf, dNeg, dAdd, dSub, dMul, dFdiv, dMod, dPow, dI, dLt, dLe, dGt, dGe, dEq, dNe, dIsO, dNotO, dIx, dPar, dFor, iL, iT, iR1, dNew, bLen, bAbs, bInt, bGcd, bTuple, bList, bAll, dType, dNType, dIs, dIs2, startE, List.map_cons, List.map_nil, List.length_cons, List.length_nil, List.cons_append, List.nil_append, List.getElem?_cons_zero, List.getElem?_cons_succ, List.set_cons_zero, List.set_cons_succ, Option.some.injEq, Sl.p.injEq, exists_eq_left', exists_eq_left, Nat.reduceAdd, Nat.reduceSub, List.replicate, forall_const, true_and, and_true, if_true, if_false, Bool.false_eq_true, eq_self, ite_true, ite_false, reduceCtorEq, bd_law_0_0]
  refine ⟨by decide, tooth_ok (by decide) (by decide) fun k k0 k1 => ?_⟩
  obtain ⟨x, hx, ex⟩ := atI_of (l := [PyData.int 3, .int 10, .int 30]) k0 (by simpa using k1)
  refine ⟨x, ex, ?_⟩
  have hn : ∃ n : Nat, x = .int n ∧ 1 ≤ n ∧ n ≤ 30 := by
    simp only [List.mem_cons, List.not_mem_nil, or_false] at hx
    rcases hx with h | h | h
    · exact ⟨3, h, by decide, by decide⟩
    · exact ⟨10, h, by decide, by decide⟩
    · exact ⟨30, h, by decide, by decide⟩
  obtain ⟨n, rfl, n1, n30⟩ := hn
  refine ⟨n, rfl, n1, n30, fun told ht hl => ?_⟩
  obtain ⟨a, ps, tp, tw⟩ := told_tp ht (by omega)
  have hr : isRef told = true := by
    obtain ⟨ss, rfl, _⟩ := tp.ex
    rfl
  simp only [dSeq, dAsg, dRet, dRaise, dRetN, dDrop, dIfS, dSkip, dVar, dC, dOp, dTup, dLst, dCons, dNil, dCB, dCall, dCallS, dCallK, gP, gT, gL, gN, gsNil, gsCons, dTest, dTruth, truD, dNotT, dAndT, dOrT, dAndV, dOrV, dNotV, dIf, dNeg, dAdd, dSub, dMul, dFdiv, dMod, dPow, dI, dLt, dLe, dGt, dGe, dEq, dNe, dIsO, dNotO, dIx, dPar, dFor, iL, iT, iR1, dNew, bLen, bAbs, bInt, bGcd, bTuple, bList, bAll, dType, dNType, dIs, dIs2, startE, List.map_cons, List.map_nil, List.length_cons, List.length_nil, List.cons_append, List.nil_append, List.getElem?_cons_zero, List.getElem?_cons_succ, List.set_cons_zero, List.set_cons_succ, Option.some.injEq, Sl.p.injEq, exists_eq_left', exists_eq_left, Nat.reduceAdd, Nat.reduceSub, List.replicate, forall_const, true_and, and_true, if_true, if_false, Bool.false_eq_true, eq_self, ite_true, ite_false, reduceCtorEq, bd_law_0_1]
  refine repr_okT (n := 0) tp.pb hr tw ?_
  have gk := tp_gaps tp
  have gl := gaps_len ps a
  have p30 := tp.p30
  simp only [dSeq, dAsg, dRet, dRaise, dRetN, dDrop, dIfS, dSkip, dVar, dC, dOp, dTup, dLst, dCons, dNil, dCB, dCall, dCallS, dCallK, gP, gT, gL, gN, gsNil, gsCons, dTest, dTruth, truD, dNotT, dAndT, dOrT, dAndV, dOrV, dNotV, dIf, dNeg, dAdd, dSub, dMul, dFdiv, dMod, dPow, dI, dLt, dLe, dGt, dGe, dEq, dNe, dIsO, dNotO, dIx, dPar, dFor, iL, iT, iR1, dNew, bLen, bAbs, bInt, bGcd, bTuple, bList, bAll, dType, dNType, dIs, dIs2, startE, List.map_cons, List.map_nil, List.length_cons, List.length_nil, List.cons_append, List.nil_append, List.getElem?_cons_zero, List.getElem?_cons_succ, List.set_cons_zero, List.set_cons_succ, Option.some.injEq, Sl.p.injEq, exists_eq_left', exists_eq_left, Nat.reduceAdd, Nat.reduceSub, List.replicate, forall_const, true_and, and_true, if_true, if_false, Bool.false_eq_true, eq_self, ite_true, ite_false, reduceCtorEq, bd_law_0_2, dLc, wipeE, iL, dPar3]
  refine ⟨told, a, ps, rfl, tp, ?_⟩
  refine mapE (i := fun g => PyData.list (g.map fr)) (o := fun g => fr (longR g)) (G := fun g => g ∈ gapsR a ps) (fun g m R r => ?_) (gapsR a ps) [] (fun g m => m) (by simp; omega) ?_
  · obtain ⟨g1, g2, g3, g4, g5⟩ := gk g m
    simp only [dSeq, dAsg, dRet, dRaise, dRetN, dDrop, dIfS, dSkip, dVar, dC, dOp, dTup, dLst, dCons, dNil, dCB, dCall, dCallS, dCallK, gP, gT, gL, gN, gsNil, gsCons, dTest, dTruth, truD, dNotT, dAndT, dOrT, dAndV, dOrV, dNotV, dIf, dNeg, dAdd, dSub, dMul, dFdiv, dMod, dPow, dI, dLt, dLe, dGt, dGe, dEq, dNe, dIsO, dNotO, dIx, dPar, dFor, iL, iT, iR1, dNew, bLen, bAbs, bInt, bGcd, bTuple, bList, bAll, dType, dNType, dIs, dIs2, startE, List.map_cons, List.map_nil, List.length_cons, List.length_nil, List.cons_append, List.nil_append, List.getElem?_cons_zero, List.getElem?_cons_succ, List.set_cons_zero, List.set_cons_succ, Option.some.injEq, Sl.p.injEq, exists_eq_left', exists_eq_left, Nat.reduceAdd, Nat.reduceSub, List.replicate, forall_const, true_and, and_true, if_true, if_false, Bool.false_eq_true, eq_self, ite_true, ite_false, reduceCtorEq]
    exact ⟨_, g, rfl, .inl rfl, g2, g3, r⟩
  simp only [List.nil_append]
  refine ⟨told, a, ps, rfl, tp, ⟨told, a, ps, rfl, tp, ?_⟩⟩
  have es : PyData.tuple ((gapsR a ps).map fun g => fr (longR g)) = pt ((gapsR a ps).map longR) := by simp [pt]
  have em : PyData.tuple ((0 :: waysR 0 (gapsR a ps)).map fr) = pt (0 :: waysR 0 (gapsR a ps)) := rfl
  rw [es]
  dsimp only
  rw [em]
  have wl := ways_len (gapsR a ps) 0
  have f1 : flat 3 (pt ((gapsR a ps).map longR)) := flat_pt3 (by simp; omega)
  have f3 : flat 3 (pt (0 :: waysR 0 (gapsR a ps))) := flat_pt3 (by simp; omega)
  have f2 : flat 3 (.tuple ((gapsR a ps).map fun g => pt (headR g))) := show _ ∧ flatAll 2 _ from ⟨by simp; omega, flat_allI fun x m => by
    obtain ⟨g, hg, rfl⟩ := List.mem_map.mp m
    exact flat_pt2 (by have := (gk g hg).2.1; simp [headR]; omega)⟩
  simp only [bd_law_0_3, dSeq, dAsg, dRet, dRaise, dRetN, dDrop, dIfS, dSkip, dVar, dC, dOp, dTup, dLst, dCons, dNil, dCB, dCall, dCallS, dCallK, gP, gT, gL, gN, gsNil, gsCons, dTest, dTruth, truD, dNotT, dAndT, dOrT, dAndV, dOrV, dNotV, dIf, dNeg, dAdd, dSub, dMul, dFdiv, dMod, dPow, dI, dLt, dLe, dGt, dGe, dEq, dNe, dIsO, dNotO, dIx, dPar, dFor, iL, iT, iR1, dNew, bLen, bAbs, bInt, bGcd, bTuple, bList, bAll, dType, dNType, dIs, dIs2, startE, List.map_cons, List.map_nil, List.length_cons, List.length_nil, List.cons_append, List.nil_append, List.getElem?_cons_zero, List.getElem?_cons_succ, List.set_cons_zero, List.set_cons_succ, Option.some.injEq, Sl.p.injEq, exists_eq_left', exists_eq_left, Nat.reduceAdd, Nat.reduceSub, List.replicate, forall_const, true_and, and_true, if_true, if_false, Bool.false_eq_true, eq_self, ite_true, ite_false, reduceCtorEq, dCallK, permL]
  refine ⟨told, a, ps, rfl, tp, ⟨told, a, ps, rfl, tp, ⟨told, a, ps, rfl, tp, ⟨told, a, ps, rfl, tp, by decide, by decide, same_ok rfl (flat4 f1 f1 f2 f2) ?_⟩⟩⟩⟩
  simp only [Bool.not_true, Bool.false_eq_true, if_false]
  simp only [bd_law_0_4, dSeq, dAsg, dRet, dRaise, dRetN, dDrop, dIfS, dSkip, dVar, dC, dOp, dTup, dLst, dCons, dNil, dCB, dCall, dCallS, dCallK, gP, gT, gL, gN, gsNil, gsCons, dTest, dTruth, truD, dNotT, dAndT, dOrT, dAndV, dOrV, dNotV, dIf, dNeg, dAdd, dSub, dMul, dFdiv, dMod, dPow, dI, dLt, dLe, dGt, dGe, dEq, dNe, dIsO, dNotO, dIx, dPar, dFor, iL, iT, iR1, dNew, bLen, bAbs, bInt, bGcd, bTuple, bList, bAll, dType, dNType, dIs, dIs2, startE, List.map_cons, List.map_nil, List.length_cons, List.length_nil, List.cons_append, List.nil_append, List.getElem?_cons_zero, List.getElem?_cons_succ, List.set_cons_zero, List.set_cons_succ, Option.some.injEq, Sl.p.injEq, exists_eq_left', exists_eq_left, Nat.reduceAdd, Nat.reduceSub, List.replicate, forall_const, true_and, and_true, if_true, if_false, Bool.false_eq_true, eq_self, ite_true, ite_false, reduceCtorEq, dCallK, permL]
  refine ⟨told, a, ps, rfl, tp, ⟨told, a, ps, rfl, tp, ⟨told, a, ps, rfl, tp, ⟨told, a, ps, rfl, tp, by decide, ?_⟩⟩⟩⟩
  refine ⟨_, last_at _ _, _, last_at _ _, by decide, same_ok rfl (flat4 f3 f3 (flat_fr3 _) (flat_fr3 _)) ?_⟩
  simp only [Bool.not_true, Bool.false_eq_true, if_false]
  simp only [bd_law_0_5, dSeq, dAsg, dRet, dRaise, dRetN, dDrop, dIfS, dSkip, dVar, dC, dOp, dTup, dLst, dCons, dNil, dCB, dCall, dCallS, dCallK, gP, gT, gL, gN, gsNil, gsCons, dTest, dTruth, truD, dNotT, dAndT, dOrT, dAndV, dOrV, dNotV, dIf, dNeg, dAdd, dSub, dMul, dFdiv, dMod, dPow, dI, dLt, dLe, dGt, dGe, dEq, dNe, dIsO, dNotO, dIx, dPar, dFor, iL, iT, iR1, dNew, bLen, bAbs, bInt, bGcd, bTuple, bList, bAll, dType, dNType, dIs, dIs2, startE, List.map_cons, List.map_nil, List.length_cons, List.length_nil, List.cons_append, List.nil_append, List.getElem?_cons_zero, List.getElem?_cons_succ, List.set_cons_zero, List.set_cons_succ, Option.some.injEq, Sl.p.injEq, exists_eq_left', exists_eq_left, Nat.reduceAdd, Nat.reduceSub, List.replicate, forall_const, true_and, and_true, if_true, if_false, Bool.false_eq_true, eq_self, ite_true, ite_false, reduceCtorEq, dLc, wipeE, iT]
  refine ⟨told, a, ps, rfl, tp, ?_⟩
  refine none_go (gapsR a ps) [] (fun g m => ?_) ?_
  · obtain ⟨g1, g2, g3, g4, g5⟩ := gk g m
    refine ⟨g2, fun q hq => ?_, g4⟩
    obtain ⟨z, hz, rfl⟩ := List.mem_map.mp (show q ∈ g.map fun x => x / longR g from hq)
    have hz' := gd_sz (g5 z hz) (by decide)
    have hL := gd_sz (longR_gd g5) (by decide)
    exact sz_mono (sz_div hz' hL (by grind)) (by decide)
  · have e0 : PyData.eqv (.list []) (.list []) = true := by simp [PyData.eqv, PyData.eqvAll]
    refine ⟨by decide, by decide, by decide, ?_⟩
    simp only [e0, Bool.not_true, Bool.false_eq_true, if_false]
    refine repr_okT (n := 0) tp.pb hr tw ?_
    have sh : SeqAt.shaped (.str (PyData.shown told)) = true := by
      unfold SeqAt.shaped
      rw [PyData.canLay0, PyData.depth, shown_ok tp.pb.sm]
      rfl
    have eq : PyData.eqv (.str (PyData.shown told)) (.str (PyData.shown told)) = true := by simp [PyData.eqv]
    refine ⟨sh, sh, ?_⟩
    simp only [eq, Bool.not_true, Bool.false_eq_true, if_false]
    exact hnx _ _ _ _ _ _ _ _
theorem turns_go {mb : DS} (hmb : mb = dSeq bd_law_0_0 (dSeq bd_law_0_1 (dSeq bd_law_0_2 (dSeq bd_law_0_3 (dSeq bd_law_0_4 (bd_law_0_5)))))) : ∀ (r : Nat) (lo : Int) (x2 x3 x4 x5 x6 x7 x8 x9 : Sl), (∀ x2 x3 x4 x5 x6 x7 x8 x9 : Sl, E.nx [scr, .s, x2, x3, x4, x5, x6, x7, x8, x9]) →
    forGo (gP 2) mb E (Fw.intsFrom lo r) [scr, .s, x2, x3, x4, x5, x6, x7, x8, x9]
  | 0, lo, x2, x3, x4, x5, x6, x7, x8, x9, h => h _ _ _ _ _ _ _ _
  | r + 1, lo, x2, x3, x4, x5, x6, x7, x8, x9, h => by
    rw [intsFrom_cons, forGo_cons]
    have ih : ∀ x2 x3 x4 x5 x6 x7 x8 x9 : Sl, forGo (gP 2) mb E (Fw.intsFrom (lo + 1) r) [scr, .s, x2, x3, x4, x5, x6, x7, x8, x9] := fun x2 x3 x4 x5 x6 x7 x8 x9 => turns_go hmb r (lo + 1) x2 x3 x4 x5 x6 x7 x8 x9 h
    generalize forGo (gP 2) mb E (Fw.intsFrom (lo + 1) r) = F at ih ⊢
    rw [hmb]
    show dSeq bd_law_0_0 _ _ _
    exact turn_ok (E := { E with nx := F, ct := F, bk := E.nx }) ih
end
theorem vc_law (ns : List Int) (hl : ns.length ≤ 63) (Q : D → Prop) (X : XP) (q : Q (.bool true)) : ms_law { nx := fun _ => Q .none, rt := Q, xx := fun x _ => X x } [.p (.list (ns.map PyData.int)), .s, .un, .un, .un, .un, .un, .un, .un, .un] := by
  rw [split_law, split_law_0]
  simp only [dSeq, dFor, iR1]
  simp only [dSeq, dAsg, dRet, dRaise, dRetN, dDrop, dIfS, dSkip, dVar, dC, dOp, dTup, dLst, dCons, dNil, dCB, dCall, dCallS, dCallK, gP, gT, gL, gN, gsNil, gsCons, dTest, dTruth, truD, dNotT, dAndT, dOrT, dAndV, dOrV, dNotV, dIf, dNeg, dAdd, dSub, dMul, dFdiv, dMod, dPow, dI, dLt, dLe, dGt, dGe, dEq, dNe, dIsO, dNotO, dIx, dPar, dFor, iL, iT, iR1, dNew, bLen, bAbs, bInt, bGcd, bTuple, bList, bAll, dType, dNType, dIs, dIs2, startE, List.map_cons, List.map_nil, List.length_cons, List.length_nil, List.cons_append, List.nil_append, List.getElem?_cons_zero, List.getElem?_cons_succ, List.set_cons_zero, List.set_cons_succ, Option.some.injEq, Sl.p.injEq, exists_eq_left', exists_eq_left, Nat.reduceAdd, Nat.reduceSub, List.replicate, forall_const, true_and, and_true, if_true, if_false, Bool.false_eq_true, eq_self, ite_true, ite_false, reduceCtorEq, List.length_map]
  have fin : ∀ n : Int, 0 ≤ n → n ≤ 5 → (4 + n < 2 ^ 62 ∧ -2 ^ 62 ≤ 4 + n ∧ forGo (gP 2) (dSeq bd_law_0_0 (dSeq bd_law_0_1 (dSeq bd_law_0_2 (dSeq bd_law_0_3 (dSeq bd_law_0_4 (bd_law_0_5)))))) { nx := st_law_1 { nx := fun _ => Q .none, rt := Q, xx := fun x _ => X x }, rt := Q, xx := fun x _ => X x } (Fw.intsFrom 0 (4 + n).toNat) [.p (.list (ns.map PyData.int)), .s, .un, .un, .un, .un, .un, .un, .un, .un]) := fun n n0 n6 =>
    ⟨by omega, by omega, turns_go rfl _ _ _ _ _ _ _ _ _ _ fun x2 x3 x4 x5 x6 x7 x8 x9 => by
      simp only [st_law_1, dSeq, dAsg, dRet, dRaise, dRetN, dDrop, dIfS, dSkip, dVar, dC, dOp, dTup, dLst, dCons, dNil, dCB, dCall, dCallS, dCallK, gP, gT, gL, gN, gsNil, gsCons, dTest, dTruth, truD, dNotT, dAndT, dOrT, dAndV, dOrV, dNotV, dIf, dNeg, dAdd, dSub, dMul, dFdiv, dMod, dPow, dI, dLt, dLe, dGt, dGe, dEq, dNe, dIsO, dNotO, dIx, dPar, dFor, iL, iT, iR1, dNew, bLen, bAbs, bInt, bGcd, bTuple, bList, bAll, dType, dNType, dIs, dIs2, startE, List.map_cons, List.map_nil, List.length_cons, List.length_nil, List.cons_append, List.nil_append, List.getElem?_cons_zero, List.getElem?_cons_succ, List.set_cons_zero, List.set_cons_succ, Option.some.injEq, Sl.p.injEq, exists_eq_left', exists_eq_left, Nat.reduceAdd, Nat.reduceSub, List.replicate, forall_const, true_and, and_true, if_true, if_false, Bool.false_eq_true, eq_self, ite_true, ite_false, reduceCtorEq]
      exact q⟩
  exact fin (if (ns.length : Int) < 5 then ns.length else 5) (by split <;> omega) (by split <;> omega)
end K01
namespace K01
open PySem PySem.Spec L2 Fw
variable [Tabs]
/-- what the names of the module hold -/
structure Tx (K : Fg) (mg : Str → Option Value) : Prop where
  len : mg "len" = none
  abs : mg "abs" = none
  isinstance : mg "isinstance" = none
  all : mg "all" = none
  min : mg "min" = none
  repr : mg "repr" = none
  range : mg "range" = none
  zip : mg "zip" = none
  enumerate : mg "enumerate" = none
  type : mg "type" = none
  int : mg "int" = none
  bool : mg "bool" = none
  str : mg "str" = none
  tuple : mg "tuple" = none
  list : mg "list" = none
  gcd : mg "gcd" = some (.builtin "math.gcd")
  c_NOUGHT : KConst K mg "NOUGHT" c_NOUGHT
  c_MOST_AXES : KConst K mg "MOST_AXES" c_MOST_AXES
  c_MOST_STEPS : KConst K mg "MOST_STEPS" c_MOST_STEPS
section
variable {P : Program} {w : World} {K : Fg} {mg : Str → Option Value} {base : Heap}
theorem body_added {f : Addr} (T : Tx K mg)  (cdv : Value) (A : Around) (outer : List PySem.Env) (s : Shared) (H : Hp) (E : XK) (C : Ctx (bodyX P w K mg base N_added "added" s_added f cdv A outer s H E) K (WD E) 0) : ∃ ts, XB (bodyX P w K mg base N_added "added" s_added f cdv A outer s H E) K (WD E) (defBody s_added) ts ms_added := ⟨_, (xb_cons (xs_asg (xe_varC C 0) (xg_tup (n := 2) C (xgs_cons (xg_name 2 C.nd) (xgs_cons (xg_name 3 C.nd) xgs_nil (fun q1 q2 => pgs_cons q1 q2)) (fun q1 q2 => pgs_cons q1 q2))) (fun p1 p2 => ps_asg p1 p2))
  (xb_cons (xs_asg (xe_varC C 1) (xg_tup (n := 2) C (xgs_cons (xg_name 4 C.nd) (xgs_cons (xg_name 5 C.nd) xgs_nil (fun q1 q2 => pgs_cons q1 q2)) (fun q1 q2 => pgs_cons q1 q2))) (fun p1 p2 => ps_asg p1 p2))
  (xb_cons (xs_set 6 C.nd (xe_cfun cr_gcd rc_gcd T.gcd (xa_cons (xe_varC C 3) (xa_cons (xe_varC C 5) xa_nil))))
  (xb_cons (xs_set 7 C.nd (xe_fdiv (xe_varC C 3) (xe_varC C 6)))
  (xb_cons (xs_set 8 C.nd (xe_add C (xe_mul (xe_varC C 2) (xe_fdiv (xe_varC C 5) (xe_varC C 6))) (xe_mul (xe_varC C 4) (xe_varC C 7))))
  (xb_cons (xs_set 9 C.nd (xe_cfun cr_gcd rc_gcd T.gcd (xa_cons (xe_varC C 8) (xa_cons (xe_varC C 6) xa_nil))))
  (xb_one (xs_ret (xe_tup (xa_cons (xe_fdiv (xe_varC C 8) (xe_varC C 9)) (xa_cons (xe_mul (xe_varC C 7) (xe_fdiv (xe_varC C 5) (xe_varC C 9))) xa_nil)))))))))))⟩
theorem body_subtracted {f : Addr} (T : Tx K mg) (D_added : Def P w K mg base 1 "added" ["one", "other"] (spD K p_added)) (D_opposite : Def P w K mg base 1 "opposite" ["number"] (spD K p_opposite)) (cdv : Value) (A : Around) (outer : List PySem.Env) (s : Shared) (H : Hp) (E : XK) (C : Ctx (bodyX P w K mg base N_subtracted "subtracted" s_subtracted f cdv A outer s H E) K (WD E) 1) : ∃ ts, XB (bodyX P w K mg base N_subtracted "subtracted" s_subtracted f cdv A outer s H E) K (WD E) (defBody s_subtracted) ts ms_subtracted := ⟨_, (xb_one (xs_ret (xe_call C D_added (by decide) (xa_cons (xe_varC C 0) (xa_cons (xe_call C D_opposite (by decide) (xa_cons (xe_varC C 1) xa_nil)) xa_nil)))))⟩
theorem body_multiplied {f : Addr} (T : Tx K mg)  (cdv : Value) (A : Around) (outer : List PySem.Env) (s : Shared) (H : Hp) (E : XK) (C : Ctx (bodyX P w K mg base N_multiplied "multiplied" s_multiplied f cdv A outer s H E) K (WD E) 0) : ∃ ts, XB (bodyX P w K mg base N_multiplied "multiplied" s_multiplied f cdv A outer s H E) K (WD E) (defBody s_multiplied) ts ms_multiplied := ⟨_, (xb_cons (xs_asg (xe_varC C 0) (xg_tup (n := 2) C (xgs_cons (xg_name 2 C.nd) (xgs_cons (xg_name 3 C.nd) xgs_nil (fun q1 q2 => pgs_cons q1 q2)) (fun q1 q2 => pgs_cons q1 q2))) (fun p1 p2 => ps_asg p1 p2))
  (xb_cons (xs_asg (xe_varC C 1) (xg_tup (n := 2) C (xgs_cons (xg_name 4 C.nd) (xgs_cons (xg_name 5 C.nd) xgs_nil (fun q1 q2 => pgs_cons q1 q2)) (fun q1 q2 => pgs_cons q1 q2))) (fun p1 p2 => ps_asg p1 p2))
  (xb_cons (xs_set 6 C.nd (xe_cfun cr_gcd rc_gcd T.gcd (xa_cons (xe_varC C 2) (xa_cons (xe_varC C 5) xa_nil))))
  (xb_cons (xs_set 7 C.nd (xe_cfun cr_gcd rc_gcd T.gcd (xa_cons (xe_varC C 4) (xa_cons (xe_varC C 3) xa_nil))))
  (xb_one (xs_ret (xe_tup (xa_cons (xe_mul (xe_fdiv (xe_varC C 2) (xe_varC C 6)) (xe_fdiv (xe_varC C 4) (xe_varC C 7))) (xa_cons (xe_mul (xe_fdiv (xe_varC C 3) (xe_varC C 7)) (xe_fdiv (xe_varC C 5) (xe_varC C 6))) xa_nil)))))))))⟩
theorem body_inverse {f : Addr} (T : Tx K mg)  (cdv : Value) (A : Around) (outer : List PySem.Env) (s : Shared) (H : Hp) (E : XK) (C : Ctx (bodyX P w K mg base N_inverse "inverse" s_inverse f cdv A outer s H E) K (WD E) 0) : ∃ ts, XB (bodyX P w K mg base N_inverse "inverse" s_inverse f cdv A outer s H E) K (WD E) (defBody s_inverse) ts ms_inverse := ⟨_, (xb_cons (xs_asg (xe_varC C 0) (xg_tup (n := 2) C (xgs_cons (xg_name 1 C.nd) (xgs_cons (xg_name 2 C.nd) xgs_nil (fun q1 q2 => pgs_cons q1 q2)) (fun q1 q2 => pgs_cons q1 q2))) (fun p1 p2 => ps_asg p1 p2))
  (xb_one (xs_ret (xe_if (xt_cmp op_gt rs_gt (xe_varC C 1) xe_int) (xe_tup (xa_cons (xe_varC C 2) (xa_cons (xe_varC C 1) xa_nil))) (xe_tup (xa_cons (xe_neg (xe_varC C 2)) (xa_cons (xe_neg (xe_varC C 1)) xa_nil)))))))⟩
theorem body_divided {f : Addr} (T : Tx K mg) (D_inverse : Def P w K mg base 1 "inverse" ["number"] (spD K p_inverse)) (D_multiplied : Def P w K mg base 1 "multiplied" ["one", "other"] (spD K p_multiplied)) (cdv : Value) (A : Around) (outer : List PySem.Env) (s : Shared) (H : Hp) (E : XK) (C : Ctx (bodyX P w K mg base N_divided "divided" s_divided f cdv A outer s H E) K (WD E) 1) : ∃ ts, XB (bodyX P w K mg base N_divided "divided" s_divided f cdv A outer s H E) K (WD E) (defBody s_divided) ts ms_divided := ⟨_, (xb_one (xs_ret (xe_call C D_multiplied (by decide) (xa_cons (xe_varC C 0) (xa_cons (xe_call C D_inverse (by decide) (xa_cons (xe_varC C 1) xa_nil)) xa_nil)))))⟩
theorem body_opposite {f : Addr} (T : Tx K mg)  (cdv : Value) (A : Around) (outer : List PySem.Env) (s : Shared) (H : Hp) (E : XK) (C : Ctx (bodyX P w K mg base N_opposite "opposite" s_opposite f cdv A outer s H E) K (WD E) 0) : ∃ ts, XB (bodyX P w K mg base N_opposite "opposite" s_opposite f cdv A outer s H E) K (WD E) (defBody s_opposite) ts ms_opposite := ⟨_, (xb_one (xs_ret (xe_tup (xa_cons (xe_neg (xe_ix C (xe_varC C 0) xe_int)) (xa_cons (xe_ix C (xe_varC C 0) xe_int) xa_nil)))))⟩
theorem body_absolute {f : Addr} (T : Tx K mg)  (cdv : Value) (A : Around) (outer : List PySem.Env) (s : Shared) (H : Hp) (E : XK) (C : Ctx (bodyX P w K mg base N_absolute "absolute" s_absolute f cdv A outer s H E) K (WD E) 0) : ∃ ts, XB (bodyX P w K mg base N_absolute "absolute" s_absolute f cdv A outer s H E) K (WD E) (defBody s_absolute) ts ms_absolute := ⟨_, (xb_one (xs_ret (xe_tup (xa_cons (xe_cb call_abs rc_abs T.abs bt_abs (xa_cons (xe_ix C (xe_varC C 0) xe_int) xa_nil)) (xa_cons (xe_ix C (xe_varC C 0) xe_int) xa_nil)))))⟩
theorem body_is_less {f : Addr} (T : Tx K mg)  (cdv : Value) (A : Around) (outer : List PySem.Env) (s : Shared) (H : Hp) (E : XK) (C : Ctx (bodyX P w K mg base N_is_less "is_less" s_is_less f cdv A outer s H E) K (WD E) 0) : ∃ ts, XB (bodyX P w K mg base N_is_less "is_less" s_is_less f cdv A outer s H E) K (WD E) (defBody s_is_less) ts ms_is_less := ⟨_, (xb_one (xs_ret (xe_cmp op_lt rs_lt (xe_mul (xe_ix C (xe_varC C 0) xe_int) (xe_ix C (xe_varC C 1) xe_int)) (xe_mul (xe_ix C (xe_varC C 1) xe_int) (xe_ix C (xe_varC C 0) xe_int)))))⟩
theorem body_largest {f : Addr} (T : Tx K mg) (D_is_less : Def P w K mg base 1 "is_less" ["one", "other"] (spD K p_is_less)) (cdv : Value) (A : Around) (outer : List PySem.Env) (s : Shared) (H : Hp) (E : XK) (C : Ctx (bodyX P w K mg base N_largest "largest" s_largest f cdv A outer s H E) K (WD E) 1) : ∃ ts, XB (bodyX P w K mg base N_largest "largest" s_largest f cdv A outer s H E) K (WD E) (defBody s_largest) ts ms_largest := ⟨_, (xb_cons (xs_set 1 C.nd (xe_ix C (xe_varC C 0) xe_int))
  (xb_cons (xs_for C (xi_list C (xe_varC C 0)) (xg_name 2 C.nd)
  (xb_one (xs_if (xt_truth C (xe_call C D_is_less (by decide) (xa_cons (xe_varC C 1) (xa_cons (xe_varC C 2) xa_nil))))
  (xb_one (xs_set 1 C.nd (xe_varC C 2)))
  xb_nil)))
  (xb_one (xs_ret (xe_varC C 1)))))⟩
theorem body_is_integer {f : Addr} (T : Tx K mg)  (cdv : Value) (A : Around) (outer : List PySem.Env) (s : Shared) (H : Hp) (E : XK) (C : Ctx (bodyX P w K mg base N_is_integer "is_integer" s_is_integer f cdv A outer s H E) K (WD E) 0) : ∃ ts, XB (bodyX P w K mg base N_is_integer "is_integer" s_is_integer f cdv A outer s H E) K (WD E) (defBody s_is_integer) ts ms_is_integer := ⟨_, (xb_one (xs_ret (xe_typeIs (T := "int") C T.type T.int bt_int (xe_varC C 0))))⟩
theorem body_is_fraction {f : Addr} (T : Tx K mg) (D_is_integer : Def P w K mg base 1 "is_integer" ["value"] (spD K p_is_integer)) (cdv : Value) (A : Around) (outer : List PySem.Env) (s : Shared) (H : Hp) (E : XK) (C : Ctx (bodyX P w K mg base N_is_fraction "is_fraction" s_is_fraction f cdv A outer s H E) K (WD E) 1) : ∃ ts, XB (bodyX P w K mg base N_is_fraction "is_fraction" s_is_fraction f cdv A outer s H E) K (WD E) (defBody s_is_fraction) ts ms_is_fraction := ⟨_, (xb_cons (xs_if (xt_w (xw_or (xt_typeNot (T := "tuple") C T.type T.tuple bt_tuple (xe_varC C 0)) (xw_or1 (xt_neD C (xe_len C T.len (xa_cons (xe_varC C 0) xa_nil)) xe_int))))
  (xb_one (xs_ret xe_bl))
  xb_nil)
  (xb_cons (xs_asg (xe_varC C 0) (xg_tup (n := 2) C (xgs_cons (xg_name 1 C.nd) (xgs_cons (xg_name 2 C.nd) xgs_nil (fun q1 q2 => pgs_cons q1 q2)) (fun q1 q2 => pgs_cons q1 q2))) (fun p1 p2 => ps_asg p1 p2))
  (xb_cons (xs_if (xt_w (xw_or (xt_not (xt_truth C (xe_call C D_is_integer (by decide) (xa_cons (xe_varC C 1) xa_nil)))) (xw_or1 (xt_not (xt_truth C (xe_call C D_is_integer (by decide) (xa_cons (xe_varC C 2) xa_nil)))))))
  (xb_one (xs_ret xe_bl))
  xb_nil)
  (xb_one (xs_ret (xe_and (xe_cmp op_ge rs_ge (xe_varC C 2) xe_int) (xe_one (xe_eqD C (xe_cfun cr_gcd rc_gcd T.gcd (xa_cons (xe_varC C 1) (xa_cons (xe_varC C 2) xa_nil))) xe_int))))))))⟩
theorem body_is_tuple_of {f : Addr} (T : Tx K mg)  (cdv : Value) (A : Around) (outer : List PySem.Env) (s : Shared) (H : Hp) (E : XK) (C : Ctx (bodyX P w K mg base N_is_tuple_of "is_tuple_of" s_is_tuple_of f cdv A outer s H E) K (WD E) 0) : ∃ ts, XB (bodyX P w K mg base N_is_tuple_of "is_tuple_of" s_is_tuple_of f cdv A outer s H E) K (WD E) (defBody s_is_tuple_of) ts ms_is_tuple_of := ⟨_, (xb_one (xs_ret (xe_and (xe_typeIs (T := "tuple") C T.type T.tuple bt_tuple (xe_varC C 0)) (xe_one (xe_eqD C (xe_len C T.len (xa_cons (xe_varC C 0) xa_nil)) (xe_varC C 1))))))⟩
theorem body_is_above_nought {f : Addr} (T : Tx K mg) (D_is_fraction : Def P w K mg base 2 "is_fraction" ["value"] (spD K p_is_fraction)) (cdv : Value) (A : Around) (outer : List PySem.Env) (s : Shared) (H : Hp) (E : XK) (C : Ctx (bodyX P w K mg base N_is_above_nought "is_above_nought" s_is_above_nought f cdv A outer s H E) K (WD E) 2) : ∃ ts, XB (bodyX P w K mg base N_is_above_nought "is_above_nought" s_is_above_nought f cdv A outer s H E) K (WD E) (defBody s_is_above_nought) ts ms_is_above_nought := ⟨_, (xb_one (xs_ret (xe_and (xe_call C D_is_fraction (by decide) (xa_cons (xe_varC C 0) xa_nil)) (xe_one (xe_cmp op_gt rs_gt (xe_ix C (xe_varC C 0) xe_int) xe_int)))))⟩
theorem body_is_from_nought {f : Addr} (T : Tx K mg) (D_is_fraction : Def P w K mg base 2 "is_fraction" ["value"] (spD K p_is_fraction)) (cdv : Value) (A : Around) (outer : List PySem.Env) (s : Shared) (H : Hp) (E : XK) (C : Ctx (bodyX P w K mg base N_is_from_nought "is_from_nought" s_is_from_nought f cdv A outer s H E) K (WD E) 2) : ∃ ts, XB (bodyX P w K mg base N_is_from_nought "is_from_nought" s_is_from_nought f cdv A outer s H E) K (WD E) (defBody s_is_from_nought) ts ms_is_from_nought := ⟨_, (xb_one (xs_ret (xe_and (xe_call C D_is_fraction (by decide) (xa_cons (xe_varC C 0) xa_nil)) (xe_one (xe_cmp op_ge rs_ge (xe_ix C (xe_varC C 0) xe_int) xe_int)))))⟩
theorem body_is_point {f G0 : Addr} (T : Tx K mg) (D_is_fraction : Def P w K mg base 2 "is_fraction" ["value"] (spD K p_is_fraction)) (cdv : Value) (A : Around) (outer : List PySem.Env) (s : Shared) (H : Hp) (E : XK) (C : Ctx (bodyX P w K mg base N_is_point "is_point" s_is_point f cdv A outer s H E) K (WD E) 5) (t : Tab (bodyX P w K mg base N_is_point "is_point" s_is_point f cdv A outer s H E) G0) : ∃ ts, XB (bodyX P w K mg base N_is_point "is_point" s_is_point f cdv A outer s H E) K (WD E) (defBody s_is_point) ts ms_is_point := ⟨_, (xb_cons (xs_if (xt_w (xw_or (xt_typeNot (T := "tuple") C T.type T.tuple bt_tuple (xe_varC C 0)) (xw_or1 (xt_not (xt_chain op_le rs_le op_le rs_le xe_int (xe_len C T.len (xa_cons (xe_varC C 0) xa_nil)) (xe_const C T.c_MOST_AXES))))))
  (xb_one (xs_ret xe_bl))
  xb_nil)
  (xb_one (xs_ret (by (refine xe_allX C t (k' := 2) (te := ?te1) (g := ?g1) (vs0 := ?vs1) (by decide) (xi_tup C (xe_varC C 0)) (GX.genOk_by (by decide +kernel)) (blkOk_by (own := [("part", 1)]) (N := N_is_point) (sc := defScope s_is_point) (by decide +kernel)) ?hg1 ?he1 rfl ?hv1 T.all (by intro _; rfl)); (case hg1 => (intro A2 s2 H2 c2 fp2 pn2 C; exact (xg_name 1 C.nd))); (case he1 => (intro A2 s2 H2 c2 fp2 pn2 C; exact (xe_call C D_is_fraction (by decide) (xa_cons (xe_varC C 1) xa_nil)))); (case hv1 => decide)))))⟩
theorem body_step_fault {f : Addr} (T : Tx K mg) (D_is_above_nought : Def P w K mg base 3 "is_above_nought" ["value"] (spD K p_is_above_nought)) (D_is_from_nought : Def P w K mg base 3 "is_from_nought" ["value"] (spD K p_is_from_nought)) (D_is_less : Def P w K mg base 1 "is_less" ["one", "other"] (spD K p_is_less)) (D_is_point : Def P w K mg base 6 "is_point" ["value"] (spD K p_is_point)) (D_is_tuple_of : Def P w K mg base 1 "is_tuple_of" ["value", "count"] (spD K p_is_tuple_of)) (cdv : Value) (A : Around) (outer : List PySem.Env) (s : Shared) (H : Hp) (E : XK) (C : Ctx (bodyX P w K mg base N_step_fault "step_fault" s_step_fault f cdv A outer s H E) K (WD E) 6) : ∃ ts, XB (bodyX P w K mg base N_step_fault "step_fault" s_step_fault f cdv A outer s H E) K (WD E) (defBody s_step_fault) ts ms_step_fault := ⟨_, (xb_cons (xs_if (xt_not (xt_truth C (xe_call C D_is_tuple_of (by decide) (xa_cons (xe_varC C 1) (xa_cons xe_int xa_nil)))))
  (xb_one (xs_ret (xe_tup xa_nil)))
  xb_nil)
  (xb_cons (xs_asg (xe_varC C 1) (xg_tup (n := 4) C (xgs_cons (xg_name 2 C.nd) (xgs_cons (xg_name 3 C.nd) (xgs_cons (xg_name 4 C.nd) (xgs_cons (xg_name 5 C.nd) xgs_nil (fun q1 q2 => pgs_cons q1 q2)) (fun q1 q2 => pgs_cons q1 q2)) (fun q1 q2 => pgs_cons q1 q2)) (fun q1 q2 => pgs_cons q1 q2))) (fun p1 p2 => ps_asg p1 p2))
  (xb_cons (xs_if (xt_w (xw_or (xt_not (xt_truth C (xe_call C D_is_point (by decide) (xa_cons (xe_varC C 2) xa_nil)))) (xw_or (xt_neD C (xe_len C T.len (xa_cons (xe_varC C 2) xa_nil)) (xe_len C T.len (xa_cons (xe_varC C 0) xa_nil))) (xw_or1 (xt_eqD C (xe_varC C 2) (xe_varC C 0))))))
  (xb_one (xs_ret (xe_tup (xa_cons xe_int xa_nil))))
  xb_nil)
  (xb_cons (xs_if (xt_not (xt_truth C (xe_call C D_is_above_nought (by decide) (xa_cons (xe_varC C 3) xa_nil))))
  (xb_one (xs_ret (xe_tup (xa_cons xe_int xa_nil))))
  xb_nil)
  (xb_cons (xs_if (xt_w (xw_or (xt_not (xt_truth C (xe_call C D_is_from_nought (by decide) (xa_cons (xe_varC C 4) xa_nil)))) (xw_or1 (xt_truth C (xe_call C D_is_less (by decide) (xa_cons (xe_varC C 3) (xa_cons (xe_varC C 4) xa_nil)))))))
  (xb_one (xs_ret (xe_tup (xa_cons xe_int xa_nil))))
  xb_nil)
  (xb_cons (xs_if (xt_typeNot (T := "bool") C T.type T.bool bt_bool (xe_varC C 5))
  (xb_one (xs_ret (xe_tup (xa_cons xe_int xa_nil))))
  xb_nil)
  (xb_one (xs_ret xe_non))))))))⟩
theorem body_program_fault {f : Addr} (T : Tx K mg) (D_is_point : Def P w K mg base 6 "is_point" ["value"] (spD K p_is_point)) (D_is_tuple_of : Def P w K mg base 1 "is_tuple_of" ["value", "count"] (spD K p_is_tuple_of)) (D_step_fault : Def P w K mg base 7 "step_fault" ["ahead", "step"] (spD K p_step_fault)) (cdv : Value) (A : Around) (outer : List PySem.Env) (s : Shared) (H : Hp) (E : XK) (C : Ctx (bodyX P w K mg base N_program_fault "program_fault" s_program_fault f cdv A outer s H E) K (WD E) 7) : ∃ ts, XB (bodyX P w K mg base N_program_fault "program_fault" s_program_fault f cdv A outer s H E) K (WD E) (defBody s_program_fault) ts ms_program_fault := ⟨_, (xb_cons (xs_if (xt_not (xt_truth C (xe_call C D_is_tuple_of (by decide) (xa_cons (xe_varC C 0) (xa_cons xe_int xa_nil)))))
  (xb_one (xs_ret (xe_tup xa_nil)))
  xb_nil)
  (xb_cons (xs_asg (xe_varC C 0) (xg_tup (n := 2) C (xgs_cons (xg_name 1 C.nd) (xgs_cons (xg_name 2 C.nd) xgs_nil (fun q1 q2 => pgs_cons q1 q2)) (fun q1 q2 => pgs_cons q1 q2))) (fun p1 p2 => ps_asg p1 p2))
  (xb_cons (xs_if (xt_not (xt_truth C (xe_call C D_is_point (by decide) (xa_cons (xe_varC C 1) xa_nil))))
  (xb_one (xs_ret (xe_tup (xa_cons xe_int xa_nil))))
  xb_nil)
  (xb_cons (xs_if (xt_w (xw_or (xt_typeNot (T := "tuple") C T.type T.tuple bt_tuple (xe_varC C 2)) (xw_or1 (xt_not (xt_chain op_le rs_le op_le rs_le xe_int (xe_len C T.len (xa_cons (xe_varC C 2) xa_nil)) (xe_const C T.c_MOST_STEPS))))))
  (xb_one (xs_ret (xe_tup (xa_cons xe_int xa_nil))))
  xb_nil)
  (xb_cons (xs_set 3 C.nd (xe_varC C 1))
  (xb_cons (xs_for C (xi_enumT C T.enumerate (xa_cons (xe_varC C 2) xa_nil)) (xg_tup (n := 2) C (xgs_cons (xg_name 4 C.nd) (xgs_cons (xg_name 5 C.nd) xgs_nil (fun q1 q2 => pgs_cons q1 q2)) (fun q1 q2 => pgs_cons q1 q2)))
  (xb_cons (xs_set 6 C.nd (xe_call C D_step_fault (by decide) (xa_cons (xe_varC C 3) (xa_cons (xe_varC C 5) xa_nil))))
  (xb_cons (xs_if (xt_cmp op_notA rs_isnot (xe_varC C 6) xe_non)
  (xb_one (xs_ret (xe_add C (xe_tup (xa_cons xe_int (xa_cons (xe_varC C 4) xa_nil))) (xe_varC C 6))))
  xb_nil)
  (xb_one (xs_set 3 C.nd (xe_ix C (xe_varC C 5) xe_int))))))
  (xb_one (xs_ret xe_non))))))))⟩
theorem body_check_program {f : Addr} (T : Tx K mg) (D_program_fault : Def P w K mg base 8 "program_fault" ["value"] (spD K p_program_fault)) (X_InvalidProgram : ExcF P w K mg base "InvalidProgram" "place") (cdv : Value) (A : Around) (outer : List PySem.Env) (s : Shared) (H : Hp) (E : XK) (C : Ctx (bodyX P w K mg base N_check_program "check_program" s_check_program f cdv A outer s H E) K (WD E) 8) : ∃ ts, XB (bodyX P w K mg base N_check_program "check_program" s_check_program f cdv A outer s H E) K (WD E) (defBody s_check_program) ts ms_check_program := ⟨_, (xb_cons (xs_set 1 C.nd (xe_call C D_program_fault (by decide) (xa_cons (xe_varC C 0) xa_nil)))
  (xb_one (xs_if (xt_cmp op_notA rs_isnot (xe_varC C 1) xe_non)
  (xb_one (xs_raiseF C (by decide) X_InvalidProgram (xe_varC C 1)))
  xb_nil)))⟩
theorem body_path {f G0 : Addr} (T : Tx K mg) (D_check_program : Def P w K mg base 9 "check_program" ["program"] (spD K p_check_program)) (cdv : Value) (A : Around) (outer : List PySem.Env) (s : Shared) (H : Hp) (E : XK) (C : Ctx (bodyX P w K mg base N_path "path" s_path f cdv A outer s H E) K (WD E) 9) (t : Tab (bodyX P w K mg base N_path "path" s_path f cdv A outer s H E) G0) : ∃ ts, XB (bodyX P w K mg base N_path "path" s_path f cdv A outer s H E) K (WD E) (defBody s_path) ts ms_path := ⟨_, (xb_cons (xs_expr (xe_call C D_check_program (by decide) (xa_cons (xe_varC C 0) xa_nil)))
  (xb_cons (xs_asg (xe_varC C 0) (xg_tup (n := 2) C (xgs_cons (xg_name 1 C.nd) (xgs_cons (xg_name 2 C.nd) xgs_nil (fun q1 q2 => pgs_cons q1 q2)) (fun q1 q2 => pgs_cons q1 q2))) (fun p1 p2 => ps_asg p1 p2))
  (xb_one (xs_ret (xe_add C (xe_tup (xa_cons (xe_varC C 1) xa_nil)) (by (refine xe_tupX C t (k' := 4) (te := ?te1) (g := ?g1) (vs0 := ?vs1) (by decide) (xi_tup C (xe_varC C 2)) (GX.genOk_by (by decide +kernel)) (blkOk_by (own := [("step", 3)]) (N := N_path) (sc := defScope s_path) (by decide +kernel)) ?hg1 ?he1 rfl ?hv1 T.tuple (by intro _; rfl)); (case hg1 => (intro A2 s2 H2 c2 fp2 pn2 C; exact (xg_name 3 C.nd))); (case he1 => (intro A2 s2 H2 c2 fp2 pn2 C; exact (xe_ix C (xe_varC C 3) xe_int))); (case hv1 => decide)))))))⟩
theorem body_apart {f G0 : Addr} (T : Tx K mg) (D_subtracted : Def P w K mg base 2 "subtracted" ["one", "other"] (spD K p_subtracted)) (cdv : Value) (A : Around) (outer : List PySem.Env) (s : Shared) (H : Hp) (E : XK) (C : Ctx (bodyX P w K mg base N_apart "apart" s_apart f cdv A outer s H E) K (WD E) 7) (t : Tab (bodyX P w K mg base N_apart "apart" s_apart f cdv A outer s H E) G0) : ∃ ts, XB (bodyX P w K mg base N_apart "apart" s_apart f cdv A outer s H E) K (WD E) (defBody s_apart) ts ms_apart := ⟨_, (xb_one (xs_ret (by (refine xe_tupX C t (k' := 2) (te := ?te1) (g := ?g1) (vs0 := ?vs1) (by decide) (xi_zip C T.zip (xa_cons (xe_varC C 0) (xa_cons (xe_varC C 1) xa_nil))) (GX.genOk_by (by decide +kernel)) (blkOk_by (own := [("at", 2), ("to", 3)]) (N := N_apart) (sc := defScope s_apart) (by decide +kernel)) ?hg1 ?he1 rfl ?hv1 T.tuple (by intro _; rfl)); (case hg1 => (intro A2 s2 H2 c2 fp2 pn2 C; exact (xg_tup (n := 2) C (xgs_cons (xg_name 2 C.nd) (xgs_cons (xg_name 3 C.nd) xgs_nil (fun q1 q2 => pgs_cons q1 q2)) (fun q1 q2 => pgs_cons q1 q2))))); (case he1 => (intro A2 s2 H2 c2 fp2 pn2 C; exact (xe_call C D_subtracted (by decide) (xa_cons (xe_varC C 3) (xa_cons (xe_varC C 2) xa_nil))))); (case hv1 => decide))))⟩
theorem body_distances {f : Addr} (T : Tx K mg) (D_apart : Def P w K mg base 8 "apart" ["one", "other"] (spD K p_apart)) (D_path : Def P w K mg base 10 "path" ["program"] (spD K p_path)) (cdv : Value) (A : Around) (outer : List PySem.Env) (s : Shared) (H : Hp) (E : XK) (C : Ctx (bodyX P w K mg base N_distances "distances" s_distances f cdv A outer s H E) K (WD E) 10) : ∃ ts, XB (bodyX P w K mg base N_distances "distances" s_distances f cdv A outer s H E) K (WD E) (defBody s_distances) ts ms_distances := ⟨_, (xb_cons (xs_set 1 C.nd (xe_call C D_path (by decide) (xa_cons (xe_varC C 0) xa_nil)))
  (xb_one (xs_ret (by (refine xe_lc (te := ?te1) (tt := ?tt1) (g := ?g1) (vs0 := ?vs1) C (xi_zip C T.zip (xa_cons (xe_varC C 1) (xa_cons (xe_sl C (xe_varC C 1) (xo_some xe_int) xo_none) xa_nil))) (blkOk_by (own := [("begin", 2), ("end", 3)]) (N := N_distances) (sc := defScope s_distances) (by decide +kernel)) ?hg1 ?ht1 ?he1 rfl ?hv1 (by intro _; rfl)); (case hg1 => (intro s2 H2 c2 cl2 fp2 C; exact (xg_tup (n := 2) C (xgs_cons (xg_name 2 C.nd) (xgs_cons (xg_name 3 C.nd) xgs_nil (fun q1 q2 => pgs_cons q1 q2)) (fun q1 q2 => pgs_cons q1 q2))))); (case ht1 => (intro s2 H2 c2 cl2 fp2 C; exact xts_nil)); (case he1 => (intro s2 H2 c2 cl2 fp2 C; exact (xe_call C D_apart (by decide) (xa_cons (xe_varC C 2) (xa_cons (xe_varC C 3) xa_nil))))); (case hv1 => decide)))))⟩
theorem body_length_of {f : Addr} (T : Tx K mg) (D_absolute : Def P w K mg base 1 "absolute" ["number"] (spD K p_absolute)) (D_largest : Def P w K mg base 2 "largest" ["numbers"] (spD K p_largest)) (cdv : Value) (A : Around) (outer : List PySem.Env) (s : Shared) (H : Hp) (E : XK) (C : Ctx (bodyX P w K mg base N_length_of "length_of" s_length_of f cdv A outer s H E) K (WD E) 2) : ∃ ts, XB (bodyX P w K mg base N_length_of "length_of" s_length_of f cdv A outer s H E) K (WD E) (defBody s_length_of) ts ms_length_of := ⟨_, (xb_one (xs_ret (xe_call C D_largest (by decide) (xa_cons (by (refine xe_lc (te := ?te1) (tt := ?tt1) (g := ?g1) (vs0 := ?vs1) C (xi_tup C (xe_varC C 0)) (blkOk_by (own := [("part", 1)]) (N := N_length_of) (sc := defScope s_length_of) (by decide +kernel)) ?hg1 ?ht1 ?he1 rfl ?hv1 (by intro _; rfl)); (case hg1 => (intro s2 H2 c2 cl2 fp2 C; exact (xg_name 1 C.nd))); (case ht1 => (intro s2 H2 c2 cl2 fp2 C; exact xts_nil)); (case he1 => (intro s2 H2 c2 cl2 fp2 C; exact (xe_call C D_absolute (by decide) (xa_cons (xe_varC C 1) xa_nil)))); (case hv1 => decide)) xa_nil))))⟩
theorem body_lengths {f G0 : Addr} (T : Tx K mg) (D_distances : Def P w K mg base 11 "distances" ["program"] (spD K p_distances)) (D_length_of : Def P w K mg base 3 "length_of" ["distance"] (spD K p_length_of)) (cdv : Value) (A : Around) (outer : List PySem.Env) (s : Shared) (H : Hp) (E : XK) (C : Ctx (bodyX P w K mg base N_lengths "lengths" s_lengths f cdv A outer s H E) K (WD E) 11) (t : Tab (bodyX P w K mg base N_lengths "lengths" s_lengths f cdv A outer s H E) G0) : ∃ ts, XB (bodyX P w K mg base N_lengths "lengths" s_lengths f cdv A outer s H E) K (WD E) (defBody s_lengths) ts ms_lengths := ⟨_, (xb_one (xs_ret (by (refine xe_tupX C t (k' := 6) (te := ?te1) (g := ?g1) (vs0 := ?vs1) (by decide) (xi_list C (xe_call C D_distances (by decide) (xa_cons (xe_varC C 0) xa_nil))) (GX.genOk_by (by decide +kernel)) (blkOk_by (own := [("distance", 1)]) (N := N_lengths) (sc := defScope s_lengths) (by decide +kernel)) ?hg1 ?he1 rfl ?hv1 T.tuple (by intro _; rfl)); (case hg1 => (intro A2 s2 H2 c2 fp2 pn2 C; exact (xg_name 1 C.nd))); (case he1 => (intro A2 s2 H2 c2 fp2 pn2 C; exact (xe_call C D_length_of (by decide) (xa_cons (xe_varC C 1) xa_nil)))); (case hv1 => decide))))⟩
theorem body_direction_of {f G0 : Addr} (T : Tx K mg) (D_divided : Def P w K mg base 2 "divided" ["one", "other"] (spD K p_divided)) (D_length_of : Def P w K mg base 3 "length_of" ["distance"] (spD K p_length_of)) (cdv : Value) (A : Around) (outer : List PySem.Env) (s : Shared) (H : Hp) (E : XK) (C : Ctx (bodyX P w K mg base N_direction_of "direction_of" s_direction_of f cdv A outer s H E) K (WD E) 7) (t : Tab (bodyX P w K mg base N_direction_of "direction_of" s_direction_of f cdv A outer s H E) G0) : ∃ ts, XB (bodyX P w K mg base N_direction_of "direction_of" s_direction_of f cdv A outer s H E) K (WD E) (defBody s_direction_of) ts ms_direction_of := ⟨_, (xb_cons (xs_set 1 C.nd (xe_call C D_length_of (by decide) (xa_cons (xe_varC C 0) xa_nil)))
  (xb_one (xs_ret (by (refine xe_tupX C t (k' := 2) (te := ?te1) (g := ?g1) (vs0 := ?vs1) (by decide) (xi_tup C (xe_varC C 0)) (GX.genOk_by (by decide +kernel)) (blkOk_by (own := [("part", 2)]) (N := N_direction_of) (sc := defScope s_direction_of) (by decide +kernel)) ?hg1 ?he1 rfl ?hv1 T.tuple (by intro _; rfl)); (case hg1 => (intro A2 s2 H2 c2 fp2 pn2 C; exact (xg_name 2 C.nd))); (case he1 => (intro A2 s2 H2 c2 fp2 pn2 C; exact (xe_call C D_divided (by decide) (xa_cons (xe_varC C 2) (xa_cons (xe_varC C 1) xa_nil))))); (case hv1 => decide)))))⟩
theorem body_directions {f G0 : Addr} (T : Tx K mg) (D_direction_of : Def P w K mg base 8 "direction_of" ["distance"] (spD K p_direction_of)) (D_distances : Def P w K mg base 11 "distances" ["program"] (spD K p_distances)) (cdv : Value) (A : Around) (outer : List PySem.Env) (s : Shared) (H : Hp) (E : XK) (C : Ctx (bodyX P w K mg base N_directions "directions" s_directions f cdv A outer s H E) K (WD E) 13) (t : Tab (bodyX P w K mg base N_directions "directions" s_directions f cdv A outer s H E) G0) : ∃ ts, XB (bodyX P w K mg base N_directions "directions" s_directions f cdv A outer s H E) K (WD E) (defBody s_directions) ts ms_directions := ⟨_, (xb_one (xs_ret (by (refine xe_tupX C t (k' := 8) (te := ?te1) (g := ?g1) (vs0 := ?vs1) (by decide) (xi_list C (xe_call C D_distances (by decide) (xa_cons (xe_varC C 0) xa_nil))) (GX.genOk_by (by decide +kernel)) (blkOk_by (own := [("distance", 1)]) (N := N_directions) (sc := defScope s_directions) (by decide +kernel)) ?hg1 ?he1 rfl ?hv1 T.tuple (by intro _; rfl)); (case hg1 => (intro A2 s2 H2 c2 fp2 pn2 C; exact (xg_name 1 C.nd))); (case he1 => (intro A2 s2 H2 c2 fp2 pn2 C; exact (xe_call C D_direction_of (by decide) (xa_cons (xe_varC C 1) xa_nil)))); (case hv1 => decide))))⟩
theorem body_ways {f : Addr} (T : Tx K mg) (D_added : Def P w K mg base 1 "added" ["one", "other"] (spD K p_added)) (D_lengths : Def P w K mg base 12 "lengths" ["program"] (spD K p_lengths)) (cdv : Value) (A : Around) (outer : List PySem.Env) (s : Shared) (H : Hp) (E : XK) (C : Ctx (bodyX P w K mg base N_ways "ways" s_ways f cdv A outer s H E) K (WD E) 12) : ∃ ts, XB (bodyX P w K mg base N_ways "ways" s_ways f cdv A outer s H E) K (WD E) (defBody s_ways) ts ms_ways := ⟨_, (xb_cons (xs_setO 1 C.nd (xn_lst (xa_cons (xe_const C T.c_NOUGHT) xa_nil)))
  (xb_cons (xs_for C (xi_tup C (xe_call C D_lengths (by decide) (xa_cons (xe_varC C 0) xa_nil))) (xg_name 2 C.nd)
  (xb_one (xs_app C 1 (xe_call C D_added (by decide) (xa_cons (xe_ixO C 1 (xe_neg xe_int)) (xa_cons (xe_varC C 2) xa_nil))) (fun pe => ps_expr (pe_bm PySem.F.plainAttrs_list PySem.F.slot_list_append PySem.F.type_list_append mt_append (pv 1) (pa_cons pe pa_nil))))))
  (xb_one (xs_frz 1 (xs_ret (xe_tupleC C T.tuple (xa_cons (xe_varC C 1) xa_nil)))))))⟩
theorem body_whole {f : Addr} (T : Tx K mg) (D_ways : Def P w K mg base 13 "ways" ["program"] (spD K p_ways)) (cdv : Value) (A : Around) (outer : List PySem.Env) (s : Shared) (H : Hp) (E : XK) (C : Ctx (bodyX P w K mg base N_whole "whole" s_whole f cdv A outer s H E) K (WD E) 13) : ∃ ts, XB (bodyX P w K mg base N_whole "whole" s_whole f cdv A outer s H E) K (WD E) (defBody s_whole) ts ms_whole := ⟨_, (xb_one (xs_ret (xe_ix C (xe_call C D_ways (by decide) (xa_cons (xe_varC C 0) xa_nil)) (xe_neg xe_int))))⟩
theorem body__law_same {f : Addr} {lv k : Nat} {pr : Spc} (hk : 0 ≤ k) (hrec : lv ≤ k) (T : Tx K mg) (D_rec : Def P w K mg base lv "_law_same" ["found", "due"] (spD K pr))  (cdv : Value) (A : Around) (outer : List PySem.Env) (s : Shared) (H : Hp) (E : XK) (C : Ctx (bodyX P w K mg base N__law_same "_law_same" s__law_same f cdv A outer s H E) K (WD E) k) : ∃ ts, XB (bodyX P w K mg base N__law_same "_law_same" s__law_same f cdv A outer s H E) K (WD E) (defBody s__law_same) ts (ms__law_same pr) := ⟨_, (xb_cons (xs_if (xt_truth C (xe_isi2 (T := "tuple") (U := "list") C (by decide) (by decide) T.isinstance T.tuple T.list bt_tuple bt_list (xe_varC C 1)))
  (xb_cons (xs_if (xt_w (xw_or (xt_neD C (xe_isi (T := "tuple") C (by decide) T.isinstance T.tuple bt_tuple (xe_varC C 0)) (xe_isi (T := "tuple") C (by decide) T.isinstance T.tuple bt_tuple (xe_varC C 1))) (xw_or1 (xt_neD C (xe_isi (T := "list") C (by decide) T.isinstance T.list bt_list (xe_varC C 0)) (xe_isi (T := "list") C (by decide) T.isinstance T.list bt_list (xe_varC C 1))))))
  (xb_one (xs_ret xe_bl))
  xb_nil)
  (xb_one (xs_ret (xe_and (xe_eqD C (xe_len C T.len (xa_cons (xe_varC C 0) xa_nil)) (xe_len C T.len (xa_cons (xe_varC C 1) xa_nil))) (xe_one (xe_all C T.all (xa_cons (by (refine xe_lc (te := ?te1) (tt := ?tt1) (g := ?g1) (vs0 := ?vs1) C (xi_range1 T.range (xa_cons (xe_len C T.len (xa_cons (xe_varC C 1) xa_nil)) xa_nil)) (blkOk_by (own := [("k", 2)]) (N := N__law_same) (sc := defScope s__law_same) (by decide +kernel)) ?hg1 ?ht1 ?he1 rfl ?hv1 (by intro _; rfl)); (case hg1 => (intro s2 H2 c2 cl2 fp2 C; exact (xg_name 2 C.nd))); (case ht1 => (intro s2 H2 c2 cl2 fp2 C; exact xts_nil)); (case he1 => (intro s2 H2 c2 cl2 fp2 C; exact (xe_call C D_rec hrec (xa_cons (xe_ix C (xe_varC C 0) (xe_varC C 2)) (xa_cons (xe_ix C (xe_varC C 1) (xe_varC C 2)) xa_nil))))); (case hv1 => decide)) xa_nil)))))))
  xb_nil)
  (xb_cons (xs_if (xt_w (xw_or (xt_neD C (xe_isi (T := "bool") C (by decide) T.isinstance T.bool bt_bool (xe_varC C 0)) (xe_isi (T := "bool") C (by decide) T.isinstance T.bool bt_bool (xe_varC C 1))) (xw_or1 (xt_neD C (xe_isi (T := "int") C (by decide) T.isinstance T.int bt_int (xe_varC C 0)) (xe_isi (T := "int") C (by decide) T.isinstance T.int bt_int (xe_varC C 1))))))
  (xb_one (xs_ret xe_bl))
  xb_nil)
  (xb_one (xs_ret (xe_and (xe_eqD C (xe_isi (T := "str") C (by decide) T.isinstance T.str bt_str (xe_varC C 0)) (xe_isi (T := "str") C (by decide) T.isinstance T.str bt_str (xe_varC C 1))) (xe_one (xe_eqD C (xe_varC C 0) (xe_varC C 1))))))))⟩
theorem body__law_low {f : Addr} (T : Tx K mg)  (cdv : Value) (A : Around) (outer : List PySem.Env) (s : Shared) (H : Hp) (E : XK) (C : Ctx (bodyX P w K mg base N__law_low "_law_low" s__law_low f cdv A outer s H E) K (WD E) 0) : ∃ ts, XB (bodyX P w K mg base N__law_low "_law_low" s__law_low f cdv A outer s H E) K (WD E) (defBody s__law_low) ts ms__law_low := ⟨_, (xb_cons (xs_par 2 3 (xa_cons (xe_cb call_abs rc_abs T.abs bt_abs (xa_cons (xe_varC C 0) xa_nil)) (xa_cons (xe_cb call_abs rc_abs T.abs bt_abs (xa_cons (xe_varC C 1) xa_nil)) xa_nil)) (fun pa => ps_par (by rfl) C.nd rfl rfl (by decide) rfl rfl pa (by rfl)))
  (xb_cons (xs_while C (xt_cmp op_gt rs_gt (xe_varC C 3) xe_int)
  (xb_one (xs_par 2 3 (xa_cons (xe_varC C 3) (xa_cons (xe_mod (xe_cty call_int1 rc_int T.int bt_int (xa_cons (xe_varC C 2) xa_nil)) (xe_varC C 3)) xa_nil)) (fun pa => ps_par (by rfl) C.nd rfl rfl (by decide) rfl rfl pa (by rfl)))))
  (xb_cons (xs_set 2 C.nd (xe_if (xt_cmp op_gt rs_gt (xe_varC C 1) xe_int) (xe_varC C 2) (xe_neg (xe_varC C 2))))
  (xb_one (xs_ret (xe_tup (xa_cons (xe_fdiv (xe_varC C 0) (xe_varC C 2)) (xa_cons (xe_fdiv (xe_varC C 1) (xe_varC C 2)) xa_nil))))))))⟩
theorem body__law_add {f : Addr} (T : Tx K mg) (D__law_low : Def P w K mg base 1 "_law_low" ["top", "bottom"] (spD K p__law_low)) (cdv : Value) (A : Around) (outer : List PySem.Env) (s : Shared) (H : Hp) (E : XK) (C : Ctx (bodyX P w K mg base N__law_add "_law_add" s__law_add f cdv A outer s H E) K (WD E) 1) : ∃ ts, XB (bodyX P w K mg base N__law_add "_law_add" s__law_add f cdv A outer s H E) K (WD E) (defBody s__law_add) ts ms__law_add := ⟨_, (xb_one (xs_ret (xe_call C D__law_low (by decide) (xa_cons (xe_add C (xe_mul (xe_ix C (xe_varC C 0) xe_int) (xe_ix C (xe_varC C 1) xe_int)) (xe_mul (xe_ix C (xe_varC C 1) xe_int) (xe_ix C (xe_varC C 0) xe_int))) (xa_cons (xe_mul (xe_ix C (xe_varC C 0) xe_int) (xe_ix C (xe_varC C 1) xe_int)) xa_nil)))))⟩
theorem body__law_take {f : Addr} (T : Tx K mg) (D__law_low : Def P w K mg base 1 "_law_low" ["top", "bottom"] (spD K p__law_low)) (cdv : Value) (A : Around) (outer : List PySem.Env) (s : Shared) (H : Hp) (E : XK) (C : Ctx (bodyX P w K mg base N__law_take "_law_take" s__law_take f cdv A outer s H E) K (WD E) 1) : ∃ ts, XB (bodyX P w K mg base N__law_take "_law_take" s__law_take f cdv A outer s H E) K (WD E) (defBody s__law_take) ts ms__law_take := ⟨_, (xb_one (xs_ret (xe_call C D__law_low (by decide) (xa_cons (xe_sub (xe_mul (xe_ix C (xe_varC C 0) xe_int) (xe_ix C (xe_varC C 1) xe_int)) (xe_mul (xe_ix C (xe_varC C 1) xe_int) (xe_ix C (xe_varC C 0) xe_int))) (xa_cons (xe_mul (xe_ix C (xe_varC C 0) xe_int) (xe_ix C (xe_varC C 1) xe_int)) xa_nil)))))⟩
theorem body__law_mul {f : Addr} (T : Tx K mg) (D__law_low : Def P w K mg base 1 "_law_low" ["top", "bottom"] (spD K p__law_low)) (cdv : Value) (A : Around) (outer : List PySem.Env) (s : Shared) (H : Hp) (E : XK) (C : Ctx (bodyX P w K mg base N__law_mul "_law_mul" s__law_mul f cdv A outer s H E) K (WD E) 1) : ∃ ts, XB (bodyX P w K mg base N__law_mul "_law_mul" s__law_mul f cdv A outer s H E) K (WD E) (defBody s__law_mul) ts ms__law_mul := ⟨_, (xb_one (xs_ret (xe_call C D__law_low (by decide) (xa_cons (xe_mul (xe_ix C (xe_varC C 0) xe_int) (xe_ix C (xe_varC C 1) xe_int)) (xa_cons (xe_mul (xe_ix C (xe_varC C 0) xe_int) (xe_ix C (xe_varC C 1) xe_int)) xa_nil)))))⟩
theorem body__law_div {f : Addr} (T : Tx K mg) (D__law_low : Def P w K mg base 1 "_law_low" ["top", "bottom"] (spD K p__law_low)) (cdv : Value) (A : Around) (outer : List PySem.Env) (s : Shared) (H : Hp) (E : XK) (C : Ctx (bodyX P w K mg base N__law_div "_law_div" s__law_div f cdv A outer s H E) K (WD E) 1) : ∃ ts, XB (bodyX P w K mg base N__law_div "_law_div" s__law_div f cdv A outer s H E) K (WD E) (defBody s__law_div) ts ms__law_div := ⟨_, (xb_one (xs_ret (xe_call C D__law_low (by decide) (xa_cons (xe_mul (xe_ix C (xe_varC C 0) xe_int) (xe_ix C (xe_varC C 1) xe_int)) (xa_cons (xe_mul (xe_ix C (xe_varC C 0) xe_int) (xe_ix C (xe_varC C 1) xe_int)) xa_nil)))))⟩
theorem body__law_under {f : Addr} (T : Tx K mg)  (cdv : Value) (A : Around) (outer : List PySem.Env) (s : Shared) (H : Hp) (E : XK) (C : Ctx (bodyX P w K mg base N__law_under "_law_under" s__law_under f cdv A outer s H E) K (WD E) 0) : ∃ ts, XB (bodyX P w K mg base N__law_under "_law_under" s__law_under f cdv A outer s H E) K (WD E) (defBody s__law_under) ts ms__law_under := ⟨_, (xb_one (xs_ret (xe_cmp op_lt rs_lt (xe_mul (xe_ix C (xe_varC C 0) xe_int) (xe_ix C (xe_varC C 1) xe_int)) (xe_mul (xe_ix C (xe_varC C 1) xe_int) (xe_ix C (xe_varC C 0) xe_int)))))⟩
theorem body__law_size {f : Addr} (T : Tx K mg)  (cdv : Value) (A : Around) (outer : List PySem.Env) (s : Shared) (H : Hp) (E : XK) (C : Ctx (bodyX P w K mg base N__law_size "_law_size" s__law_size f cdv A outer s H E) K (WD E) 0) : ∃ ts, XB (bodyX P w K mg base N__law_size "_law_size" s__law_size f cdv A outer s H E) K (WD E) (defBody s__law_size) ts ms__law_size := ⟨_, (xb_one (xs_ret (xe_tup (xa_cons (xe_cb call_abs rc_abs T.abs bt_abs (xa_cons (xe_ix C (xe_varC C 0) xe_int) xa_nil)) (xa_cons (xe_ix C (xe_varC C 0) xe_int) xa_nil)))))⟩
theorem body__law_spot {f : Addr} (T : Tx K mg) (D__law_add : Def P w K mg base 2 "_law_add" ["a", "b"] (spD K p__law_add)) (D__law_low : Def P w K mg base 1 "_law_low" ["top", "bottom"] (spD K p__law_low)) (D__law_tooth : Def P w K mg base 1 "_law_tooth" ["gear", "many"] (spS K p__law_tooth)) (cdv : Value) (A : Around) (outer : List PySem.Env) (s : Shared) (H : Hp) (E : XK) (C : Ctx (bodyX P w K mg base N__law_spot "_law_spot" s__law_spot f cdv A outer s H E) K (WD E) 2) : ∃ ts, XB (bodyX P w K mg base N__law_spot "_law_spot" s__law_spot f cdv A outer s H E) K (WD E) (defBody s__law_spot) ts ms__law_spot := ⟨_, (xb_cons (xs_setO 2 C.nd (xn_lst xa_nil))
  (xb_cons (xs_for C (xi_range1 T.range (xa_cons (xe_varC C 1) xa_nil)) (xg_name 3 C.nd)
  (xb_cons (xs_set 4 C.nd (xe_call C D__law_low (by decide) (xa_cons (xe_sub (xe_callS C D__law_tooth (by decide) 0 (xa_cons xe_int xa_nil)) xe_int) (xa_cons (xe_ix C (xe_lst (xa_cons xe_int (xa_cons xe_int (xa_cons xe_int (xa_cons xe_int xa_nil))))) (xe_callS C D__law_tooth (by decide) 0 (xa_cons xe_int xa_nil))) xa_nil))))
  (xb_one (xs_app C 2 (xe_if (xt_eqD C (xe_callS C D__law_tooth (by decide) 0 (xa_cons xe_int xa_nil)) xe_int) (xe_call C D__law_add (by decide) (xa_cons (xe_varC C 4) (xa_cons (xe_tup (xa_cons xe_int (xa_cons (xe_pow xe_int xe_int) xa_nil))) xa_nil))) (xe_varC C 4)) (fun pe => ps_expr (pe_bm PySem.F.plainAttrs_list PySem.F.slot_list_append PySem.F.type_list_append mt_append (pv 2) (pa_cons pe pa_nil)))))))
  (xb_one (xs_frz 2 (xs_ret (xe_tupleC C T.tuple (xa_cons (xe_varC C 2) xa_nil)))))))⟩
theorem body__law_next {f : Addr} (T : Tx K mg) (D__law_add : Def P w K mg base 2 "_law_add" ["a", "b"] (spD K p__law_add)) (D__law_mul : Def P w K mg base 2 "_law_mul" ["a", "b"] (spD K p__law_mul)) (D__law_spot : Def P w K mg base 3 "_law_spot" ["gear", "axes"] (spS K p__law_spot)) (D__law_tooth : Def P w K mg base 1 "_law_tooth" ["gear", "many"] (spS K p__law_tooth)) (cdv : Value) (A : Around) (outer : List PySem.Env) (s : Shared) (H : Hp) (E : XK) (C : Ctx (bodyX P w K mg base N__law_next "_law_next" s__law_next f cdv A outer s H E) K (WD E) 3) : ∃ ts, XB (bodyX P w K mg base N__law_next "_law_next" s__law_next f cdv A outer s H E) K (WD E) (defBody s__law_next) ts ms__law_next := ⟨_, (xb_cons (xs_par 3 4 (xa_cons (xe_len C T.len (xa_cons (xe_varC C 1) xa_nil)) (xa_cons (xe_callS C D__law_tooth (by decide) 0 (xa_cons xe_int xa_nil)) xa_nil)) (fun pa => ps_par (by rfl) C.nd rfl rfl (by decide) rfl rfl pa (by rfl)))
  (xb_cons (xs_setO 5 C.nd (xn_list C T.list (xa_cons (xe_callS C D__law_spot (by decide) 0 (xa_cons (xe_varC C 3) xa_nil)) xa_nil)))
  (xb_cons (xs_if (xt_w (xw_and (xt_cmp op_lt rs_lt (xe_varC C 4) xe_int) (xw_and (xt_neD C (xe_varC C 2) (xe_tup xa_nil)) (xw_and1 (xt_eqD C (by (refine xe_lc1 (te := ?te1) (tt := ?tt1) (g := ?g1) (vs0 := ?vs1) C (xi_tup C (xe_varC C 1)) (blkOk_by (own := [("part", 6)]) (N := N__law_next) (sc := defScope s__law_next) (by decide +kernel)) ?hg1 ?ht1 ?he1 rfl ?hv1 (by intro _; rfl)); (case hg1 => (intro s2 H2 c2 cl2 fp2 C; exact (xg_name 6 C.nd))); (case ht1 => (intro s2 H2 c2 cl2 fp2 C; exact (xt_cmp op_gt rs_gt (xe_cb call_abs rc_abs T.abs bt_abs (xa_cons (xe_ix C (xe_varC C 6) xe_int) xa_nil)) (xe_mul xe_int (xe_ix C (xe_varC C 6) xe_int))))); (case he1 => (intro s2 H2 c2 cl2 fp2 C; exact xe_int)); (case hv1 => decide)) (xe_lst xa_nil))))))
  (xb_cons (xs_set 7 C.nd (xe_ix C (xe_lst (xa_cons (xe_tup (xa_cons xe_int (xa_cons xe_int xa_nil))) (xa_cons (xe_tup (xa_cons xe_int (xa_cons xe_int xa_nil))) (xa_cons (xe_tup (xa_cons (xe_neg xe_int) (xa_cons xe_int xa_nil))) (xa_cons (xe_tup (xa_cons (xe_neg xe_int) (xa_cons xe_int xa_nil))) (xa_cons (xe_tup (xa_cons xe_int (xa_cons xe_int xa_nil))) xa_nil)))))) (xe_varC C 4)))
  (xb_cons (xs_frz 5 (by (refine xs_lcO (te := ?te2) (tt := ?tt2) (g := ?g2) (vs0 := ?vs2) C 5 rfl rfl (sw_true rfl rfl rfl (by decide +kernel)) (xi_zip C T.zip (xa_cons (xe_varC C 1) (xa_cons (xe_varC C 2) xa_nil))) (blkOk_by (own := [("one", 8), ("two", 9)]) (N := N__law_next) (sc := defScope s__law_next) (by decide +kernel)) ?hg2 ?ht2 ?he2 rfl ?hv2 (by intro _; rfl)); (case hg2 => (intro s2 H2 c2 cl2 fp2 C; exact (xg_tup (n := 2) C (xgs_cons (xg_name 8 C.nd) (xgs_cons (xg_name 9 C.nd) xgs_nil (fun q1 q2 => pgs_cons q1 q2)) (fun q1 q2 => pgs_cons q1 q2))))); (case ht2 => (intro s2 H2 c2 cl2 fp2 C; exact xts_nil)); (case he2 => (intro s2 H2 c2 cl2 fp2 C; exact (xe_call C D__law_add (by decide) (xa_cons (xe_varC C 8) (xa_cons (xe_call C D__law_mul (by decide) (xa_cons (xe_varC C 9) (xa_cons (xe_varC C 7) xa_nil))) xa_nil))))); (case hv2 => decide)))
  (xb_one (xs_put 5 (xe_if (xt_eqD C (xe_varC C 4) xe_int) (xe_call C D__law_add (by decide) (xa_cons (xe_ixO C 5 xe_int) (xa_cons (xe_tup (xa_cons xe_int (xa_cons (xe_pow xe_int xe_int) xa_nil))) xa_nil))) (xe_ixO C 5 xe_int)) xe_int (fun p1 p2 => ps_asg p1 (pg_sub (pv 5) p2 set_list))))))
  xb_nil)
  (xb_cons (xs_if (xt_w (xw_or (xt_eqD C (xe_varC C 4) xe_int) (xw_or1 (xt_eqD C (xe_varC C 4) xe_int))))
  (xb_cons (xs_set 10 C.nd (xe_callS C D__law_tooth (by decide) 0 (xa_cons (xe_varC C 3) xa_nil)))
  (xb_one (xs_frz 5 (xs_setO 5 C.nd (xn_cat C (xe_add C (xe_listC C T.list (xa_cons (xe_sl C (xe_varC C 1) xo_none (xo_some (xe_varC C 10))) xa_nil)) (xe_lst (xa_cons (xe_if (xt_eqD C (xe_varC C 4) xe_int) (xe_ix C (xe_varC C 5) (xe_varC C 10)) (xe_call C D__law_add (by decide) (xa_cons (xe_ix C (xe_varC C 1) (xe_varC C 10)) (xa_cons (xe_tup (xa_cons xe_int (xa_cons (xe_pow xe_int xe_int) xa_nil))) xa_nil)))) xa_nil))) (xe_listC C T.list (xa_cons (xe_sl C (xe_varC C 1) (xo_some (xe_add C (xe_varC C 10) xe_int)) xo_none) xa_nil)))))))
  xb_nil)
  (xb_cons (xs_if (xt_eqD C (xe_tupO C 5 T.tuple) (xe_varC C 1))
  (xb_one (xs_put 5 (xe_call C D__law_add (by decide) (xa_cons (xe_ixO C 5 xe_int) (xa_cons (xe_tup (xa_cons xe_int (xa_cons xe_int xa_nil))) xa_nil))) xe_int (fun p1 p2 => ps_asg p1 (pg_sub (pv 5) p2 set_list))))
  xb_nil)
  (xb_one (xs_frz 5 (xs_ret (xe_tupleC C T.tuple (xa_cons (xe_varC C 5) xa_nil))))))))))⟩
theorem body__law_steps {f : Addr} (T : Tx K mg) (D__law_low : Def P w K mg base 1 "_law_low" ["top", "bottom"] (spD K p__law_low)) (D__law_mul : Def P w K mg base 2 "_law_mul" ["a", "b"] (spD K p__law_mul)) (D__law_next : Def P w K mg base 4 "_law_next" ["gear", "spot", "gap"] (spS K p__law_next)) (D__law_take : Def P w K mg base 2 "_law_take" ["a", "b"] (spD K p__law_take)) (D__law_tooth : Def P w K mg base 1 "_law_tooth" ["gear", "many"] (spS K p__law_tooth)) (cdv : Value) (A : Around) (outer : List PySem.Env) (s : Shared) (H : Hp) (E : XK) (C : Ctx (bodyX P w K mg base N__law_steps "_law_steps" s__law_steps f cdv A outer s H E) K (WD E) 4) : ∃ ts, XB (bodyX P w K mg base N__law_steps "_law_steps" s__law_steps f cdv A outer s H E) K (WD E) (defBody s__law_steps) ts ms__law_steps := ⟨_, (xb_cons (xs_par3O 3 4 5 (xn_lst xa_nil) (xa_cons (xe_varC C 1) (xa_cons (xe_tup xa_nil) xa_nil)) rfl (fun pa => ps_par3 (by rfl) C.nd rfl rfl rfl (by decide) (by decide) (by decide) rfl rfl rfl pa (by rfl)))
  (xb_cons (xs_for C (xi_range1 T.range (xa_cons (xe_varC C 2) xa_nil)) (xg_name 6 C.nd)
  (xb_cons (xs_set 7 C.nd (xe_callS C D__law_next (by decide) 0 (xa_cons (xe_varC C 4) (xa_cons (xe_varC C 5) xa_nil))))
  (xb_cons (xs_par 5 4 (xa_cons (xe_tupleC C T.tuple (xa_cons (by (refine xe_lc (te := ?te1) (tt := ?tt1) (g := ?g1) (vs0 := ?vs1) C (xi_zip C T.zip (xa_cons (xe_varC C 7) (xa_cons (xe_varC C 4) xa_nil))) (blkOk_by (own := [("one", 8), ("two", 9)]) (N := N__law_steps) (sc := defScope s__law_steps) (by decide +kernel)) ?hg1 ?ht1 ?he1 rfl ?hv1 (by intro _; rfl)); (case hg1 => (intro s2 H2 c2 cl2 fp2 C; exact (xg_tup (n := 2) C (xgs_cons (xg_name 8 C.nd) (xgs_cons (xg_name 9 C.nd) xgs_nil (fun q1 q2 => pgs_cons q1 q2)) (fun q1 q2 => pgs_cons q1 q2))))); (case ht1 => (intro s2 H2 c2 cl2 fp2 C; exact xts_nil)); (case he1 => (intro s2 H2 c2 cl2 fp2 C; exact (xe_call C D__law_take (by decide) (xa_cons (xe_varC C 8) (xa_cons (xe_varC C 9) xa_nil))))); (case hv1 => decide)) xa_nil)) (xa_cons (xe_varC C 7) xa_nil)) (fun pa => ps_par (by rfl) C.nd rfl rfl (by decide) rfl rfl pa (by rfl)))
  (xb_cons (xs_set 10 C.nd (xe_call C D__law_low (by decide) (xa_cons (xe_add C xe_int (xe_callS C D__law_tooth (by decide) 0 (xa_cons xe_int xa_nil))) (xa_cons (xe_ix C (xe_lst (xa_cons xe_int (xa_cons xe_int (xa_cons xe_int (xa_cons xe_int xa_nil))))) (xe_callS C D__law_tooth (by decide) 0 (xa_cons xe_int xa_nil))) xa_nil))))
  (xb_cons (xs_set 11 C.nd (xe_ix C (xe_lst (xa_cons (xe_tup (xa_cons xe_int (xa_cons xe_int xa_nil))) (xa_cons (xe_tup (xa_cons xe_int (xa_cons xe_int xa_nil))) (xa_cons (xe_varC C 10) (xa_cons (xe_call C D__law_mul (by decide) (xa_cons (xe_varC C 10) (xa_cons (xe_tup (xa_cons xe_int (xa_cons xe_int xa_nil))) xa_nil))) xa_nil))))) (xe_callS C D__law_tooth (by decide) 0 (xa_cons xe_int xa_nil))))
  (xb_one (xs_app C 3 (xe_tup (xa_cons (xe_varC C 7) (xa_cons (xe_varC C 10) (xa_cons (xe_varC C 11) (xa_cons (xe_eqD C (xe_callS C D__law_tooth (by decide) 0 (xa_cons xe_int xa_nil)) xe_int) xa_nil))))) (fun pe => ps_expr (pe_bm PySem.F.plainAttrs_list PySem.F.slot_list_append PySem.F.type_list_append mt_append (pv 3) (pa_cons pe pa_nil))))))))))
  (xb_one (xs_frz 3 (xs_ret (xe_tupleC C T.tuple (xa_cons (xe_varC C 3) xa_nil)))))))⟩
theorem body__law_program {f : Addr} (T : Tx K mg) (D__law_spot : Def P w K mg base 3 "_law_spot" ["gear", "axes"] (spS K p__law_spot)) (D__law_steps : Def P w K mg base 5 "_law_steps" ["gear", "start", "many"] (spS K p__law_steps)) (D__law_tooth : Def P w K mg base 1 "_law_tooth" ["gear", "many"] (spS K p__law_tooth)) (cdv : Value) (A : Around) (outer : List PySem.Env) (s : Shared) (H : Hp) (E : XK) (C : Ctx (bodyX P w K mg base N__law_program "_law_program" s__law_program f cdv A outer s H E) K (WD E) 5) : ∃ ts, XB (bodyX P w K mg base N__law_program "_law_program" s__law_program f cdv A outer s H E) K (WD E) (defBody s__law_program) ts ms__law_program := ⟨_, (xb_cons (xs_set 2 C.nd (xe_callS C D__law_spot (by decide) 0 (xa_cons (xe_add C xe_int (xe_callS C D__law_tooth (by decide) 0 (xa_cons xe_int xa_nil))) xa_nil)))
  (xb_one (xs_ret (xe_tup (xa_cons (xe_varC C 2) (xa_cons (xe_callS C D__law_steps (by decide) 0 (xa_cons (xe_varC C 2) (xa_cons (xe_add C xe_int (xe_callS C D__law_tooth (by decide) 0 (xa_cons (xe_varC C 1) xa_nil))) xa_nil))) xa_nil))))))⟩
theorem body__law_trail {f : Addr} (T : Tx K mg)  (cdv : Value) (A : Around) (outer : List PySem.Env) (s : Shared) (H : Hp) (E : XK) (C : Ctx (bodyX P w K mg base N__law_trail "_law_trail" s__law_trail f cdv A outer s H E) K (WD E) 0) : ∃ ts, XB (bodyX P w K mg base N__law_trail "_law_trail" s__law_trail f cdv A outer s H E) K (WD E) (defBody s__law_trail) ts ms__law_trail := ⟨_, (xb_one (xs_ret (xe_add C (xe_lst (xa_cons (xe_ix C (xe_varC C 0) xe_int) xa_nil)) (by (refine xe_lc (te := ?te1) (tt := ?tt1) (g := ?g1) (vs0 := ?vs1) C (xi_tup C (xe_ix C (xe_varC C 0) xe_int)) (blkOk_by (own := [("step", 1)]) (N := N__law_trail) (sc := defScope s__law_trail) (by decide +kernel)) ?hg1 ?ht1 ?he1 rfl ?hv1 (by intro _; rfl)); (case hg1 => (intro s2 H2 c2 cl2 fp2 C; exact (xg_name 1 C.nd))); (case ht1 => (intro s2 H2 c2 cl2 fp2 C; exact xts_nil)); (case he1 => (intro s2 H2 c2 cl2 fp2 C; exact (xe_ix C (xe_varC C 1) xe_int))); (case hv1 => decide)))))⟩
theorem body__law_gaps {f : Addr} (T : Tx K mg) (D__law_take : Def P w K mg base 2 "_law_take" ["a", "b"] (spD K p__law_take)) (D__law_trail : Def P w K mg base 1 "_law_trail" ["told"] (spD K p__law_trail)) (cdv : Value) (A : Around) (outer : List PySem.Env) (s : Shared) (H : Hp) (E : XK) (C : Ctx (bodyX P w K mg base N__law_gaps "_law_gaps" s__law_gaps f cdv A outer s H E) K (WD E) 2) : ∃ ts, XB (bodyX P w K mg base N__law_gaps "_law_gaps" s__law_gaps f cdv A outer s H E) K (WD E) (defBody s__law_gaps) ts ms__law_gaps := ⟨_, (xb_cons (xs_set 1 C.nd (xe_call C D__law_trail (by decide) (xa_cons (xe_varC C 0) xa_nil)))
  (xb_one (xs_ret (by (refine xe_lc (te := ?te2) (tt := ?tt2) (g := ?g2) (vs0 := ?vs2) C (xi_range1 T.range (xa_cons (xe_sub (xe_len C T.len (xa_cons (xe_varC C 1) xa_nil)) xe_int) xa_nil)) (blkOk_by (own := [("k", 4)]) (N := N__law_gaps) (sc := defScope s__law_gaps) (by decide +kernel)) ?hg2 ?ht2 ?he2 rfl ?hv2 (by intro _; rfl)); (case hg2 => (intro s2 H2 c2 cl2 fp2 C; exact (xg_name 4 C.nd))); (case ht2 => (intro s2 H2 c2 cl2 fp2 C; exact xts_nil)); (case he2 => (intro s2 H2 c2 cl2 fp2 C; exact (by (refine' xe_lc (own := [("one", 2), ("two", 3)]) C (xi_zip C T.zip (xa_cons (xe_ix C (xe_varC C 1) (xe_add C (xe_varC C 4) xe_int)) (xa_cons (xe_ix C (xe_varC C 1) (xe_varC C 4)) xa_nil))) ?hb1 ?hg1 ?ht1 ?he1 rfl ?hv1 (by intro _; rfl)); (case hg1 => (intro s2 H2 c2 cl2 fp2 C; exact (xg_tup (n := 2) C (xgs_cons (xg_name 2 C.nd) (xgs_cons (xg_name 3 C.nd) xgs_nil (fun q1 q2 => pgs_cons q1 q2)) (fun q1 q2 => pgs_cons q1 q2))))); (case ht1 => (intro s2 H2 c2 cl2 fp2 C; exact xts_nil)); (case he1 => (intro s2 H2 c2 cl2 fp2 C; exact (xe_call C D__law_take (by decide) (xa_cons (xe_varC C 2) (xa_cons (xe_varC C 3) xa_nil))))); (case hv1 => decide); (case hb1 => exact (blkOk_by (own := [("one", 2), ("two", 3)]) (N := N__law_gaps) (sc := _) (by with_unfolding_all rfl)))))); (case hv2 => decide)))))⟩
theorem body__law_long {f : Addr} (T : Tx K mg) (D__law_size : Def P w K mg base 1 "_law_size" ["a"] (spD K p__law_size)) (D__law_under : Def P w K mg base 1 "_law_under" ["a", "b"] (spD K p__law_under)) (cdv : Value) (A : Around) (outer : List PySem.Env) (s : Shared) (H : Hp) (E : XK) (C : Ctx (bodyX P w K mg base N__law_long "_law_long" s__law_long f cdv A outer s H E) K (WD E) 1) : ∃ ts, XB (bodyX P w K mg base N__law_long "_law_long" s__law_long f cdv A outer s H E) K (WD E) (defBody s__law_long) ts ms__law_long := ⟨_, (xb_cons (xs_set 1 C.nd (xe_tup (xa_cons xe_int (xa_cons xe_int xa_nil))))
  (xb_cons (xs_for C (xi_any C (xe_varC C 0)) (xg_name 2 C.nd)
  (xb_one (xs_if (xt_truth C (xe_call C D__law_under (by decide) (xa_cons (xe_varC C 1) (xa_cons (xe_call C D__law_size (by decide) (xa_cons (xe_varC C 2) xa_nil)) xa_nil))))
  (xb_one (xs_set 1 C.nd (xe_call C D__law_size (by decide) (xa_cons (xe_varC C 2) xa_nil))))
  xb_nil)))
  (xb_one (xs_ret (xe_varC C 1)))))⟩
theorem body__law_heads {f : Addr} (T : Tx K mg) (D__law_div : Def P w K mg base 2 "_law_div" ["a", "b"] (spD K p__law_div)) (D__law_gaps : Def P w K mg base 3 "_law_gaps" ["told"] (spD K p__law_gaps)) (D__law_long : Def P w K mg base 2 "_law_long" ["gaps"] (spD K p__law_long)) (cdv : Value) (A : Around) (outer : List PySem.Env) (s : Shared) (H : Hp) (E : XK) (C : Ctx (bodyX P w K mg base N__law_heads "_law_heads" s__law_heads f cdv A outer s H E) K (WD E) 3) : ∃ ts, XB (bodyX P w K mg base N__law_heads "_law_heads" s__law_heads f cdv A outer s H E) K (WD E) (defBody s__law_heads) ts ms__law_heads := ⟨_, (xb_cons (xs_setO 1 C.nd (xn_lst xa_nil))
  (xb_cons (xs_for C (xi_list C (xe_call C D__law_gaps (by decide) (xa_cons (xe_varC C 0) xa_nil))) (xg_name 2 C.nd)
  (xb_cons (xs_set 3 C.nd (xe_call C D__law_long (by decide) (xa_cons (xe_varC C 2) xa_nil)))
  (xb_one (xs_app C 1 (xe_tupleC C T.tuple (xa_cons (by (refine xe_lc (te := ?te1) (tt := ?tt1) (g := ?g1) (vs0 := ?vs1) C (xi_list C (xe_varC C 2)) (blkOk_by (own := [("gap", 4)]) (N := N__law_heads) (sc := defScope s__law_heads) (by decide +kernel)) ?hg1 ?ht1 ?he1 rfl ?hv1 (by intro _; rfl)); (case hg1 => (intro s2 H2 c2 cl2 fp2 C; exact (xg_name 4 C.nd))); (case ht1 => (intro s2 H2 c2 cl2 fp2 C; exact xts_nil)); (case he1 => (intro s2 H2 c2 cl2 fp2 C; exact (xe_call C D__law_div (by decide) (xa_cons (xe_varC C 4) (xa_cons (xe_varC C 3) xa_nil))))); (case hv1 => decide)) xa_nil)) (fun pe => ps_expr (pe_bm PySem.F.plainAttrs_list PySem.F.slot_list_append PySem.F.type_list_append mt_append (pv 1) (pa_cons pe pa_nil)))))))
  (xb_one (xs_frz 1 (xs_ret (xe_varC C 1))))))⟩
theorem body__law_marks {f : Addr} (T : Tx K mg) (D__law_add : Def P w K mg base 2 "_law_add" ["a", "b"] (spD K p__law_add)) (D__law_gaps : Def P w K mg base 3 "_law_gaps" ["told"] (spD K p__law_gaps)) (D__law_long : Def P w K mg base 2 "_law_long" ["gaps"] (spD K p__law_long)) (cdv : Value) (A : Around) (outer : List PySem.Env) (s : Shared) (H : Hp) (E : XK) (C : Ctx (bodyX P w K mg base N__law_marks "_law_marks" s__law_marks f cdv A outer s H E) K (WD E) 3) : ∃ ts, XB (bodyX P w K mg base N__law_marks "_law_marks" s__law_marks f cdv A outer s H E) K (WD E) (defBody s__law_marks) ts ms__law_marks := ⟨_, (xb_cons (xs_setO 1 C.nd (xn_lst (xa_cons (xe_tup (xa_cons xe_int (xa_cons xe_int xa_nil))) xa_nil)))
  (xb_cons (xs_for C (xi_list C (xe_call C D__law_gaps (by decide) (xa_cons (xe_varC C 0) xa_nil))) (xg_name 2 C.nd)
  (xb_one (xs_app C 1 (xe_call C D__law_add (by decide) (xa_cons (xe_ixO C 1 (xe_neg xe_int)) (xa_cons (xe_call C D__law_long (by decide) (xa_cons (xe_varC C 2) xa_nil)) xa_nil))) (fun pe => ps_expr (pe_bm PySem.F.plainAttrs_list PySem.F.slot_list_append PySem.F.type_list_append mt_append (pv 1) (pa_cons pe pa_nil))))))
  (xb_one (xs_frz 1 (xs_ret (xe_varC C 1))))))⟩
theorem body_law {f : Addr} (T : Tx K mg) (D__law_gaps : Def P w K mg base 3 "_law_gaps" ["told"] (spD K p__law_gaps)) (D__law_heads : Def P w K mg base 4 "_law_heads" ["told"] (spD K p__law_heads)) (D__law_long : Def P w K mg base 2 "_law_long" ["gaps"] (spD K p__law_long)) (D__law_marks : Def P w K mg base 4 "_law_marks" ["told"] (spD K p__law_marks)) (D__law_program : Def P w K mg base 6 "_law_program" ["gear", "many"] (spS K p__law_program)) (D__law_same : Def P w K mg base 6 "_law_same" ["found", "due"] (spD K p__law_same)) (D__law_tooth : Def P w K mg base 1 "_law_tooth" ["gear", "many"] (spS K p__law_tooth)) (D_directions : Def P w K mg base 14 "directions" ["program"] (spD K p_directions)) (D_lengths : Def P w K mg base 12 "lengths" ["program"] (spD K p_lengths)) (D_ways : Def P w K mg base 13 "ways" ["program"] (spD K p_ways)) (D_whole : Def P w K mg base 14 "whole" ["program"] (spD K p_whole)) (K_directions_program : DefK P w K mg base 14 "directions" ["program"] ["program"] (permL [0]) (spD K p_directions)) (K_lengths_program : DefK P w K mg base 12 "lengths" ["program"] ["program"] (permL [0]) (spD K p_lengths)) (K_ways_program : DefK P w K mg base 13 "ways" ["program"] ["program"] (permL [0]) (spD K p_ways)) (K_whole_program : DefK P w K mg base 14 "whole" ["program"] ["program"] (permL [0]) (spD K p_whole)) (cdv : Value) (A : Around) (outer : List PySem.Env) (s : Shared) (H : Hp) (E : XK) (C : Ctx (bodyX P w K mg base N_law "law" s_law f cdv A outer s H E) K (WD E) 14) (G : (bodyX P w K mg base N_law "law" s_law f cdv A outer s H E).A.guards = some []) : ∃ ts, XB (bodyX P w K mg base N_law "law" s_law f cdv A outer s H E) K (WD E) ((defBody s_law).tail) ts ms_law := ⟨_, (xb_cons (xs_for C (xi_range1 T.range (xa_cons (xe_add C xe_int (xe_cb (call_min2 C.calm) rc_min T.min (by decide +kernel) (xa_cons xe_int (xa_cons (xe_len C T.len (xa_cons (xe_varC C 0) xa_nil)) xa_nil)))) xa_nil)) (xg_name 2 C.nd)
  (xb_cons (xs_set 3 C.nd (xe_callS C D__law_program (by decide) 1 (xa_cons (xe_ix C (xe_lst (xa_cons xe_int (xa_cons xe_int (xa_cons xe_int xa_nil)))) (xe_callS C D__law_tooth (by decide) 1 (xa_cons xe_int xa_nil))) xa_nil)))
  (xb_cons (xs_set 4 C.nd (xe_repr C G T.repr (xa_cons (xe_varC C 3) xa_nil)))
  (xb_cons (xs_par3 5 6 7 (xa_cons (xe_tupleC C T.tuple (xa_cons (by (refine xe_lc (te := ?te1) (tt := ?tt1) (g := ?g1) (vs0 := ?vs1) C (xi_list C (xe_call C D__law_gaps (by decide) (xa_cons (xe_varC C 3) xa_nil))) (blkOk_by (own := [("gaps", 8)]) (N := N_law) (sc := defScope s_law) (by decide +kernel)) ?hg1 ?ht1 ?he1 rfl ?hv1 (by intro _; rfl)); (case hg1 => (intro s2 H2 c2 cl2 fp2 C; exact (xg_name 8 C.nd))); (case ht1 => (intro s2 H2 c2 cl2 fp2 C; exact xts_nil)); (case he1 => (intro s2 H2 c2 cl2 fp2 C; exact (xe_call C D__law_long (by decide) (xa_cons (xe_varC C 8) xa_nil)))); (case hv1 => decide)) xa_nil)) (xa_cons (xe_tupleC C T.tuple (xa_cons (xe_call C D__law_heads (by decide) (xa_cons (xe_varC C 3) xa_nil)) xa_nil)) (xa_cons (xe_tupleC C T.tuple (xa_cons (xe_call C D__law_marks (by decide) (xa_cons (xe_varC C 3) xa_nil)) xa_nil)) xa_nil))) (fun pa => ps_par3 (by rfl) C.nd rfl rfl rfl (by decide) (by decide) (by decide) rfl rfl rfl pa (by rfl)))
  (xb_cons (xs_if (xt_not (xt_truth C (xe_call C D__law_same (by decide) (xa_cons (xe_lst (xa_cons (xe_call C D_lengths (by decide) (xa_cons (xe_varC C 3) xa_nil)) (xa_cons (xe_callK C K_lengths_program (by decide) (xk_cons (xe_varC C 3) xk_nil)) (xa_cons (xe_call C D_directions (by decide) (xa_cons (xe_varC C 3) xa_nil)) (xa_cons (xe_callK C K_directions_program (by decide) (xk_cons (xe_varC C 3) xk_nil)) xa_nil))))) (xa_cons (xe_lst (xa_cons (xe_varC C 5) (xa_cons (xe_varC C 5) (xa_cons (xe_varC C 6) (xa_cons (xe_varC C 6) xa_nil))))) xa_nil)))))
  (xb_one (xs_ret xe_bl))
  xb_nil)
  (xb_cons (xs_if (xt_not (xt_truth C (xe_call C D__law_same (by decide) (xa_cons (xe_lst (xa_cons (xe_call C D_ways (by decide) (xa_cons (xe_varC C 3) xa_nil)) (xa_cons (xe_callK C K_ways_program (by decide) (xk_cons (xe_varC C 3) xk_nil)) (xa_cons (xe_call C D_whole (by decide) (xa_cons (xe_varC C 3) xa_nil)) (xa_cons (xe_callK C K_whole_program (by decide) (xk_cons (xe_varC C 3) xk_nil)) xa_nil))))) (xa_cons (xe_lst (xa_cons (xe_varC C 7) (xa_cons (xe_varC C 7) (xa_cons (xe_ix C (xe_varC C 7) (xe_neg xe_int)) (xa_cons (xe_ix C (xe_varC C 7) (xe_neg xe_int)) xa_nil))))) xa_nil)))))
  (xb_one (xs_ret xe_bl))
  xb_nil)
  (xb_one (xs_if (xt_w (xw_or (xt_neD C (by (refine xe_lc1 (te := ?te2) (tt := ?tt2) (g := ?g2) (vs0 := ?vs2) C (xi_tup C (xe_call C D_directions (by decide) (xa_cons (xe_varC C 3) xa_nil))) (blkOk_by (own := [("head", 9)]) (N := N_law) (sc := defScope s_law) (by decide +kernel)) ?hg2 ?ht2 ?he2 rfl ?hv2 (by intro _; rfl)); (case hg2 => (intro s2 H2 c2 cl2 fp2 C; exact (xg_name 9 C.nd))); (case ht2 => (intro s2 H2 c2 cl2 fp2 C; exact (xt_neD C (xe_call C D__law_long (by decide) (xa_cons (xe_varC C 9) xa_nil)) (xe_tup (xa_cons xe_int (xa_cons xe_int xa_nil)))))); (case he2 => (intro s2 H2 c2 cl2 fp2 C; exact xe_int)); (case hv2 => decide)) (xe_lst xa_nil)) (xw_or1 (xt_neD C (xe_repr C G T.repr (xa_cons (xe_varC C 3) xa_nil)) (xe_varC C 4)))))
  (xb_one (xs_ret xe_bl))
  xb_nil))))))))
  (xb_one (xs_ret xe_bl)))⟩
end
end K01
namespace K01
open PySem PySem.Spec L2 Fw
variable [Tabs]
section
variable {P : Program} {w : World} {K : Fg} {mg : Str → Option Value} {base : Heap}
theorem def_added (T : Tx K mg) (M : Md K mg "added" s_added)  : Def P w K mg base 1 "added" ["one", "other"] (spD K p_added) := by
  obtain ⟨f, fd, F, hm, hk⟩ := M
  exact ⟨f, fd, fn_D (N := N_added) F sc_added (by intro ds P X h; first | (obtain ⟨rfl, _⟩ := h; rfl) | (obtain ⟨_, rfl, _⟩ := h; rfl) | (obtain ⟨_, _, rfl, _⟩ := h; rfl) | (obtain ⟨_, _, _, rfl, _⟩ := h; rfl) | (obtain ⟨_, _, _, _, rfl, _⟩ := h; rfl)) (fun cdv A outer s H E C => body_added T  cdv A outer s H E C) vc_added, hm, hk, F.binds (ps := ["one", "other"]) fun _ _ _ _ _ _ us hl => match us, hl with | [_, _], _ => rfl⟩
theorem def_subtracted (T : Tx K mg) (M : Md K mg "subtracted" s_subtracted) (D_added : Def P w K mg base 1 "added" ["one", "other"] (spD K p_added)) (D_opposite : Def P w K mg base 1 "opposite" ["number"] (spD K p_opposite)) : Def P w K mg base 2 "subtracted" ["one", "other"] (spD K p_subtracted) := by
  obtain ⟨f, fd, F, hm, hk⟩ := M
  exact ⟨f, fd, fn_D (N := N_subtracted) F sc_subtracted (by intro ds P X h; first | (obtain ⟨rfl, _⟩ := h; rfl) | (obtain ⟨_, rfl, _⟩ := h; rfl) | (obtain ⟨_, _, rfl, _⟩ := h; rfl) | (obtain ⟨_, _, _, rfl, _⟩ := h; rfl) | (obtain ⟨_, _, _, _, rfl, _⟩ := h; rfl)) (fun cdv A outer s H E C => body_subtracted T D_added D_opposite cdv A outer s H E C) vc_subtracted, hm, hk, F.binds (ps := ["one", "other"]) fun _ _ _ _ _ _ us hl => match us, hl with | [_, _], _ => rfl⟩
theorem def_multiplied (T : Tx K mg) (M : Md K mg "multiplied" s_multiplied)  : Def P w K mg base 1 "multiplied" ["one", "other"] (spD K p_multiplied) := by
  obtain ⟨f, fd, F, hm, hk⟩ := M
  exact ⟨f, fd, fn_D (N := N_multiplied) F sc_multiplied (by intro ds P X h; first | (obtain ⟨rfl, _⟩ := h; rfl) | (obtain ⟨_, rfl, _⟩ := h; rfl) | (obtain ⟨_, _, rfl, _⟩ := h; rfl) | (obtain ⟨_, _, _, rfl, _⟩ := h; rfl) | (obtain ⟨_, _, _, _, rfl, _⟩ := h; rfl)) (fun cdv A outer s H E C => body_multiplied T  cdv A outer s H E C) vc_multiplied, hm, hk, F.binds (ps := ["one", "other"]) fun _ _ _ _ _ _ us hl => match us, hl with | [_, _], _ => rfl⟩
theorem def_inverse (T : Tx K mg) (M : Md K mg "inverse" s_inverse)  : Def P w K mg base 1 "inverse" ["number"] (spD K p_inverse) := by
  obtain ⟨f, fd, F, hm, hk⟩ := M
  exact ⟨f, fd, fn_D (N := N_inverse) F sc_inverse (by intro ds P X h; first | (obtain ⟨rfl, _⟩ := h; rfl) | (obtain ⟨_, rfl, _⟩ := h; rfl) | (obtain ⟨_, _, rfl, _⟩ := h; rfl) | (obtain ⟨_, _, _, rfl, _⟩ := h; rfl) | (obtain ⟨_, _, _, _, rfl, _⟩ := h; rfl)) (fun cdv A outer s H E C => body_inverse T  cdv A outer s H E C) vc_inverse, hm, hk, F.binds (ps := ["number"]) fun _ _ _ _ _ _ us hl => match us, hl with | [_], _ => rfl⟩
theorem def_divided (T : Tx K mg) (M : Md K mg "divided" s_divided) (D_inverse : Def P w K mg base 1 "inverse" ["number"] (spD K p_inverse)) (D_multiplied : Def P w K mg base 1 "multiplied" ["one", "other"] (spD K p_multiplied)) : Def P w K mg base 2 "divided" ["one", "other"] (spD K p_divided) := by
  obtain ⟨f, fd, F, hm, hk⟩ := M
  exact ⟨f, fd, fn_D (N := N_divided) F sc_divided (by intro ds P X h; first | (obtain ⟨rfl, _⟩ := h; rfl) | (obtain ⟨_, rfl, _⟩ := h; rfl) | (obtain ⟨_, _, rfl, _⟩ := h; rfl) | (obtain ⟨_, _, _, rfl, _⟩ := h; rfl) | (obtain ⟨_, _, _, _, rfl, _⟩ := h; rfl)) (fun cdv A outer s H E C => body_divided T D_inverse D_multiplied cdv A outer s H E C) vc_divided, hm, hk, F.binds (ps := ["one", "other"]) fun _ _ _ _ _ _ us hl => match us, hl with | [_, _], _ => rfl⟩
theorem def_opposite (T : Tx K mg) (M : Md K mg "opposite" s_opposite)  : Def P w K mg base 1 "opposite" ["number"] (spD K p_opposite) := by
  obtain ⟨f, fd, F, hm, hk⟩ := M
  exact ⟨f, fd, fn_D (N := N_opposite) F sc_opposite (by intro ds P X h; first | (obtain ⟨rfl, _⟩ := h; rfl) | (obtain ⟨_, rfl, _⟩ := h; rfl) | (obtain ⟨_, _, rfl, _⟩ := h; rfl) | (obtain ⟨_, _, _, rfl, _⟩ := h; rfl) | (obtain ⟨_, _, _, _, rfl, _⟩ := h; rfl)) (fun cdv A outer s H E C => body_opposite T  cdv A outer s H E C) vc_opposite, hm, hk, F.binds (ps := ["number"]) fun _ _ _ _ _ _ us hl => match us, hl with | [_], _ => rfl⟩
theorem def_absolute (T : Tx K mg) (M : Md K mg "absolute" s_absolute)  : Def P w K mg base 1 "absolute" ["number"] (spD K p_absolute) := by
  obtain ⟨f, fd, F, hm, hk⟩ := M
  exact ⟨f, fd, fn_D (N := N_absolute) F sc_absolute (by intro ds P X h; first | (obtain ⟨rfl, _⟩ := h; rfl) | (obtain ⟨_, rfl, _⟩ := h; rfl) | (obtain ⟨_, _, rfl, _⟩ := h; rfl) | (obtain ⟨_, _, _, rfl, _⟩ := h; rfl) | (obtain ⟨_, _, _, _, rfl, _⟩ := h; rfl)) (fun cdv A outer s H E C => body_absolute T  cdv A outer s H E C) vc_absolute, hm, hk, F.binds (ps := ["number"]) fun _ _ _ _ _ _ us hl => match us, hl with | [_], _ => rfl⟩
theorem def_is_less (T : Tx K mg) (M : Md K mg "is_less" s_is_less)  : Def P w K mg base 1 "is_less" ["one", "other"] (spD K p_is_less) := by
  obtain ⟨f, fd, F, hm, hk⟩ := M
  exact ⟨f, fd, fn_D (N := N_is_less) F sc_is_less (by intro ds P X h; first | (obtain ⟨rfl, _⟩ := h; rfl) | (obtain ⟨_, rfl, _⟩ := h; rfl) | (obtain ⟨_, _, rfl, _⟩ := h; rfl) | (obtain ⟨_, _, _, rfl, _⟩ := h; rfl) | (obtain ⟨_, _, _, _, rfl, _⟩ := h; rfl)) (fun cdv A outer s H E C => body_is_less T  cdv A outer s H E C) vc_is_less, hm, hk, F.binds (ps := ["one", "other"]) fun _ _ _ _ _ _ us hl => match us, hl with | [_, _], _ => rfl⟩
theorem def_largest (T : Tx K mg) (M : Md K mg "largest" s_largest) (D_is_less : Def P w K mg base 1 "is_less" ["one", "other"] (spD K p_is_less)) : Def P w K mg base 2 "largest" ["numbers"] (spD K p_largest) := by
  obtain ⟨f, fd, F, hm, hk⟩ := M
  exact ⟨f, fd, fn_D (N := N_largest) F sc_largest (by intro ds P X h; first | (obtain ⟨rfl, _⟩ := h; rfl) | (obtain ⟨_, rfl, _⟩ := h; rfl) | (obtain ⟨_, _, rfl, _⟩ := h; rfl) | (obtain ⟨_, _, _, rfl, _⟩ := h; rfl) | (obtain ⟨_, _, _, _, rfl, _⟩ := h; rfl)) (fun cdv A outer s H E C => body_largest T D_is_less cdv A outer s H E C) vc_largest, hm, hk, F.binds (ps := ["numbers"]) fun _ _ _ _ _ _ us hl => match us, hl with | [_], _ => rfl⟩
theorem def_is_integer (T : Tx K mg) (M : Md K mg "is_integer" s_is_integer)  : Def P w K mg base 1 "is_integer" ["value"] (spD K p_is_integer) := by
  obtain ⟨f, fd, F, hm, hk⟩ := M
  exact ⟨f, fd, fn_D (N := N_is_integer) F sc_is_integer (by intro ds P X h; first | (obtain ⟨rfl, _⟩ := h; rfl) | (obtain ⟨_, rfl, _⟩ := h; rfl) | (obtain ⟨_, _, rfl, _⟩ := h; rfl) | (obtain ⟨_, _, _, rfl, _⟩ := h; rfl) | (obtain ⟨_, _, _, _, rfl, _⟩ := h; rfl)) (fun cdv A outer s H E C => body_is_integer T  cdv A outer s H E C) vc_is_integer, hm, hk, F.binds (ps := ["value"]) fun _ _ _ _ _ _ us hl => match us, hl with | [_], _ => rfl⟩
theorem def_is_fraction (T : Tx K mg) (M : Md K mg "is_fraction" s_is_fraction) (D_is_integer : Def P w K mg base 1 "is_integer" ["value"] (spD K p_is_integer)) : Def P w K mg base 2 "is_fraction" ["value"] (spD K p_is_fraction) := by
  obtain ⟨f, fd, F, hm, hk⟩ := M
  exact ⟨f, fd, fn_D (N := N_is_fraction) F sc_is_fraction (by intro ds P X h; first | (obtain ⟨rfl, _⟩ := h; rfl) | (obtain ⟨_, rfl, _⟩ := h; rfl) | (obtain ⟨_, _, rfl, _⟩ := h; rfl) | (obtain ⟨_, _, _, rfl, _⟩ := h; rfl) | (obtain ⟨_, _, _, _, rfl, _⟩ := h; rfl)) (fun cdv A outer s H E C => body_is_fraction T D_is_integer cdv A outer s H E C) vc_is_fraction, hm, hk, F.binds (ps := ["value"]) fun _ _ _ _ _ _ us hl => match us, hl with | [_], _ => rfl⟩
theorem def_is_tuple_of (T : Tx K mg) (M : Md K mg "is_tuple_of" s_is_tuple_of)  : Def P w K mg base 1 "is_tuple_of" ["value", "count"] (spD K p_is_tuple_of) := by
  obtain ⟨f, fd, F, hm, hk⟩ := M
  exact ⟨f, fd, fn_D (N := N_is_tuple_of) F sc_is_tuple_of (by intro ds P X h; first | (obtain ⟨rfl, _⟩ := h; rfl) | (obtain ⟨_, rfl, _⟩ := h; rfl) | (obtain ⟨_, _, rfl, _⟩ := h; rfl) | (obtain ⟨_, _, _, rfl, _⟩ := h; rfl) | (obtain ⟨_, _, _, _, rfl, _⟩ := h; rfl)) (fun cdv A outer s H E C => body_is_tuple_of T  cdv A outer s H E C) vc_is_tuple_of, hm, hk, F.binds (ps := ["value", "count"]) fun _ _ _ _ _ _ us hl => match us, hl with | [_, _], _ => rfl⟩
theorem def_is_above_nought (T : Tx K mg) (M : Md K mg "is_above_nought" s_is_above_nought) (D_is_fraction : Def P w K mg base 2 "is_fraction" ["value"] (spD K p_is_fraction)) : Def P w K mg base 3 "is_above_nought" ["value"] (spD K p_is_above_nought) := by
  obtain ⟨f, fd, F, hm, hk⟩ := M
  exact ⟨f, fd, fn_D (N := N_is_above_nought) F sc_is_above_nought (by intro ds P X h; first | (obtain ⟨rfl, _⟩ := h; rfl) | (obtain ⟨_, rfl, _⟩ := h; rfl) | (obtain ⟨_, _, rfl, _⟩ := h; rfl) | (obtain ⟨_, _, _, rfl, _⟩ := h; rfl) | (obtain ⟨_, _, _, _, rfl, _⟩ := h; rfl)) (fun cdv A outer s H E C => body_is_above_nought T D_is_fraction cdv A outer s H E C) vc_is_above_nought, hm, hk, F.binds (ps := ["value"]) fun _ _ _ _ _ _ us hl => match us, hl with | [_], _ => rfl⟩
theorem def_is_from_nought (T : Tx K mg) (M : Md K mg "is_from_nought" s_is_from_nought) (D_is_fraction : Def P w K mg base 2 "is_fraction" ["value"] (spD K p_is_fraction)) : Def P w K mg base 3 "is_from_nought" ["value"] (spD K p_is_from_nought) := by
  obtain ⟨f, fd, F, hm, hk⟩ := M
  exact ⟨f, fd, fn_D (N := N_is_from_nought) F sc_is_from_nought (by intro ds P X h; first | (obtain ⟨rfl, _⟩ := h; rfl) | (obtain ⟨_, rfl, _⟩ := h; rfl) | (obtain ⟨_, _, rfl, _⟩ := h; rfl) | (obtain ⟨_, _, _, rfl, _⟩ := h; rfl) | (obtain ⟨_, _, _, _, rfl, _⟩ := h; rfl)) (fun cdv A outer s H E C => body_is_from_nought T D_is_fraction cdv A outer s H E C) vc_is_from_nought, hm, hk, F.binds (ps := ["value"]) fun _ _ _ _ _ _ us hl => match us, hl with | [_], _ => rfl⟩
theorem def_is_point {G0 : Addr} (T : Tx K mg) (M : MdG K mg base "is_point" s_is_point G0) (D_is_fraction : Def P w K mg base 2 "is_fraction" ["value"] (spD K p_is_fraction)) : Def P w K mg base 6 "is_point" ["value"] (spD K p_is_point) := by
  obtain ⟨⟨f, fd, c, F, hm, hk, hc, hT⟩, hP⟩ := M
  exact ⟨f, fd, fn_DC (N := N_is_point) F sc_is_point (by intro ds P X h; first | (obtain ⟨rfl, _⟩ := h; rfl) | (obtain ⟨_, rfl, _⟩ := h; rfl) | (obtain ⟨_, _, rfl, _⟩ := h; rfl) | (obtain ⟨_, _, _, rfl, _⟩ := h; rfl) | (obtain ⟨_, _, _, _, rfl, _⟩ := h; rfl)) (fun cdv A outer s H E ec C => body_is_point T D_is_fraction cdv A outer s H E C (tab_body hP hc hT ec)) vc_is_point, hm, hk, F.binds (ps := ["value"]) fun _ _ _ _ _ _ us hl => match us, hl with | [_], _ => rfl⟩
theorem def_step_fault (T : Tx K mg) (M : Md K mg "step_fault" s_step_fault) (D_is_above_nought : Def P w K mg base 3 "is_above_nought" ["value"] (spD K p_is_above_nought)) (D_is_from_nought : Def P w K mg base 3 "is_from_nought" ["value"] (spD K p_is_from_nought)) (D_is_less : Def P w K mg base 1 "is_less" ["one", "other"] (spD K p_is_less)) (D_is_point : Def P w K mg base 6 "is_point" ["value"] (spD K p_is_point)) (D_is_tuple_of : Def P w K mg base 1 "is_tuple_of" ["value", "count"] (spD K p_is_tuple_of)) : Def P w K mg base 7 "step_fault" ["ahead", "step"] (spD K p_step_fault) := by
  obtain ⟨f, fd, F, hm, hk⟩ := M
  exact ⟨f, fd, fn_D (N := N_step_fault) F sc_step_fault (by intro ds P X h; first | (obtain ⟨rfl, _⟩ := h; rfl) | (obtain ⟨_, rfl, _⟩ := h; rfl) | (obtain ⟨_, _, rfl, _⟩ := h; rfl) | (obtain ⟨_, _, _, rfl, _⟩ := h; rfl) | (obtain ⟨_, _, _, _, rfl, _⟩ := h; rfl)) (fun cdv A outer s H E C => body_step_fault T D_is_above_nought D_is_from_nought D_is_less D_is_point D_is_tuple_of cdv A outer s H E C) vc_step_fault, hm, hk, F.binds (ps := ["ahead", "step"]) fun _ _ _ _ _ _ us hl => match us, hl with | [_, _], _ => rfl⟩
theorem def_program_fault (T : Tx K mg) (M : Md K mg "program_fault" s_program_fault) (D_is_point : Def P w K mg base 6 "is_point" ["value"] (spD K p_is_point)) (D_is_tuple_of : Def P w K mg base 1 "is_tuple_of" ["value", "count"] (spD K p_is_tuple_of)) (D_step_fault : Def P w K mg base 7 "step_fault" ["ahead", "step"] (spD K p_step_fault)) : Def P w K mg base 8 "program_fault" ["value"] (spD K p_program_fault) := by
  obtain ⟨f, fd, F, hm, hk⟩ := M
  exact ⟨f, fd, fn_D (N := N_program_fault) F sc_program_fault (by intro ds P X h; first | (obtain ⟨rfl, _⟩ := h; rfl) | (obtain ⟨_, rfl, _⟩ := h; rfl) | (obtain ⟨_, _, rfl, _⟩ := h; rfl) | (obtain ⟨_, _, _, rfl, _⟩ := h; rfl) | (obtain ⟨_, _, _, _, rfl, _⟩ := h; rfl)) (fun cdv A outer s H E C => body_program_fault T D_is_point D_is_tuple_of D_step_fault cdv A outer s H E C) vc_program_fault, hm, hk, F.binds (ps := ["value"]) fun _ _ _ _ _ _ us hl => match us, hl with | [_], _ => rfl⟩
theorem def_check_program (T : Tx K mg) (M : Md K mg "check_program" s_check_program) (D_program_fault : Def P w K mg base 8 "program_fault" ["value"] (spD K p_program_fault)) (X_InvalidProgram : ExcF P w K mg base "InvalidProgram" "place") : Def P w K mg base 9 "check_program" ["program"] (spD K p_check_program) := by
  obtain ⟨f, fd, F, hm, hk⟩ := M
  exact ⟨f, fd, fn_D (N := N_check_program) F sc_check_program (by intro ds P X h; first | (obtain ⟨rfl, _⟩ := h; rfl) | (obtain ⟨_, rfl, _⟩ := h; rfl) | (obtain ⟨_, _, rfl, _⟩ := h; rfl) | (obtain ⟨_, _, _, rfl, _⟩ := h; rfl) | (obtain ⟨_, _, _, _, rfl, _⟩ := h; rfl)) (fun cdv A outer s H E C => body_check_program T D_program_fault X_InvalidProgram cdv A outer s H E C) vc_check_program, hm, hk, F.binds (ps := ["program"]) fun _ _ _ _ _ _ us hl => match us, hl with | [_], _ => rfl⟩
theorem def_path {G0 : Addr} (T : Tx K mg) (M : MdG K mg base "path" s_path G0) (D_check_program : Def P w K mg base 9 "check_program" ["program"] (spD K p_check_program)) : Def P w K mg base 10 "path" ["program"] (spD K p_path) := by
  obtain ⟨⟨f, fd, c, F, hm, hk, hc, hT⟩, hP⟩ := M
  exact ⟨f, fd, fn_DC (N := N_path) F sc_path (by intro ds P X h; first | (obtain ⟨rfl, _⟩ := h; rfl) | (obtain ⟨_, rfl, _⟩ := h; rfl) | (obtain ⟨_, _, rfl, _⟩ := h; rfl) | (obtain ⟨_, _, _, rfl, _⟩ := h; rfl) | (obtain ⟨_, _, _, _, rfl, _⟩ := h; rfl)) (fun cdv A outer s H E ec C => body_path T D_check_program cdv A outer s H E C (tab_body hP hc hT ec)) vc_path, hm, hk, F.binds (ps := ["program"]) fun _ _ _ _ _ _ us hl => match us, hl with | [_], _ => rfl⟩
theorem def_apart {G0 : Addr} (T : Tx K mg) (M : MdG K mg base "apart" s_apart G0) (D_subtracted : Def P w K mg base 2 "subtracted" ["one", "other"] (spD K p_subtracted)) : Def P w K mg base 8 "apart" ["one", "other"] (spD K p_apart) := by
  obtain ⟨⟨f, fd, c, F, hm, hk, hc, hT⟩, hP⟩ := M
  exact ⟨f, fd, fn_DC (N := N_apart) F sc_apart (by intro ds P X h; first | (obtain ⟨rfl, _⟩ := h; rfl) | (obtain ⟨_, rfl, _⟩ := h; rfl) | (obtain ⟨_, _, rfl, _⟩ := h; rfl) | (obtain ⟨_, _, _, rfl, _⟩ := h; rfl) | (obtain ⟨_, _, _, _, rfl, _⟩ := h; rfl)) (fun cdv A outer s H E ec C => body_apart T D_subtracted cdv A outer s H E C (tab_body hP hc hT ec)) vc_apart, hm, hk, F.binds (ps := ["one", "other"]) fun _ _ _ _ _ _ us hl => match us, hl with | [_, _], _ => rfl⟩
theorem def_distances (T : Tx K mg) (M : Md K mg "distances" s_distances) (D_apart : Def P w K mg base 8 "apart" ["one", "other"] (spD K p_apart)) (D_path : Def P w K mg base 10 "path" ["program"] (spD K p_path)) : Def P w K mg base 11 "distances" ["program"] (spD K p_distances) := by
  obtain ⟨f, fd, F, hm, hk⟩ := M
  exact ⟨f, fd, fn_D (N := N_distances) F sc_distances (by intro ds P X h; first | (obtain ⟨rfl, _⟩ := h; rfl) | (obtain ⟨_, rfl, _⟩ := h; rfl) | (obtain ⟨_, _, rfl, _⟩ := h; rfl) | (obtain ⟨_, _, _, rfl, _⟩ := h; rfl) | (obtain ⟨_, _, _, _, rfl, _⟩ := h; rfl)) (fun cdv A outer s H E C => body_distances T D_apart D_path cdv A outer s H E C) vc_distances, hm, hk, F.binds (ps := ["program"]) fun _ _ _ _ _ _ us hl => match us, hl with | [_], _ => rfl⟩
theorem def_length_of (T : Tx K mg) (M : Md K mg "length_of" s_length_of) (D_absolute : Def P w K mg base 1 "absolute" ["number"] (spD K p_absolute)) (D_largest : Def P w K mg base 2 "largest" ["numbers"] (spD K p_largest)) : Def P w K mg base 3 "length_of" ["distance"] (spD K p_length_of) := by
  obtain ⟨f, fd, F, hm, hk⟩ := M
  exact ⟨f, fd, fn_D (N := N_length_of) F sc_length_of (by intro ds P X h; first | (obtain ⟨rfl, _⟩ := h; rfl) | (obtain ⟨_, rfl, _⟩ := h; rfl) | (obtain ⟨_, _, rfl, _⟩ := h; rfl) | (obtain ⟨_, _, _, rfl, _⟩ := h; rfl) | (obtain ⟨_, _, _, _, rfl, _⟩ := h; rfl)) (fun cdv A outer s H E C => body_length_of T D_absolute D_largest cdv A outer s H E C) vc_length_of, hm, hk, F.binds (ps := ["distance"]) fun _ _ _ _ _ _ us hl => match us, hl with | [_], _ => rfl⟩
theorem def_lengths {G0 : Addr} (T : Tx K mg) (M : MdG K mg base "lengths" s_lengths G0) (D_distances : Def P w K mg base 11 "distances" ["program"] (spD K p_distances)) (D_length_of : Def P w K mg base 3 "length_of" ["distance"] (spD K p_length_of)) : Def P w K mg base 12 "lengths" ["program"] (spD K p_lengths) := by
  obtain ⟨⟨f, fd, c, F, hm, hk, hc, hT⟩, hP⟩ := M
  exact ⟨f, fd, fn_DC (N := N_lengths) F sc_lengths (by intro ds P X h; first | (obtain ⟨rfl, _⟩ := h; rfl) | (obtain ⟨_, rfl, _⟩ := h; rfl) | (obtain ⟨_, _, rfl, _⟩ := h; rfl) | (obtain ⟨_, _, _, rfl, _⟩ := h; rfl) | (obtain ⟨_, _, _, _, rfl, _⟩ := h; rfl)) (fun cdv A outer s H E ec C => body_lengths T D_distances D_length_of cdv A outer s H E C (tab_body hP hc hT ec)) vc_lengths, hm, hk, F.binds (ps := ["program"]) fun _ _ _ _ _ _ us hl => match us, hl with | [_], _ => rfl⟩
theorem def_direction_of {G0 : Addr} (T : Tx K mg) (M : MdG K mg base "direction_of" s_direction_of G0) (D_divided : Def P w K mg base 2 "divided" ["one", "other"] (spD K p_divided)) (D_length_of : Def P w K mg base 3 "length_of" ["distance"] (spD K p_length_of)) : Def P w K mg base 8 "direction_of" ["distance"] (spD K p_direction_of) := by
  obtain ⟨⟨f, fd, c, F, hm, hk, hc, hT⟩, hP⟩ := M
  exact ⟨f, fd, fn_DC (N := N_direction_of) F sc_direction_of (by intro ds P X h; first | (obtain ⟨rfl, _⟩ := h; rfl) | (obtain ⟨_, rfl, _⟩ := h; rfl) | (obtain ⟨_, _, rfl, _⟩ := h; rfl) | (obtain ⟨_, _, _, rfl, _⟩ := h; rfl) | (obtain ⟨_, _, _, _, rfl, _⟩ := h; rfl)) (fun cdv A outer s H E ec C => body_direction_of T D_divided D_length_of cdv A outer s H E C (tab_body hP hc hT ec)) vc_direction_of, hm, hk, F.binds (ps := ["distance"]) fun _ _ _ _ _ _ us hl => match us, hl with | [_], _ => rfl⟩
theorem def_directions {G0 : Addr} (T : Tx K mg) (M : MdG K mg base "directions" s_directions G0) (D_direction_of : Def P w K mg base 8 "direction_of" ["distance"] (spD K p_direction_of)) (D_distances : Def P w K mg base 11 "distances" ["program"] (spD K p_distances)) : Def P w K mg base 14 "directions" ["program"] (spD K p_directions) := by
  obtain ⟨⟨f, fd, c, F, hm, hk, hc, hT⟩, hP⟩ := M
  exact ⟨f, fd, fn_DC (N := N_directions) F sc_directions (by intro ds P X h; first | (obtain ⟨rfl, _⟩ := h; rfl) | (obtain ⟨_, rfl, _⟩ := h; rfl) | (obtain ⟨_, _, rfl, _⟩ := h; rfl) | (obtain ⟨_, _, _, rfl, _⟩ := h; rfl) | (obtain ⟨_, _, _, _, rfl, _⟩ := h; rfl)) (fun cdv A outer s H E ec C => body_directions T D_direction_of D_distances cdv A outer s H E C (tab_body hP hc hT ec)) vc_directions, hm, hk, F.binds (ps := ["program"]) fun _ _ _ _ _ _ us hl => match us, hl with | [_], _ => rfl⟩
theorem def_ways (T : Tx K mg) (M : Md K mg "ways" s_ways) (D_added : Def P w K mg base 1 "added" ["one", "other"] (spD K p_added)) (D_lengths : Def P w K mg base 12 "lengths" ["program"] (spD K p_lengths)) : Def P w K mg base 13 "ways" ["program"] (spD K p_ways) := by
  obtain ⟨f, fd, F, hm, hk⟩ := M
  exact ⟨f, fd, fn_D (N := N_ways) F sc_ways (by intro ds P X h; first | (obtain ⟨rfl, _⟩ := h; rfl) | (obtain ⟨_, rfl, _⟩ := h; rfl) | (obtain ⟨_, _, rfl, _⟩ := h; rfl) | (obtain ⟨_, _, _, rfl, _⟩ := h; rfl) | (obtain ⟨_, _, _, _, rfl, _⟩ := h; rfl)) (fun cdv A outer s H E C => body_ways T D_added D_lengths cdv A outer s H E C) vc_ways, hm, hk, F.binds (ps := ["program"]) fun _ _ _ _ _ _ us hl => match us, hl with | [_], _ => rfl⟩
theorem def_whole (T : Tx K mg) (M : Md K mg "whole" s_whole) (D_ways : Def P w K mg base 13 "ways" ["program"] (spD K p_ways)) : Def P w K mg base 14 "whole" ["program"] (spD K p_whole) := by
  obtain ⟨f, fd, F, hm, hk⟩ := M
  exact ⟨f, fd, fn_D (N := N_whole) F sc_whole (by intro ds P X h; first | (obtain ⟨rfl, _⟩ := h; rfl) | (obtain ⟨_, rfl, _⟩ := h; rfl) | (obtain ⟨_, _, rfl, _⟩ := h; rfl) | (obtain ⟨_, _, _, rfl, _⟩ := h; rfl) | (obtain ⟨_, _, _, _, rfl, _⟩ := h; rfl)) (fun cdv A outer s H E C => body_whole T D_ways cdv A outer s H E C) vc_whole, hm, hk, F.binds (ps := ["program"]) fun _ _ _ _ _ _ us hl => match us, hl with | [_], _ => rfl⟩
theorem def__law_low (T : Tx K mg) (M : Md K mg "_law_low" s__law_low)  : Def P w K mg base 1 "_law_low" ["top", "bottom"] (spD K p__law_low) := by
  obtain ⟨f, fd, F, hm, hk⟩ := M
  exact ⟨f, fd, fn_D (N := N__law_low) F sc__law_low (by intro ds P X h; first | (obtain ⟨rfl, _⟩ := h; rfl) | (obtain ⟨_, rfl, _⟩ := h; rfl) | (obtain ⟨_, _, rfl, _⟩ := h; rfl) | (obtain ⟨_, _, _, rfl, _⟩ := h; rfl) | (obtain ⟨_, _, _, _, rfl, _⟩ := h; rfl)) (fun cdv A outer s H E C => body__law_low T  cdv A outer s H E C) vc__law_low, hm, hk, F.binds (ps := ["top", "bottom"]) fun _ _ _ _ _ _ us hl => match us, hl with | [_, _], _ => rfl⟩
theorem def__law_add (T : Tx K mg) (M : Md K mg "_law_add" s__law_add) (D__law_low : Def P w K mg base 1 "_law_low" ["top", "bottom"] (spD K p__law_low)) : Def P w K mg base 2 "_law_add" ["a", "b"] (spD K p__law_add) := by
  obtain ⟨f, fd, F, hm, hk⟩ := M
  exact ⟨f, fd, fn_D (N := N__law_add) F sc__law_add (by intro ds P X h; first | (obtain ⟨rfl, _⟩ := h; rfl) | (obtain ⟨_, rfl, _⟩ := h; rfl) | (obtain ⟨_, _, rfl, _⟩ := h; rfl) | (obtain ⟨_, _, _, rfl, _⟩ := h; rfl) | (obtain ⟨_, _, _, _, rfl, _⟩ := h; rfl)) (fun cdv A outer s H E C => body__law_add T D__law_low cdv A outer s H E C) vc__law_add, hm, hk, F.binds (ps := ["a", "b"]) fun _ _ _ _ _ _ us hl => match us, hl with | [_, _], _ => rfl⟩
theorem def__law_take (T : Tx K mg) (M : Md K mg "_law_take" s__law_take) (D__law_low : Def P w K mg base 1 "_law_low" ["top", "bottom"] (spD K p__law_low)) : Def P w K mg base 2 "_law_take" ["a", "b"] (spD K p__law_take) := by
  obtain ⟨f, fd, F, hm, hk⟩ := M
  exact ⟨f, fd, fn_D (N := N__law_take) F sc__law_take (by intro ds P X h; first | (obtain ⟨rfl, _⟩ := h; rfl) | (obtain ⟨_, rfl, _⟩ := h; rfl) | (obtain ⟨_, _, rfl, _⟩ := h; rfl) | (obtain ⟨_, _, _, rfl, _⟩ := h; rfl) | (obtain ⟨_, _, _, _, rfl, _⟩ := h; rfl)) (fun cdv A outer s H E C => body__law_take T D__law_low cdv A outer s H E C) vc__law_take, hm, hk, F.binds (ps := ["a", "b"]) fun _ _ _ _ _ _ us hl => match us, hl with | [_, _], _ => rfl⟩
theorem def__law_mul (T : Tx K mg) (M : Md K mg "_law_mul" s__law_mul) (D__law_low : Def P w K mg base 1 "_law_low" ["top", "bottom"] (spD K p__law_low)) : Def P w K mg base 2 "_law_mul" ["a", "b"] (spD K p__law_mul) := by
  obtain ⟨f, fd, F, hm, hk⟩ := M
  exact ⟨f, fd, fn_D (N := N__law_mul) F sc__law_mul (by intro ds P X h; first | (obtain ⟨rfl, _⟩ := h; rfl) | (obtain ⟨_, rfl, _⟩ := h; rfl) | (obtain ⟨_, _, rfl, _⟩ := h; rfl) | (obtain ⟨_, _, _, rfl, _⟩ := h; rfl) | (obtain ⟨_, _, _, _, rfl, _⟩ := h; rfl)) (fun cdv A outer s H E C => body__law_mul T D__law_low cdv A outer s H E C) vc__law_mul, hm, hk, F.binds (ps := ["a", "b"]) fun _ _ _ _ _ _ us hl => match us, hl with | [_, _], _ => rfl⟩
theorem def__law_div (T : Tx K mg) (M : Md K mg "_law_div" s__law_div) (D__law_low : Def P w K mg base 1 "_law_low" ["top", "bottom"] (spD K p__law_low)) : Def P w K mg base 2 "_law_div" ["a", "b"] (spD K p__law_div) := by
  obtain ⟨f, fd, F, hm, hk⟩ := M
  exact ⟨f, fd, fn_D (N := N__law_div) F sc__law_div (by intro ds P X h; first | (obtain ⟨rfl, _⟩ := h; rfl) | (obtain ⟨_, rfl, _⟩ := h; rfl) | (obtain ⟨_, _, rfl, _⟩ := h; rfl) | (obtain ⟨_, _, _, rfl, _⟩ := h; rfl) | (obtain ⟨_, _, _, _, rfl, _⟩ := h; rfl)) (fun cdv A outer s H E C => body__law_div T D__law_low cdv A outer s H E C) vc__law_div, hm, hk, F.binds (ps := ["a", "b"]) fun _ _ _ _ _ _ us hl => match us, hl with | [_, _], _ => rfl⟩
theorem def__law_under (T : Tx K mg) (M : Md K mg "_law_under" s__law_under)  : Def P w K mg base 1 "_law_under" ["a", "b"] (spD K p__law_under) := by
  obtain ⟨f, fd, F, hm, hk⟩ := M
  exact ⟨f, fd, fn_D (N := N__law_under) F sc__law_under (by intro ds P X h; first | (obtain ⟨rfl, _⟩ := h; rfl) | (obtain ⟨_, rfl, _⟩ := h; rfl) | (obtain ⟨_, _, rfl, _⟩ := h; rfl) | (obtain ⟨_, _, _, rfl, _⟩ := h; rfl) | (obtain ⟨_, _, _, _, rfl, _⟩ := h; rfl)) (fun cdv A outer s H E C => body__law_under T  cdv A outer s H E C) vc__law_under, hm, hk, F.binds (ps := ["a", "b"]) fun _ _ _ _ _ _ us hl => match us, hl with | [_, _], _ => rfl⟩
theorem def__law_size (T : Tx K mg) (M : Md K mg "_law_size" s__law_size)  : Def P w K mg base 1 "_law_size" ["a"] (spD K p__law_size) := by
  obtain ⟨f, fd, F, hm, hk⟩ := M
  exact ⟨f, fd, fn_D (N := N__law_size) F sc__law_size (by intro ds P X h; first | (obtain ⟨rfl, _⟩ := h; rfl) | (obtain ⟨_, rfl, _⟩ := h; rfl) | (obtain ⟨_, _, rfl, _⟩ := h; rfl) | (obtain ⟨_, _, _, rfl, _⟩ := h; rfl) | (obtain ⟨_, _, _, _, rfl, _⟩ := h; rfl)) (fun cdv A outer s H E C => body__law_size T  cdv A outer s H E C) vc__law_size, hm, hk, F.binds (ps := ["a"]) fun _ _ _ _ _ _ us hl => match us, hl with | [_], _ => rfl⟩
theorem def__law_spot (T : Tx K mg) (M : Md K mg "_law_spot" s__law_spot) (D__law_add : Def P w K mg base 2 "_law_add" ["a", "b"] (spD K p__law_add)) (D__law_low : Def P w K mg base 1 "_law_low" ["top", "bottom"] (spD K p__law_low)) (D__law_tooth : Def P w K mg base 1 "_law_tooth" ["gear", "many"] (spS K p__law_tooth)) : Def P w K mg base 3 "_law_spot" ["gear", "axes"] (spS K p__law_spot) := by
  obtain ⟨f, fd, F, hm, hk⟩ := M
  exact ⟨f, fd, fn_S (N := N__law_spot) F sc__law_spot (by intro ds P X h; first | (obtain ⟨rfl, _⟩ := h; rfl) | (obtain ⟨_, rfl, _⟩ := h; rfl) | (obtain ⟨_, _, rfl, _⟩ := h; rfl) | (obtain ⟨_, _, _, rfl, _⟩ := h; rfl) | (obtain ⟨_, _, _, _, rfl, _⟩ := h; rfl)) (fun cdv A outer s H E C => body__law_spot T D__law_add D__law_low D__law_tooth cdv A outer s H E C) vc__law_spot, hm, hk, F.binds (ps := ["gear", "axes"]) fun _ _ _ _ _ _ us hl => match us, hl with | [_, _], _ => rfl⟩
theorem def__law_next (T : Tx K mg) (M : Md K mg "_law_next" s__law_next) (D__law_add : Def P w K mg base 2 "_law_add" ["a", "b"] (spD K p__law_add)) (D__law_mul : Def P w K mg base 2 "_law_mul" ["a", "b"] (spD K p__law_mul)) (D__law_spot : Def P w K mg base 3 "_law_spot" ["gear", "axes"] (spS K p__law_spot)) (D__law_tooth : Def P w K mg base 1 "_law_tooth" ["gear", "many"] (spS K p__law_tooth)) : Def P w K mg base 4 "_law_next" ["gear", "spot", "gap"] (spS K p__law_next) := by
  obtain ⟨f, fd, F, hm, hk⟩ := M
  exact ⟨f, fd, fn_S (N := N__law_next) F sc__law_next (by intro ds P X h; first | (obtain ⟨rfl, _⟩ := h; rfl) | (obtain ⟨_, rfl, _⟩ := h; rfl) | (obtain ⟨_, _, rfl, _⟩ := h; rfl) | (obtain ⟨_, _, _, rfl, _⟩ := h; rfl) | (obtain ⟨_, _, _, _, rfl, _⟩ := h; rfl)) (fun cdv A outer s H E C => body__law_next T D__law_add D__law_mul D__law_spot D__law_tooth cdv A outer s H E C) vc__law_next, hm, hk, F.binds (ps := ["gear", "spot", "gap"]) fun _ _ _ _ _ _ us hl => match us, hl with | [_, _, _], _ => rfl⟩
theorem def__law_steps (T : Tx K mg) (M : Md K mg "_law_steps" s__law_steps) (D__law_low : Def P w K mg base 1 "_law_low" ["top", "bottom"] (spD K p__law_low)) (D__law_mul : Def P w K mg base 2 "_law_mul" ["a", "b"] (spD K p__law_mul)) (D__law_next : Def P w K mg base 4 "_law_next" ["gear", "spot", "gap"] (spS K p__law_next)) (D__law_take : Def P w K mg base 2 "_law_take" ["a", "b"] (spD K p__law_take)) (D__law_tooth : Def P w K mg base 1 "_law_tooth" ["gear", "many"] (spS K p__law_tooth)) : Def P w K mg base 5 "_law_steps" ["gear", "start", "many"] (spS K p__law_steps) := by
  obtain ⟨f, fd, F, hm, hk⟩ := M
  exact ⟨f, fd, fn_S (N := N__law_steps) F sc__law_steps (by intro ds P X h; first | (obtain ⟨rfl, _⟩ := h; rfl) | (obtain ⟨_, rfl, _⟩ := h; rfl) | (obtain ⟨_, _, rfl, _⟩ := h; rfl) | (obtain ⟨_, _, _, rfl, _⟩ := h; rfl) | (obtain ⟨_, _, _, _, rfl, _⟩ := h; rfl)) (fun cdv A outer s H E C => body__law_steps T D__law_low D__law_mul D__law_next D__law_take D__law_tooth cdv A outer s H E C) vc__law_steps, hm, hk, F.binds (ps := ["gear", "start", "many"]) fun _ _ _ _ _ _ us hl => match us, hl with | [_, _, _], _ => rfl⟩
theorem def__law_program (T : Tx K mg) (M : Md K mg "_law_program" s__law_program) (D__law_spot : Def P w K mg base 3 "_law_spot" ["gear", "axes"] (spS K p__law_spot)) (D__law_steps : Def P w K mg base 5 "_law_steps" ["gear", "start", "many"] (spS K p__law_steps)) (D__law_tooth : Def P w K mg base 1 "_law_tooth" ["gear", "many"] (spS K p__law_tooth)) : Def P w K mg base 6 "_law_program" ["gear", "many"] (spS K p__law_program) := by
  obtain ⟨f, fd, F, hm, hk⟩ := M
  exact ⟨f, fd, fn_S (N := N__law_program) F sc__law_program (by intro ds P X h; first | (obtain ⟨rfl, _⟩ := h; rfl) | (obtain ⟨_, rfl, _⟩ := h; rfl) | (obtain ⟨_, _, rfl, _⟩ := h; rfl) | (obtain ⟨_, _, _, rfl, _⟩ := h; rfl) | (obtain ⟨_, _, _, _, rfl, _⟩ := h; rfl)) (fun cdv A outer s H E C => body__law_program T D__law_spot D__law_steps D__law_tooth cdv A outer s H E C) vc__law_program, hm, hk, F.binds (ps := ["gear", "many"]) fun _ _ _ _ _ _ us hl => match us, hl with | [_, _], _ => rfl⟩
theorem def__law_trail (T : Tx K mg) (M : Md K mg "_law_trail" s__law_trail)  : Def P w K mg base 1 "_law_trail" ["told"] (spD K p__law_trail) := by
  obtain ⟨f, fd, F, hm, hk⟩ := M
  exact ⟨f, fd, fn_D (N := N__law_trail) F sc__law_trail (by intro ds P X h; first | (obtain ⟨rfl, _⟩ := h; rfl) | (obtain ⟨_, rfl, _⟩ := h; rfl) | (obtain ⟨_, _, rfl, _⟩ := h; rfl) | (obtain ⟨_, _, _, rfl, _⟩ := h; rfl) | (obtain ⟨_, _, _, _, rfl, _⟩ := h; rfl)) (fun cdv A outer s H E C => body__law_trail T  cdv A outer s H E C) vc__law_trail, hm, hk, F.binds (ps := ["told"]) fun _ _ _ _ _ _ us hl => match us, hl with | [_], _ => rfl⟩
theorem def__law_gaps (T : Tx K mg) (M : Md K mg "_law_gaps" s__law_gaps) (D__law_take : Def P w K mg base 2 "_law_take" ["a", "b"] (spD K p__law_take)) (D__law_trail : Def P w K mg base 1 "_law_trail" ["told"] (spD K p__law_trail)) : Def P w K mg base 3 "_law_gaps" ["told"] (spD K p__law_gaps) := by
  obtain ⟨f, fd, F, hm, hk⟩ := M
  exact ⟨f, fd, fn_D (N := N__law_gaps) F sc__law_gaps (by intro ds P X h; first | (obtain ⟨rfl, _⟩ := h; rfl) | (obtain ⟨_, rfl, _⟩ := h; rfl) | (obtain ⟨_, _, rfl, _⟩ := h; rfl) | (obtain ⟨_, _, _, rfl, _⟩ := h; rfl) | (obtain ⟨_, _, _, _, rfl, _⟩ := h; rfl)) (fun cdv A outer s H E C => body__law_gaps T D__law_take D__law_trail cdv A outer s H E C) vc__law_gaps, hm, hk, F.binds (ps := ["told"]) fun _ _ _ _ _ _ us hl => match us, hl with | [_], _ => rfl⟩
theorem def__law_long (T : Tx K mg) (M : Md K mg "_law_long" s__law_long) (D__law_size : Def P w K mg base 1 "_law_size" ["a"] (spD K p__law_size)) (D__law_under : Def P w K mg base 1 "_law_under" ["a", "b"] (spD K p__law_under)) : Def P w K mg base 2 "_law_long" ["gaps"] (spD K p__law_long) := by
  obtain ⟨f, fd, F, hm, hk⟩ := M
  exact ⟨f, fd, fn_D (N := N__law_long) F sc__law_long (by intro ds P X h; first | (obtain ⟨rfl, _⟩ := h; rfl) | (obtain ⟨_, rfl, _⟩ := h; rfl) | (obtain ⟨_, _, rfl, _⟩ := h; rfl) | (obtain ⟨_, _, _, rfl, _⟩ := h; rfl) | (obtain ⟨_, _, _, _, rfl, _⟩ := h; rfl)) (fun cdv A outer s H E C => body__law_long T D__law_size D__law_under cdv A outer s H E C) vc__law_long, hm, hk, F.binds (ps := ["gaps"]) fun _ _ _ _ _ _ us hl => match us, hl with | [_], _ => rfl⟩
theorem def__law_heads (T : Tx K mg) (M : Md K mg "_law_heads" s__law_heads) (D__law_div : Def P w K mg base 2 "_law_div" ["a", "b"] (spD K p__law_div)) (D__law_gaps : Def P w K mg base 3 "_law_gaps" ["told"] (spD K p__law_gaps)) (D__law_long : Def P w K mg base 2 "_law_long" ["gaps"] (spD K p__law_long)) : Def P w K mg base 4 "_law_heads" ["told"] (spD K p__law_heads) := by
  obtain ⟨f, fd, F, hm, hk⟩ := M
  exact ⟨f, fd, fn_D (N := N__law_heads) F sc__law_heads (by intro ds P X h; first | (obtain ⟨rfl, _⟩ := h; rfl) | (obtain ⟨_, rfl, _⟩ := h; rfl) | (obtain ⟨_, _, rfl, _⟩ := h; rfl) | (obtain ⟨_, _, _, rfl, _⟩ := h; rfl) | (obtain ⟨_, _, _, _, rfl, _⟩ := h; rfl)) (fun cdv A outer s H E C => body__law_heads T D__law_div D__law_gaps D__law_long cdv A outer s H E C) vc__law_heads, hm, hk, F.binds (ps := ["told"]) fun _ _ _ _ _ _ us hl => match us, hl with | [_], _ => rfl⟩
theorem def__law_marks (T : Tx K mg) (M : Md K mg "_law_marks" s__law_marks) (D__law_add : Def P w K mg base 2 "_law_add" ["a", "b"] (spD K p__law_add)) (D__law_gaps : Def P w K mg base 3 "_law_gaps" ["told"] (spD K p__law_gaps)) (D__law_long : Def P w K mg base 2 "_law_long" ["gaps"] (spD K p__law_long)) : Def P w K mg base 4 "_law_marks" ["told"] (spD K p__law_marks) := by
  obtain ⟨f, fd, F, hm, hk⟩ := M
  exact ⟨f, fd, fn_D (N := N__law_marks) F sc__law_marks (by intro ds P X h; first | (obtain ⟨rfl, _⟩ := h; rfl) | (obtain ⟨_, rfl, _⟩ := h; rfl) | (obtain ⟨_, _, rfl, _⟩ := h; rfl) | (obtain ⟨_, _, _, rfl, _⟩ := h; rfl) | (obtain ⟨_, _, _, _, rfl, _⟩ := h; rfl)) (fun cdv A outer s H E C => body__law_marks T D__law_add D__law_gaps D__law_long cdv A outer s H E C) vc__law_marks, hm, hk, F.binds (ps := ["told"]) fun _ _ _ _ _ _ us hl => match us, hl with | [_], _ => rfl⟩
theorem defk_directions_program {G0 : Addr} (T : Tx K mg) (M : MdG K mg base "directions" s_directions G0) (D_direction_of : Def P w K mg base 8 "direction_of" ["distance"] (spD K p_direction_of)) (D_distances : Def P w K mg base 11 "distances" ["program"] (spD K p_distances)) : DefK P w K mg base 14 "directions" ["program"] ["program"] (permL [0]) (spD K p_directions) := by
  obtain ⟨⟨f, fd, c, F, hm, hk, hc, hT⟩, hP⟩ := M
  exact ⟨f, fd, fn_DC (N := N_directions) F sc_directions (by intro ds P X h; first | (obtain ⟨rfl, _⟩ := h; rfl) | (obtain ⟨_, rfl, _⟩ := h; rfl) | (obtain ⟨_, _, rfl, _⟩ := h; rfl) | (obtain ⟨_, _, _, rfl, _⟩ := h; rfl) | (obtain ⟨_, _, _, _, rfl, _⟩ := h; rfl)) (fun cdv A outer s H E ec C => body_directions T D_direction_of D_distances cdv A outer s H E C (tab_body hP hc hT ec)) vc_directions, hm, hk, kb_of (is := [0]) F (fun ws hl => match ws, hl with | [_], _ => rfl) fun _ _ _ _ _ _ ws hl => match ws, hl with | [_], _ => rfl⟩
theorem defk_lengths_program {G0 : Addr} (T : Tx K mg) (M : MdG K mg base "lengths" s_lengths G0) (D_distances : Def P w K mg base 11 "distances" ["program"] (spD K p_distances)) (D_length_of : Def P w K mg base 3 "length_of" ["distance"] (spD K p_length_of)) : DefK P w K mg base 12 "lengths" ["program"] ["program"] (permL [0]) (spD K p_lengths) := by
  obtain ⟨⟨f, fd, c, F, hm, hk, hc, hT⟩, hP⟩ := M
  exact ⟨f, fd, fn_DC (N := N_lengths) F sc_lengths (by intro ds P X h; first | (obtain ⟨rfl, _⟩ := h; rfl) | (obtain ⟨_, rfl, _⟩ := h; rfl) | (obtain ⟨_, _, rfl, _⟩ := h; rfl) | (obtain ⟨_, _, _, rfl, _⟩ := h; rfl) | (obtain ⟨_, _, _, _, rfl, _⟩ := h; rfl)) (fun cdv A outer s H E ec C => body_lengths T D_distances D_length_of cdv A outer s H E C (tab_body hP hc hT ec)) vc_lengths, hm, hk, kb_of (is := [0]) F (fun ws hl => match ws, hl with | [_], _ => rfl) fun _ _ _ _ _ _ ws hl => match ws, hl with | [_], _ => rfl⟩
theorem defk_ways_program (T : Tx K mg) (M : Md K mg "ways" s_ways) (D_added : Def P w K mg base 1 "added" ["one", "other"] (spD K p_added)) (D_lengths : Def P w K mg base 12 "lengths" ["program"] (spD K p_lengths)) : DefK P w K mg base 13 "ways" ["program"] ["program"] (permL [0]) (spD K p_ways) := by
  obtain ⟨f, fd, F, hm, hk⟩ := M
  exact ⟨f, fd, fn_D (N := N_ways) F sc_ways (by intro ds P X h; first | (obtain ⟨rfl, _⟩ := h; rfl) | (obtain ⟨_, rfl, _⟩ := h; rfl) | (obtain ⟨_, _, rfl, _⟩ := h; rfl) | (obtain ⟨_, _, _, rfl, _⟩ := h; rfl) | (obtain ⟨_, _, _, _, rfl, _⟩ := h; rfl)) (fun cdv A outer s H E C => body_ways T D_added D_lengths cdv A outer s H E C) vc_ways, hm, hk, kb_of (is := [0]) F (fun ws hl => match ws, hl with | [_], _ => rfl) fun _ _ _ _ _ _ ws hl => match ws, hl with | [_], _ => rfl⟩
theorem defk_whole_program (T : Tx K mg) (M : Md K mg "whole" s_whole) (D_ways : Def P w K mg base 13 "ways" ["program"] (spD K p_ways)) : DefK P w K mg base 14 "whole" ["program"] ["program"] (permL [0]) (spD K p_whole) := by
  obtain ⟨f, fd, F, hm, hk⟩ := M
  exact ⟨f, fd, fn_D (N := N_whole) F sc_whole (by intro ds P X h; first | (obtain ⟨rfl, _⟩ := h; rfl) | (obtain ⟨_, rfl, _⟩ := h; rfl) | (obtain ⟨_, _, rfl, _⟩ := h; rfl) | (obtain ⟨_, _, _, rfl, _⟩ := h; rfl) | (obtain ⟨_, _, _, _, rfl, _⟩ := h; rfl)) (fun cdv A outer s H E C => body_whole T D_ways cdv A outer s H E C) vc_whole, hm, hk, kb_of (is := [0]) F (fun ws hl => match ws, hl with | [_], _ => rfl) fun _ _ _ _ _ _ ws hl => match ws, hl with | [_], _ => rfl⟩
end
end K01
namespace K01
open PySem PySem.Spec L2 Fw
variable [Tabs]
section
variable {P : Program} {w : World} {K : Fg} {mg : Str → Option Value} {base : Heap}
theorem ints_dp {B : Hp} : ∀ gs : List Int, DpAll K B (gs.map V.int) (gs.map PyData.int)
  | [] => .nil
  | _ :: r => .cons (.int _) (ints_dp r)
theorem grs_own {q g : Addr} {B H B' H' : Hp} {l : Addr} {o : HO} (x : GrS (some (q, g)) B H B' H') (hl : H' l = none) : GrS (some (q, g)) B H B' (upd H' l o) := x.trans ((Gr.own x.bh hl).s x.sp)
theorem grs_set {q g p : Addr} {B H B' H' : Hp} {o : HO} (x : GrS (some (q, g)) B H B' H') (hp : p = q ∨ p = g) (hb : B' p = none) (sp : Spr (upd H' p o) q g) : GrS (some (q, g)) B H B' (upd H' p o) := by
  have hl : ∃ xs, H' p = some (.lst xs) := x.sp.1.get hp
  obtain ⟨xs, hl⟩ := hl
  refine ⟨x.bb, fun a o2 z n => ?_, fun a o2 z => ?_, x.ne, sp, fun P hP => ?_⟩
  · have c : a ≠ p := fun c => n (.inl (show a = q ∨ a = g by rw [c]; exact hp))
    rw [upd_ne c]
    exact x.hh a o2 z n
  · have c : a ≠ p := fun c => by rw [c, hb] at z; cases z
    rw [upd_ne c]
    exact x.bh a o2 z
  · obtain ⟨ps, e1, e2⟩ := x.sp.2 P hP
    have c : P ≠ p := fun c => by rw [c, hl] at e1; cases e1
    exact ⟨ps, (upd_ne c).trans e1, e2⟩
theorem ints_lay : ∀ gs : List Int, PyData.canLayAll0 (gs.map PyData.int) = true
  | [] => by simp [PyData.canLayAll0]
  | _ :: r => by simp [PyData.canLayAll0, PyData.canLay0, ints_lay r]
theorem ints_depth : ∀ gs : List Int, PyData.depthAll (gs.map PyData.int) = 0
  | [] => by simp [PyData.depthAll]
  | _ :: r => by simp [PyData.depthAll, PyData.depth, ints_depth r]
theorem ints_shaped (gs : List Int) : SeqAt.shaped (.list (gs.map PyData.int)) = true := by
  unfold SeqAt.shaped
  simp [PyData.canLay0, ints_lay, PyData.depth, ints_depth]
theorem modM (x : Int) : 0 ≤ x % 2305843009213693951 ∧ x % 2305843009213693951 < 2 ^ 61 := by omega
theorem fmodM (x : Int) : 0 ≤ x.fmod (2 ^ Int.toNat 61 - 1) ∧ x.fmod (2 ^ Int.toNat 61 - 1) < 2 ^ 61 := by
  have e : (2 ^ Int.toNat 61 - 1 : Int) = 2305843009213693951 := by decide
  rw [e]
  have h1 := Int.fmod_nonneg_of_pos x (b := 2305843009213693951) (by decide)
  have h2 := Int.fmod_lt_of_pos x (b := 2305843009213693951) (by decide)
  exact ⟨h1, by omega⟩
theorem ints_nil (gs : List Int) : PyData.eqv (.list (gs.map PyData.int)) (.list []) = gs.isEmpty := by
  cases gs <;> rfl
/-- the spring while its great numbers are drawn from -/
structure In (B H : Hp) (q g : Addr) (m0 c0 : Int) (H' : Hp) (gs : List Int) : Prop where
  gr : GrS (some (q, g)) B H B H'
  hq : H' q = some (.lst [.ref g, .int m0, .int c0])
  hg : H' g = some (.lst (gs.map V.int))
  nn : ∀ x ∈ gs, 0 ≤ x
  l : gs.length ≤ 1000
theorem In.own {B H : Hp} {q g : Addr} {m0 c0 : Int} {H' : Hp} {gs : List Int} (I : In B H q g m0 c0 H' gs) {l : Addr} {o : HO} (hl : H' l = none) : In B H q g m0 c0 (upd H' l o) gs :=
  ⟨grs_own I.gr hl, by rw [upd_ne (ne_of_none I.hq hl)]; exact I.hq, by rw [upd_ne (ne_of_none I.hg hl)]; exact I.hg, I.nn, I.l⟩
theorem In.setG {B H : Hp} {q g : Addr} {m0 c0 : Int} {H' : Hp} {gs : List Int} (I : In B H q g m0 c0 H' gs) (ne : q ≠ g) (hb : B g = none) (h0 : 0 ≤ m0) (h1 : m0 < 2 ^ 61) {hs : List Int} (nn : ∀ x ∈ hs, 0 ≤ x) (l : hs.length ≤ 1000) : In B H q g m0 c0 (upd H' g (.lst (hs.map V.int))) hs := by
  have e : upd H' g (.lst (hs.map V.int)) q = some (.lst [.ref g, .int m0, .int c0]) := by rw [upd_ne ne]; exact I.hq
  exact ⟨grs_set I.gr (.inr rfl) hb ⟨ne, ⟨m0, c0, e, h0, h1⟩, hs, upd_same, nn, l⟩, e, upd_same, nn, l⟩
theorem In.spr {B H : Hp} {q g : Addr} {m0 c0 : Int} {H' : Hp} {gs : List Int} (I : In B H q g m0 c0 H' gs) (ne : q ≠ g) (hb : B q = none) {m c : Int} (h0 : 0 ≤ m) (h1 : m < 2 ^ 61) : In B H q g m c (upd H' q (.lst [.ref g, .int m, .int c])) gs := by
  have e : upd H' q (.lst [.ref g, .int m, .int c]) g = some (.lst (gs.map V.int)) := by rw [upd_ne (Ne.symm ne)]; exact I.hg
  exact ⟨grs_set I.gr (.inl rfl) hb ⟨ne, ⟨m, c, upd_same, h0, h1⟩, gs, e, I.nn, I.l⟩, upd_same, e, I.nn, I.l⟩
theorem fn_drop {f : Addr} {fd : FuncData} (T : Tx K mg) (F : Fun K "_law_tooth" "_law_tooth" s__law_tooth f fd) : FnOk P w K mg base (L2.CX P w) 1 f fd ["gear", "many"] (spS K p__law_tooth) := by
  refine F.okX (N := N__law_tooth) sc__law_tooth (fun vs H Q E h => ?_) (fun cdv A outer s H vs Q E hr h => ?_)
  · obtain ⟨B, q, g, vr, ds, P', X, rfl, _, hd, _, ⟨n, rfl, _⟩, _⟩ := h
    rw [List.length_cons, dps_len hd]
    rfl
  obtain ⟨B, q, g, vr, ds, P', X, rfl, e, hd, ⟨spo, sfo⟩, ⟨n, rfl, n0, n9, pq⟩, k1, _⟩ := h
  have sp : Spr H q g := spo.1
  have sf : B q = none ∧ B g = none := sfo.1
  have C := ctx_of (P := P) (w := w) (K := K) (mg := mg) (base := base) (cdv := cdv) (outer := outer) (H := H) (E := E) (s := s) (A := A) (f := f) (qual := "_law_tooth") (st := s__law_tooth) (k := 0) sc__law_tooth hr
  have nd := sc__law_tooth.nd
  obtain rfl : vr = [.int n] := by
    cases hd with
    | cons h t => cases t; cases h; rfl
  have s0 := sp.1
  obtain ⟨m0, c0, hq, m0a, m0b⟩ := sp.2
  obtain ⟨gs0, hg, gs0a, gs0l⟩ := sp.3
  refine ⟨_, pss_cons (ps_set (i := 2) nd rfl (Or.inl rfl) (pe_ix ix_list (pv 0) pe_int (fun _ _ => rfl)))
    (pss_cons (ps_while C.po (PW.pt (pw_and (pt_cmpR (op_neD C.hr.units) (pv 2) (pe_lst pa_nil) (nomark _)) (pw_and1 (pt_cmpR op_eq (pe_ix ix_list (pv 2) pe_int (fun _ _ => rfl)) pe_int (nomark _)))))
      (pss_one (ps_expr (pe_bm PySem.F.plainAttrs_list PySem.F.slot_list_pop PySem.F.type_list_pop mt_popAt (pv 2) (pa_cons pe_int pa_nil)))))
    (pss_cons (ps_if (pt_cmpR (op_neD C.hr.units) (pv 2) (pe_lst pa_nil) (nomark _))
      (pss_cons (ps_set (i := 3) nd rfl (Or.inl rfl) (pe_op op_modN (pe_callTy call_int1 (by rfl) T.int (by decide +kernel) (pa_cons (pe_ix ix_list (pv 2) pe_int (fun _ _ => rfl)) pa_nil)) (pv 1)))
      (pss_cons (ps_asg (pe_op op_fdivG (pe_ix ix_list (pv 2) pe_int (fun _ _ => rfl)) (pv 1)) (pg_sub (pv 2) pe_int set_list))
      (pss_one (ps_ret (pv 3))))) pss_nil)
    (pss_cons (ps_asg (pe_op op_add (pe_ix ix_list (pv 0) pe_int (fun _ _ => rfl)) pe_int) (pg_sub (pv 0) pe_int set_list))
    (pss_cons (ps_asg (pe_op op_modN (pe_callTy call_int1 (by rfl) T.int (by decide +kernel) (pa_cons (pe_op op_add (pe_op op_mulG (pe_ix ix_list (pv 0) pe_int (fun _ _ => rfl)) pe_int) (pe_op op_mulG (pe_ix ix_list (pv 0) pe_int (fun _ _ => rfl)) pe_int)) pa_nil)) (pe_op op_sub (pe_op op_pow pe_int pe_int) pe_int)) (pg_sub (pv 0) pe_int set_list))
    (pss_one (ps_ret (pe_op op_modN (pe_op op_fdiv (pe_op op_modN (pe_callTy call_int1 (by rfl) T.int (by decide +kernel) (pa_cons (pe_op op_add (pe_op op_mulG (pe_ix ix_list (pv 0) pe_int (fun _ _ => rfl)) (pe_ix ix_list (pv 0) pe_int (fun _ _ => rfl))) (pe_op op_fdiv (pe_ix ix_list (pv 0) pe_int (fun _ _ => rfl)) pe_int)) pa_nil)) (pe_op op_add (pe_op op_pow pe_int pe_int) pe_int)) pe_int) (pv 1)))))))), ?_⟩
  refine ⟨_, rfl, _, _, _, _, rfl, rfl, SqL.of hq, atI_nat (j := 0) rfl, ?_⟩
  have I0 : In B H q g m0 c0 H gs0 := ⟨(Gr.rfl e).s spo, hq, hg, gs0a, gs0l⟩
  refine ⟨fun m σ H' => ∃ gs, m = gs.length ∧ σ = [some (.ref q), some (.int n), some (.ref g), none] ∧ In B H q g m0 c0 H' gs, ⟨_, gs0, rfl, rfl, I0⟩, ?_⟩
  rintro m σ H1 ⟨gs, rfl, rfl, I1⟩
  have fm : ∀ x : Int, 0 ≤ x.fmod n ∧ x.fmod n < n := fun x => ⟨Int.fmod_nonneg_of_pos _ n0, Int.fmod_lt_of_pos _ n0⟩
  refine ⟨_, rfl, (by show 0 ≤ sizeLine; decide), fun l hl => ⟨_, _, .lst (SqL.of ((I1.own hl).hg)) (ints_dp gs), .lst (SqL.of upd_same) .nil, ints_shaped gs, by decide, _, rfl, ?_⟩⟩
  rw [ints_nil]
  have I2 := I1.own (o := .lst []) hl
  generalize upd H1 l (.lst []) = H2 at I2
  cases gs with
  | nil =>
    refine ⟨_, rfl, (by show 0 ≤ sizeLine; decide), fun l2 hl2 => ⟨_, _, .lst (SqL.of ((I2.own hl2).hg)) (ints_dp []), .lst (SqL.of upd_same) .nil, by decide, by decide, _, rfl, ?_⟩⟩
    have I3 := I2.own (o := .lst []) hl2
    generalize upd H2 l2 (.lst []) = H3 at I3
    have d1 : (0:Int) ≤ m0 := m0a
    refine ⟨_, rfl, _, _, _, _, rfl, rfl, SqL.of I3.hq, atI_nat (j := 2) rfl, _, _, rfl, rfl, ?_⟩
    refine ⟨_, rfl, _, _, _, 2, rfl, rfl, I3.hq, rfl, ?_⟩
    have I4 := I3.spr (m := m0) (c := c0 + 1) s0 sf.1 m0a m0b
    refine ⟨_, rfl, _, _, _, _, rfl, rfl, SqL.of I4.hq, atI_nat (j := 1) rfl, _, _, rfl, rfl, MulOk.r ⟨by decide, by decide⟩, ?_⟩
    refine ⟨_, rfl, _, _, _, _, rfl, rfl, SqL.of I4.hq, atI_nat (j := 2) rfl, _, _, rfl, rfl, MulOk.r ⟨by decide, by decide⟩, _, _, rfl, rfl, .inl ⟨_, rfl, _, _, rfl, rfl, ⟨by decide, by decide, by decide⟩, _, _, rfl, rfl, _, _, rfl, rfl, (by show (2305843009213693951:Int) ≠ 0; decide), ?_⟩⟩
    refine ⟨_, rfl, _, _, _, 1, rfl, rfl, I4.hq, rfl, ?_⟩
    have z := fmodM (m0 * 6364136223846793005 + (c0 + 1) * 1442695040888963407)
    have I5 := I4.spr (m := (m0 * 6364136223846793005 + (c0 + 1) * 1442695040888963407).fmod (2 ^ Int.toNat 61 - 1)) (c := c0 + 1) s0 sf.1 z.1 z.2
    refine ⟨_, rfl, _, _, _, _, rfl, rfl, SqL.of I5.hq, atI_nat (j := 1) rfl, _, rfl, _, _, _, _, rfl, rfl, SqL.of I5.hq, atI_nat (j := 1) rfl, _, _, rfl, rfl, MulOk.l ⟨Int.le_trans (by decide) z.1, Int.lt_trans z.2 (by decide)⟩, ?_⟩
    refine ⟨_, rfl, _, _, _, _, rfl, rfl, SqL.of I5.hq, atI_nat (j := 1) rfl, _, _, rfl, rfl, ⟨by decide, by decide⟩, _, _, rfl, rfl, .inl ⟨_, rfl, _, _, rfl, rfl, ⟨by decide, by decide, by decide⟩, _, _, rfl, rfl, _, _, rfl, rfl, (by show (576460752303423619:Int) ≠ 0; decide), ?_⟩⟩
    refine ⟨_, _, rfl, rfl, ⟨by decide, by decide⟩, _, rfl, _, _, rfl, rfl, (by show n ≠ 0; omega), ?_⟩
    exact k1 _ _ _ _ (pq _ (fm _).1 (fm _).2) I5.gr (.int _)
  | cons x r =>
    refine ⟨_, rfl, _, _, _, _, rfl, rfl, SqL.of I2.hg, atI_nat (j := 0) rfl, rfl, _, rfl, ?_⟩
    by_cases x0 : x = 0
    · have ex : decide (V.int x = V.int 0) = true := decide_eq_true (by rw [x0])
      rw [ex]
      refine iteT ?_
      refine ⟨fun σ' H' => σ' = [some (.ref q), some (.int n), some (.ref g), none] ∧ In B H q g m0 c0 H' r, fun σ' H' z => ⟨r.length, Nat.lt_succ_self _, r, rfl, z.1, z.2⟩, ?_⟩
      refine ⟨_, rfl, .inl ⟨rfl, _, SqL.of I2.hg⟩, _, _, _, 0, _, rfl, rfl, I2.hg, by decide, by decide, by simp [seqIndex?], rfl, ?_⟩
      exact ⟨rfl, I2.setG s0 sf.2 m0a m0b (fun y m => I2.nn y (List.mem_cons_of_mem _ m)) (by have := I2.l; rw [List.length_cons] at this; omega)⟩
    · have ex : decide (V.int x = V.int 0) = false := decide_eq_false (fun z => x0 (V.int.inj z))
      rw [ex]
      refine iteF ?_
      refine ⟨_, rfl, (by show 0 ≤ sizeLine; decide), fun l2 hl2 => ⟨_, _, .lst (SqL.of ((I2.own hl2).hg)) (ints_dp (x :: r)), .lst (SqL.of upd_same) .nil, ints_shaped _, by decide, _, rfl, ?_⟩⟩
      have I3 := I2.own (o := .lst []) hl2
      generalize upd H2 l2 (.lst []) = H3 at I3
      rw [ints_nil]
      refine ⟨_, rfl, _, _, _, _, rfl, rfl, SqL.of I3.hg, atI_nat (j := 0) rfl, .inl ⟨_, rfl, _, rfl, _, _, rfl, rfl, (by show n ≠ 0; omega), ?_⟩⟩
      refine ⟨_, rfl, _, _, _, _, rfl, rfl, SqL.of I3.hg, atI_nat (j := 0) rfl, _, rfl, _, _, rfl, rfl, DivOk.w (by omega) n9 (by decide) (by decide), ?_⟩
      refine ⟨_, rfl, _, _, _, 0, rfl, rfl, I3.hg, by simp [ixN], ?_⟩
      have I4 := I3.setG s0 sf.2 m0a m0b (hs := x.fdiv n :: r) (fun y m => by
        rcases List.mem_cons.mp m with rfl | m
        · exact Int.fdiv_nonneg (I3.nn x List.mem_cons_self) (by omega)
        · exact I3.nn y (List.mem_cons_of_mem _ m)) I3.l
      refine ⟨_, rfl, ?_⟩
      exact k1 _ _ _ _ (pq _ (fm _).1 (fm _).2) I4.gr (.int _)
end
end K01
namespace K01
open PySem PySem.Spec L2 Fw
variable [Tabs]
/-- what the making of the spring promises -/
def spMk (K : Fg) : Sp := fun vs H Q E => ∃ (a : Addr) (ns : List Int), vs = [.ref a] ∧ SqL K H a (ns.map V.int) ∧ ns.length ≤ 63 ∧ ∀ H' q g, Ex H H' → Spr H' q g → H q = none → H g = none → Q (.ref q) H'
section
variable {P : Program} {w : World} {K : Fg} {mg : Str → Option Value} {base : Heap}
theorem fn_spring {f : Addr} {fd : FuncData} (T : Tx K mg) (F : Fun K "_law_gear" "_law_gear" s__law_gear f fd) : FnOk P w K mg base (L2.CX P w) 1 f fd ["script"] (spMk K) := by
  refine F.okX (N := N__law_gear) sc__law_gear (fun vs H Q E h => ?_) (fun cdv A outer s H vs Q E hr h => ?_)
  · obtain ⟨a, ns, rfl, _⟩ := h
    rfl
  obtain ⟨a, ns, rfl, hs, hl, k1⟩ := h
  have C := ctx_of (P := P) (w := w) (K := K) (mg := mg) (base := base) (cdv := cdv) (outer := outer) (H := H) (E := E) (s := s) (A := A) (f := f) (qual := "_law_gear") (st := s__law_gear) (k := 0) sc__law_gear hr
  have nd := sc__law_gear.nd
  refine ⟨_, pss_cons (ps_setLc (i := 1) (own := [("cell", 2)]) (g := gName 2) C.calm nd rfl rfl (sw_true rfl rfl rfl (by decide +kernel)) (pi_list (pv 0)) (blkOk_by (own := [("cell", 2)]) (N := N__law_gear) (sc := defScope s__law_gear) (by decide +kernel)) (fun _ _ _ _ _ => pg_name (i := 2) nd rfl (Or.inl rfl)) (fun _ _ _ _ _ => pts_one (pt_cmpR op_ge (pv 2) (pe_op op_pow pe_int pe_int) (nomark _))) (fun _ _ _ _ _ => pe_op op_sub (pv 2) (pe_op op_pow pe_int pe_int)))
    (pss_cons (ps_set (i := 3) nd rfl (Or.inl rfl) (pe_op op_add pe_int (pe_op op_mulG pe_int (pe_callB call_len_seq (by rfl) T.len PySem.boot_len (pa_cons (pv 0) pa_nil)))))
    (pss_cons (ps_for C.po rfl (pi_list (pv 0)) (pg_name (i := 2) nd rfl (Or.inl rfl)) (pss_one (ps_set (i := 3) nd rfl (Or.inl rfl) (pe_op op_modN (pe_callTy call_int1 (by rfl) T.int (by decide +kernel) (pa_cons (pe_op op_add (pe_op op_add (pe_op op_mulG (pv 3) pe_int) (pe_op op_mulG (pv 2) pe_int)) pe_int) pa_nil)) (pe_op op_sub (pe_op op_pow pe_int pe_int) pe_int)))))
    (pss_one (ps_ret (pe_lst (pa_cons (pv 1) (pa_cons (pv 3) (pa_cons pe_int pa_nil)))))))), ?_⟩
  have hsl : ∀ H', Ex H H' → SqL K H' a (ns.map V.int) := fun H' e => e.sqL hs
  refine ⟨_, rfl, a, rfl, ⟨_, hs⟩, fun D hD => ?_⟩
  refine lc_list (K := K) (a := a) (xs := ns.map V.int) (fun i H' => ∃ gs : List Int, H' D = some (.lst (gs.map V.int)) ∧ (∀ x ∈ gs, 0 ≤ x) ∧ gs.length ≤ i ∧ Ex H H') ⟨[], upd_same, by simp, by simp, Ex.new hD⟩ (fun i H' _ p => by obtain ⟨_, _, _, _, p⟩ := p; exact hsl H' p) ?_ ?_
  · rintro i x H1 hx ⟨gs, e1, e2, e3, e4⟩
    obtain ⟨y, rfl⟩ : ∃ y : Int, x = .int y := by
      have m := List.mem_of_getElem? hx
      obtain ⟨y, _, rfl⟩ := List.mem_map.mp m
      exact ⟨y, rfl⟩
    have hi : i < 63 := by
      have := (List.getElem?_eq_some_iff.mp hx).1
      rw [List.length_map] at this
      omega
    refine ⟨rfl, _, rfl, _, _, rfl, rfl, ⟨by decide, by decide, by decide⟩, _, _, rfl, rfl, _, rfl, ?_⟩
    by_cases c : (1000000000000000000 : Int) ≤ y
    · have c1 : decide ((10 : Int) ^ Int.toNat 18 ≤ y) = true := decide_eq_true c
      rw [c1]
      refine iteT ?_
      refine ⟨_, rfl, _, _, rfl, rfl, ⟨by decide, by decide, by decide⟩, _, _, rfl, rfl, gs.map V.int, e1, by rw [List.length_map]; show _ < 16777216; omega, gs ++ [y - 1000000000000000000], ?_, ?_, ?_, ?_⟩
      · rw [upd_same, List.map_append]
        rfl
      · intro z m
        rcases List.mem_append.mp m with m | m
        · exact e2 z m
        · rw [List.mem_singleton.mp m]
          omega
      · simp
        omega
      · intro a2 o z
        by_cases c2 : a2 = D
        · rw [c2, hD] at z
          cases z
        · rw [upd_ne c2]
          exact e4 a2 o z
    · have c1 : decide ((10 : Int) ^ Int.toNat 18 ≤ y) = false := decide_eq_false c
      rw [c1]
      refine iteF ?_
      exact ⟨gs, e1, e2, by omega, e4⟩
  · rintro H1 ⟨gs, e1, e2, e3, e4⟩
    refine ⟨_, rfl, _, _, rfl, .inl (hsl H1 e4), _, _, rfl, rfl, MulOk.l ⟨by decide, by decide⟩, _, _, rfl, rfl, ?_⟩
    refine ⟨_, rfl, a, rfl, ⟨_, hsl H1 e4⟩, ?_⟩
    refine for_list (xs := ns.map V.int) (fun _ σ H' => ∃ (y : Option V) (m : Int), σ = [some (.ref a), some (.ref D), y, some (.int m)] ∧ 0 ≤ m ∧ m < 2 ^ 61 ∧ H' = H1) ⟨none, _, rfl, ?_, ?_, rfl⟩ (fun i σ H' _ p => ?_) ?_ ?_
    · omega
    · rw [List.length_map]
      omega
    · obtain ⟨_, _, _, _, _, rfl⟩ := p
      exact hsl H' e4
    · rintro i x σ H2 hx ⟨y, m, rfl, m0, m1, rfl⟩
      obtain ⟨c, rfl⟩ : ∃ c : Int, x = .int c := by
        obtain ⟨y, _, rfl⟩ := List.mem_map.mp (List.mem_of_getElem? hx)
        exact ⟨y, rfl⟩
      refine ⟨_, rfl, _, _, rfl, rfl, MulOk.r ⟨by decide, by decide⟩, _, rfl, _, _, rfl, rfl, MulOk.r ⟨by decide, by decide⟩, _, _, rfl, rfl, _, _, rfl, rfl, .inl ⟨_, rfl, _, _, rfl, rfl, ⟨by decide, by decide, by decide⟩, _, _, rfl, rfl, _, _, rfl, rfl, (by show (2305843009213693951:Int) ≠ 0; decide), ?_⟩⟩
      exact ⟨_, _, rfl, (fmodM _).1, (fmodM _).2, rfl⟩
    · rintro σ H2 ⟨y, m, rfl, m0, m1, rfl⟩
      refine ⟨_, rfl, _, rfl, (by show 3 ≤ sizeLine; decide), fun l hl2 => ?_⟩
      have lD : l ≠ D := fun z => by rw [z, e1] at hl2; cases hl2
      refine k1 _ _ _ (e4.trans (Ex.new hl2)) ⟨lD, ⟨m, 0, upd_same, m0, m1⟩, gs, ?_, e2, ?_⟩ (e4.back hl2) hD
      · rw [upd_ne (Ne.symm lD)]
        exact e1
      · rw [List.length_map] at e3
        omega
end
end K01
namespace K01
open PySem PySem.Spec L2 Fw
variable [Tabs]
def spLaw (K : PySem.W.Frag) : Sp := fun vs H Q _ => ∃ (a : Addr) (ns : List Int), vs = [.ref a] ∧ SqL K H a (ns.map V.int) ∧ ns.length ≤ 63 ∧ (∀ P ∈ Tabs.tb, GxR.TabG H P) ∧ ∀ H', Q (.bl true) H'
open Classical in
noncomputable def hideT (H : Hp) : Hp := fun b => if b ∈ Tabs.tb then none else H b
theorem hideT_none {H : Hp} {P : Addr} (h : P ∈ Tabs.tb) : hideT H P = none := if_pos h
theorem hideT_of {H : Hp} {P : Addr} (h : H P = none) : hideT H P = none := by
  unfold hideT
  split
  · rfl
  · exact h
theorem hideT_ex {H H' : Hp} (e : Ex H H') : Ex (hideT H) H' := fun a o z => by
  unfold hideT at z
  split at z
  · cases z
  · exact e a o z
theorem hideT_sql {K : Fg} {H : Hp} {a : Addr} {xs : List V} (t : ∀ P ∈ Tabs.tb, GxR.TabG H P) (h : SqL K H a xs) : SqL K (hideT H) a xs := by
  have nt : ∀ o, H a = some o → (∀ ps, o ≠ .tbl ps) → hideT H a = some o := fun o e n => by
    unfold hideT
    split
    · rename_i m
      obtain ⟨ps, e2, _⟩ := t a m
      rw [e] at e2
      cases e2
      exact absurd rfl (n ps)
    · exact e
  unfold SqL at h ⊢
  rcases h with h | h
  · rcases h with h | ⟨o, h⟩
    · exact .inl (.inl (nt _ h (fun _ z => by cases z)))
    · exact .inl (.inr ⟨o, nt _ h (fun _ z => by cases z)⟩)
  · exact .inr h
section
variable {P : Program} {w : World} {K : Fg} {mg : Str → Option Value} {base : Heap}
theorem fn_law {f fs : Addr} {fd fds : FuncData} (F : Fun K "law" "law" s_law f fd) (GS : FnOk P w K mg base (L2.CX P w) 1 fs fds ["script"] (spMk K)) (mS : mg "_law_gear" = some (.ref fs)) (kS : PySem.W.keepIn K (.ref fs) = true) (bS : Binds K fds ["script"] [])
    (T : Tx K mg) (D__law_gaps : Def P w K mg base 3 "_law_gaps" ["told"] (spD K p__law_gaps)) (D__law_heads : Def P w K mg base 4 "_law_heads" ["told"] (spD K p__law_heads)) (D__law_long : Def P w K mg base 2 "_law_long" ["gaps"] (spD K p__law_long)) (D__law_marks : Def P w K mg base 4 "_law_marks" ["told"] (spD K p__law_marks)) (D__law_program : Def P w K mg base 6 "_law_program" ["gear", "many"] (spS K p__law_program)) (D__law_same : Def P w K mg base 6 "_law_same" ["found", "due"] (spD K p__law_same)) (D__law_tooth : Def P w K mg base 1 "_law_tooth" ["gear", "many"] (spS K p__law_tooth)) (D_directions : Def P w K mg base 14 "directions" ["program"] (spD K p_directions)) (D_lengths : Def P w K mg base 12 "lengths" ["program"] (spD K p_lengths)) (D_ways : Def P w K mg base 13 "ways" ["program"] (spD K p_ways)) (D_whole : Def P w K mg base 14 "whole" ["program"] (spD K p_whole)) (K_directions_program : DefK P w K mg base 14 "directions" ["program"] ["program"] (permL [0]) (spD K p_directions)) (K_lengths_program : DefK P w K mg base 12 "lengths" ["program"] ["program"] (permL [0]) (spD K p_lengths)) (K_ways_program : DefK P w K mg base 13 "ways" ["program"] ["program"] (permL [0]) (spD K p_ways)) (K_whole_program : DefK P w K mg base 14 "whole" ["program"] ["program"] (permL [0]) (spD K p_whole)) : FnG P w K mg base (L2.CX P w) 15 f fd ["script"] (spLaw K) := by
  refine fnG_of (N := N_law) F sc_law (fun vs H Q E h => ?_) (fun cdv A outer s H vs Q E ec hgd hr h => ?_)
  · obtain ⟨a, ns, rfl, _⟩ := h
    rfl
  obtain ⟨a, ns, rfl, hs, hl, ht, k1⟩ := h
  have C := ctx_of (P := P) (w := w) (K := K) (mg := mg) (base := base) (cdv := cdv) (outer := outer) (H := H) (E := E) (s := s) (A := A) (f := f) (qual := "law") (st := s_law) (k := 14) sc_law hr
  have nd := sc_law.nd
  obtain ⟨ts, b1, b2⟩ := body_law T D__law_gaps D__law_heads D__law_long D__law_marks D__law_program D__law_same D__law_tooth D_directions D_lengths D_ways D_whole K_directions_program K_lengths_program K_ways_program K_whole_program cdv A outer s H E C hgd
  refine ⟨_, pss_cons (ps_set (i := 1) nd rfl (by first | exact Or.inr rfl | exact Or.inl rfl) (pe_callS GS (C.hr.mono (by decide)) rfl mS kS bS (fun σ => passAt C.tk σ) (pa_cons (pv 0) pa_nil))) b1, ?_⟩
  refine ⟨_, rfl, a, ns, rfl, hs, hl, fun H' q g ex sp hq hg => ?_⟩
  have tH' : ∀ P ∈ Tabs.tb, GxR.TabG H' P := fun P hP => by
    obtain ⟨ps, e1, e2⟩ := ht P hP
    exact ⟨ps, ex _ _ e1, e2⟩
  have spo : SprO H' (some (q, g)) := ⟨sp, tH'⟩
  have sfo : SprF (hideT H) (some (q, g)) := ⟨⟨hideT_of hq, hideT_of hg⟩, fun P hP => hideT_none hP⟩
  have sim : Sim K (some (q, g)) (hideT H) H' [some (.ref a), some (.ref q), none, none, none, none, none, none, none, none] [.p (.list (ns.map PyData.int)), .s, .un, .un, .un, .un, .un, .un, .un, .un] (hideT H) H' := by
    refine ⟨(Gr.rfl (hideT_ex ex)).s spo, sfo, fun a z => SprO.get (S := some (q, g)) spo z, [], .p (.lst (hideT_sql ht hs) (ints_dp ns)) (.s rfl (env_un 8)), List.nodup_nil, fun a z => by cases z⟩
  refine b2.run sim _ _ (vc_law ns hl (fun d => d = .bool true) (fun _ => False) rfl) (fun σ' es' B' H2 q s' _ => ?_) (fun σ' es' d v B' H2 q s' dv => ?_) (fun _ _ _ _ q _ _ => q.elim) (fun _ _ _ _ q _ _ => q.elim) fun x cls dd σ' es' B' H2 hx s' _ r => hx.elim
  · cases q
  · obtain rfl : d = .bool true := q
    cases dv
    exact k1 H2
end
end K01
namespace K01
open PySem PySem.Spec L2 Fw
variable [Tabs]
section
variable {P : Program} {w : World} {K : Fg} {mg : Str → Option Value} {base : Heap}
theorem def_drop (T : Tx K mg) (M : Md K mg "_law_tooth" s__law_tooth) : Def P w K mg base 1 "_law_tooth" ["gear", "many"] (spS K p__law_tooth) := by
  obtain ⟨f, fd, F, hm, hk⟩ := M
  exact ⟨f, fd, fn_drop T F, hm, hk, F.binds (ps := ["gear", "many"]) fun _ _ _ _ _ _ us hl => match us, hl with | [_, _], _ => rfl⟩
def paF : Spc := fun _ _ _ => False
theorem def_alike0 (M : Md K mg "_law_same" s__law_same) : Def P w K mg base 1 "_law_same" ["found", "due"] (spD K paF) := by
  obtain ⟨f, fd, F, hm, hk⟩ := M
  refine ⟨f, fd, F.okX (N := N__law_same) sc__law_same (fun vs H Q E h => ?_) (fun cdv A outer s H vs Q E hr h => ?_), hm, hk, F.binds (ps := ["found", "due"]) fun _ _ _ _ _ _ us hl => match us, hl with | [_, _], _ => rfl⟩
  · obtain ⟨_, _, _, _, _, _, _, h, _⟩ := h
    exact h.elim
  · obtain ⟨_, _, _, _, _, _, _, h, _⟩ := h
    exact h.elim
theorem def_alikeN {lv k : Nat} {pr : Spc} (n : Nat) (hk : 1 ≤ k) (hl : lv ≤ k) (T : Tx K mg) (M : Md K mg "_law_same" s__law_same)  (DD : Def P w K mg base lv "_law_same" ["found", "due"] (spD K pr))
    (hpr : ∀ d (Q : D → Prop) X, n = n → (∃ m, n = m + 1 ∧ flat m d) → Q (.bool true) → pr [d, d] Q X) : Def P w K mg base (k + 1) "_law_same" ["found", "due"] (spD K (pa n)) := by
  obtain ⟨f, fd, F, hm, hk2⟩ := M
  exact ⟨f, fd, fn_D (N := N__law_same) F sc__law_same (by intro ds P X h; obtain ⟨_, rfl, _⟩ := h; rfl) (fun cdv A outer s H E C => body__law_same (Nat.le_trans (by decide) hk) hl T DD  cdv A outer s H E C) (vc__law_same pr n hpr), hm, hk2, F.binds (ps := ["found", "due"]) fun _ _ _ _ _ _ us hl => match us, hl with | [_, _], _ => rfl⟩
theorem def__law_same (T : Tx K mg) (M : Md K mg "_law_same" s__law_same)  : Def P w K mg base 6 "_law_same" ["found", "due"] (spD K p__law_same) := by
  have st : ∀ n d (Q : D → Prop) X, n + 1 = n + 1 → (∃ m, n + 1 = m + 1 ∧ flat m d) → Q (.bool true) → pa n [d, d] Q X := fun n d Q X _ h q => by
    obtain ⟨m, e, hf⟩ := h
    obtain rfl : n = m := by omega
    exact ⟨d, rfl, hf, q⟩
  have D0 : Def P w K mg base 2 "_law_same" ["found", "due"] (spD K (pa 0)) := def_alikeN (k := 1) 0 (by decide) (by decide) T M  (def_alike0 M) (fun d Q X _ h _ => by obtain ⟨m, e, _⟩ := h; omega)
  have D1 : Def P w K mg base 3 "_law_same" ["found", "due"] (spD K (pa 1)) := def_alikeN (k := 2) 1 (by decide) (by decide) T M  D0 (st 0)
  have D2 : Def P w K mg base 4 "_law_same" ["found", "due"] (spD K (pa 2)) := def_alikeN (k := 3) 2 (by decide) (by decide) T M  D1 (st 1)
  have D3 : Def P w K mg base 5 "_law_same" ["found", "due"] (spD K (pa 3)) := def_alikeN (k := 4) 3 (by decide) (by decide) T M  D2 (st 2)
  exact def_alikeN (k := 5) 4 (by decide) (by decide) T M  D3 (st 3)
theorem fn_init_InvalidProgram {fI : Addr} {fd : FuncData} (F : Fun K "__init__" "InvalidProgram.__init__" s_init_InvalidProgram fI fd) {C : Addr} (T : OexC K C) (no : PySem.W.findIn K (.ref C) "place" = some none) : FnOk P w K mg base CX0 1 fI fd ["self", "place"] (spInit K C "place") := by
  refine F.ok (N := ["self", "place"]) sc_init_InvalidProgram (fun vs H Q E h => ?_) (fun cdv A outer s H vs Q E hr h => ?_)
  · obtain ⟨a, v, rfl, _⟩ := h
    rfl
  · obtain ⟨a, v, rfl, ha, q⟩ := h
    exact ⟨_, pss_one (ps_ost (pv 0) (pv 1)), ⟨v, rfl, _, rfl, a, C, rfl, T, no, .inl ⟨ha, fun dx h1 h2 => q dx h1 h2⟩⟩⟩
theorem exf_InvalidProgram {h : Heap} {C fI : Addr} {fd : FuncData} (X : K.In h) (G : h.Ns mainGlobals mg) (e : PySem.W.nsIn K mainGlobals "InvalidProgram" = some (some (.ref C))) (T : OexC K C) (xf : XfC K C) (no : PySem.W.findIn K (.ref C) "place" = some none)
    (iC : PySem.W.findIn K (.ref C) "__init__" = some (some (.ref fI))) (tI : PySem.W.typeIn K (.ref fI) = some (.type "function")) (F : Fun K "__init__" "InvalidProgram.__init__" s_init_InvalidProgram fI fd) (bs : Heap) : ExcF P w K mg bs "InvalidProgram" "place" := by
  have ec := clsV_of e
  have ea : clsA K "InvalidProgram" = C := clsA_of ec
  exact ⟨by rw [ec]; exact e, by rw [ec]; exact PySem.W.mg_of X G e, by rw [ec, ea], by rw [ea]; exact T, by rw [ea]; exact xf, by rw [ea]; exact no, by rw [ea]; exact ⟨fI, fd, iC, tI, F.binds (ps := ["self", "place"]) (fun _ _ _ _ _ _ us hl => match us, hl with | [_, _], _ => rfl), fn_init_InvalidProgram F T no⟩⟩
theorem law_all (T : Tx K mg) {cs : List (Addr × Addr)} {G_is_point : Addr} {G_path : Addr} {G_apart : Addr} {G_lengths : Addr} {G_direction_of : Addr} {G_directions : Addr} (M_added : Md K mg "added" s_added) (M_subtracted : Md K mg "subtracted" s_subtracted) (M_multiplied : Md K mg "multiplied" s_multiplied) (M_inverse : Md K mg "inverse" s_inverse) (M_divided : Md K mg "divided" s_divided) (M_opposite : Md K mg "opposite" s_opposite) (M_absolute : Md K mg "absolute" s_absolute) (M_is_less : Md K mg "is_less" s_is_less) (M_largest : Md K mg "largest" s_largest) (M_is_integer : Md K mg "is_integer" s_is_integer) (M_is_fraction : Md K mg "is_fraction" s_is_fraction) (M_is_tuple_of : Md K mg "is_tuple_of" s_is_tuple_of) (M_is_above_nought : Md K mg "is_above_nought" s_is_above_nought) (M_is_from_nought : Md K mg "is_from_nought" s_is_from_nought) (M_is_point : ∀ bs : Heap, (∀ p ∈ cs, GxR.TabB bs mg p.1 p.2) → MdG K mg bs "is_point" s_is_point G_is_point) (M_step_fault : Md K mg "step_fault" s_step_fault) (M_program_fault : Md K mg "program_fault" s_program_fault) (M_check_program : Md K mg "check_program" s_check_program) (M_path : ∀ bs : Heap, (∀ p ∈ cs, GxR.TabB bs mg p.1 p.2) → MdG K mg bs "path" s_path G_path) (M_apart : ∀ bs : Heap, (∀ p ∈ cs, GxR.TabB bs mg p.1 p.2) → MdG K mg bs "apart" s_apart G_apart) (M_distances : Md K mg "distances" s_distances) (M_length_of : Md K mg "length_of" s_length_of) (M_lengths : ∀ bs : Heap, (∀ p ∈ cs, GxR.TabB bs mg p.1 p.2) → MdG K mg bs "lengths" s_lengths G_lengths) (M_direction_of : ∀ bs : Heap, (∀ p ∈ cs, GxR.TabB bs mg p.1 p.2) → MdG K mg bs "direction_of" s_direction_of G_direction_of) (M_directions : ∀ bs : Heap, (∀ p ∈ cs, GxR.TabB bs mg p.1 p.2) → MdG K mg bs "directions" s_directions G_directions) (M_ways : Md K mg "ways" s_ways) (M_whole : Md K mg "whole" s_whole) (M__law_gear : Md K mg "_law_gear" s__law_gear) (M__law_tooth : Md K mg "_law_tooth" s__law_tooth) (M__law_same : Md K mg "_law_same" s__law_same) (M__law_low : Md K mg "_law_low" s__law_low) (M__law_add : Md K mg "_law_add" s__law_add) (M__law_take : Md K mg "_law_take" s__law_take) (M__law_mul : Md K mg "_law_mul" s__law_mul) (M__law_div : Md K mg "_law_div" s__law_div) (M__law_under : Md K mg "_law_under" s__law_under) (M__law_size : Md K mg "_law_size" s__law_size) (M__law_spot : Md K mg "_law_spot" s__law_spot) (M__law_next : Md K mg "_law_next" s__law_next) (M__law_steps : Md K mg "_law_steps" s__law_steps) (M__law_program : Md K mg "_law_program" s__law_program) (M__law_trail : Md K mg "_law_trail" s__law_trail) (M__law_gaps : Md K mg "_law_gaps" s__law_gaps) (M__law_long : Md K mg "_law_long" s__law_long) (M__law_heads : Md K mg "_law_heads" s__law_heads) (M__law_marks : Md K mg "_law_marks" s__law_marks) (M_law : Md K mg "law" s_law) (XA_InvalidProgram : ∀ bs : Heap, ExcF P w K mg bs "InvalidProgram" "place") : ∃ fd : FuncData, (∀ (s : Shared) (v : Value), BindsTo s fd ⟨[v], []⟩ [("script", v)]) ∧ ∀ (bs : Heap) (fa : Addr), (∀ p ∈ cs, GxR.TabB bs mg p.1 p.2) → mg "law" = some (.ref fa) → FnG P w K mg bs (L2.CX P w) 15 fa fd ["script"] (spLaw K) := by
  obtain ⟨fs, fds, FS, mS, kS⟩ := M__law_gear
  obtain ⟨fl, fdl, FL, mL, kL⟩ := M_law
  have bS := FS.binds (ps := ["script"]) fun _ _ _ _ _ _ us hl => match us, hl with | [_], _ => rfl
  have FL2 := FL
  obtain ⟨oc, od, kV, doc, pm, an, cdv, ct, osl, rfl, lk, hcd⟩ := FL.ex
  refine ⟨PySem.W.fnOf "law" "law" (defArgs s_law) (defBody s_law) (defScope s_law) .none kV doc pm an cdv ct, fun s v => .of_eq rfl, fun bs fa hT e => ?_⟩
  cases mL.symm.trans e
  have MM_is_point := M_is_point bs hT
  have MM_path := M_path bs hT
  have MM_apart := M_apart bs hT
  have MM_lengths := M_lengths bs hT
  have MM_direction_of := M_direction_of bs hT
  have MM_directions := M_directions bs hT
  have X_InvalidProgram := XA_InvalidProgram bs
  have D_added := def_added (P := P) (w := w) (base := bs) T M_added 
  have D_opposite := def_opposite (P := P) (w := w) (base := bs) T M_opposite 
  have D_subtracted := def_subtracted (P := P) (w := w) (base := bs) T M_subtracted D_added D_opposite
  have D_multiplied := def_multiplied (P := P) (w := w) (base := bs) T M_multiplied 
  have D_inverse := def_inverse (P := P) (w := w) (base := bs) T M_inverse 
  have D_divided := def_divided (P := P) (w := w) (base := bs) T M_divided D_inverse D_multiplied
  have D_absolute := def_absolute (P := P) (w := w) (base := bs) T M_absolute 
  have D_is_less := def_is_less (P := P) (w := w) (base := bs) T M_is_less 
  have D_largest := def_largest (P := P) (w := w) (base := bs) T M_largest D_is_less
  have D_is_integer := def_is_integer (P := P) (w := w) (base := bs) T M_is_integer 
  have D_is_fraction := def_is_fraction (P := P) (w := w) (base := bs) T M_is_fraction D_is_integer
  have D_is_tuple_of := def_is_tuple_of (P := P) (w := w) (base := bs) T M_is_tuple_of 
  have D_is_above_nought := def_is_above_nought (P := P) (w := w) (base := bs) T M_is_above_nought D_is_fraction
  have D_is_from_nought := def_is_from_nought (P := P) (w := w) (base := bs) T M_is_from_nought D_is_fraction
  have D_is_point := def_is_point (P := P) (w := w) (base := bs) T MM_is_point D_is_fraction
  have D_step_fault := def_step_fault (P := P) (w := w) (base := bs) T M_step_fault D_is_above_nought D_is_from_nought D_is_less D_is_point D_is_tuple_of
  have D_program_fault := def_program_fault (P := P) (w := w) (base := bs) T M_program_fault D_is_point D_is_tuple_of D_step_fault
  have D_check_program := def_check_program (P := P) (w := w) (base := bs) T M_check_program D_program_fault X_InvalidProgram
  have D_path := def_path (P := P) (w := w) (base := bs) T MM_path D_check_program
  have D_apart := def_apart (P := P) (w := w) (base := bs) T MM_apart D_subtracted
  have D_distances := def_distances (P := P) (w := w) (base := bs) T M_distances D_apart D_path
  have D_length_of := def_length_of (P := P) (w := w) (base := bs) T M_length_of D_absolute D_largest
  have D_lengths := def_lengths (P := P) (w := w) (base := bs) T MM_lengths D_distances D_length_of
  have D_direction_of := def_direction_of (P := P) (w := w) (base := bs) T MM_direction_of D_divided D_length_of
  have D_directions := def_directions (P := P) (w := w) (base := bs) T MM_directions D_direction_of D_distances
  have D_ways := def_ways (P := P) (w := w) (base := bs) T M_ways D_added D_lengths
  have D_whole := def_whole (P := P) (w := w) (base := bs) T M_whole D_ways
  have D__law_tooth := def_drop (P := P) (w := w) (base := bs) T M__law_tooth
  have D__law_same := def__law_same (P := P) (w := w) (base := bs) T M__law_same 
  have D__law_low := def__law_low (P := P) (w := w) (base := bs) T M__law_low 
  have D__law_add := def__law_add (P := P) (w := w) (base := bs) T M__law_add D__law_low
  have D__law_take := def__law_take (P := P) (w := w) (base := bs) T M__law_take D__law_low
  have D__law_mul := def__law_mul (P := P) (w := w) (base := bs) T M__law_mul D__law_low
  have D__law_div := def__law_div (P := P) (w := w) (base := bs) T M__law_div D__law_low
  have D__law_under := def__law_under (P := P) (w := w) (base := bs) T M__law_under 
  have D__law_size := def__law_size (P := P) (w := w) (base := bs) T M__law_size 
  have D__law_spot := def__law_spot (P := P) (w := w) (base := bs) T M__law_spot D__law_add D__law_low D__law_tooth
  have D__law_next := def__law_next (P := P) (w := w) (base := bs) T M__law_next D__law_add D__law_mul D__law_spot D__law_tooth
  have D__law_steps := def__law_steps (P := P) (w := w) (base := bs) T M__law_steps D__law_low D__law_mul D__law_next D__law_take D__law_tooth
  have D__law_program := def__law_program (P := P) (w := w) (base := bs) T M__law_program D__law_spot D__law_steps D__law_tooth
  have D__law_trail := def__law_trail (P := P) (w := w) (base := bs) T M__law_trail 
  have D__law_gaps := def__law_gaps (P := P) (w := w) (base := bs) T M__law_gaps D__law_take D__law_trail
  have D__law_long := def__law_long (P := P) (w := w) (base := bs) T M__law_long D__law_size D__law_under
  have D__law_heads := def__law_heads (P := P) (w := w) (base := bs) T M__law_heads D__law_div D__law_gaps D__law_long
  have D__law_marks := def__law_marks (P := P) (w := w) (base := bs) T M__law_marks D__law_add D__law_gaps D__law_long
  have K_directions_program := defk_directions_program (P := P) (w := w) (base := bs) T MM_directions D_direction_of D_distances
  have K_lengths_program := defk_lengths_program (P := P) (w := w) (base := bs) T MM_lengths D_distances D_length_of
  have K_ways_program := defk_ways_program (P := P) (w := w) (base := bs) T M_ways D_added D_lengths
  have K_whole_program := defk_whole_program (P := P) (w := w) (base := bs) T M_whole D_ways
  exact fn_law FL2 (fn_spring T FS) mS kS bS T D__law_gaps D__law_heads D__law_long D__law_marks D__law_program D__law_same D__law_tooth D_directions D_lengths D_ways D_whole K_directions_program K_lengths_program K_ways_program K_whole_program
end
end K01
namespace K01
open PySem PySem.Spec L2 Fw
section Hlp
variable [Tabs]
theorem md_mk {K : Fg} {h : Heap} {mg : Str → Option Value} {x : Str} {st : Stmt} {f : Addr} {oc : Value} {od an : Option Addr} {sl : Array (Option Value)} {kV dc pm cd ct : Value} (X : K.In h) (G : h.Ns mainGlobals mg) (a : PySem.W.nsIn K mainGlobals x = some (some (.ref f)))
    (l : K.lookup f = some ⟨oc, od, .func (PySem.W.fnOf x x (defArgs st) (defBody st) (defScope st) .none kV dc pm an cd ct), sl⟩) (c : PySem.W.codeIn K cd x = true) (k : PySem.W.keepIn K (.ref f) = true) : Md K mg x st := ⟨f, _, fun_mk l c k, PySem.W.mg_of X G a, k⟩
theorem mdg_mk {K : Fg} {h bs : Heap} {mg : Str → Option Value} {x : Str} {st : Stmt} {f cc P0 : Addr} {oc : Value} {od an : Option Addr} {sl : Array (Option Value)} {kV dc pm cd ct : Value} (X : K.In h) (G : h.Ns mainGlobals mg) (a : PySem.W.nsIn K mainGlobals x = some (some (.ref f)))
    (l : K.lookup f = some ⟨oc, od, .func (PySem.W.fnOf x x (defArgs st) (defBody st) (defScope st) .none kV dc pm an cd ct), sl⟩) (c : PySem.W.codeIn K cd x = true) (k : PySem.W.keepIn K (.ref f) = true) (g : PySem.W.tabIn K x = some (cc, P0)) (m : P0 ∈ Tabs.tb) (hT : GxR.TabB bs mg cc P0) : MdG K mg bs x st P0 := ⟨⟨f, _, cc, fun_mk l c k, PySem.W.mg_of X G a, k, code_of_tab a l g, hT⟩, m⟩
theorem nought_mk {K : Fg} {h : Heap} {mg : Str → Option Value} {t : Addr} {dd : Option Addr} {u0 u1 : Tok} {n : Nat} {sl : Array (Option Value)} (X : K.In h) (G : h.Ns mainGlobals mg) (a : PySem.W.nsIn K mainGlobals "NOUGHT" = some (some (.ref t)))
    (l : K.lookup t = some ⟨.type "tuple", dd, .seq #[.int 0 u0, .int 1 u1] n, sl⟩) : KConst K mg "NOUGHT" c_NOUGHT :=
  ⟨.ref t, .ref t, PySem.W.mg_of X G a, rfl, fun B => .tup (xs := [.int 0, .int 1]) (.inr ⟨_, _, _, l, rfl, rfl, (by show 2 ≤ sizeLine; decide), .cons ⟨_, rfl⟩ (.cons ⟨_, rfl⟩ .nil)⟩) (.cons (.int 0) (.cons (.int 1) .nil))⟩
theorem exm_of {K : PySem.W.Frag} {S T : Addr} {b : Bool} (h1 : PySem.W.subIn K (.ref T) (.type "BaseException") = some true) (h2 : PySem.W.isClsIn K T = true) (h3 : PySem.W.typeIn K (.ref T) = some (.type "type")) (h4 : PySem.W.subIn K (.ref S) (.ref T) = some b) : PySem.W.exmOne K (.ref S) (.ref T) = some b := by
  have a1 : (PySem.W.subIn K (.ref T) (.type "BaseException") == some true) = true := by rw [h1] <;> rfl
  have h2a : (PySem.W.clsIn K T).isSome = true := h2
  have a2 : ((PySem.W.clsIn K T).isSome && PySem.W.typeIn K (.ref T) == some (.type "type")) = true := by rw [h2a, h3] <;> rfl
  unfold PySem.W.exmOne
  rw [if_pos a1]
  show (if ((PySem.W.clsIn K T).isSome && PySem.W.typeIn K (.ref T) == some (.type "type")) = true then PySem.W.subIn K (.ref S) (.ref T) else none) = some b
  rw [if_pos a2]
  exact h4
theorem exm_cl {K : PySem.W.Frag} {x c : Str} {A C : Value} {b : Bool} (ea : PySem.W.nsIn K mainGlobals x = some (some A)) (ec : PySem.W.nsIn K mainGlobals c = some (some C)) (h : PySem.W.exmOne K A C = some b) : PySem.W.exmOne K (clsV K x) (clsV K c) = some b := by
  rw [clsV_of ea, clsV_of ec]
  exact h
theorem exc_mk {K : Fg} {h : Heap} {mg : Str → Option Value} {x : Str} {C : Addr} (X : K.In h) (G : h.Ns mainGlobals mg) (e : PySem.W.nsIn K mainGlobals x = some (some (.ref C))) (t : PySem.W.typeIn K (.ref C) = some (.type "type"))
    (q : PySem.W.excIn K C [.type "ValueError", .type "Exception", .type "BaseException", .type "object"] "ValueError.__new__" = true) (k : PySem.W.keepIn K (.ref C) = true) (b : PySem.W.subIn K (.ref C) (.type "BaseException") = some true) : ExcC K mg x :=
  ⟨by rw [clsV_of e]; exact e, by rw [clsV_of e]; exact PySem.W.mg_of X G e, C, _, _, _, _, clsV_of e, PySem.F.excBase_ValueError, q, k, b, t⟩
end Hlp
theorem all_mk {l : PySem.W.OpenLaw} {q : Program} {w : World} {K : Fg} {h : Heap} {mg : Str → Option Value} {fa : Addr} (X : K.In h) (G : h.Ns mainGlobals mg)
    (TB : ∀ (d' : DefRec) (y : Str) (c P : Addr), (PyProof.Rows.recsOf q).find? (fun e => e.name == y) = some d' → PySem.W.tabIn K y = some (c, P) → PySem.W.CodeHd h c P ∧ h.get? P = some { cls := .none, data := .fields #[] }) (hfa : mg "law" = some (.ref fa))
    {f0 : Addr} {oc0 : Value} {od0 an0 : Option Addr} {sl0 : Array (Option Value)} {kV0 dc0 pm0 cd0 ct0 : Value}
    {f1 : Addr} {oc1 : Value} {od1 an1 : Option Addr} {sl1 : Array (Option Value)} {kV1 dc1 pm1 cd1 ct1 : Value}
    {f2 : Addr} {oc2 : Value} {od2 an2 : Option Addr} {sl2 : Array (Option Value)} {kV2 dc2 pm2 cd2 ct2 : Value}
    {f3 : Addr} {oc3 : Value} {od3 an3 : Option Addr} {sl3 : Array (Option Value)} {kV3 dc3 pm3 cd3 ct3 : Value}
    {f4 : Addr} {oc4 : Value} {od4 an4 : Option Addr} {sl4 : Array (Option Value)} {kV4 dc4 pm4 cd4 ct4 : Value}
    {f5 : Addr} {oc5 : Value} {od5 an5 : Option Addr} {sl5 : Array (Option Value)} {kV5 dc5 pm5 cd5 ct5 : Value}
    {f6 : Addr} {oc6 : Value} {od6 an6 : Option Addr} {sl6 : Array (Option Value)} {kV6 dc6 pm6 cd6 ct6 : Value}
    {f7 : Addr} {oc7 : Value} {od7 an7 : Option Addr} {sl7 : Array (Option Value)} {kV7 dc7 pm7 cd7 ct7 : Value}
    {f8 : Addr} {oc8 : Value} {od8 an8 : Option Addr} {sl8 : Array (Option Value)} {kV8 dc8 pm8 cd8 ct8 : Value}
    {f9 : Addr} {oc9 : Value} {od9 an9 : Option Addr} {sl9 : Array (Option Value)} {kV9 dc9 pm9 cd9 ct9 : Value}
    {f10 : Addr} {oc10 : Value} {od10 an10 : Option Addr} {sl10 : Array (Option Value)} {kV10 dc10 pm10 cd10 ct10 : Value}
    {f11 : Addr} {oc11 : Value} {od11 an11 : Option Addr} {sl11 : Array (Option Value)} {kV11 dc11 pm11 cd11 ct11 : Value}
    {f12 : Addr} {oc12 : Value} {od12 an12 : Option Addr} {sl12 : Array (Option Value)} {kV12 dc12 pm12 cd12 ct12 : Value}
    {f13 : Addr} {oc13 : Value} {od13 an13 : Option Addr} {sl13 : Array (Option Value)} {kV13 dc13 pm13 cd13 ct13 : Value}
    {f14 : Addr} {oc14 : Value} {od14 an14 : Option Addr} {sl14 : Array (Option Value)} {kV14 dc14 pm14 cd14 ct14 : Value}
    {f15 : Addr} {oc15 : Value} {od15 an15 : Option Addr} {sl15 : Array (Option Value)} {kV15 dc15 pm15 cd15 ct15 : Value}
    {f16 : Addr} {oc16 : Value} {od16 an16 : Option Addr} {sl16 : Array (Option Value)} {kV16 dc16 pm16 cd16 ct16 : Value}
    {f17 : Addr} {oc17 : Value} {od17 an17 : Option Addr} {sl17 : Array (Option Value)} {kV17 dc17 pm17 cd17 ct17 : Value}
    {f18 : Addr} {oc18 : Value} {od18 an18 : Option Addr} {sl18 : Array (Option Value)} {kV18 dc18 pm18 cd18 ct18 : Value}
    {f19 : Addr} {oc19 : Value} {od19 an19 : Option Addr} {sl19 : Array (Option Value)} {kV19 dc19 pm19 cd19 ct19 : Value}
    {f20 : Addr} {oc20 : Value} {od20 an20 : Option Addr} {sl20 : Array (Option Value)} {kV20 dc20 pm20 cd20 ct20 : Value}
    {f21 : Addr} {oc21 : Value} {od21 an21 : Option Addr} {sl21 : Array (Option Value)} {kV21 dc21 pm21 cd21 ct21 : Value}
    {f22 : Addr} {oc22 : Value} {od22 an22 : Option Addr} {sl22 : Array (Option Value)} {kV22 dc22 pm22 cd22 ct22 : Value}
    {f23 : Addr} {oc23 : Value} {od23 an23 : Option Addr} {sl23 : Array (Option Value)} {kV23 dc23 pm23 cd23 ct23 : Value}
    {f24 : Addr} {oc24 : Value} {od24 an24 : Option Addr} {sl24 : Array (Option Value)} {kV24 dc24 pm24 cd24 ct24 : Value}
    {f25 : Addr} {oc25 : Value} {od25 an25 : Option Addr} {sl25 : Array (Option Value)} {kV25 dc25 pm25 cd25 ct25 : Value}
    {f26 : Addr} {oc26 : Value} {od26 an26 : Option Addr} {sl26 : Array (Option Value)} {kV26 dc26 pm26 cd26 ct26 : Value}
    {f27 : Addr} {oc27 : Value} {od27 an27 : Option Addr} {sl27 : Array (Option Value)} {kV27 dc27 pm27 cd27 ct27 : Value}
    {f28 : Addr} {oc28 : Value} {od28 an28 : Option Addr} {sl28 : Array (Option Value)} {kV28 dc28 pm28 cd28 ct28 : Value}
    {f29 : Addr} {oc29 : Value} {od29 an29 : Option Addr} {sl29 : Array (Option Value)} {kV29 dc29 pm29 cd29 ct29 : Value}
    {f30 : Addr} {oc30 : Value} {od30 an30 : Option Addr} {sl30 : Array (Option Value)} {kV30 dc30 pm30 cd30 ct30 : Value}
    {f31 : Addr} {oc31 : Value} {od31 an31 : Option Addr} {sl31 : Array (Option Value)} {kV31 dc31 pm31 cd31 ct31 : Value}
    {f32 : Addr} {oc32 : Value} {od32 an32 : Option Addr} {sl32 : Array (Option Value)} {kV32 dc32 pm32 cd32 ct32 : Value}
    {f33 : Addr} {oc33 : Value} {od33 an33 : Option Addr} {sl33 : Array (Option Value)} {kV33 dc33 pm33 cd33 ct33 : Value}
    {f34 : Addr} {oc34 : Value} {od34 an34 : Option Addr} {sl34 : Array (Option Value)} {kV34 dc34 pm34 cd34 ct34 : Value}
    {f35 : Addr} {oc35 : Value} {od35 an35 : Option Addr} {sl35 : Array (Option Value)} {kV35 dc35 pm35 cd35 ct35 : Value}
    {f36 : Addr} {oc36 : Value} {od36 an36 : Option Addr} {sl36 : Array (Option Value)} {kV36 dc36 pm36 cd36 ct36 : Value}
    {f37 : Addr} {oc37 : Value} {od37 an37 : Option Addr} {sl37 : Array (Option Value)} {kV37 dc37 pm37 cd37 ct37 : Value}
    {f38 : Addr} {oc38 : Value} {od38 an38 : Option Addr} {sl38 : Array (Option Value)} {kV38 dc38 pm38 cd38 ct38 : Value}
    {f39 : Addr} {oc39 : Value} {od39 an39 : Option Addr} {sl39 : Array (Option Value)} {kV39 dc39 pm39 cd39 ct39 : Value}
    {f40 : Addr} {oc40 : Value} {od40 an40 : Option Addr} {sl40 : Array (Option Value)} {kV40 dc40 pm40 cd40 ct40 : Value}
    {f41 : Addr} {oc41 : Value} {od41 an41 : Option Addr} {sl41 : Array (Option Value)} {kV41 dc41 pm41 cd41 ct41 : Value}
    {f42 : Addr} {oc42 : Value} {od42 an42 : Option Addr} {sl42 : Array (Option Value)} {kV42 dc42 pm42 cd42 ct42 : Value}
    {f43 : Addr} {oc43 : Value} {od43 an43 : Option Addr} {sl43 : Array (Option Value)} {kV43 dc43 pm43 cd43 ct43 : Value}
    {f44 : Addr} {oc44 : Value} {od44 an44 : Option Addr} {sl44 : Array (Option Value)} {kV44 dc44 pm44 cd44 ct44 : Value}
    {f45 : Addr} {oc45 : Value} {od45 an45 : Option Addr} {sl45 : Array (Option Value)} {kV45 dc45 pm45 cd45 ct45 : Value}
    {f46 : Addr} {oc46 : Value} {od46 an46 : Option Addr} {sl46 : Array (Option Value)} {kV46 dc46 pm46 cd46 ct46 : Value}
     {t : Addr} {dd : Option Addr} {u0 u1 : Tok} {n : Nat} {sl : Array (Option Value)} {u_MOST_AXES : Tok} {u_MOST_STEPS : Tok} {C_InvalidProgram : Addr} {f1_InvalidProgram : Addr} {nm_InvalidProgram q__InvalidProgram : Str} {N_InvalidProgram : Addr} {bs_InvalidProgram bm_InvalidProgram : List Value} {sn_InvalidProgram : List Str} {su_InvalidProgram : List Value} {ab_InvalidProgram : Bool} {col_InvalidProgram : Option Bool} {dd_InvalidProgram : Option Addr} {m0_InvalidProgram m1_InvalidProgram m2_InvalidProgram m3_InvalidProgram m5_InvalidProgram : Option Value} {od1_InvalidProgram an1_InvalidProgram : Option Addr} {sl1_InvalidProgram : Array (Option Value)} {oc1_InvalidProgram kV1_InvalidProgram dc1_InvalidProgram pm1_InvalidProgram cd1_InvalidProgram ct1_InvalidProgram : Value}
    (a0 : PySem.W.nsIn K mainGlobals "added" = some (some (.ref f0))) (l0 : K.lookup f0 = some ⟨oc0, od0, .func (PySem.W.fnOf "added" "added" (defArgs s_added) (defBody s_added) (defScope s_added) .none kV0 dc0 pm0 an0 cd0 ct0), sl0⟩) (c0 : PySem.W.codeIn K cd0 "added" = true) (k0 : PySem.W.keepIn K (.ref f0) = true)
    (a1 : PySem.W.nsIn K mainGlobals "subtracted" = some (some (.ref f1))) (l1 : K.lookup f1 = some ⟨oc1, od1, .func (PySem.W.fnOf "subtracted" "subtracted" (defArgs s_subtracted) (defBody s_subtracted) (defScope s_subtracted) .none kV1 dc1 pm1 an1 cd1 ct1), sl1⟩) (c1 : PySem.W.codeIn K cd1 "subtracted" = true) (k1 : PySem.W.keepIn K (.ref f1) = true)
    (a2 : PySem.W.nsIn K mainGlobals "multiplied" = some (some (.ref f2))) (l2 : K.lookup f2 = some ⟨oc2, od2, .func (PySem.W.fnOf "multiplied" "multiplied" (defArgs s_multiplied) (defBody s_multiplied) (defScope s_multiplied) .none kV2 dc2 pm2 an2 cd2 ct2), sl2⟩) (c2 : PySem.W.codeIn K cd2 "multiplied" = true) (k2 : PySem.W.keepIn K (.ref f2) = true)
    (a3 : PySem.W.nsIn K mainGlobals "inverse" = some (some (.ref f3))) (l3 : K.lookup f3 = some ⟨oc3, od3, .func (PySem.W.fnOf "inverse" "inverse" (defArgs s_inverse) (defBody s_inverse) (defScope s_inverse) .none kV3 dc3 pm3 an3 cd3 ct3), sl3⟩) (c3 : PySem.W.codeIn K cd3 "inverse" = true) (k3 : PySem.W.keepIn K (.ref f3) = true)
    (a4 : PySem.W.nsIn K mainGlobals "divided" = some (some (.ref f4))) (l4 : K.lookup f4 = some ⟨oc4, od4, .func (PySem.W.fnOf "divided" "divided" (defArgs s_divided) (defBody s_divided) (defScope s_divided) .none kV4 dc4 pm4 an4 cd4 ct4), sl4⟩) (c4 : PySem.W.codeIn K cd4 "divided" = true) (k4 : PySem.W.keepIn K (.ref f4) = true)
    (a5 : PySem.W.nsIn K mainGlobals "opposite" = some (some (.ref f5))) (l5 : K.lookup f5 = some ⟨oc5, od5, .func (PySem.W.fnOf "opposite" "opposite" (defArgs s_opposite) (defBody s_opposite) (defScope s_opposite) .none kV5 dc5 pm5 an5 cd5 ct5), sl5⟩) (c5 : PySem.W.codeIn K cd5 "opposite" = true) (k5 : PySem.W.keepIn K (.ref f5) = true)
    (a6 : PySem.W.nsIn K mainGlobals "absolute" = some (some (.ref f6))) (l6 : K.lookup f6 = some ⟨oc6, od6, .func (PySem.W.fnOf "absolute" "absolute" (defArgs s_absolute) (defBody s_absolute) (defScope s_absolute) .none kV6 dc6 pm6 an6 cd6 ct6), sl6⟩) (c6 : PySem.W.codeIn K cd6 "absolute" = true) (k6 : PySem.W.keepIn K (.ref f6) = true)
    (a7 : PySem.W.nsIn K mainGlobals "is_less" = some (some (.ref f7))) (l7 : K.lookup f7 = some ⟨oc7, od7, .func (PySem.W.fnOf "is_less" "is_less" (defArgs s_is_less) (defBody s_is_less) (defScope s_is_less) .none kV7 dc7 pm7 an7 cd7 ct7), sl7⟩) (c7 : PySem.W.codeIn K cd7 "is_less" = true) (k7 : PySem.W.keepIn K (.ref f7) = true)
    (a8 : PySem.W.nsIn K mainGlobals "largest" = some (some (.ref f8))) (l8 : K.lookup f8 = some ⟨oc8, od8, .func (PySem.W.fnOf "largest" "largest" (defArgs s_largest) (defBody s_largest) (defScope s_largest) .none kV8 dc8 pm8 an8 cd8 ct8), sl8⟩) (c8 : PySem.W.codeIn K cd8 "largest" = true) (k8 : PySem.W.keepIn K (.ref f8) = true)
    (a9 : PySem.W.nsIn K mainGlobals "is_integer" = some (some (.ref f9))) (l9 : K.lookup f9 = some ⟨oc9, od9, .func (PySem.W.fnOf "is_integer" "is_integer" (defArgs s_is_integer) (defBody s_is_integer) (defScope s_is_integer) .none kV9 dc9 pm9 an9 cd9 ct9), sl9⟩) (c9 : PySem.W.codeIn K cd9 "is_integer" = true) (k9 : PySem.W.keepIn K (.ref f9) = true)
    (a10 : PySem.W.nsIn K mainGlobals "is_fraction" = some (some (.ref f10))) (l10 : K.lookup f10 = some ⟨oc10, od10, .func (PySem.W.fnOf "is_fraction" "is_fraction" (defArgs s_is_fraction) (defBody s_is_fraction) (defScope s_is_fraction) .none kV10 dc10 pm10 an10 cd10 ct10), sl10⟩) (c10 : PySem.W.codeIn K cd10 "is_fraction" = true) (k10 : PySem.W.keepIn K (.ref f10) = true)
    (a11 : PySem.W.nsIn K mainGlobals "is_tuple_of" = some (some (.ref f11))) (l11 : K.lookup f11 = some ⟨oc11, od11, .func (PySem.W.fnOf "is_tuple_of" "is_tuple_of" (defArgs s_is_tuple_of) (defBody s_is_tuple_of) (defScope s_is_tuple_of) .none kV11 dc11 pm11 an11 cd11 ct11), sl11⟩) (c11 : PySem.W.codeIn K cd11 "is_tuple_of" = true) (k11 : PySem.W.keepIn K (.ref f11) = true)
    (a12 : PySem.W.nsIn K mainGlobals "is_above_nought" = some (some (.ref f12))) (l12 : K.lookup f12 = some ⟨oc12, od12, .func (PySem.W.fnOf "is_above_nought" "is_above_nought" (defArgs s_is_above_nought) (defBody s_is_above_nought) (defScope s_is_above_nought) .none kV12 dc12 pm12 an12 cd12 ct12), sl12⟩) (c12 : PySem.W.codeIn K cd12 "is_above_nought" = true) (k12 : PySem.W.keepIn K (.ref f12) = true)
    (a13 : PySem.W.nsIn K mainGlobals "is_from_nought" = some (some (.ref f13))) (l13 : K.lookup f13 = some ⟨oc13, od13, .func (PySem.W.fnOf "is_from_nought" "is_from_nought" (defArgs s_is_from_nought) (defBody s_is_from_nought) (defScope s_is_from_nought) .none kV13 dc13 pm13 an13 cd13 ct13), sl13⟩) (c13 : PySem.W.codeIn K cd13 "is_from_nought" = true) (k13 : PySem.W.keepIn K (.ref f13) = true)
    (a14 : PySem.W.nsIn K mainGlobals "is_point" = some (some (.ref f14))) (l14 : K.lookup f14 = some ⟨oc14, od14, .func (PySem.W.fnOf "is_point" "is_point" (defArgs s_is_point) (defBody s_is_point) (defScope s_is_point) .none kV14 dc14 pm14 an14 cd14 ct14), sl14⟩) (c14 : PySem.W.codeIn K cd14 "is_point" = true) (k14 : PySem.W.keepIn K (.ref f14) = true)
    (a15 : PySem.W.nsIn K mainGlobals "step_fault" = some (some (.ref f15))) (l15 : K.lookup f15 = some ⟨oc15, od15, .func (PySem.W.fnOf "step_fault" "step_fault" (defArgs s_step_fault) (defBody s_step_fault) (defScope s_step_fault) .none kV15 dc15 pm15 an15 cd15 ct15), sl15⟩) (c15 : PySem.W.codeIn K cd15 "step_fault" = true) (k15 : PySem.W.keepIn K (.ref f15) = true)
    (a16 : PySem.W.nsIn K mainGlobals "program_fault" = some (some (.ref f16))) (l16 : K.lookup f16 = some ⟨oc16, od16, .func (PySem.W.fnOf "program_fault" "program_fault" (defArgs s_program_fault) (defBody s_program_fault) (defScope s_program_fault) .none kV16 dc16 pm16 an16 cd16 ct16), sl16⟩) (c16 : PySem.W.codeIn K cd16 "program_fault" = true) (k16 : PySem.W.keepIn K (.ref f16) = true)
    (a17 : PySem.W.nsIn K mainGlobals "check_program" = some (some (.ref f17))) (l17 : K.lookup f17 = some ⟨oc17, od17, .func (PySem.W.fnOf "check_program" "check_program" (defArgs s_check_program) (defBody s_check_program) (defScope s_check_program) .none kV17 dc17 pm17 an17 cd17 ct17), sl17⟩) (c17 : PySem.W.codeIn K cd17 "check_program" = true) (k17 : PySem.W.keepIn K (.ref f17) = true)
    (a18 : PySem.W.nsIn K mainGlobals "path" = some (some (.ref f18))) (l18 : K.lookup f18 = some ⟨oc18, od18, .func (PySem.W.fnOf "path" "path" (defArgs s_path) (defBody s_path) (defScope s_path) .none kV18 dc18 pm18 an18 cd18 ct18), sl18⟩) (c18 : PySem.W.codeIn K cd18 "path" = true) (k18 : PySem.W.keepIn K (.ref f18) = true)
    (a19 : PySem.W.nsIn K mainGlobals "apart" = some (some (.ref f19))) (l19 : K.lookup f19 = some ⟨oc19, od19, .func (PySem.W.fnOf "apart" "apart" (defArgs s_apart) (defBody s_apart) (defScope s_apart) .none kV19 dc19 pm19 an19 cd19 ct19), sl19⟩) (c19 : PySem.W.codeIn K cd19 "apart" = true) (k19 : PySem.W.keepIn K (.ref f19) = true)
    (a20 : PySem.W.nsIn K mainGlobals "distances" = some (some (.ref f20))) (l20 : K.lookup f20 = some ⟨oc20, od20, .func (PySem.W.fnOf "distances" "distances" (defArgs s_distances) (defBody s_distances) (defScope s_distances) .none kV20 dc20 pm20 an20 cd20 ct20), sl20⟩) (c20 : PySem.W.codeIn K cd20 "distances" = true) (k20 : PySem.W.keepIn K (.ref f20) = true)
    (a21 : PySem.W.nsIn K mainGlobals "length_of" = some (some (.ref f21))) (l21 : K.lookup f21 = some ⟨oc21, od21, .func (PySem.W.fnOf "length_of" "length_of" (defArgs s_length_of) (defBody s_length_of) (defScope s_length_of) .none kV21 dc21 pm21 an21 cd21 ct21), sl21⟩) (c21 : PySem.W.codeIn K cd21 "length_of" = true) (k21 : PySem.W.keepIn K (.ref f21) = true)
    (a22 : PySem.W.nsIn K mainGlobals "lengths" = some (some (.ref f22))) (l22 : K.lookup f22 = some ⟨oc22, od22, .func (PySem.W.fnOf "lengths" "lengths" (defArgs s_lengths) (defBody s_lengths) (defScope s_lengths) .none kV22 dc22 pm22 an22 cd22 ct22), sl22⟩) (c22 : PySem.W.codeIn K cd22 "lengths" = true) (k22 : PySem.W.keepIn K (.ref f22) = true)
    (a23 : PySem.W.nsIn K mainGlobals "direction_of" = some (some (.ref f23))) (l23 : K.lookup f23 = some ⟨oc23, od23, .func (PySem.W.fnOf "direction_of" "direction_of" (defArgs s_direction_of) (defBody s_direction_of) (defScope s_direction_of) .none kV23 dc23 pm23 an23 cd23 ct23), sl23⟩) (c23 : PySem.W.codeIn K cd23 "direction_of" = true) (k23 : PySem.W.keepIn K (.ref f23) = true)
    (a24 : PySem.W.nsIn K mainGlobals "directions" = some (some (.ref f24))) (l24 : K.lookup f24 = some ⟨oc24, od24, .func (PySem.W.fnOf "directions" "directions" (defArgs s_directions) (defBody s_directions) (defScope s_directions) .none kV24 dc24 pm24 an24 cd24 ct24), sl24⟩) (c24 : PySem.W.codeIn K cd24 "directions" = true) (k24 : PySem.W.keepIn K (.ref f24) = true)
    (a25 : PySem.W.nsIn K mainGlobals "ways" = some (some (.ref f25))) (l25 : K.lookup f25 = some ⟨oc25, od25, .func (PySem.W.fnOf "ways" "ways" (defArgs s_ways) (defBody s_ways) (defScope s_ways) .none kV25 dc25 pm25 an25 cd25 ct25), sl25⟩) (c25 : PySem.W.codeIn K cd25 "ways" = true) (k25 : PySem.W.keepIn K (.ref f25) = true)
    (a26 : PySem.W.nsIn K mainGlobals "whole" = some (some (.ref f26))) (l26 : K.lookup f26 = some ⟨oc26, od26, .func (PySem.W.fnOf "whole" "whole" (defArgs s_whole) (defBody s_whole) (defScope s_whole) .none kV26 dc26 pm26 an26 cd26 ct26), sl26⟩) (c26 : PySem.W.codeIn K cd26 "whole" = true) (k26 : PySem.W.keepIn K (.ref f26) = true)
    (a27 : PySem.W.nsIn K mainGlobals "_law_gear" = some (some (.ref f27))) (l27 : K.lookup f27 = some ⟨oc27, od27, .func (PySem.W.fnOf "_law_gear" "_law_gear" (defArgs s__law_gear) (defBody s__law_gear) (defScope s__law_gear) .none kV27 dc27 pm27 an27 cd27 ct27), sl27⟩) (c27 : PySem.W.codeIn K cd27 "_law_gear" = true) (k27 : PySem.W.keepIn K (.ref f27) = true)
    (a28 : PySem.W.nsIn K mainGlobals "_law_tooth" = some (some (.ref f28))) (l28 : K.lookup f28 = some ⟨oc28, od28, .func (PySem.W.fnOf "_law_tooth" "_law_tooth" (defArgs s__law_tooth) (defBody s__law_tooth) (defScope s__law_tooth) .none kV28 dc28 pm28 an28 cd28 ct28), sl28⟩) (c28 : PySem.W.codeIn K cd28 "_law_tooth" = true) (k28 : PySem.W.keepIn K (.ref f28) = true)
    (a29 : PySem.W.nsIn K mainGlobals "_law_same" = some (some (.ref f29))) (l29 : K.lookup f29 = some ⟨oc29, od29, .func (PySem.W.fnOf "_law_same" "_law_same" (defArgs s__law_same) (defBody s__law_same) (defScope s__law_same) .none kV29 dc29 pm29 an29 cd29 ct29), sl29⟩) (c29 : PySem.W.codeIn K cd29 "_law_same" = true) (k29 : PySem.W.keepIn K (.ref f29) = true)
    (a30 : PySem.W.nsIn K mainGlobals "_law_low" = some (some (.ref f30))) (l30 : K.lookup f30 = some ⟨oc30, od30, .func (PySem.W.fnOf "_law_low" "_law_low" (defArgs s__law_low) (defBody s__law_low) (defScope s__law_low) .none kV30 dc30 pm30 an30 cd30 ct30), sl30⟩) (c30 : PySem.W.codeIn K cd30 "_law_low" = true) (k30 : PySem.W.keepIn K (.ref f30) = true)
    (a31 : PySem.W.nsIn K mainGlobals "_law_add" = some (some (.ref f31))) (l31 : K.lookup f31 = some ⟨oc31, od31, .func (PySem.W.fnOf "_law_add" "_law_add" (defArgs s__law_add) (defBody s__law_add) (defScope s__law_add) .none kV31 dc31 pm31 an31 cd31 ct31), sl31⟩) (c31 : PySem.W.codeIn K cd31 "_law_add" = true) (k31 : PySem.W.keepIn K (.ref f31) = true)
    (a32 : PySem.W.nsIn K mainGlobals "_law_take" = some (some (.ref f32))) (l32 : K.lookup f32 = some ⟨oc32, od32, .func (PySem.W.fnOf "_law_take" "_law_take" (defArgs s__law_take) (defBody s__law_take) (defScope s__law_take) .none kV32 dc32 pm32 an32 cd32 ct32), sl32⟩) (c32 : PySem.W.codeIn K cd32 "_law_take" = true) (k32 : PySem.W.keepIn K (.ref f32) = true)
    (a33 : PySem.W.nsIn K mainGlobals "_law_mul" = some (some (.ref f33))) (l33 : K.lookup f33 = some ⟨oc33, od33, .func (PySem.W.fnOf "_law_mul" "_law_mul" (defArgs s__law_mul) (defBody s__law_mul) (defScope s__law_mul) .none kV33 dc33 pm33 an33 cd33 ct33), sl33⟩) (c33 : PySem.W.codeIn K cd33 "_law_mul" = true) (k33 : PySem.W.keepIn K (.ref f33) = true)
    (a34 : PySem.W.nsIn K mainGlobals "_law_div" = some (some (.ref f34))) (l34 : K.lookup f34 = some ⟨oc34, od34, .func (PySem.W.fnOf "_law_div" "_law_div" (defArgs s__law_div) (defBody s__law_div) (defScope s__law_div) .none kV34 dc34 pm34 an34 cd34 ct34), sl34⟩) (c34 : PySem.W.codeIn K cd34 "_law_div" = true) (k34 : PySem.W.keepIn K (.ref f34) = true)
    (a35 : PySem.W.nsIn K mainGlobals "_law_under" = some (some (.ref f35))) (l35 : K.lookup f35 = some ⟨oc35, od35, .func (PySem.W.fnOf "_law_under" "_law_under" (defArgs s__law_under) (defBody s__law_under) (defScope s__law_under) .none kV35 dc35 pm35 an35 cd35 ct35), sl35⟩) (c35 : PySem.W.codeIn K cd35 "_law_under" = true) (k35 : PySem.W.keepIn K (.ref f35) = true)
    (a36 : PySem.W.nsIn K mainGlobals "_law_size" = some (some (.ref f36))) (l36 : K.lookup f36 = some ⟨oc36, od36, .func (PySem.W.fnOf "_law_size" "_law_size" (defArgs s__law_size) (defBody s__law_size) (defScope s__law_size) .none kV36 dc36 pm36 an36 cd36 ct36), sl36⟩) (c36 : PySem.W.codeIn K cd36 "_law_size" = true) (k36 : PySem.W.keepIn K (.ref f36) = true)
    (a37 : PySem.W.nsIn K mainGlobals "_law_spot" = some (some (.ref f37))) (l37 : K.lookup f37 = some ⟨oc37, od37, .func (PySem.W.fnOf "_law_spot" "_law_spot" (defArgs s__law_spot) (defBody s__law_spot) (defScope s__law_spot) .none kV37 dc37 pm37 an37 cd37 ct37), sl37⟩) (c37 : PySem.W.codeIn K cd37 "_law_spot" = true) (k37 : PySem.W.keepIn K (.ref f37) = true)
    (a38 : PySem.W.nsIn K mainGlobals "_law_next" = some (some (.ref f38))) (l38 : K.lookup f38 = some ⟨oc38, od38, .func (PySem.W.fnOf "_law_next" "_law_next" (defArgs s__law_next) (defBody s__law_next) (defScope s__law_next) .none kV38 dc38 pm38 an38 cd38 ct38), sl38⟩) (c38 : PySem.W.codeIn K cd38 "_law_next" = true) (k38 : PySem.W.keepIn K (.ref f38) = true)
    (a39 : PySem.W.nsIn K mainGlobals "_law_steps" = some (some (.ref f39))) (l39 : K.lookup f39 = some ⟨oc39, od39, .func (PySem.W.fnOf "_law_steps" "_law_steps" (defArgs s__law_steps) (defBody s__law_steps) (defScope s__law_steps) .none kV39 dc39 pm39 an39 cd39 ct39), sl39⟩) (c39 : PySem.W.codeIn K cd39 "_law_steps" = true) (k39 : PySem.W.keepIn K (.ref f39) = true)
    (a40 : PySem.W.nsIn K mainGlobals "_law_program" = some (some (.ref f40))) (l40 : K.lookup f40 = some ⟨oc40, od40, .func (PySem.W.fnOf "_law_program" "_law_program" (defArgs s__law_program) (defBody s__law_program) (defScope s__law_program) .none kV40 dc40 pm40 an40 cd40 ct40), sl40⟩) (c40 : PySem.W.codeIn K cd40 "_law_program" = true) (k40 : PySem.W.keepIn K (.ref f40) = true)
    (a41 : PySem.W.nsIn K mainGlobals "_law_trail" = some (some (.ref f41))) (l41 : K.lookup f41 = some ⟨oc41, od41, .func (PySem.W.fnOf "_law_trail" "_law_trail" (defArgs s__law_trail) (defBody s__law_trail) (defScope s__law_trail) .none kV41 dc41 pm41 an41 cd41 ct41), sl41⟩) (c41 : PySem.W.codeIn K cd41 "_law_trail" = true) (k41 : PySem.W.keepIn K (.ref f41) = true)
    (a42 : PySem.W.nsIn K mainGlobals "_law_gaps" = some (some (.ref f42))) (l42 : K.lookup f42 = some ⟨oc42, od42, .func (PySem.W.fnOf "_law_gaps" "_law_gaps" (defArgs s__law_gaps) (defBody s__law_gaps) (defScope s__law_gaps) .none kV42 dc42 pm42 an42 cd42 ct42), sl42⟩) (c42 : PySem.W.codeIn K cd42 "_law_gaps" = true) (k42 : PySem.W.keepIn K (.ref f42) = true)
    (a43 : PySem.W.nsIn K mainGlobals "_law_long" = some (some (.ref f43))) (l43 : K.lookup f43 = some ⟨oc43, od43, .func (PySem.W.fnOf "_law_long" "_law_long" (defArgs s__law_long) (defBody s__law_long) (defScope s__law_long) .none kV43 dc43 pm43 an43 cd43 ct43), sl43⟩) (c43 : PySem.W.codeIn K cd43 "_law_long" = true) (k43 : PySem.W.keepIn K (.ref f43) = true)
    (a44 : PySem.W.nsIn K mainGlobals "_law_heads" = some (some (.ref f44))) (l44 : K.lookup f44 = some ⟨oc44, od44, .func (PySem.W.fnOf "_law_heads" "_law_heads" (defArgs s__law_heads) (defBody s__law_heads) (defScope s__law_heads) .none kV44 dc44 pm44 an44 cd44 ct44), sl44⟩) (c44 : PySem.W.codeIn K cd44 "_law_heads" = true) (k44 : PySem.W.keepIn K (.ref f44) = true)
    (a45 : PySem.W.nsIn K mainGlobals "_law_marks" = some (some (.ref f45))) (l45 : K.lookup f45 = some ⟨oc45, od45, .func (PySem.W.fnOf "_law_marks" "_law_marks" (defArgs s__law_marks) (defBody s__law_marks) (defScope s__law_marks) .none kV45 dc45 pm45 an45 cd45 ct45), sl45⟩) (c45 : PySem.W.codeIn K cd45 "_law_marks" = true) (k45 : PySem.W.keepIn K (.ref f45) = true)
    (a46 : PySem.W.nsIn K mainGlobals "law" = some (some (.ref f46))) (l46 : K.lookup f46 = some ⟨oc46, od46, .func (PySem.W.fnOf "law" "law" (defArgs s_law) (defBody s_law) (defScope s_law) .none kV46 dc46 pm46 an46 cd46 ct46), sl46⟩) (c46 : PySem.W.codeIn K cd46 "law" = true) (k46 : PySem.W.keepIn K (.ref f46) = true)
    (z_len : PySem.W.nsIn K mainGlobals "len" = some none)
    (z_abs : PySem.W.nsIn K mainGlobals "abs" = some none)
    (z_isinstance : PySem.W.nsIn K mainGlobals "isinstance" = some none)
    (z_all : PySem.W.nsIn K mainGlobals "all" = some none)
    (z_min : PySem.W.nsIn K mainGlobals "min" = some none)
    (z_repr : PySem.W.nsIn K mainGlobals "repr" = some none)
    (z_range : PySem.W.nsIn K mainGlobals "range" = some none)
    (z_zip : PySem.W.nsIn K mainGlobals "zip" = some none)
    (z_enumerate : PySem.W.nsIn K mainGlobals "enumerate" = some none)
    (z_type : PySem.W.nsIn K mainGlobals "type" = some none)
    (z_int : PySem.W.nsIn K mainGlobals "int" = some none)
    (z_bool : PySem.W.nsIn K mainGlobals "bool" = some none)
    (z_str : PySem.W.nsIn K mainGlobals "str" = some none)
    (z_tuple : PySem.W.nsIn K mainGlobals "tuple" = some none)
    (z_list : PySem.W.nsIn K mainGlobals "list" = some none)
    (z_gcd : PySem.W.nsIn K mainGlobals "gcd" = some (some (.builtin "math.gcd")))
    (zc : PySem.W.nsIn K mainGlobals "NOUGHT" = some (some (.ref t))) (zl : K.lookup t = some ⟨.type "tuple", dd, .seq #[.int 0 u0, .int 1 u1] n, sl⟩)
    (zc_MOST_AXES : PySem.W.nsIn K mainGlobals "MOST_AXES" = some (some (.int 3 u_MOST_AXES)))
    (zc_MOST_STEPS : PySem.W.nsIn K mainGlobals "MOST_STEPS" = some (some (.int 30 u_MOST_STEPS)))
    (e_InvalidProgram : PySem.W.nsIn K mainGlobals "InvalidProgram" = some (some (.ref C_InvalidProgram))) (t_InvalidProgram : PySem.W.typeIn K (.ref C_InvalidProgram) = some (.type "type"))
    (b_InvalidProgram : PySem.W.subIn K (.ref C_InvalidProgram) (.type "BaseException") = some true)
    (lC_InvalidProgram : K.lookup C_InvalidProgram = some (excClassObj nm_InvalidProgram q__InvalidProgram C_InvalidProgram N_InvalidProgram bs_InvalidProgram bm_InvalidProgram true sn_InvalidProgram su_InvalidProgram ab_InvalidProgram col_InvalidProgram dd_InvalidProgram m0_InvalidProgram m1_InvalidProgram m2_InvalidProgram m3_InvalidProgram m5_InvalidProgram "ValueError.__new__"))
    (rv_InvalidProgram : PySem.HandSPX.refsVE bm_InvalidProgram = true)
    (sa_InvalidProgram : PySem.W.findIn K (.ref C_InvalidProgram) "__setattr__" = some (some (.builtin "object.__setattr__")))
    (ga_InvalidProgram : PySem.W.findIn K (.ref C_InvalidProgram) "__getattribute__" = some (some (.builtin "BaseException.__getattribute__")))
    (gg_InvalidProgram : PySem.W.findIn K (.ref C_InvalidProgram) "__getattr__" = some none)
    (nf_InvalidProgram : PySem.W.findIn K (.ref C_InvalidProgram) "place" = some none)
    (iC_InvalidProgram : PySem.W.findIn K (.ref C_InvalidProgram) "__init__" = some (some (.ref f1_InvalidProgram)))
    (tI_InvalidProgram : PySem.W.typeIn K (.ref f1_InvalidProgram) = some (.type "function"))
    (kC_InvalidProgram : PySem.W.keepIn K (.ref C_InvalidProgram) = true)
    (hD_InvalidProgram : PySem.W.hasDictIn K C_InvalidProgram = true)
    (l1_InvalidProgram : K.lookup f1_InvalidProgram = some ⟨oc1_InvalidProgram, od1_InvalidProgram, .func (PySem.W.fnOf "__init__" "InvalidProgram.__init__" (defArgs s_init_InvalidProgram) (defBody s_init_InvalidProgram) (defScope s_init_InvalidProgram) .none kV1_InvalidProgram dc1_InvalidProgram pm1_InvalidProgram an1_InvalidProgram cd1_InvalidProgram ct1_InvalidProgram), sl1_InvalidProgram⟩)
    (c1_InvalidProgram : PySem.W.codeIn K cd1_InvalidProgram "InvalidProgram.__init__" = true)
    (k1_InvalidProgram : PySem.W.keepIn K (.ref f1_InvalidProgram) = true)
    {cc_is_point P_is_point : Addr} (g_is_point : PySem.W.tabIn K "is_point" = some (cc_is_point, P_is_point)) (n_is_point : K.lookup P_is_point = none) {d_is_point : DefRec} (r_is_point : (PyProof.Rows.recsOf q).find? (fun e => e.name == ("is_point" : Str)) = some d_is_point)
    {cc_path P_path : Addr} (g_path : PySem.W.tabIn K "path" = some (cc_path, P_path)) (n_path : K.lookup P_path = none) {d_path : DefRec} (r_path : (PyProof.Rows.recsOf q).find? (fun e => e.name == ("path" : Str)) = some d_path)
    {cc_apart P_apart : Addr} (g_apart : PySem.W.tabIn K "apart" = some (cc_apart, P_apart)) (n_apart : K.lookup P_apart = none) {d_apart : DefRec} (r_apart : (PyProof.Rows.recsOf q).find? (fun e => e.name == ("apart" : Str)) = some d_apart)
    {cc_lengths P_lengths : Addr} (g_lengths : PySem.W.tabIn K "lengths" = some (cc_lengths, P_lengths)) (n_lengths : K.lookup P_lengths = none) {d_lengths : DefRec} (r_lengths : (PyProof.Rows.recsOf q).find? (fun e => e.name == ("lengths" : Str)) = some d_lengths)
    {cc_direction_of P_direction_of : Addr} (g_direction_of : PySem.W.tabIn K "direction_of" = some (cc_direction_of, P_direction_of)) (n_direction_of : K.lookup P_direction_of = none) {d_direction_of : DefRec} (r_direction_of : (PyProof.Rows.recsOf q).find? (fun e => e.name == ("direction_of" : Str)) = some d_direction_of)
    {cc_directions P_directions : Addr} (g_directions : PySem.W.tabIn K "directions" = some (cc_directions, P_directions)) (n_directions : K.lookup P_directions = none) {d_directions : DefRec} (r_directions : (PyProof.Rows.recsOf q).find? (fun e => e.name == ("directions" : Str)) = some d_directions) :
    ∃ (fd : FuncData) (cs : List (Addr × Addr)) (sp : Sp), (∀ p ∈ cs, h.get? p.2 = some { cls := .none, data := .fields #[] }) ∧ (∀ p ∈ cs, K.lookup p.2 = none) ∧ (∀ p ∈ cs, PySem.W.CodeHd h p.1 p.2) ∧ (∀ (s : Shared) (u : Value), BindsTo s fd ⟨[u], []⟩ [("script", u)]) ∧
      (∀ (H : Hp) (a : Addr) (ns : List Int), ns.length ≤ 63 → (∀ p ∈ cs, GxR.TabG H p.2) → SqL K H a (ns.map V.int) → sp [.ref a] H (fun v _ => v = .bl true) fun _ _ _ => False) ∧
      ∀ base : Heap, K.In base → base.Ns mainGlobals mg → (∀ p ∈ cs, GxR.TabB base mg p.1 p.2) → FnG l.prog w K mg base (L2.CX l.prog w) 15 fa fd ["script"] sp := by
  letI : Tabs := ⟨([(cc_is_point, P_is_point), (cc_path, P_path), (cc_apart, P_apart), (cc_lengths, P_lengths), (cc_direction_of, P_direction_of), (cc_directions, P_directions)] : List (Addr × Addr)).map (·.2)⟩
  have T : Tx K mg := { c_NOUGHT := nought_mk X G zc zl, c_MOST_AXES := ⟨.int 3, .int 3 u_MOST_AXES, PySem.W.mg_of X G zc_MOST_AXES, ⟨u_MOST_AXES, rfl⟩, fun B => .int 3⟩, c_MOST_STEPS := ⟨.int 30, .int 30 u_MOST_STEPS, PySem.W.mg_of X G zc_MOST_STEPS, ⟨u_MOST_STEPS, rfl⟩, fun B => .int 30⟩, len := PySem.W.mg_none_of X G z_len, abs := PySem.W.mg_none_of X G z_abs, isinstance := PySem.W.mg_none_of X G z_isinstance, all := PySem.W.mg_none_of X G z_all, min := PySem.W.mg_none_of X G z_min, repr := PySem.W.mg_none_of X G z_repr, range := PySem.W.mg_none_of X G z_range, zip := PySem.W.mg_none_of X G z_zip, enumerate := PySem.W.mg_none_of X G z_enumerate, type := PySem.W.mg_none_of X G z_type, int := PySem.W.mg_none_of X G z_int, bool := PySem.W.mg_none_of X G z_bool, str := PySem.W.mg_none_of X G z_str, tuple := PySem.W.mg_none_of X G z_tuple, list := PySem.W.mg_none_of X G z_list, gcd := PySem.W.mg_of X G z_gcd }
  obtain ⟨fd, b, qq⟩ := law_all (P := l.prog) (w := w) (cs := [(cc_is_point, P_is_point), (cc_path, P_path), (cc_apart, P_apart), (cc_lengths, P_lengths), (cc_direction_of, P_direction_of), (cc_directions, P_directions)]) T (md_mk X G a0 l0 c0 k0) (md_mk X G a1 l1 c1 k1) (md_mk X G a2 l2 c2 k2) (md_mk X G a3 l3 c3 k3) (md_mk X G a4 l4 c4 k4) (md_mk X G a5 l5 c5 k5) (md_mk X G a6 l6 c6 k6) (md_mk X G a7 l7 c7 k7) (md_mk X G a8 l8 c8 k8) (md_mk X G a9 l9 c9 k9) (md_mk X G a10 l10 c10 k10) (md_mk X G a11 l11 c11 k11) (md_mk X G a12 l12 c12 k12) (md_mk X G a13 l13 c13 k13) (fun bs hT => mdg_mk X G a14 l14 c14 k14 g_is_point (List.mem_map.mpr ⟨(cc_is_point, P_is_point), by simp, rfl⟩) (hT (cc_is_point, P_is_point) (by simp))) (md_mk X G a15 l15 c15 k15) (md_mk X G a16 l16 c16 k16) (md_mk X G a17 l17 c17 k17) (fun bs hT => mdg_mk X G a18 l18 c18 k18 g_path (List.mem_map.mpr ⟨(cc_path, P_path), by simp, rfl⟩) (hT (cc_path, P_path) (by simp))) (fun bs hT => mdg_mk X G a19 l19 c19 k19 g_apart (List.mem_map.mpr ⟨(cc_apart, P_apart), by simp, rfl⟩) (hT (cc_apart, P_apart) (by simp))) (md_mk X G a20 l20 c20 k20) (md_mk X G a21 l21 c21 k21) (fun bs hT => mdg_mk X G a22 l22 c22 k22 g_lengths (List.mem_map.mpr ⟨(cc_lengths, P_lengths), by simp, rfl⟩) (hT (cc_lengths, P_lengths) (by simp))) (fun bs hT => mdg_mk X G a23 l23 c23 k23 g_direction_of (List.mem_map.mpr ⟨(cc_direction_of, P_direction_of), by simp, rfl⟩) (hT (cc_direction_of, P_direction_of) (by simp))) (fun bs hT => mdg_mk X G a24 l24 c24 k24 g_directions (List.mem_map.mpr ⟨(cc_directions, P_directions), by simp, rfl⟩) (hT (cc_directions, P_directions) (by simp))) (md_mk X G a25 l25 c25 k25) (md_mk X G a26 l26 c26 k26) (md_mk X G a27 l27 c27 k27) (md_mk X G a28 l28 c28 k28) (md_mk X G a29 l29 c29 k29) (md_mk X G a30 l30 c30 k30) (md_mk X G a31 l31 c31 k31) (md_mk X G a32 l32 c32 k32) (md_mk X G a33 l33 c33 k33) (md_mk X G a34 l34 c34 k34) (md_mk X G a35 l35 c35 k35) (md_mk X G a36 l36 c36 k36) (md_mk X G a37 l37 c37 k37) (md_mk X G a38 l38 c38 k38) (md_mk X G a39 l39 c39 k39) (md_mk X G a40 l40 c40 k40) (md_mk X G a41 l41 c41 k41) (md_mk X G a42 l42 c42 k42) (md_mk X G a43 l43 c43 k43) (md_mk X G a44 l44 c44 k44) (md_mk X G a45 l45 c45 k45) (md_mk X G a46 l46 c46 k46) (exf_InvalidProgram X G e_InvalidProgram ⟨⟨nm_InvalidProgram, q__InvalidProgram, N_InvalidProgram, bs_InvalidProgram, bm_InvalidProgram, sn_InvalidProgram, su_InvalidProgram, ab_InvalidProgram, col_InvalidProgram, dd_InvalidProgram, m0_InvalidProgram, m1_InvalidProgram, m2_InvalidProgram, m3_InvalidProgram, m5_InvalidProgram, lC_InvalidProgram, rv_InvalidProgram⟩, sa_InvalidProgram, b_InvalidProgram, t_InvalidProgram, kC_InvalidProgram⟩ ⟨ga_InvalidProgram, gg_InvalidProgram, b_InvalidProgram, hD_InvalidProgram⟩ nf_InvalidProgram iC_InvalidProgram tI_InvalidProgram (fun_mk l1_InvalidProgram c1_InvalidProgram k1_InvalidProgram))
  refine ⟨fd, [(cc_is_point, P_is_point), (cc_path, P_path), (cc_apart, P_apart), (cc_lengths, P_lengths), (cc_direction_of, P_direction_of), (cc_directions, P_directions)], spLaw K, ?_, ?_, ?_, b, ?_, fun base _ _ hT => qq base fa hT hfa⟩
  · intro p hp
    simp only [List.mem_cons, List.not_mem_nil, or_false] at hp
    rcases hp with rfl | rfl | rfl | rfl | rfl | rfl
    · exact (TB d_is_point "is_point" cc_is_point P_is_point r_is_point g_is_point).2
    · exact (TB d_path "path" cc_path P_path r_path g_path).2
    · exact (TB d_apart "apart" cc_apart P_apart r_apart g_apart).2
    · exact (TB d_lengths "lengths" cc_lengths P_lengths r_lengths g_lengths).2
    · exact (TB d_direction_of "direction_of" cc_direction_of P_direction_of r_direction_of g_direction_of).2
    · exact (TB d_directions "directions" cc_directions P_directions r_directions g_directions).2
  · intro p hp
    simp only [List.mem_cons, List.not_mem_nil, or_false] at hp
    rcases hp with rfl | rfl | rfl | rfl | rfl | rfl
    · exact n_is_point
    · exact n_path
    · exact n_apart
    · exact n_lengths
    · exact n_direction_of
    · exact n_directions
  · intro p hp
    simp only [List.mem_cons, List.not_mem_nil, or_false] at hp
    rcases hp with rfl | rfl | rfl | rfl | rfl | rfl
    · exact (TB d_is_point "is_point" cc_is_point P_is_point r_is_point g_is_point).1
    · exact (TB d_path "path" cc_path P_path r_path g_path).1
    · exact (TB d_apart "apart" cc_apart P_apart r_apart g_apart).1
    · exact (TB d_lengths "lengths" cc_lengths P_lengths r_lengths g_lengths).1
    · exact (TB d_direction_of "direction_of" cc_direction_of P_direction_of r_direction_of g_direction_of).1
    · exact (TB d_directions "directions" cc_directions P_directions r_directions g_directions).1
  · intro H a ns hl hH hS
    refine ⟨a, ns, rfl, hS, hl, fun P hP => ?_, fun _ => rfl⟩
    obtain ⟨p, hp, rfl⟩ := List.mem_map.mp hP
    exact hH p hp
theorem walk {l : PySem.W.OpenLaw} {q : Program} {loose : List Str} {XP : (Str → Option Value) → Heap → Prop} {YP : World → Heap → Prop} {d : DefRec} {K : Params → PySem.W.Frag} (hn : l.most = some 63) (hdf : d.params.defaults = [])
    (hY : ∀ (w : World) (h : Heap), YP w h → (K w.params).In h)
    (F : ∀ (w : World) (mg : Str → Option Value) (fa : Addr) (h : Heap), (K w.params).In h → h.Ns mainGlobals mg → (∀ (d' : DefRec) (y : Str) (c P : Addr), (PyProof.Rows.recsOf q).find? (fun e => e.name == y) = some d' → PySem.W.tabIn (K w.params) y = some (c, P) → PySem.W.CodeHd h c P ∧ h.get? P = some { cls := .none, data := .fields #[] }) → mg d.name = some (.ref fa) →
      ∃ (fd : FuncData) (cs : List (Addr × Addr)) (sp : Sp), (∀ p ∈ cs, h.get? p.2 = some { cls := .none, data := .fields #[] }) ∧ (∀ p ∈ cs, (K w.params).lookup p.2 = none) ∧ (∀ p ∈ cs, PySem.W.CodeHd h p.1 p.2) ∧ (∀ (s : Shared) (u : Value), BindsTo s fd ⟨[u], []⟩ [("script", u)]) ∧
        (∀ (H : Hp) (a : Addr) (ns : List Int), ns.length ≤ 63 → (∀ p ∈ cs, GxR.TabG H p.2) → SqL (K w.params) H a (ns.map V.int) → sp [.ref a] H (fun v _ => v = .bl true) fun _ _ _ => False) ∧
        ∀ base : Heap, (K w.params).In base → base.Ns mainGlobals mg → (∀ p ∈ cs, GxR.TabB base mg p.1 p.2) → FnG l.prog w (K w.params) mg base (L2.CX l.prog w) 15 fa fd ["script"] sp) :
    PySem.W.WalkO q loose XP YP l.row.toRowW d [] (fun f vs => PySem.call f vs) :=
  Fw.walkG (n := 63) (k := 15) (x := "script") (CX := fun w => L2.CX l.prog w) hn (by decide) hdf ⟨rfl, by decide, by decide⟩ hY F fun _ _ _ _ _ z => by
    obtain ⟨_, _, _, _, _, _, _, _, _, _, _, _, h⟩ := z
    exact h
end K01
open PySem PySem.W PyProof.Rows
set_option maxRecDepth 100000 in
set_option maxHeartbeats 0 in
theorem PySem.Challenge.cw_fastestalong_k13_lengths_directions_and_holds : PySem.Challenge.rw_fastestalong_k13_lengths_directions_and.Holds := by
  w_on; o_law; k_head; (case hw => w_witness2)
  k_fill
  refine K01.walk (l := PySem.Challenge.rw_fastestalong_k13_lengths_directions_and) rfl rfl (fun w h Y => PySem.W.kIn_of Y) ?F
  case F =>
    intro w mg fa h KX G TB hmg
    refine' K01.all_mk KX G TB hmg ?a0 ?l0 ?c0 ?k0 ?a1 ?l1 ?c1 ?k1 ?a2 ?l2 ?c2 ?k2 ?a3 ?l3 ?c3 ?k3 ?a4 ?l4 ?c4 ?k4 ?a5 ?l5 ?c5 ?k5 ?a6 ?l6 ?c6 ?k6 ?a7 ?l7 ?c7 ?k7 ?a8 ?l8 ?c8 ?k8 ?a9 ?l9 ?c9 ?k9 ?a10 ?l10 ?c10 ?k10 ?a11 ?l11 ?c11 ?k11 ?a12 ?l12 ?c12 ?k12 ?a13 ?l13 ?c13 ?k13 ?a14 ?l14 ?c14 ?k14 ?a15 ?l15 ?c15 ?k15 ?a16 ?l16 ?c16 ?k16 ?a17 ?l17 ?c17 ?k17 ?a18 ?l18 ?c18 ?k18 ?a19 ?l19 ?c19 ?k19 ?a20 ?l20 ?c20 ?k20 ?a21 ?l21 ?c21 ?k21 ?a22 ?l22 ?c22 ?k22 ?a23 ?l23 ?c23 ?k23 ?a24 ?l24 ?c24 ?k24 ?a25 ?l25 ?c25 ?k25 ?a26 ?l26 ?c26 ?k26 ?a27 ?l27 ?c27 ?k27 ?a28 ?l28 ?c28 ?k28 ?a29 ?l29 ?c29 ?k29 ?a30 ?l30 ?c30 ?k30 ?a31 ?l31 ?c31 ?k31 ?a32 ?l32 ?c32 ?k32 ?a33 ?l33 ?c33 ?k33 ?a34 ?l34 ?c34 ?k34 ?a35 ?l35 ?c35 ?k35 ?a36 ?l36 ?c36 ?k36 ?a37 ?l37 ?c37 ?k37 ?a38 ?l38 ?c38 ?k38 ?a39 ?l39 ?c39 ?k39 ?a40 ?l40 ?c40 ?k40 ?a41 ?l41 ?c41 ?k41 ?a42 ?l42 ?c42 ?k42 ?a43 ?l43 ?c43 ?k43 ?a44 ?l44 ?c44 ?k44 ?a45 ?l45 ?c45 ?k45 ?a46 ?l46 ?c46 ?k46 ?z_len ?z_abs ?z_isinstance ?z_all ?z_min ?z_repr ?z_range ?z_zip ?z_enumerate ?z_type ?z_int ?z_bool ?z_str ?z_tuple ?z_list ?z_gcd ?zc ?zl ?zc_MOST_AXES ?zc_MOST_STEPS ?e_InvalidProgram ?t_InvalidProgram ?b_InvalidProgram ?lC_InvalidProgram ?rv_InvalidProgram ?sa_InvalidProgram ?ga_InvalidProgram ?gg_InvalidProgram ?nf_InvalidProgram ?iC_InvalidProgram ?tI_InvalidProgram ?kC_InvalidProgram ?hD_InvalidProgram ?l1_InvalidProgram ?c1_InvalidProgram ?k1_InvalidProgram ?g_is_point ?n_is_point ?r_is_point ?g_path ?n_path ?r_path ?g_apart ?n_apart ?r_apart ?g_lengths ?n_lengths ?r_lengths ?g_direction_of ?n_direction_of ?r_direction_of ?g_directions ?n_directions ?r_directions
    (case a0 => k_is); (case l0 => k_is); (case c0 => k_is); (case k0 => k_is)
    (case a1 => k_is); (case l1 => k_is); (case c1 => k_is); (case k1 => k_is)
    (case a2 => k_is); (case l2 => k_is); (case c2 => k_is); (case k2 => k_is)
    (case a3 => k_is); (case l3 => k_is); (case c3 => k_is); (case k3 => k_is)
    (case a4 => k_is); (case l4 => k_is); (case c4 => k_is); (case k4 => k_is)
    (case a5 => k_is); (case l5 => k_is); (case c5 => k_is); (case k5 => k_is)
    (case a6 => k_is); (case l6 => k_is); (case c6 => k_is); (case k6 => k_is)
    (case a7 => k_is); (case l7 => k_is); (case c7 => k_is); (case k7 => k_is)
    (case a8 => k_is); (case l8 => k_is); (case c8 => k_is); (case k8 => k_is)
    (case a9 => k_is); (case l9 => k_is); (case c9 => k_is); (case k9 => k_is)
    (case a10 => k_is); (case l10 => k_is); (case c10 => k_is); (case k10 => k_is)
    (case a11 => k_is); (case l11 => k_is); (case c11 => k_is); (case k11 => k_is)
    (case a12 => k_is); (case l12 => k_is); (case c12 => k_is); (case k12 => k_is)
    (case a13 => k_is); (case l13 => k_is); (case c13 => k_is); (case k13 => k_is)
    (case a14 => k_is); (case l14 => k_is); (case c14 => k_is); (case k14 => k_is)
    (case a15 => k_is); (case l15 => k_is); (case c15 => k_is); (case k15 => k_is)
    (case a16 => k_is); (case l16 => k_is); (case c16 => k_is); (case k16 => k_is)
    (case a17 => k_is); (case l17 => k_is); (case c17 => k_is); (case k17 => k_is)
    (case a18 => k_is); (case l18 => k_is); (case c18 => k_is); (case k18 => k_is)
    (case a19 => k_is); (case l19 => k_is); (case c19 => k_is); (case k19 => k_is)
    (case a20 => k_is); (case l20 => k_is); (case c20 => k_is); (case k20 => k_is)
    (case a21 => k_is); (case l21 => k_is); (case c21 => k_is); (case k21 => k_is)
    (case a22 => k_is); (case l22 => k_is); (case c22 => k_is); (case k22 => k_is)
    (case a23 => k_is); (case l23 => k_is); (case c23 => k_is); (case k23 => k_is)
    (case a24 => k_is); (case l24 => k_is); (case c24 => k_is); (case k24 => k_is)
    (case a25 => k_is); (case l25 => k_is); (case c25 => k_is); (case k25 => k_is)
    (case a26 => k_is); (case l26 => k_is); (case c26 => k_is); (case k26 => k_is)
    (case a27 => k_is); (case l27 => k_is); (case c27 => k_is); (case k27 => k_is)
    (case a28 => k_is); (case l28 => k_is); (case c28 => k_is); (case k28 => k_is)
    (case a29 => k_is); (case l29 => k_is); (case c29 => k_is); (case k29 => k_is)
    (case a30 => k_is); (case l30 => k_is); (case c30 => k_is); (case k30 => k_is)
    (case a31 => k_is); (case l31 => k_is); (case c31 => k_is); (case k31 => k_is)
    (case a32 => k_is); (case l32 => k_is); (case c32 => k_is); (case k32 => k_is)
    (case a33 => k_is); (case l33 => k_is); (case c33 => k_is); (case k33 => k_is)
    (case a34 => k_is); (case l34 => k_is); (case c34 => k_is); (case k34 => k_is)
    (case a35 => k_is); (case l35 => k_is); (case c35 => k_is); (case k35 => k_is)
    (case a36 => k_is); (case l36 => k_is); (case c36 => k_is); (case k36 => k_is)
    (case a37 => k_is); (case l37 => k_is); (case c37 => k_is); (case k37 => k_is)
    (case a38 => k_is); (case l38 => k_is); (case c38 => k_is); (case k38 => k_is)
    (case a39 => k_is); (case l39 => k_is); (case c39 => k_is); (case k39 => k_is)
    (case a40 => k_is); (case l40 => k_is); (case c40 => k_is); (case k40 => k_is)
    (case a41 => k_is); (case l41 => k_is); (case c41 => k_is); (case k41 => k_is)
    (case a42 => k_is); (case l42 => k_is); (case c42 => k_is); (case k42 => k_is)
    (case a43 => k_is); (case l43 => k_is); (case c43 => k_is); (case k43 => k_is)
    (case a44 => k_is); (case l44 => k_is); (case c44 => k_is); (case k44 => k_is)
    (case a45 => k_is); (case l45 => k_is); (case c45 => k_is); (case k45 => k_is)
    (case a46 => k_is); (case l46 => k_is); (case c46 => k_is); (case k46 => k_is)
    (case z_len => first | k_is | rfl)
    (case z_abs => first | k_is | rfl)
    (case z_isinstance => first | k_is | rfl)
    (case z_all => first | k_is | rfl)
    (case z_min => first | k_is | rfl)
    (case z_repr => first | k_is | rfl)
    (case z_range => first | k_is | rfl)
    (case z_zip => first | k_is | rfl)
    (case z_enumerate => first | k_is | rfl)
    (case z_type => first | k_is | rfl)
    (case z_int => first | k_is | rfl)
    (case z_bool => first | k_is | rfl)
    (case z_str => first | k_is | rfl)
    (case z_tuple => first | k_is | rfl)
    (case z_list => first | k_is | rfl)
    (case z_gcd => first | k_is | rfl)
    (case zc => first | k_is | rfl)
    (case zl => first | k_is | rfl)
    (case zc_MOST_AXES => first | k_is | rfl)
    (case zc_MOST_STEPS => first | k_is | rfl)
    (case e_InvalidProgram => first | k_is | rfl)
    (case t_InvalidProgram => first | k_is | rfl)
    (case b_InvalidProgram => first | k_is | rfl)
    (case lC_InvalidProgram => first | k_is | rfl)
    (case rv_InvalidProgram => first | decide +kernel | rfl)
    (case sa_InvalidProgram => first | k_is | rfl)
    (case ga_InvalidProgram => first | k_is | rfl)
    (case gg_InvalidProgram => first | k_is | rfl)
    (case nf_InvalidProgram => first | k_is | rfl)
    (case iC_InvalidProgram => first | k_is | rfl)
    (case tI_InvalidProgram => first | k_is | rfl)
    (case kC_InvalidProgram => first | k_is | rfl)
    (case hD_InvalidProgram => first | k_is | rfl)
    (case l1_InvalidProgram => first | k_is | rfl)
    (case c1_InvalidProgram => first | k_is | rfl)
    (case k1_InvalidProgram => first | k_is | rfl)
    (case g_is_point => first | k_is | rfl); (case n_is_point => first | k_is | rfl); (case r_is_point => first | rfl | decide +kernel)
    (case g_path => first | k_is | rfl); (case n_path => first | k_is | rfl); (case r_path => first | rfl | decide +kernel)
    (case g_apart => first | k_is | rfl); (case n_apart => first | k_is | rfl); (case r_apart => first | rfl | decide +kernel)
    (case g_lengths => first | k_is | rfl); (case n_lengths => first | k_is | rfl); (case r_lengths => first | rfl | decide +kernel)
    (case g_direction_of => first | k_is | rfl); (case n_direction_of => first | k_is | rfl); (case r_direction_of => first | rfl | decide +kernel)
    (case g_directions => first | k_is | rfl); (case n_directions => first | k_is | rfl); (case r_directions => first | rfl | decide +kernel)

import PyProof.Rows.All
import Wide.All
import OpenK.AllK
import Wide.FinOn
import HandS.ForExc
import HandS.Comp
import HandS.Iter
import HandS.Text
import HandS.Dict
import HandS.Wide
import HandS.Gcd
import HandS.IsInst
import HandS.NoneIn
import HandS.Zip
import HandS.TupAny
import HandS.ExcOwn
import HandS.More
import HandS.Style
import HandS.Deep
import HandS.Sort
import HandS.TryMany
import HandS.FStr
import HandS.StrMore
import HandS.RaiseMore
import KE.KMathG
import HandS.ExcInit
import HandS.ExcField
import HandS.Codes
import PyProof.ExcBaseAll.ValueError
import HandS.ForMost
import PySem.Challenge.RW_fastestalong_k04_roots_and_refusals_of_f
set_option Elab.async false
set_option linter.all false
set_option autoImplicit false
set_option maxRecDepth 100000
set_option maxHeartbeats 4000000
/-! Readings of bodies over plain data: what a def does told without any heap. -/
namespace Fw
open PySem PySem.Spec PyProof.Rows L2

abbrev D := PyData
abbrev Fg := PySem.W.Frag

/-! ### heaps that grow -/
def Ex (H H' : Hp) : Prop := ∀ a o, H a = some o → H' a = some o
theorem Ex.rfl {H : Hp} : Ex H H := fun _ _ h => h
theorem Ex.trans {H H1 H2 : Hp} (a : Ex H H1) (b : Ex H1 H2) : Ex H H2 := fun x o h => b x o (a x o h)
theorem Ex.new {H : Hp} {p : Addr} {o : HO} (h : H p = none) : Ex H (upd H p o) := fun a u e => by
  rw [upd_ne (ne_of_none e h)]
  exact e
theorem Ex.back {H H' : Hp} {p : Addr} (e : Ex H H') (h : H' p = none) : H p = none := by
  cases h1 : H p with
  | none => rfl
  | some o =>
    rw [e p o h1] at h
    cases h
theorem Ex.sqL {K : Fg} {H H' : Hp} {a : Addr} {xs : List V} (e : Ex H H') (h : SqL K H a xs) : SqL K H' a xs := by
  rcases h with (h | ⟨o, h⟩) | h
  · exact .inl (.inl (e _ _ h))
  · exact .inl (.inr ⟨o, e _ _ h⟩)
  · exact .inr h
theorem Ex.sqT {K : Fg} {H H' : Hp} {a : Addr} {xs : List V} (e : Ex H H') (h : SqT K H a xs) : SqT K H' a xs := by
  rcases h with (h | ⟨o, h⟩) | h
  · exact .inl (.inl (e _ _ h))
  · exact .inl (.inr ⟨o, e _ _ h⟩)
  · exact .inr h
mutual
theorem Ex.dp {K : Fg} {H H' : Hp} (e : Ex H H') : ∀ {v : V} {d : D}, Dp K H v d → Dp K H' v d
  | _, _, .non => .non
  | _, _, .bl b => .bl b
  | _, _, .int i => .int i
  | _, _, .str x => .str x
  | _, _, .lst h a => .lst (e.sqL h) (e.dps a)
  | _, _, .tup h a => .tup (e.sqT h) (e.dps a)
theorem Ex.dps {K : Fg} {H H' : Hp} (e : Ex H H') : ∀ {vs : List V} {ds : List D}, DpAll K H vs ds → DpAll K H' vs ds
  | _, _, .nil => .nil
  | _, _, .cons h t => .cons (e.dp h) (e.dps t)
end
section
variable {K : Fg} {H : Hp}
theorem dps_len : ∀ {vs : List V} {ds : List D}, DpAll K H vs ds → vs.length = ds.length
  | _, _, .nil => rfl
  | _, _, .cons _ t => by simp [dps_len t]
theorem dps_get : ∀ {vs : List V} {ds : List D} {i : Nat} {d : D}, DpAll K H vs ds → ds[i]? = some d → ∃ v, vs[i]? = some v ∧ Dp K H v d
  | _, _, _, _, .nil, e => by simp at e
  | _, _, 0, _, .cons h _, e => by simp at e; subst e; exact ⟨_, rfl, h⟩
  | _, _, i + 1, d, .cons _ t, e => by
    obtain ⟨v, h1, h2⟩ := dps_get (i := i) (d := d) t (by simpa using e)
    exact ⟨v, by simpa using h1, h2⟩
theorem dps_get' : ∀ {vs : List V} {ds : List D} {i : Nat} {v : V}, DpAll K H vs ds → vs[i]? = some v → ∃ d, ds[i]? = some d ∧ Dp K H v d
  | _, _, _, _, .nil, e => by simp at e
  | _, _, 0, _, .cons h _, e => by simp at e; subst e; exact ⟨_, rfl, h⟩
  | _, _, i + 1, v, .cons _ t, e => by
    obtain ⟨d, h1, h2⟩ := dps_get' (i := i) (v := v) t (by simpa using e)
    exact ⟨d, by simpa using h1, h2⟩
theorem dps_app : ∀ {vs ws : List V} {ds es : List D}, DpAll K H vs ds → DpAll K H ws es → DpAll K H (vs ++ ws) (ds ++ es)
  | _, _, _, _, .nil, s => s
  | _, _, _, _, .cons h t, s => .cons h (dps_app t s)
theorem dps_drop : ∀ {vs : List V} {ds : List D} (n : Nat), DpAll K H vs ds → DpAll K H (vs.drop n) (ds.drop n)
  | _, _, 0, h => h
  | _, _, _ + 1, .nil => .nil
  | _, _, n + 1, .cons _ t => dps_drop n t
theorem dps_take : ∀ {vs : List V} {ds : List D} (n : Nat), DpAll K H vs ds → DpAll K H (vs.take n) (ds.take n)
  | _, _, 0, _ => .nil
  | _, _, _ + 1, .nil => .nil
  | _, _, n + 1, .cons h t => .cons h (dps_take n t)
theorem dps_set {v : V} {d : D} (h : Dp K H v d) : ∀ {vs : List V} {ds : List D} (n : Nat), DpAll K H vs ds → DpAll K H (vs.set n v) (ds.set n d)
  | _, _, _, .nil => .nil
  | _, _, 0, .cons _ t => .cons h t
  | _, _, n + 1, .cons a t => .cons a (dps_set h n t)
theorem dps_rev : ∀ {vs : List V} {ds : List D}, DpAll K H vs ds → DpAll K H vs.reverse ds.reverse
  | _, _, .nil => .nil
  | _, _, .cons h t => by
    rw [List.reverse_cons, List.reverse_cons]
    exact dps_app (dps_rev t) (.cons h .nil)
end

/-- the plain data B and the heap H grow; what is new in B is new in H -/
structure Gr (B H B' H' : Hp) : Prop where
  bb : Ex B B'
  hh : Ex H H'
  bh : Ex B' H'
  ne : ∀ a, H a ≠ none → B' a = B a
theorem Gr.rfl {B H : Hp} (e : Ex B H) : Gr B H B H := ⟨Ex.rfl, Ex.rfl, e, fun _ _ => Eq.refl _⟩
theorem Gr.trans {B H B1 H1 B2 H2 : Hp} (a : Gr B H B1 H1) (b : Gr B1 H1 B2 H2) : Gr B H B2 H2 :=
  ⟨a.bb.trans b.bb, a.hh.trans b.hh, b.bh, fun x h => (b.ne x (fun z => h (by
    cases e : H x with
    | none => rfl
    | some o => rw [a.hh x o e] at z; cases z))).trans (a.ne x h)⟩
theorem Gr.new {B H : Hp} {p : Addr} {o : HO} (e : Ex B H) (h : H p = none) : Gr B H (upd B p o) (upd H p o) :=
  ⟨Ex.new (e.back h), Ex.new h, fun a u q => by
    by_cases c : a = p
    · subst c
      rw [upd_same] at q ⊢
      exact q
    · rw [upd_ne c] at q ⊢
      exact e a u q, fun a q => upd_ne (fun z => q (z ▸ h))⟩
/-- a new thing in H that B does not take up -/
theorem Gr.own {B H : Hp} {p : Addr} {o : HO} (e : Ex B H) (h : H p = none) : Gr B H B (upd H p o) :=
  ⟨Ex.rfl, Ex.new h, e.trans (Ex.new h), fun _ _ => Eq.refl _⟩

/-! ### the spring: a list of a list and two ints, drawn from -/
structure Spr (H : Hp) (p g : Addr) : Prop where
  ne : p ≠ g
  at_ : ∃ m c : Int, H p = some (.lst [.ref g, .int m, .int c]) ∧ 0 ≤ m ∧ m < 2 ^ 61
  gr : ∃ gs : List Int, H g = some (.lst (gs.map V.int)) ∧ (∀ x ∈ gs, 0 ≤ x) ∧ gs.length ≤ 1000
abbrev SA := Option (Addr × Addr)
def SprO (H : Hp) : SA → Prop
  | none => True
  | some (p, g) => Spr H p g
def SprF (B : Hp) : SA → Prop
  | none => True
  | some (p, g) => B p = none ∧ B g = none
def SA.has : SA → Addr → Prop
  | none, _ => False
  | some (p, g), a => a = p ∨ a = g
theorem SprO.get {H : Hp} {S : SA} {a : Addr} (h : SprO H S) (q : S.has a) : H a ≠ none := by
  rcases S with _ | ⟨p, g⟩
  · exact q.elim
  · obtain ⟨_, ⟨m, c, e, _⟩, ⟨gs, e2, _⟩⟩ := (show Spr H p g from h)
    rcases q with rfl | rfl
    · rw [e]; exact fun z => nomatch z
    · rw [e2]; exact fun z => nomatch z
theorem SprO.kept {H H' : Hp} {S : SA} (h : SprO H S) (e : ∀ a, S.has a → H' a = H a) : SprO H' S := by
  rcases S with _ | ⟨p, g⟩
  · trivial
  · obtain ⟨n, ⟨m, c, e1, b⟩, ⟨gs, e2, b2⟩⟩ := (show Spr H p g from h)
    exact ⟨n, ⟨m, c, (e p (.inl rfl)).trans e1, b⟩, ⟨gs, (e g (.inr rfl)).trans e2, b2⟩⟩
/-- as Gr, the spring drawn from -/
structure GrS (S : SA) (B H B' H' : Hp) : Prop where
  bb : Ex B B'
  hh : ∀ a o, H a = some o → ¬ S.has a → H' a = some o
  bh : Ex B' H'
  ne : ∀ a, H a ≠ none → B' a = B a
  sp : SprO H' S
theorem Gr.s {S : SA} {B H B' H' : Hp} (g : Gr B H B' H') (h : SprO H S) : GrS S B H B' H' :=
  ⟨g.bb, fun a o e _ => g.hh a o e, g.bh, g.ne, h.kept fun a q => by
    cases e : H a with
    | none => exact absurd e (h.get q)
    | some o => exact g.hh a o e⟩
theorem GrS.ex {S : SA} {B H B' H' : Hp} (g : GrS S B H B' H') {a : Addr} (h : H a ≠ none) : H' a ≠ none := by
  cases e : H a with
  | none => exact absurd e h
  | some o =>
    rcases S with _ | ⟨p, q⟩
    · rw [g.hh a o e (fun z => z)]; exact fun z => nomatch z
    · by_cases c : a = p ∨ a = q
      · exact g.sp.get c
      · rw [g.hh a o e c]; exact fun z => nomatch z
theorem GrS.trans {S : SA} {B H B1 H1 B2 H2 : Hp} (a : GrS S B H B1 H1) (b : GrS S B1 H1 B2 H2) : GrS S B H B2 H2 :=
  ⟨a.bb.trans b.bb, fun x o e n => b.hh x o (a.hh x o e n) n, b.bh, fun x h => (b.ne x (a.ex h)).trans (a.ne x h), b.sp⟩

/-! ### what the slots hold, told as data -/
inductive Sl where
  | un | p (d : D) | o (ds : List D) | s | k (n : Nat) (f : Str → Option D) | x (a : Addr) (cls : Value) (d : Option Addr) (x : Str × Option (Str × D))
abbrev En := List Sl
/-- what is raised, told as data: the class by its name in the module, and the one field -/
abbrev XD := Str × Option (Str × D)
def XR (K : Fg) (B H : Hp) (x : XD) (cls : Value) (d : Option Addr) : Prop := PySem.W.nsIn K mainGlobals x.1 = some (some cls) ∧ match x.2 with
  | none => d = none
  | some (f, dd) => ∃ a v, d = some a ∧ B a = some (.xd [(f, v)]) ∧ Dp K B v dd
theorem XR.mono {K : Fg} {B B' H H' : Hp} {x : XD} {cls : Value} {d : Option Addr} (e : Ex B B') (h : XR K B H x cls d) : XR K B' H' x cls d := by
  obtain ⟨x1, x2⟩ := x
  obtain ⟨h1, h2⟩ := h
  refine ⟨h1, ?_⟩
  cases x2 with
  | none => exact h2
  | some fd =>
    obtain ⟨a, v, h3, h4, h5⟩ := h2
    exact ⟨a, v, h3, e _ _ h4, e.dp h5⟩
/-- what a table's key holds -/
def OD (K : Fg) (B : Hp) : Option V → Option D → Prop
  | none, none => True
  | some v, some d => Dp K B v d
  | _, _ => False
theorem OD.mono {K : Fg} {B B' : Hp} (e : Ex B B') : ∀ {v : Option V} {d : Option D}, OD K B v d → OD K B' v d
  | none, none, _ => trivial
  | some _, some _, h => e.dp h
  | none, some _, h => h.elim
  | some _, none, h => h.elim
abbrev KOk (K : Fg) (B : Hp) (kw : List (Key × V)) (f : Str → Option D) : Prop := ∀ x, OD K B (valV kw (.inr x)) (f x)
inductive Env (K : Fg) (S : SA) (B H : Hp) : L2.St → En → List Addr → Prop
  | nil : Env K S B H [] [] []
  | un {x : Option V} {σ : L2.St} {es : En} {fp : List Addr} : Env K S B H σ es fp → Env K S B H (x :: σ) (.un :: es) fp
  | p {v : V} {d : D} {σ : L2.St} {es : En} {fp : List Addr} : Dp K B v d → Env K S B H σ es fp → Env K S B H (some v :: σ) (.p d :: es) fp
  | o {a : Addr} {xs : List V} {ds : List D} {σ : L2.St} {es : En} {fp : List Addr} : H a = some (.lst xs) → DpAll K B xs ds → Env K S B H σ es fp → Env K S B H (some (.ref a) :: σ) (.o ds :: es) (a :: fp)
  | s {q g : Addr} {σ : L2.St} {es : En} {fp : List Addr} : S = some (q, g) → Env K S B H σ es fp → Env K S B H (some (.ref q) :: σ) (.s :: es) fp
  | k {a : Addr} {kw : List (Key × V)} {n : Nat} {f : Str → Option D} {σ : L2.St} {es : En} {fp : List Addr} : H a = some (.dK kw) → kw.length ≤ n → KOk K B kw f → Env K S B H σ es fp → Env K S B H (some (.ref a) :: σ) (.k n f :: es) (a :: fp)
  | x {a : Addr} {cls : Value} {d : Option Addr} {y : XD} {σ : L2.St} {es : En} {fp : List Addr} : XR K B B y cls d → Env K S B H σ es fp → Env K S B H (some (.ref a) :: σ) (.x a cls d y :: es) fp
section
variable {K : Fg} {S : SA} {B H B' H' : Hp} {σ : L2.St} {es : En} {fp : List Addr}
theorem Env.mono (h : Env K S B H σ es fp) (e : Ex B B') (k : ∀ a ∈ fp, H' a = H a) : Env K S B' H' σ es fp := by
  induction h with
  | nil => exact .nil
  | un _ ih => exact .un (ih k)
  | p d _ ih => exact .p (e.dp d) (ih k)
  | o h1 h2 _ ih => exact .o ((k _ List.mem_cons_self).trans h1) (e.dps h2) (ih fun a q => k a (List.mem_cons_of_mem _ q))
  | s q _ ih => exact .s q (ih k)
  | k h1 h2 h3 _ ih => exact .k ((k _ List.mem_cons_self).trans h1) h2 (fun x => (h3 x).mono e) (ih fun a q => k a (List.mem_cons_of_mem _ q))
  | x h1 _ ih => exact .x (h1.mono e) (ih k)
theorem Env.live (h : Env K S B H σ es fp) : ∀ a ∈ fp, H a ≠ none := by
  induction h with
  | nil => intro a q; cases q
  | un _ ih => exact ih
  | p _ _ ih => exact ih
  | o h1 _ _ ih =>
    intro a q
    rcases List.mem_cons.mp q with rfl | q
    · rw [h1]; exact fun z => nomatch z
    · exact ih a q
  | s _ _ ih => exact ih
  | k h1 _ _ _ ih =>
    intro a q
    rcases List.mem_cons.mp q with rfl | q
    · rw [h1]; exact fun z => nomatch z
    · exact ih a q
  | x _ _ ih => exact ih
theorem Env.len (h : Env K S B H σ es fp) : σ.length = es.length := by
  induction h with
  | nil => rfl
  | un _ ih => simp [ih]
  | p _ _ ih => simp [ih]
  | o _ _ _ ih => simp [ih]
  | s _ _ ih => simp [ih]
  | k _ _ _ _ ih => simp [ih]
  | x _ _ ih => simp [ih]
theorem Env.getP (h : Env K S B H σ es fp) : ∀ {i : Nat} {d : D}, es[i]? = some (.p d) → ∃ v, σ[i]? = some (some v) ∧ Dp K B v d := by
  induction h with
  | nil => intro i d e; simp at e
  | un _ ih => intro i d e; cases i with
    | zero => simp at e
    | succ i => simpa using ih (by simpa using e)
  | p q _ ih => intro i d e; cases i with
    | zero => simp at e; subst e; exact ⟨_, rfl, q⟩
    | succ i => simpa using ih (by simpa using e)
  | o _ _ _ ih => intro i d e; cases i with
    | zero => simp at e
    | succ i => simpa using ih (by simpa using e)
  | s _ _ ih => intro i d e; cases i with
    | zero => simp at e
    | succ i => simpa using ih (by simpa using e)
  | k _ _ _ _ ih => intro i d e; cases i with
    | zero => simp at e
    | succ i => simpa using ih (by simpa using e)
  | x _ _ ih => intro i d e; cases i with
    | zero => simp at e
    | succ i => simpa using ih (by simpa using e)
theorem Env.getO (h : Env K S B H σ es fp) : ∀ {i : Nat} {ds : List D}, es[i]? = some (.o ds) → ∃ a xs, σ[i]? = some (some (.ref a)) ∧ H a = some (.lst xs) ∧ DpAll K B xs ds ∧ a ∈ fp := by
  induction h with
  | nil => intro i d e; simp at e
  | un _ ih => intro i d e; cases i with
    | zero => simp at e
    | succ i => simpa using ih (by simpa using e)
  | p q _ ih => intro i d e; cases i with
    | zero => simp at e
    | succ i => simpa using ih (by simpa using e)
  | o h1 h2 _ ih => intro i d e; cases i with
    | zero => simp at e; subst e; exact ⟨_, _, rfl, h1, h2, List.mem_cons_self⟩
    | succ i =>
      obtain ⟨a, xs, q1, q2, q3, q4⟩ := ih (i := i) (by simpa using e)
      exact ⟨a, xs, by simpa using q1, q2, q3, List.mem_cons_of_mem _ q4⟩
  | s _ _ ih => intro i d e; cases i with
    | zero => simp at e
    | succ i => simpa using ih (by simpa using e)
  | k _ _ _ _ ih => intro i d e; cases i with
    | zero => simp at e
    | succ i =>
      obtain ⟨a, xs, q1, q2, q3, q4⟩ := ih (i := i) (by simpa using e)
      exact ⟨a, xs, by simpa using q1, q2, q3, List.mem_cons_of_mem _ q4⟩
  | x _ _ ih => intro i d e; cases i with
    | zero => simp at e
    | succ i => simpa using ih (by simpa using e)
theorem Env.getS (h : Env K S B H σ es fp) : ∀ {i : Nat}, es[i]? = some .s → ∃ q g, σ[i]? = some (some (.ref q)) ∧ S = some (q, g) := by
  induction h with
  | nil => intro i e; simp at e
  | un _ ih => intro i e; cases i with
    | zero => simp at e
    | succ i => simpa using ih (by simpa using e)
  | p q _ ih => intro i e; cases i with
    | zero => simp at e
    | succ i => simpa using ih (by simpa using e)
  | o _ _ _ ih => intro i e; cases i with
    | zero => simp at e
    | succ i => simpa using ih (by simpa using e)
  | s q _ ih => intro i e; cases i with
    | zero => exact ⟨_, _, rfl, q⟩
    | succ i => simpa using ih (by simpa using e)
  | k _ _ _ _ ih => intro i e; cases i with
    | zero => simp at e
    | succ i => simpa using ih (by simpa using e)
  | x _ _ ih => intro i e; cases i with
    | zero => simp at e
    | succ i => simpa using ih (by simpa using e)
/-- the table of a slot -/
theorem Env.getK (h : Env K S B H σ es fp) : ∀ {i : Nat} {n : Nat} {f : Str → Option D}, es[i]? = some (.k n f) → ∃ a kw, σ[i]? = some (some (.ref a)) ∧ H a = some (.dK kw) ∧ kw.length ≤ n ∧ KOk K B kw f ∧ a ∈ fp := by
  induction h with
  | nil => intro i n f e; simp at e
  | un _ ih => intro i n f e; cases i with
    | zero => simp at e
    | succ i => simpa using ih (by simpa using e)
  | p q _ ih => intro i n f e; cases i with
    | zero => simp at e
    | succ i => simpa using ih (by simpa using e)
  | o h1 h2 _ ih => intro i n f e; cases i with
    | zero => simp at e
    | succ i =>
      obtain ⟨a, xs, q1, q2, q3, q4, q5⟩ := ih (i := i) (by simpa using e)
      exact ⟨a, xs, by simpa using q1, q2, q3, q4, List.mem_cons_of_mem _ q5⟩
  | s _ _ ih => intro i n f e; cases i with
    | zero => simp at e
    | succ i => simpa using ih (by simpa using e)
  | k h1 h2 h3 _ ih => intro i n f e; cases i with
    | zero =>
      simp at e
      obtain ⟨rfl, rfl⟩ := e
      exact ⟨_, _, rfl, h1, h2, h3, List.mem_cons_self⟩
    | succ i =>
      obtain ⟨a, xs, q1, q2, q3, q4, q5⟩ := ih (i := i) (by simpa using e)
      exact ⟨a, xs, by simpa using q1, q2, q3, q4, List.mem_cons_of_mem _ q5⟩
  | x _ _ ih => intro i n f e; cases i with
    | zero => simp at e
    | succ i => simpa using ih (by simpa using e)
/-- the exception of a slot -/
theorem Env.getX (h : Env K S B H σ es fp) : ∀ {i : Nat} {a : Addr} {cls : Value} {d : Option Addr} {y : XD}, es[i]? = some (.x a cls d y) → σ[i]? = some (some (.ref a)) ∧ XR K B B y cls d := by
  induction h with
  | nil => intro i a cls d y e; simp at e
  | un _ ih => intro i a cls d y e; cases i with
    | zero => simp at e
    | succ i => simpa using ih (by simpa using e)
  | p q _ ih => intro i a cls d y e; cases i with
    | zero => simp at e
    | succ i => simpa using ih (by simpa using e)
  | o h1 h2 _ ih => intro i a cls d y e; cases i with
    | zero => simp at e
    | succ i => simpa using ih (by simpa using e)
  | s _ _ ih => intro i a cls d y e; cases i with
    | zero => simp at e
    | succ i => simpa using ih (by simpa using e)
  | k _ _ _ _ ih => intro i a cls d y e; cases i with
    | zero => simp at e
    | succ i => simpa using ih (by simpa using e)
  | x h1 _ ih => intro i a cls d y e; cases i with
    | zero =>
      simp at e
      obtain ⟨rfl, rfl, rfl, rfl⟩ := e
      exact ⟨rfl, h1⟩
    | succ i => simpa using ih (by simpa using e)
/-- a slot gets a value of plain data; what it held is let go -/
theorem Env.setP {v : V} {d : D} (hv : Dp K B v d) (h : Env K S B H σ es fp) : ∀ (i : Nat), ∃ fp', Env K S B H (σ.set i (some v)) (es.set i (.p d)) fp' ∧ fp'.Sublist fp := by
  induction h with
  | nil => intro i; exact ⟨[], by simpa using Env.nil, List.Sublist.refl _⟩
  | un q ih => intro i; cases i with
    | zero => exact ⟨_, .p hv q, List.Sublist.refl _⟩
    | succ i => obtain ⟨f, a, b⟩ := ih i; exact ⟨f, .un a, b⟩
  | p q1 q ih => intro i; cases i with
    | zero => exact ⟨_, .p hv q, List.Sublist.refl _⟩
    | succ i => obtain ⟨f, a, b⟩ := ih i; exact ⟨f, .p q1 a, b⟩
  | o q1 q2 q ih => intro i; cases i with
    | zero => exact ⟨_, .p hv q, List.sublist_cons_self _ _⟩
    | succ i => obtain ⟨f, a, b⟩ := ih i; exact ⟨_, .o q1 q2 a, b.cons_cons _⟩
  | s q1 q ih => intro i; cases i with
    | zero => exact ⟨_, .p hv q, List.Sublist.refl _⟩
    | succ i => obtain ⟨f, a, b⟩ := ih i; exact ⟨f, .s q1 a, b⟩
  | k q1 q2 q3 q ih => intro i; cases i with
    | zero => exact ⟨_, .p hv q, List.sublist_cons_self _ _⟩
    | succ i => obtain ⟨f, a, b⟩ := ih i; exact ⟨_, .k q1 q2 q3 a, b.cons_cons _⟩
  | x q1 q ih => intro i; cases i with
    | zero => exact ⟨_, .p hv q, List.Sublist.refl _⟩
    | succ i => obtain ⟨f, a, b⟩ := ih i; exact ⟨f, .x q1 a, b⟩
theorem Env.setU (x : Option V) (h : Env K S B H σ es fp) : ∀ (i : Nat), ∃ fp', Env K S B H (σ.set i x) (es.set i .un) fp' ∧ fp'.Sublist fp := by
  induction h with
  | nil => intro i; exact ⟨[], by simpa using Env.nil, List.Sublist.refl _⟩
  | un q ih => intro i; cases i with
    | zero => exact ⟨_, .un q, List.Sublist.refl _⟩
    | succ i => obtain ⟨f, a, b⟩ := ih i; exact ⟨f, .un a, b⟩
  | p q1 q ih => intro i; cases i with
    | zero => exact ⟨_, .un q, List.Sublist.refl _⟩
    | succ i => obtain ⟨f, a, b⟩ := ih i; exact ⟨f, .p q1 a, b⟩
  | o q1 q2 q ih => intro i; cases i with
    | zero => exact ⟨_, .un q, List.sublist_cons_self _ _⟩
    | succ i => obtain ⟨f, a, b⟩ := ih i; exact ⟨_, .o q1 q2 a, b.cons_cons _⟩
  | s q1 q ih => intro i; cases i with
    | zero => exact ⟨_, .un q, List.Sublist.refl _⟩
    | succ i => obtain ⟨f, a, b⟩ := ih i; exact ⟨f, .s q1 a, b⟩
  | k q1 q2 q3 q ih => intro i; cases i with
    | zero => exact ⟨_, .un q, List.sublist_cons_self _ _⟩
    | succ i => obtain ⟨f, a, b⟩ := ih i; exact ⟨_, .k q1 q2 q3 a, b.cons_cons _⟩
  | x q1 q ih => intro i; cases i with
    | zero => exact ⟨_, .un q, List.Sublist.refl _⟩
    | succ i => obtain ⟨f, a, b⟩ := ih i; exact ⟨f, .x q1 a, b⟩
/-- a slot gets the exception that is caught -/
theorem Env.setX {a : Addr} {cls : Value} {d : Option Addr} {y : XD} (hv : XR K B B y cls d) (h : Env K S B H σ es fp) : ∀ (i : Nat), ∃ fp', Env K S B H (σ.set i (some (.ref a))) (es.set i (.x a cls d y)) fp' ∧ fp'.Sublist fp := by
  induction h with
  | nil => intro i; exact ⟨[], by simpa using Env.nil, List.Sublist.refl _⟩
  | un q ih => intro i; cases i with
    | zero => exact ⟨_, .x hv q, List.Sublist.refl _⟩
    | succ i => obtain ⟨f, a, b⟩ := ih i; exact ⟨f, .un a, b⟩
  | p q1 q ih => intro i; cases i with
    | zero => exact ⟨_, .x hv q, List.Sublist.refl _⟩
    | succ i => obtain ⟨f, a, b⟩ := ih i; exact ⟨f, .p q1 a, b⟩
  | o q1 q2 q ih => intro i; cases i with
    | zero => exact ⟨_, .x hv q, List.sublist_cons_self _ _⟩
    | succ i => obtain ⟨f, a, b⟩ := ih i; exact ⟨_, .o q1 q2 a, b.cons_cons _⟩
  | s q1 q ih => intro i; cases i with
    | zero => exact ⟨_, .x hv q, List.Sublist.refl _⟩
    | succ i => obtain ⟨f, a, b⟩ := ih i; exact ⟨f, .s q1 a, b⟩
  | k q1 q2 q3 q ih => intro i; cases i with
    | zero => exact ⟨_, .x hv q, List.sublist_cons_self _ _⟩
    | succ i => obtain ⟨f, a, b⟩ := ih i; exact ⟨_, .k q1 q2 q3 a, b.cons_cons _⟩
  | x q1 q ih => intro i; cases i with
    | zero => exact ⟨_, .x hv q, List.Sublist.refl _⟩
    | succ i => obtain ⟨f, a, b⟩ := ih i; exact ⟨f, .x q1 a, b⟩
/-- a slot gets a list of its own, at an address that no slot owns -/
theorem Env.setO {a : Addr} {xs : List V} {ds : List D} (h1 : H a = some (.lst xs)) (h2 : DpAll K B xs ds) (h : Env K S B H σ es fp) (hf : a ∉ fp) (hd : fp.Nodup) : ∀ (i : Nat), i < es.length → ∃ fp', Env K S B H (σ.set i (some (.ref a))) (es.set i (.o ds)) fp' ∧ fp'.Nodup ∧ ∀ b ∈ fp', b = a ∨ b ∈ fp := by
  induction h with
  | nil => intro i l; simp at l
  | un q ih => intro i l; cases i with
    | zero => exact ⟨_, .o h1 h2 q, List.nodup_cons.mpr ⟨hf, hd⟩, fun b hb => List.mem_cons.mp hb⟩
    | succ i => obtain ⟨f, x, y, z⟩ := ih hf hd i (by simpa using l); exact ⟨f, .un x, y, z⟩
  | p q1 q ih => intro i l; cases i with
    | zero => exact ⟨_, .o h1 h2 q, List.nodup_cons.mpr ⟨hf, hd⟩, fun b hb => List.mem_cons.mp hb⟩
    | succ i => obtain ⟨f, x, y, z⟩ := ih hf hd i (by simpa using l); exact ⟨f, .p q1 x, y, z⟩
  | @o a1 _ _ _ _ _ q1 q2 q ih => intro i l; cases i with
    | zero => exact ⟨_, .o h1 h2 q, List.nodup_cons.mpr ⟨fun z => hf (List.mem_cons_of_mem _ z), (List.nodup_cons.mp hd).2⟩, fun b hb => (List.mem_cons.mp hb).imp_right (List.mem_cons_of_mem _)⟩
    | succ i =>
      obtain ⟨f, x, y, z⟩ := ih (fun z => hf (List.mem_cons_of_mem _ z)) (List.nodup_cons.mp hd).2 i (by simpa using l)
      refine ⟨_, .o q1 q2 x, List.nodup_cons.mpr ⟨fun w => ?_, y⟩, fun b hb => ?_⟩
      · rcases z _ w with e | e
        · exact hf (e ▸ List.mem_cons_self)
        · exact (List.nodup_cons.mp hd).1 e
      · rcases List.mem_cons.mp hb with e | e
        · exact .inr (e ▸ List.mem_cons_self)
        · exact (z b e).imp_right (List.mem_cons_of_mem _)
  | s q1 q ih => intro i l; cases i with
    | zero => exact ⟨_, .o h1 h2 q, List.nodup_cons.mpr ⟨hf, hd⟩, fun b hb => List.mem_cons.mp hb⟩
    | succ i => obtain ⟨f, x, y, z⟩ := ih hf hd i (by simpa using l); exact ⟨f, .s q1 x, y, z⟩
  | @k a1 _ _ _ _ _ _ q1 q2 q3 q ih => intro i l; cases i with
    | zero => exact ⟨_, .o h1 h2 q, List.nodup_cons.mpr ⟨fun z => hf (List.mem_cons_of_mem _ z), (List.nodup_cons.mp hd).2⟩, fun b hb => (List.mem_cons.mp hb).imp_right (List.mem_cons_of_mem _)⟩
    | succ i =>
      obtain ⟨f, x, y, z⟩ := ih (fun z => hf (List.mem_cons_of_mem _ z)) (List.nodup_cons.mp hd).2 i (by simpa using l)
      refine ⟨_, .k q1 q2 q3 x, List.nodup_cons.mpr ⟨fun w => ?_, y⟩, fun b hb => ?_⟩
      · rcases z _ w with e | e
        · exact hf (e ▸ List.mem_cons_self)
        · exact (List.nodup_cons.mp hd).1 e
      · rcases List.mem_cons.mp hb with e | e
        · exact .inr (e ▸ List.mem_cons_self)
        · exact (z b e).imp_right (List.mem_cons_of_mem _)
  | x q1 q ih => intro i l; cases i with
    | zero => exact ⟨_, .o h1 h2 q, List.nodup_cons.mpr ⟨hf, hd⟩, fun b hb => List.mem_cons.mp hb⟩
    | succ i => obtain ⟨f, x, y, z⟩ := ih hf hd i (by simpa using l); exact ⟨f, .x q1 x, y, z⟩
/-- a slot gets a table of its own, at an address that no slot owns -/
theorem Env.setK {a : Addr} {kw : List (Key × V)} {n0 : Nat} {f0 : Str → Option D} (h1 : H a = some (.dK kw)) (h0 : kw.length ≤ n0) (h2 : KOk K B kw f0) (h : Env K S B H σ es fp) (hf : a ∉ fp) (hd : fp.Nodup) : ∀ (i : Nat), i < es.length → ∃ fp', Env K S B H (σ.set i (some (.ref a))) (es.set i (.k n0 f0)) fp' ∧ fp'.Nodup ∧ ∀ b ∈ fp', b = a ∨ b ∈ fp := by
  induction h with
  | nil => intro i l; simp at l
  | un q ih => intro i l; cases i with
    | zero => exact ⟨_, .k h1 h0 h2 q, List.nodup_cons.mpr ⟨hf, hd⟩, fun b hb => List.mem_cons.mp hb⟩
    | succ i => obtain ⟨f, x, y, z⟩ := ih hf hd i (by simpa using l); exact ⟨f, .un x, y, z⟩
  | p q1 q ih => intro i l; cases i with
    | zero => exact ⟨_, .k h1 h0 h2 q, List.nodup_cons.mpr ⟨hf, hd⟩, fun b hb => List.mem_cons.mp hb⟩
    | succ i => obtain ⟨f, x, y, z⟩ := ih hf hd i (by simpa using l); exact ⟨f, .p q1 x, y, z⟩
  | @o a1 _ _ _ _ _ q1 q2 q ih => intro i l; cases i with
    | zero => exact ⟨_, .k h1 h0 h2 q, List.nodup_cons.mpr ⟨fun z => hf (List.mem_cons_of_mem _ z), (List.nodup_cons.mp hd).2⟩, fun b hb => (List.mem_cons.mp hb).imp_right (List.mem_cons_of_mem _)⟩
    | succ i =>
      obtain ⟨f, x, y, z⟩ := ih (fun z => hf (List.mem_cons_of_mem _ z)) (List.nodup_cons.mp hd).2 i (by simpa using l)
      refine ⟨_, .o q1 q2 x, List.nodup_cons.mpr ⟨fun w => ?_, y⟩, fun b hb => ?_⟩
      · rcases z _ w with e | e
        · exact hf (e ▸ List.mem_cons_self)
        · exact (List.nodup_cons.mp hd).1 e
      · rcases List.mem_cons.mp hb with e | e
        · exact .inr (e ▸ List.mem_cons_self)
        · exact (z b e).imp_right (List.mem_cons_of_mem _)
  | s q1 q ih => intro i l; cases i with
    | zero => exact ⟨_, .k h1 h0 h2 q, List.nodup_cons.mpr ⟨hf, hd⟩, fun b hb => List.mem_cons.mp hb⟩
    | succ i => obtain ⟨f, x, y, z⟩ := ih hf hd i (by simpa using l); exact ⟨f, .s q1 x, y, z⟩
  | @k a1 _ _ _ _ _ _ q1 q2 q3 q ih => intro i l; cases i with
    | zero => exact ⟨_, .k h1 h0 h2 q, List.nodup_cons.mpr ⟨fun z => hf (List.mem_cons_of_mem _ z), (List.nodup_cons.mp hd).2⟩, fun b hb => (List.mem_cons.mp hb).imp_right (List.mem_cons_of_mem _)⟩
    | succ i =>
      obtain ⟨f, x, y, z⟩ := ih (fun z => hf (List.mem_cons_of_mem _ z)) (List.nodup_cons.mp hd).2 i (by simpa using l)
      refine ⟨_, .k q1 q2 q3 x, List.nodup_cons.mpr ⟨fun w => ?_, y⟩, fun b hb => ?_⟩
      · rcases z _ w with e | e
        · exact hf (e ▸ List.mem_cons_self)
        · exact (List.nodup_cons.mp hd).1 e
      · rcases List.mem_cons.mp hb with e | e
        · exact .inr (e ▸ List.mem_cons_self)
        · exact (z b e).imp_right (List.mem_cons_of_mem _)
  | x q1 q ih => intro i l; cases i with
    | zero => exact ⟨_, .k h1 h0 h2 q, List.nodup_cons.mpr ⟨hf, hd⟩, fun b hb => List.mem_cons.mp hb⟩
    | succ i => obtain ⟨f, x, y, z⟩ := ih hf hd i (by simpa using l); exact ⟨f, .x q1 x, y, z⟩
/-- the list that a slot owns is changed -/
theorem Env.wrO {xs : List V} {ds : List D} (h2 : DpAll K B xs ds) (h : Env K S B H σ es fp) (hd : fp.Nodup) : ∀ {i : Nat} {ds0 : List D}, es[i]? = some (.o ds0) → ∃ a, σ[i]? = some (some (.ref a)) ∧ a ∈ fp ∧ Env K S B (upd H a (.lst xs)) σ (es.set i (.o ds)) fp := by
  induction h with
  | nil => intro i d e; simp at e
  | un q ih => intro i d e; cases i with
    | zero => simp at e
    | succ i => obtain ⟨a, x, y, z⟩ := ih hd (i := i) (by simpa using e); exact ⟨a, by simpa using x, y, .un z⟩
  | p q1 q ih => intro i d e; cases i with
    | zero => simp at e
    | succ i => obtain ⟨a, x, y, z⟩ := ih hd (i := i) (by simpa using e); exact ⟨a, by simpa using x, y, .p q1 z⟩
  | @o a1 ys cs σ1 es1 fp1 q1 q2 q ih => intro i d e; cases i with
    | zero => exact ⟨a1, rfl, List.mem_cons_self, .o upd_same h2 (q.mono Ex.rfl fun b hb => upd_ne fun z => (List.nodup_cons.mp hd).1 (z ▸ hb))⟩
    | succ i =>
      obtain ⟨a, x, y, z⟩ := ih (List.nodup_cons.mp hd).2 (i := i) (by simpa using e)
      exact ⟨a, by simpa using x, List.mem_cons_of_mem _ y, .o ((upd_ne fun w => (List.nodup_cons.mp hd).1 (by rw [w]; exact y)).trans q1) q2 z⟩
  | s q1 q ih => intro i d e; cases i with
    | zero => simp at e
    | succ i => obtain ⟨a, x, y, z⟩ := ih hd (i := i) (by simpa using e); exact ⟨a, by simpa using x, y, .s q1 z⟩
  | @k a1 _ _ _ _ _ _ q1 q2 q3 q ih => intro i d e; cases i with
    | zero => simp at e
    | succ i =>
      obtain ⟨a, x, y, z⟩ := ih (List.nodup_cons.mp hd).2 (i := i) (by simpa using e)
      exact ⟨a, by simpa using x, List.mem_cons_of_mem _ y, .k ((upd_ne fun w => (List.nodup_cons.mp hd).1 (by rw [w]; exact y)).trans q1) q2 q3 z⟩
  | x q1 q ih => intro i d e; cases i with
    | zero => simp at e
    | succ i => obtain ⟨a, x, y, z⟩ := ih hd (i := i) (by simpa using e); exact ⟨a, by simpa using x, y, .x q1 z⟩
/-- the table that a slot owns is changed -/
theorem Env.wrK {kw : List (Key × V)} {n1 : Nat} {f1 : Str → Option D} (h0 : kw.length ≤ n1) (h2 : KOk K B kw f1) (h : Env K S B H σ es fp) (hd : fp.Nodup) : ∀ {i : Nat} {n0 : Nat} {f0 : Str → Option D}, es[i]? = some (.k n0 f0) → ∃ a, σ[i]? = some (some (.ref a)) ∧ a ∈ fp ∧ Env K S B (upd H a (.dK kw)) σ (es.set i (.k n1 f1)) fp := by
  induction h with
  | nil => intro i n0 f0 e; simp at e
  | un q ih => intro i n0 f0 e; cases i with
    | zero => simp at e
    | succ i => obtain ⟨a, x, y, z⟩ := ih hd (i := i) (by simpa using e); exact ⟨a, by simpa using x, y, .un z⟩
  | p q1 q ih => intro i n0 f0 e; cases i with
    | zero => simp at e
    | succ i => obtain ⟨a, x, y, z⟩ := ih hd (i := i) (by simpa using e); exact ⟨a, by simpa using x, y, .p q1 z⟩
  | @o a1 ys cs σ1 es1 fp1 q1 q2 q ih => intro i n0 f0 e; cases i with
    | zero => simp at e
    | succ i =>
      obtain ⟨a, x, y, z⟩ := ih (List.nodup_cons.mp hd).2 (i := i) (by simpa using e)
      exact ⟨a, by simpa using x, List.mem_cons_of_mem _ y, .o ((upd_ne fun w => (List.nodup_cons.mp hd).1 (by rw [w]; exact y)).trans q1) q2 z⟩
  | s q1 q ih => intro i n0 f0 e; cases i with
    | zero => simp at e
    | succ i => obtain ⟨a, x, y, z⟩ := ih hd (i := i) (by simpa using e); exact ⟨a, by simpa using x, y, .s q1 z⟩
  | @k a1 _ _ _ _ _ _ q1 q2 q3 q ih => intro i n0 f0 e; cases i with
    | zero => exact ⟨a1, rfl, List.mem_cons_self, .k upd_same h0 h2 (q.mono Ex.rfl fun b hb => upd_ne fun z => (List.nodup_cons.mp hd).1 (z ▸ hb))⟩
    | succ i =>
      obtain ⟨a, x, y, z⟩ := ih (List.nodup_cons.mp hd).2 (i := i) (by simpa using e)
      exact ⟨a, by simpa using x, List.mem_cons_of_mem _ y, .k ((upd_ne fun w => (List.nodup_cons.mp hd).1 (by rw [w]; exact y)).trans q1) q2 q3 z⟩
  | x q1 q ih => intro i n0 f0 e; cases i with
    | zero => simp at e
    | succ i => obtain ⟨a, x, y, z⟩ := ih hd (i := i) (by simpa using e); exact ⟨a, by simpa using x, y, .x q1 z⟩
end
end Fw
namespace Fw
open PySem PySem.Spec L2

/-- what a body knows of its heap: from (B0, H0), at its call, to (B, H) -/
structure Sim (K : Fg) (S : SA) (B0 H0 : Hp) (σ : L2.St) (es : En) (B H : Hp) : Prop where
  gs : GrS S B0 H0 B H
  sf : SprF B S
  s0 : ∀ a, S.has a → H0 a ≠ none
  env : ∃ fp, Env K S B H σ es fp ∧ fp.Nodup ∧ ∀ a ∈ fp, B a = none ∧ H0 a = none
section
variable {K : Fg} {S : SA} {B0 H0 B H B' H' : Hp} {σ : L2.St} {es : En}
theorem Sim.bh (s : Sim K S B0 H0 σ es B H) : Ex B H := s.gs.bh
theorem Sim.step (s : Sim K S B0 H0 σ es B H) (g : GrS S B H B' H') : Sim K S B0 H0 σ es B' H' := by
  obtain ⟨fp, e, n, f⟩ := s.env
  refine ⟨s.gs.trans g, ?_, s.s0, fp, e.mono g.bb fun a q => ?_, n, fun a q => ⟨(g.ne a (e.live a q)).trans (f a q).1, (f a q).2⟩⟩
  · rcases S with _ | ⟨p, t⟩
    · trivial
    · have h1 := s.sf
      exact ⟨(g.ne p (SprO.get s.gs.sp (.inl rfl))).trans h1.1, (g.ne t (SprO.get s.gs.sp (.inr rfl))).trans h1.2⟩
  · cases c : H a with
    | none => exact absurd c (e.live a q)
    | some o => exact g.hh a o c fun z => s.s0 a z (f a q).2
theorem Sim.gr (s : Sim K S B0 H0 σ es B H) (g : Gr B H B' H') : GrS S B H B' H' := g.s s.gs.sp
theorem Sim.rfl (s : Sim K S B0 H0 σ es B H) : GrS S B H B H := (Gr.rfl s.bh).s s.gs.sp
theorem Sim.setP (s : Sim K S B0 H0 σ es B H) {v : V} {d : D} (h : Dp K B v d) (i : Nat) : Sim K S B0 H0 (σ.set i (some v)) (es.set i (.p d)) B H := by
  obtain ⟨fp, e, n, f⟩ := s.env
  obtain ⟨fp', e', sub⟩ := e.setP h i
  exact ⟨s.gs, s.sf, s.s0, fp', e', sub.nodup n, fun a q => f a (sub.subset q)⟩
theorem Sim.setU (s : Sim K S B0 H0 σ es B H) (x : Option V) (i : Nat) : Sim K S B0 H0 (σ.set i x) (es.set i .un) B H := by
  obtain ⟨fp, e, n, f⟩ := s.env
  obtain ⟨fp', e', sub⟩ := e.setU x i
  exact ⟨s.gs, s.sf, s.s0, fp', e', sub.nodup n, fun a q => f a (sub.subset q)⟩
theorem Sim.setX (s : Sim K S B0 H0 σ es B H) {a : Addr} {cls : Value} {d : Option Addr} {y : XD} (h : XR K B B y cls d) (i : Nat) : Sim K S B0 H0 (σ.set i (some (.ref a))) (es.set i (.x a cls d y)) B H := by
  obtain ⟨fp, e, n, f⟩ := s.env
  obtain ⟨fp', e', sub⟩ := e.setX h i
  exact ⟨s.gs, s.sf, s.s0, fp', e', sub.nodup n, fun a q => f a (sub.subset q)⟩
/-- a new list of the body's own -/
theorem Sim.setO (s : Sim K S B0 H0 σ es B H) {a : Addr} {xs : List V} {ds : List D} (h0 : H0 a = none) (hb : B a = none) (h1 : H a = some (.lst xs)) (h2 : DpAll K B xs ds) (hf : ∀ fp, Env K S B H σ es fp → (∀ b ∈ fp, B b = none ∧ H0 b = none) → ∃ fp', Env K S B H σ es fp' ∧ fp'.Nodup ∧ a ∉ fp' ∧ ∀ b ∈ fp', B b = none ∧ H0 b = none) (i : Nat) (hi : i < es.length) :
    Sim K S B0 H0 (σ.set i (some (.ref a))) (es.set i (.o ds)) B H := by
  obtain ⟨fp, e, n, f⟩ := s.env
  obtain ⟨fq, e, n, nf, f⟩ := hf fp e f
  obtain ⟨fp', e', n', sub⟩ := e.setO h1 h2 nf n i hi
  refine ⟨s.gs, s.sf, s.s0, fp', e', n', fun b q => ?_⟩
  rcases sub b q with rfl | q
  · exact ⟨hb, h0⟩
  · exact f b q
/-- a list is laid anew and taken by a slot -/
theorem Sim.newO (s : Sim K S B0 H0 σ es B H) {a : Addr} {xs : List V} {ds : List D} (hn : H a = none) (h2 : DpAll K B xs ds) (i : Nat) (hi : i < es.length) :
    Sim K S B0 H0 (σ.set i (some (.ref a))) (es.set i (.o ds)) B (upd H a (.lst xs)) := by
  have s1 := s.step (s.gr (Gr.own (o := .lst xs) s.bh hn))
  have h0 : H0 a = none := by
    cases e : H0 a with
    | none => rfl
    | some o => exact absurd hn (s.gs.ex (by rw [e]; exact fun z => nomatch z))
  refine s1.setO h0 (s.bh.back hn) upd_same h2 (fun _ _ _ => ?_) i hi
  obtain ⟨fp, e, n, f⟩ := s.env
  have na : a ∉ fp := fun z => e.live a z hn
  exact ⟨fp, e.mono Ex.rfl fun b q => upd_ne fun z => na (z ▸ q), n, na, f⟩
/-- the list of a slot becomes another one -/
theorem Sim.wrO (s : Sim K S B0 H0 σ es B H) {xs : List V} {ds ds0 : List D} (h2 : DpAll K B xs ds) {i : Nat} (hi : es[i]? = some (.o ds0)) {a : Addr} (ha : σ[i]? = some (some (.ref a))) :
    Sim K S B0 H0 σ (es.set i (.o ds)) B (upd H a (.lst xs)) := by
  obtain ⟨fp, e, n, f⟩ := s.env
  obtain ⟨a', q1, q2, q3⟩ := e.wrO h2 n hi
  rw [ha] at q1
  obtain rfl : a = a' := by injection (Option.some.inj q1)  with z; injection z
  have fa := f a q2
  have nS : ¬ S.has a := fun z => s.s0 a z fa.2
  refine ⟨⟨s.gs.bb, fun b o h0 hs => ?_, fun b o hb => ?_, s.gs.ne, s.gs.sp.kept fun b hb => upd_ne fun z => nS (z ▸ hb)⟩, s.sf, s.s0, fp, q3, n, f⟩
  · rw [upd_ne fun z => by rw [z, fa.2] at h0; cases h0]
    exact s.gs.hh b o h0 hs
  · rw [upd_ne fun z => by rw [z, fa.1] at hb; cases hb]
    exact s.gs.bh b o hb
/-- a new table of the body's own -/
theorem Sim.setK (s : Sim K S B0 H0 σ es B H) {a : Addr} {kw : List (Key × V)} {n1 : Nat} {f1 : Str → Option D} (h0 : H0 a = none) (hb : B a = none) (h1 : H a = some (.dK kw)) (hz : kw.length ≤ n1) (h2 : KOk K B kw f1) (hf : ∀ fp, Env K S B H σ es fp → (∀ b ∈ fp, B b = none ∧ H0 b = none) → ∃ fp', Env K S B H σ es fp' ∧ fp'.Nodup ∧ a ∉ fp' ∧ ∀ b ∈ fp', B b = none ∧ H0 b = none) (i : Nat) (hi : i < es.length) :
    Sim K S B0 H0 (σ.set i (some (.ref a))) (es.set i (.k n1 f1)) B H := by
  obtain ⟨fp, e, n, f⟩ := s.env
  obtain ⟨fq, e, n, nf, f⟩ := hf fp e f
  obtain ⟨fp', e', n', sub⟩ := e.setK h1 hz h2 nf n i hi
  refine ⟨s.gs, s.sf, s.s0, fp', e', n', fun b q => ?_⟩
  rcases sub b q with rfl | q
  · exact ⟨hb, h0⟩
  · exact f b q
/-- a table is laid anew and taken by a slot -/
theorem Sim.newK (s : Sim K S B0 H0 σ es B H) {a : Addr} {kw : List (Key × V)} {n1 : Nat} {f1 : Str → Option D} (hn : H a = none) (hz : kw.length ≤ n1) (h2 : KOk K B kw f1) (i : Nat) (hi : i < es.length) :
    Sim K S B0 H0 (σ.set i (some (.ref a))) (es.set i (.k n1 f1)) B (upd H a (.dK kw)) := by
  have s1 := s.step (s.gr (Gr.own (o := .dK kw) s.bh hn))
  have h0 : H0 a = none := by
    cases e : H0 a with
    | none => rfl
    | some o => exact absurd hn (s.gs.ex (by rw [e]; exact fun z => nomatch z))
  refine s1.setK h0 (s.bh.back hn) upd_same hz h2 (fun _ _ _ => ?_) i hi
  obtain ⟨fp, e, n, f⟩ := s.env
  have na : a ∉ fp := fun z => e.live a z hn
  exact ⟨fp, e.mono Ex.rfl fun b q => upd_ne fun z => na (z ▸ q), n, na, f⟩
/-- the table of a slot becomes another one -/
theorem Sim.wrK (s : Sim K S B0 H0 σ es B H) {kw : List (Key × V)} {n1 n0 : Nat} {f1 f0 : Str → Option D} (hz : kw.length ≤ n1) (h2 : KOk K B kw f1) {i : Nat} (hi : es[i]? = some (.k n0 f0)) {a : Addr} (ha : σ[i]? = some (some (.ref a))) :
    Sim K S B0 H0 σ (es.set i (.k n1 f1)) B (upd H a (.dK kw)) := by
  obtain ⟨fp, e, n, f⟩ := s.env
  obtain ⟨a', q1, q2, q3⟩ := e.wrK hz h2 n hi
  rw [ha] at q1
  obtain rfl : a = a' := by injection (Option.some.inj q1)  with z; injection z
  have fa := f a q2
  have nS : ¬ S.has a := fun z => s.s0 a z fa.2
  refine ⟨⟨s.gs.bb, fun b o h0 hs => ?_, fun b o hb => ?_, s.gs.ne, s.gs.sp.kept fun b hb => upd_ne fun z => nS (z ▸ hb)⟩, s.sf, s.s0, fp, q3, n, f⟩
  · rw [upd_ne fun z => by rw [z, fa.2] at h0; cases h0]
    exact s.gs.hh b o h0 hs
  · rw [upd_ne fun z => by rw [z, fa.1] at hb; cases hb]
    exact s.gs.bh b o hb
/-- the list of a slot is taken up by the plain data: nothing writes it any more -/
theorem Env.frz {fp : List Addr} (h : Env K S B H σ es fp) (n : fp.Nodup) : ∀ {i : Nat} {ds : List D}, es[i]? = some (.o ds) → ∃ a xs fp', σ[i]? = some (some (.ref a)) ∧ H a = some (.lst xs) ∧ DpAll K B xs ds ∧ a ∈ fp ∧ a ∉ fp' ∧ fp'.Sublist fp ∧
    (∀ B', Ex B B' → Dp K B' (.ref a) (.list ds) → Env K S B' H σ (es.set i (.p (.list ds))) fp') := by
  induction h with
  | nil => intro i ds e; simp at e
  | un q ih => intro i ds e; cases i with
    | zero => simp at e
    | succ i =>
      obtain ⟨a, xs, f, h1, h2, h3, h4, h5, h6, h7⟩ := ih n (i := i) (by simpa using e)
      exact ⟨a, xs, f, by simpa using h1, h2, h3, h4, h5, h6, fun B' x y => .un (h7 B' x y)⟩
  | p q1 q ih => intro i ds e; cases i with
    | zero => simp at e
    | succ i =>
      obtain ⟨a, xs, f, h1, h2, h3, h4, h5, h6, h7⟩ := ih n (i := i) (by simpa using e)
      exact ⟨a, xs, f, by simpa using h1, h2, h3, h4, h5, h6, fun B' x y => .p (x.dp q1) (h7 B' x y)⟩
  | o q1 q2 q ih => intro i ds e; cases i with
    | zero =>
      simp at e
      subst e
      exact ⟨_, _, _, rfl, q1, q2, List.mem_cons_self, (List.nodup_cons.mp n).1, List.sublist_cons_self _ _, fun B' x y => .p y (q.mono x fun _ _ => rfl)⟩
    | succ i =>
      obtain ⟨a, xs, f, h1, h2, h3, h4, h5, h6, h7⟩ := ih (List.nodup_cons.mp n).2 (i := i) (by simpa using e)
      refine ⟨a, xs, _, by simpa using h1, h2, h3, List.mem_cons_of_mem _ h4, fun z => ?_, h6.cons_cons _, fun B' x y => .o q1 (x.dps q2) (h7 B' x y)⟩
      rcases List.mem_cons.mp z with z | z
      · exact (List.nodup_cons.mp n).1 (z ▸ h4)
      · exact h5 z
  | s q1 q ih => intro i ds e; cases i with
    | zero => simp at e
    | succ i =>
      obtain ⟨a, xs, f, h1, h2, h3, h4, h5, h6, h7⟩ := ih n (i := i) (by simpa using e)
      exact ⟨a, xs, f, by simpa using h1, h2, h3, h4, h5, h6, fun B' x y => .s q1 (h7 B' x y)⟩
  | k q1 q2 q3 q ih => intro i ds e; cases i with
    | zero => simp at e
    | succ i =>
      obtain ⟨a, xs, f, h1, h2, h3, h4, h5, h6, h7⟩ := ih (List.nodup_cons.mp n).2 (i := i) (by simpa using e)
      refine ⟨a, xs, _, by simpa using h1, h2, h3, List.mem_cons_of_mem _ h4, fun z => ?_, h6.cons_cons _, fun B' x y => .k q1 q2 (fun w => (q3 w).mono x) (h7 B' x y)⟩
      rcases List.mem_cons.mp z with z | z
      · exact (List.nodup_cons.mp n).1 (z ▸ h4)
      · exact h5 z
  | x q1 q ih => intro i ds e; cases i with
    | zero => simp at e
    | succ i =>
      obtain ⟨a, xs, f, h1, h2, h3, h4, h5, h6, h7⟩ := ih n (i := i) (by simpa using e)
      exact ⟨a, xs, f, by simpa using h1, h2, h3, h4, h5, h6, fun B' x y => .x (q1.mono x) (h7 B' x y)⟩
theorem Sim.frz (s : Sim K S B0 H0 σ es B H) {i : Nat} {ds : List D} (hi : es[i]? = some (.o ds)) : ∃ B', Ex B B' ∧ Sim K S B0 H0 σ (es.set i (.p (.list ds))) B' H := by
  obtain ⟨fp, e, n, f⟩ := s.env
  obtain ⟨a, xs, fp', h1, h2, h3, h4, h5, h6, h7⟩ := e.frz n hi
  have fa := f a h4
  have eb : Ex B (upd B a (.lst xs)) := Ex.new fa.1
  have nS : ¬ S.has a := fun z => s.s0 a z fa.2
  have dp : Dp K (upd B a (.lst xs)) (.ref a) (.list ds) := .lst (SqL.of upd_same) (eb.dps h3)
  have nu : ∀ b, b ≠ a → upd B a (.lst xs) b = B b := fun b z => upd_ne z
  refine ⟨_, eb, ⟨s.gs.bb.trans eb, s.gs.hh, fun b o q => ?_, fun b q => ?_, s.gs.sp⟩, ?_, s.s0, fp', h7 _ eb dp, h6.nodup n, fun b q => ?_⟩
  · by_cases c : b = a
    · subst c
      rw [upd_same] at q
      rw [h2]; exact q
    · rw [upd_ne c] at q
      exact s.gs.bh b o q
  · have c : b ≠ a := fun z => q (z ▸ fa.2)
    rw [upd_ne c]
    exact s.gs.ne b q
  · rcases S with _ | ⟨p, t⟩
    · trivial
    · have q := s.sf
      exact ⟨(nu p fun z => nS (.inl z.symm)).trans q.1, (nu t fun z => nS (.inr z.symm)).trans q.2⟩
  · have c : b ≠ a := fun z => h5 (z ▸ q)
    rw [upd_ne c]
    exact f b (h6.subset q)
end

/-! ### readings over data -/
abbrev XP := XD → Prop
abbrev DE := En → (D → Prop) → XP → Prop
abbrev DT := En → (Bool → Prop) → XP → Prop
abbrev DA := En → (List D → Prop) → XP → Prop
structure Eo where
  nx : En → Prop
  rt : D → Prop
  bk : En → Prop := fun _ => False
  ct : En → Prop := fun _ => False
  xx : XD → En → Prop
abbrev DS := Eo → En → Prop

structure SE (K : Fg) (W : WX) (te : TE) (me : DE) : Prop where
  run : ∀ {S : SA} {B0 H0 B H : Hp} {σ : L2.St} {es : En}, Sim K S B0 H0 σ es B H → ∀ (P : D → Prop) (X : XP) (Q : VK), me es P X →
    (∀ d v B' H', P d → GrS S B H B' H' → Dp K B' v d → Q v H') → (∀ x cls dd B' H', X x → GrS S B H B' H' → XR K B' H' x cls dd → W cls dd σ H') → te σ H Q
structure ST (K : Fg) (W : WX) (te : TT) (me : DT) : Prop where
  run : ∀ {S : SA} {B0 H0 B H : Hp} {σ : L2.St} {es : En}, Sim K S B0 H0 σ es B H → ∀ (P : Bool → Prop) (X : XP) (Q : Bool → Hp → Prop), me es P X →
    (∀ b B' H', P b → GrS S B H B' H' → Q b H') → (∀ x cls dd B' H', X x → GrS S B H B' H' → XR K B' H' x cls dd → W cls dd σ H') → te σ H Q
structure SAr (K : Fg) (W : WX) (te : TA) (me : DA) : Prop where
  run : ∀ {S : SA} {B0 H0 B H : Hp} {σ : L2.St} {es : En}, Sim K S B0 H0 σ es B H → ∀ (P : List D → Prop) (X : XP) (Q : List V → Hp → Prop), me es P X →
    (∀ ds vs B' H', P ds → GrS S B H B' H' → DpAll K B' vs ds → Q vs H') → (∀ x cls dd B' H', X x → GrS S B H B' H' → XR K B' H' x cls dd → W cls dd σ H') → te σ H Q
structure SS (K : Fg) (W : WX) (ts : TS) (ms : DS) : Prop where
  run : ∀ {S : SA} {B0 H0 B H : Hp} {σ : L2.St} {es : En}, Sim K S B0 H0 σ es B H → ∀ (E : Eo) (Z : Ends), ms E es →
    (∀ σ' es' B' H', E.nx es' → Sim K S B0 H0 σ' es' B' H' → Ex B B' → Z.nx σ' H') → (∀ σ' es' d v B' H', E.rt d → Sim K S B0 H0 σ' es' B' H' → Dp K B' v d → Z.rt v H') →
    (∀ σ' es' B' H', E.bk es' → Sim K S B0 H0 σ' es' B' H' → Ex B B' → Z.bk σ' H') → (∀ σ' es' B' H', E.ct es' → Sim K S B0 H0 σ' es' B' H' → Ex B B' → Z.ct σ' H') →
    (∀ x cls dd σ' es' B' H', E.xx x es' → Sim K S B0 H0 σ' es' B' H' → Ex B B' → XR K B' H' x cls dd → W cls dd σ' H') → ts Z σ H
/-- a target: it takes a value of plain data -/
abbrev DG := D → En → (En → Prop) → Prop
abbrev DGs := List D → En → (En → Prop) → Prop
structure SG (K : Fg) (tg : TG) (mg : DG) (vs : List Nat) : Prop where
  run : ∀ {S : SA} {B0 H0 B H : Hp} {σ : L2.St} {es : En} {v : V} {d : D}, Sim K S B0 H0 σ es B H → Dp K B v d → ∀ (P : En → Prop) (Q : L2.St → Hp → Prop), mg d es P →
    (∀ σ' es', P es' → Sim K S B0 H0 σ' es' B H → (∀ ws, vs ⊆ ws → wipe σ' ws = wipe σ ws) → Q σ' H) → tg v σ H Q
structure SGs (K : Fg) (tg : TGs) (mg : DGs) (vs : List Nat) : Prop where
  run : ∀ {S : SA} {B0 H0 B H : Hp} {σ : L2.St} {es : En} {us : List V} {ds : List D}, Sim K S B0 H0 σ es B H → DpAll K B us ds → ∀ (P : En → Prop) (Q : L2.St → Hp → Prop), mg ds es P →
    (∀ σ' es', P es' → Sim K S B0 H0 σ' es' B H → (∀ ws, vs ⊆ ws → wipe σ' ws = wipe σ ws) → Q σ' H) → tg us σ H Q

/-- a piece of syntax and its reading over data -/
def XE (X : Cx) (K : Fg) (W : WX) (e : Expr) (te : TE) (me : DE) : Prop := PE X e te ∧ SE K W te me
def XT (X : Cx) (K : Fg) (W : WX) (e : Expr) (te : TT) (me : DT) : Prop := PT X e te ∧ ST K W te me
def XW (X : Cx) (K : Fg) (W : WX) (e : Expr) (te : TT) (me : DT) : Prop := PW X e te ∧ ST K W te me
def XA (X : Cx) (K : Fg) (W : WX) (es : List Expr) (te : TA) (me : DA) : Prop := PA X es te ∧ SAr K W te me
def XK' (X : Cx) (K : Fg) (W : WX) (es : List Keyword) (te : TA) (me : DA) : Prop := PK X es te ∧ SAr K W te me
def XS (X : Cx) (K : Fg) (W : WX) (s : Stmt) (ts : TS) (ms : DS) : Prop := PS X s ts ∧ SS K W ts ms
def XB (X : Cx) (K : Fg) (W : WX) (s : List Stmt) (ts : TS) (ms : DS) : Prop := PSs X s ts ∧ SS K W ts ms
def XG (X : Cx) (K : Fg) (e : Expr) (tg : TG) (mg : DG) (vs : List Nat) : Prop := PG X e tg ∧ SG K tg mg vs
def XGs (X : Cx) (K : Fg) (es : List Expr) (tg : TGs) (mg : DGs) (vs : List Nat) : Prop := PGs X es tg ∧ SGs K tg mg vs
/-- .. whose answer is a list that nobody else has -/
structure SN (K : Fg) (W : WX) (te : TE) (mn : DA) : Prop where
  run : ∀ {S : SA} {B0 H0 B H : Hp} {σ : L2.St} {es : En}, Sim K S B0 H0 σ es B H → ∀ (P : List D → Prop) (X : XP) (Q : VK), mn es P X →
    (∀ ds p xs B' H', P ds → GrS S B H B' H' → H p = none → B' p = none → H' p = some (.lst xs) → DpAll K B' xs ds → Q (.ref p) H') → (∀ x cls dd B' H', X x → GrS S B H B' H' → XR K B' H' x cls dd → W cls dd σ H') → te σ H Q
def XN (X : Cx) (K : Fg) (W : WX) (e : Expr) (te : TE) (mn : DA) : Prop := PE X e te ∧ SN K W te mn
/-- a pair of grown heaps, the new list then taken up -/
theorem GrS.frz {S : SA} {B H B' H' : Hp} {p : Addr} {xs : List V} (g : GrS S B H B' H') (hn : H p = none) (hb : B' p = none) (h : H' p = some (.lst xs)) : GrS S B H (upd B' p (.lst xs)) H' :=
  ⟨g.bb.trans (Ex.new hb), g.hh, fun a o q => by
    by_cases c : a = p
    · subst c
      rw [upd_same] at q
      rw [h]; exact q
    · rw [upd_ne c] at q
      exact g.bh a o q, fun a q => by
    have c : a ≠ p := fun z => q (z ▸ hn)
    rw [upd_ne c]
    exact g.ne a q, g.sp⟩
def dNew (mn : DA) : DE := fun es P X => mn es (fun ds => P (.list ds)) X
theorem se_new {K : Fg} {W : WX} {te : TE} {mn : DA} (h : SN K W te mn) : SE K W te (dNew mn) := ⟨fun s P X Q q k kx => h.run s _ X _ q (fun ds p xs B' H' hp g hn hb hh dp =>
  k _ _ _ _ hp (g.frz hn hb hh) (.lst (SqL.of upd_same) ((Ex.new hb).dps dp))) kx⟩
theorem xe_new {X : Cx} {K : Fg} {W : WX} {e : Expr} {te : TE} {mn : DA} (h : XN X K W e te mn) : XE X K W e te (dNew mn) := ⟨h.1, se_new h.2⟩

/-! ### names, constants -/
def dVar (i : Nat) : DE := fun es P _ => ∃ d, es[i]? = some (.p d) ∧ P d
def dC (d : D) : DE := fun _ P _ => P d
theorem se_var {K : Fg} {W : WX} {i : Nat} : SE K W (tVar i) (dVar i) := ⟨fun s P X Q h k _ => by
  obtain ⟨d, e, p⟩ := h
  obtain ⟨fp, env, _⟩ := s.env
  obtain ⟨v, e2, dp⟩ := env.getP e
  exact ⟨v, e2, k d v _ _ p s.rfl dp⟩⟩
theorem se_c {K : Fg} {W : WX} {v : V} {d : D} (h : ∀ B, Dp K B v d) : SE K W (tC v) (dC d) := ⟨fun s P X Q h2 k _ => k d v _ _ h2 s.rfl (h _)⟩
section
variable {X : Cx} {K : Fg} {W : WX} {pos : Pos}
theorem xe_var (i : Nat) {x : Str} (hN : X.N[i]? = some x := by rfl) (hv : Vis X.env.scope x := by first | exact Or.inl rfl | exact Or.inr (Or.inl rfl) | exact Or.inr (Or.inr rfl)) (hd : (x == ("__debug__" : Str)) = false := by decide)
    (hcd : (x == ("__classdict__" : Str)) = false := by decide) : XE X K W (.Name x pos) (tVar i) (dVar i) := ⟨pe_var hN hv hd hcd, se_var⟩
theorem xe_int {i : Int} {j : Nat} : XE X K W (.Constant (.int i) j pos) (tC (.int i)) (dC (.int i)) := ⟨pe_int, se_c fun _ => .int i⟩
theorem xe_bl {b : Bool} {j : Nat} : XE X K W (.Constant (.bool b) j pos) (tC (.bl b)) (dC (.bool b)) := ⟨pe_bl, se_c fun _ => .bl b⟩
theorem xe_non {j : Nat} : XE X K W (.Constant .none j pos) (tC .non) (dC .none) := ⟨pe_non, se_c fun _ => .non⟩
theorem xe_str {x : Str} {j : Nat} : XE X K W (.Constant (.str x) j pos) (tC (.str x)) (dC (.str x)) := ⟨pe_str, se_c fun _ => .str x⟩
theorem xe_glob {x : Str} {v : V} {d : D} {u : Value} (hm : X.mg x = some u) (r : RelV v u) (h : ∀ B, Dp K B v d) (hg : Gl X x := by rfl) (hd : (x == ("__debug__" : Str)) = false := by decide) : XE X K W (.Name x pos) (tC v) (dC d) := ⟨pe_glob hg hm r hd, se_c h⟩
end
end Fw
namespace Fw
open PySem PySem.Spec L2

/-- what a body's derivation leans on -/
structure Ctx (X : Cx) (K : Fg) (W : WX) (k : Nat) : Prop where
  hK : X.K = K
  tk : Takes X W
  po : PassesOwn (model X.prog X.w) X.A X.env X.xe
  hr : Room k X.A
  calm : X.calm = true
  nd : X.N.Nodup

/-! ### operations on two values -/
abbrev D2 := D → D → (D → Prop) → Prop
structure RS (K : Fg) (r : R2) (rd : D2) : Prop where
  run : ∀ {B H : Hp} {x y : V} {dx dy : D}, Ex B H → Dp K B x dx → Dp K B y dy → ∀ (P : D → Prop) (Q : VK), rd dx dy P → (∀ d v B' H', P d → Gr B H B' H' → Dp K B' v d → Q v H') → r x y H Q
def dOp (rd : D2) (ma mb : DE) : DE := fun es P X => ma es (fun a => mb es (fun b => rd a b P) X) X
theorem se_op {K : Fg} {W : WX} {r : R2} {rd : D2} {ta tb : TE} {ma mb : DE} (hr : RS K r rd) (ha : SE K W ta ma) (hb : SE K W tb mb) : SE K W (tOp r ta tb) (dOp rd ma mb) := ⟨fun s P X Q h k kx => by
  refine ha.run s _ X _ h (fun a v B1 H1 h1 g1 d1 => ?_) kx
  refine hb.run (s.step g1) _ X _ h1 (fun b u B2 H2 h2 g2 d2 => ?_) (fun x c dd B' H' hx g r => kx x c dd B' H' hx (g1.trans g) r)
  exact hr.run g2.bh (g2.bb.dp d1) d2 P Q h2 fun d z B3 H3 p g3 d3 => k d z B3 H3 p (g1.trans (g2.trans ((s.step (g1.trans g2)).gr g3))) d3⟩
theorem RS.or {K : Fg} {r r' : R2} {rd rd' : D2} (a : RS K r rd) (b : RS K r' rd') : RS K (fun x y H Q => r x y H Q ∨ r' x y H Q) (fun x y P => rd x y P ∨ rd' x y P) := ⟨fun e h1 h2 P Q h k => by
  rcases h with h | h
  · exact .inl (a.run e h1 h2 P Q h k)
  · exact .inr (b.run e h1 h2 P Q h k)⟩
theorem opr_or {X : Cx} {f : Value → Value → Sem Value} {r r' : R2} (a : OpR X f r) (b : OpR X f r') : OpR X f (fun x y H Q => r x y H Q ∨ r' x y H Q) := fun pins s σ H x y v u Q I rx ry h => by
  rcases h with h | h
  · exact a pins s σ H x y v u Q I rx ry h
  · exact b pins s σ H x y v u Q I rx ry h

/-- two ints -/
def dI (C : Int → Int → Prop) (g : Int → Int → D) : D2
  | .int i, .int j, P => C i j ∧ P (g i j)
  | _, _, _ => False
theorem rs_I {K : Fg} {C : Int → Int → Prop} {g : Int → Int → V} {gd : Int → Int → D} (h : ∀ B i j, Dp K B (g i j) (gd i j)) : RS K (rI C g) (dI C gd) := ⟨fun {B H x y dx dy} e h1 h2 P Q q k => by
  cases h1 <;> cases h2 <;> try exact q.elim
  exact ⟨_, _, rfl, rfl, q.1, k _ _ _ _ q.2 (Gr.rfl e) (h _ _ _)⟩⟩
theorem rs_I0 {K : Fg} {g : Int → Int → V} {gd : Int → Int → D} (h : ∀ B i j, Dp K B (g i j) (gd i j)) : RS K (rI0 g) (dI (fun _ _ => True) gd) := ⟨fun {B H x y dx dy} e h1 h2 P Q q k => by
  cases h1 <;> cases h2 <;> try exact q.elim
  exact ⟨_, _, rfl, rfl, k _ _ _ _ q.2 (Gr.rfl e) (h _ _ _)⟩⟩
theorem RS.of {K : Fg} {r : R2} {rd rd' : D2} (a : RS K r rd) (h : ∀ x y P, rd' x y P → rd x y P) : RS K r rd' := ⟨fun e h1 h2 P Q q k => a.run e h1 h2 P Q (h _ _ _ q) k⟩

/-! #### + -/
def dAdd : D2
  | .int i, .int j, P => P (.int (i + j))
  | .str a, .str b, P => a.length + b.length ≤ 16777216 ∧ P (.str (a ++ b))
  | .list a, .list b, P => a.length + b.length ≤ 16777216 ∧ P (.list (a ++ b))
  | .tuple a, .tuple b, P => a.length + b.length ≤ 16777216 ∧ P (.tuple (a ++ b))
  | _, _, _ => False
def rStrs : R2 := fun x y H Q => ∃ i j, x = .str i ∧ y = .str j ∧ i.length + j.length ≤ sizeLine ∧ Q (.str (i ++ j)) H
def rLists (K : Fg) : R2 := fun x y H Q => ∃ l b xs zs, x = .ref l ∧ y = .ref b ∧ SqL K H l xs ∧ SqL K H b zs ∧ xs.length + zs.length ≤ sizeLine ∧ ∀ p, H p = none → Q (.ref p) (upd H p (.lst (xs ++ zs)))
theorem op_lists {X : Cx} : OpR X (binaryOp .Add) (rLists X.K) := by
  intro pins s σ H x y v u Q I rx ry h
  obtain ⟨l, b, xs, zs, rfl, rfl, hH, hB, hz, q⟩ := h
  cases rx
  cases ry
  obtain ⟨its, r, ⟨⟨cls, dd, data, sl⟩, n, ho, hc, _, hd⟩, z⟩ := I.list hH
  obtain ⟨its2, r2, ⟨⟨cls2, dd2, data2, sl2⟩, n2, ho2, hc2, _, hd2⟩, z2⟩ := I.list hB
  simp only at hc hd hc2 hd2
  subst hc hd hc2 hd2
  have hl := r.length
  have hl2 := r2.length
  have e : its.toArray ++ its2.toArray = (its ++ its2).toArray := by simp
  refine concat_meets ⟨_, ho, rfl⟩ ⟨_, ho2, rfl⟩ noFill_list_add seq_list_add PySem.F.slot_list_add PySem.F.entry_list_add (PySem.F.args_list_add_2 _ _)
    (PyProof.Rows.list_addW l b its.toArray its2.toArray n n2 dd dd2 sl sl2 (by rw [List.size_toArray, List.size_toArray]; omega)) ⟨ho, ho2, ?_⟩
  rw [e]
  exact ⟨.ref _, _, I.lnew (t' := s.toks) (r.append r2) (by rw [List.length_append]; omega), rfl, q _ I.fresh⟩
theorem sz_eq : sizeLine = 16777216 := by decide
def rAddA (K : Fg) : R2 := fun x y H Q => (rI0 (fun i j => .int (i + j))) x y H Q ∨ (rStrs x y H Q ∨ (rLists K x y H Q ∨ rCatA K x y H Q))
theorem op_addA {X : Cx} : OpR X (binaryOp .Add) (rAddA X.K) := opr_or op_add (opr_or op_add_str (opr_or op_lists op_catA))
theorem rs_add {K : Fg} : RS K (rAddA K) dAdd := ⟨fun {B H x y dx dy} e h1 h2 P Q q k => by
  cases h1 <;> cases h2 <;> try exact q.elim
  · exact .inl ⟨_, _, rfl, rfl, k _ _ _ _ q (Gr.rfl e) (.int _)⟩
  · exact .inr (.inl ⟨_, _, rfl, rfl, by rw [sz_eq]; exact q.1, k _ _ _ _ q.2 (Gr.rfl e) (.str _)⟩)
  · rename_i a xs ds s1 t1 b ys es s2 t2
    have l1 := dps_len t1
    have l2 := dps_len t2
    refine .inr (.inr (.inl ⟨_, _, _, _, rfl, rfl, e.sqL s1, e.sqL s2, by rw [sz_eq, l1, l2]; exact q.1, fun p hp => ?_⟩))
    exact k _ _ _ _ q.2 (Gr.new e hp) (.lst (SqL.of upd_same) (dps_app ((Ex.new (e.back hp)).dps t1) ((Ex.new (e.back hp)).dps t2)))
  · rename_i a xs ds s1 t1 b ys es s2 t2
    have l1 := dps_len t1
    have l2 := dps_len t2
    refine .inr (.inr (.inr ⟨_, _, _, _, rfl, rfl, e.sqT s1, e.sqT s2, by rw [sz_eq, l1, l2]; exact q.1, fun z => ?_, fun _ z => ?_, fun _ _ p hp => ?_⟩))
    · subst z
      cases t1
      exact k _ _ _ _ q.2 (Gr.rfl e) (.tup s2 t2)
    · subst z
      cases t2
      have q2 := q.2
      rw [List.append_nil] at q2
      exact k _ _ _ _ q2 (Gr.rfl e) (.tup s1 t1)
    · exact k _ _ _ _ q.2 (Gr.new e hp) (.tup (SqT.of upd_same) (dps_app ((Ex.new (e.back hp)).dps t1) ((Ex.new (e.back hp)).dps t2)))⟩

/-! #### - * // % ** of ints -/
def dSub : D2 := dI (fun _ _ => True) fun i j => .int (i - j)
def MulOk (i j : Int) : Prop := IntMulOk i j
def dMul : D2 := dI MulOk fun i j => .int (i * j)
def DivOk (_ j : Int) : Prop := j ≠ 0 ∧ j.natAbs.log2 < 9000
def dFdiv : D2 := dI DivOk fun i j => .int (i.fdiv j)
def dMod : D2 := dI (fun _ j => j ≠ 0) fun i j => .int (i.fmod j)
def dPow : D2 := dI CPow fun i j => .int (i ^ j.toNat)
theorem op_mulG {X : Cx} : OpR X (binaryOp .Mult) (rI MulOk fun i j => .int (i * j)) := opI fun _ _ _ _ _ _ _ hc q => PyProof.Rows.mul_int q hc
theorem op_fdivG {X : Cx} : OpR X (binaryOp .FloorDiv) (rI DivOk fun i j => .int (i.fdiv j)) := opI fun _ _ _ _ _ _ _ hc q => PyProof.Rows.floordiv_int hc.1 q (.inl (PyProof.noPylong_of_log2 hc.2))
theorem rs_sub {K : Fg} : RS K (rI0 fun i j => .int (i - j)) dSub := rs_I0 fun _ _ _ => .int _
theorem rs_mul {K : Fg} : RS K (rI MulOk fun i j => .int (i * j)) dMul := rs_I fun _ _ _ => .int _
theorem rs_fdiv {K : Fg} : RS K (rI DivOk fun i j => .int (i.fdiv j)) dFdiv := rs_I fun _ _ _ => .int _
theorem rs_mod {K : Fg} : RS K (rI (fun _ j => j ≠ 0) fun i j => .int (i.fmod j)) dMod := rs_I fun _ _ _ => .int _
theorem rs_pow {K : Fg} : RS K (rI CPow fun i j => .int (i ^ j.toNat)) dPow := rs_I fun _ _ _ => .int _
theorem MulOk.l {i j : Int} (h : -(2 ^ 64) < i ∧ i < 2 ^ 64) : MulOk i j := CMul.ok (.inl h)
theorem MulOk.r {i j : Int} (h : -(2 ^ 64) < j ∧ j < 2 ^ 64) : MulOk i j := CMul.ok (.inr h)
theorem MulOk.w {i j : Int} {a b : Nat} (ha : i.natAbs < 2 ^ a) (hb : j.natAbs < 2 ^ b) (h0 : 0 < a) (h1 : 0 < b) (h : a + b ≤ 1000000) : MulOk i j := (wide_mul ha hb h0 h1 h).ok
theorem DivOk.w {i j : Int} {b : Nat} (h : j ≠ 0) (hb : j.natAbs < 2 ^ b) (h0 : 0 < b) (h9 : b ≤ 9000) : DivOk i j := ⟨h, Nat.lt_of_lt_of_le (PySem.Flt.log2_lt_of h0 hb) h9⟩

/-! #### comparisons -/
def dLt : D2 := dI (fun _ _ => True) fun i j => .bool (decide (i < j))
def dLe : D2 := dI (fun _ _ => True) fun i j => .bool (decide (i ≤ j))
def dGt : D2 := dI (fun _ _ => True) fun i j => .bool (decide (j < i))
def dGe : D2 := dI (fun _ _ => True) fun i j => .bool (decide (j ≤ i))
theorem rs_lt {K : Fg} : RS K (rI0 fun i j => .bl (decide (i < j))) dLt := rs_I0 fun _ _ _ => .bl _
theorem rs_le {K : Fg} : RS K (rI0 fun i j => .bl (decide (i ≤ j))) dLe := rs_I0 fun _ _ _ => .bl _
theorem rs_gt {K : Fg} : RS K (rI0 fun i j => .bl (decide (j < i))) dGt := rs_I0 fun _ _ _ => .bl _
theorem rs_ge {K : Fg} : RS K (rI0 fun i j => .bl (decide (j ≤ i))) dGe := rs_I0 fun _ _ _ => .bl _
def dEq : D2 := fun a b P => SeqAt.shaped a = true ∧ SeqAt.shaped b = true ∧ P (.bool (PyData.eqv a b))
def dNe : D2 := fun a b P => SeqAt.shaped a = true ∧ SeqAt.shaped b = true ∧ P (.bool (!PyData.eqv a b))
theorem rs_eq {K : Fg} : RS K (rEqD K) dEq := ⟨fun e h1 h2 P Q q k => ⟨_, _, e.dp h1, e.dp h2, q.1, q.2.1, k _ _ _ _ q.2.2 (Gr.rfl e) (.bl _)⟩⟩
theorem rs_ne {K : Fg} : RS K (rNeD K) dNe := ⟨fun e h1 h2 P Q q k => ⟨_, _, e.dp h1, e.dp h2, q.1, q.2.1, k _ _ _ _ q.2.2 (Gr.rfl e) (.bl _)⟩⟩
/-! #### is, is not: of None, of truths -/
def isN : D → Bool
  | .none => true
  | _ => false
theorem isN_v {K : Fg} {B : Hp} {v : V} {d : D} (h : Dp K B v d) : decide (v = .non) = isN d := by cases h <;> simp [isN]
def rIsA : R2 := fun x y H Q => (y = .non ∧ Q (.bl (decide (x = .non))) H) ∨ rIsB x y H Q
def rNotA : R2 := fun x y H Q => (y = .non ∧ Q (.bl (!decide (x = .non))) H) ∨ rNotB x y H Q
def dIsO : D2
  | a, .none, P => P (.bool (isN a))
  | .bool a, .bool b, P => P (.bool (decide (a = b)))
  | _, _, _ => False
def dNotO : D2
  | a, .none, P => P (.bool (!isN a))
  | .bool a, .bool b, P => P (.bool (!decide (a = b)))
  | _, _, _ => False
theorem op_isA {X : Cx} : OpR X (compareOp .Is) rIsA := opr_or op_isN op_isBl
theorem op_notA {X : Cx} : OpR X (compareOp .IsNot) rNotA := opr_or op_notN op_notBl
theorem rs_is {K : Fg} : RS K rIsA dIsO := ⟨fun {B H x y dx dy} e h1 h2 P Q q k => by
  cases h2 with
  | non => exact .inl ⟨rfl, by rw [isN_v h1]; exact k _ _ _ _ (show P (.bool (isN dx)) by cases h1 <;> exact q) (Gr.rfl e) (.bl _)⟩
  | bl b => cases h1 with
    | bl a => exact .inr ⟨_, _, rfl, rfl, k _ _ _ _ q (Gr.rfl e) (.bl _)⟩
    | _ => exact q.elim
  | _ => cases h1 <;> exact q.elim⟩
theorem rs_isnot {K : Fg} : RS K rNotA dNotO := ⟨fun {B H x y dx dy} e h1 h2 P Q q k => by
  cases h2 with
  | non => exact .inl ⟨rfl, by rw [isN_v h1]; exact k _ _ _ _ (show P (.bool (!isN dx)) by cases h1 <;> exact q) (Gr.rfl e) (.bl _)⟩
  | bl b => cases h1 with
    | bl a => exact .inr ⟨_, _, rfl, rfl, k _ _ _ _ q (Gr.rfl e) (.bl _)⟩
    | _ => exact q.elim
  | _ => cases h1 <;> exact q.elim⟩
/-! #### items -/
def dIx : D2
  | .list ds, .int i, P => ∃ d, atI ds i = some d ∧ P d
  | .tuple ds, .int i, P => ∃ d, atI ds i = some d ∧ P d
  | .str z, .int i, P => z.length ≤ 16777216 ∧ ∃ c, atI z.cps.toList i = some c ∧ P (.str ⟨#[c]⟩)
  | _, _, _ => False
theorem atI_dp {K : Fg} {B : Hp} {vs : List V} {ds : List D} {i : Int} {d : D} (h : DpAll K B vs ds) (e : atI ds i = some d) : ∃ v, atI vs i = some v ∧ Dp K B v d := by
  have l := dps_len h
  unfold atI at e ⊢
  rw [l]
  cases q : ixN ds.length i with
  | none => rw [q] at e; cases e
  | some j => rw [q] at e; exact dps_get h e
theorem rs_ix {K : Fg} : RS K (rIx K) dIx := ⟨fun {B H x y dx dy} e h1 h2 P Q q k => by
  cases h1 <;> cases h2 <;> try exact q.elim
  · obtain ⟨c, z, w⟩ := q.2
    exact .inr (.inr ⟨_, _, _, rfl, rfl, by rw [sz_eq]; exact q.1, z, k _ _ _ _ w (Gr.rfl e) (.str _)⟩)
  · rename_i s1 t1 i
    obtain ⟨d, z, w⟩ := q
    obtain ⟨v, z2, dv⟩ := atI_dp t1 z
    exact .inl ⟨_, _, _, _, rfl, rfl, e.sqL s1, z2, k _ _ _ _ w (Gr.rfl e) dv⟩
  · rename_i s1 t1 i
    obtain ⟨d, z, w⟩ := q
    obtain ⟨v, z2, dv⟩ := atI_dp t1 z
    exact .inr (.inl ⟨_, _, _, _, rfl, rfl, e.sqT s1, z2, k _ _ _ _ w (Gr.rfl e) dv⟩)⟩
section
variable {X : Cx} {K : Fg} {W : WX} {a b : Expr} {ma mb : DE} {pos : Pos}
variable {ta tb : TE}
theorem xe_op {op : Operator} {r : R2} {rd : D2} (ho : OpR X (binaryOp op) r) (hr : RS K r rd) (ha : XE X K W a ta ma) (hb : XE X K W b tb mb) : XE X K W (.BinOp a op b pos) (tOp r ta tb) (dOp rd ma mb) := ⟨pe_op ho ha.1 hb.1, se_op hr ha.2 hb.2⟩
theorem xe_add {k0 : Nat} (C : Ctx X K W k0) (ha : XE X K W a ta ma) (hb : XE X K W b tb mb) : XE X K W (.BinOp a .Add b pos) (tOp (rAddA K) ta tb) (dOp dAdd ma mb) := by
  have hK := C.hK
  subst hK
  exact xe_op op_addA rs_add ha hb
theorem xe_sub (ha : XE X K W a ta ma) (hb : XE X K W b tb mb) : XE X K W (.BinOp a .Sub b pos) (tOp (rI0 fun i j => .int (i - j)) ta tb) (dOp dSub ma mb) := xe_op op_sub rs_sub ha hb
theorem xe_mul (ha : XE X K W a ta ma) (hb : XE X K W b tb mb) : XE X K W (.BinOp a .Mult b pos) (tOp (rI MulOk fun i j => .int (i * j)) ta tb) (dOp dMul ma mb) := xe_op op_mulG rs_mul ha hb
theorem xe_fdiv (ha : XE X K W a ta ma) (hb : XE X K W b tb mb) : XE X K W (.BinOp a .FloorDiv b pos) (tOp (rI DivOk fun i j => .int (i.fdiv j)) ta tb) (dOp dFdiv ma mb) := xe_op op_fdivG rs_fdiv ha hb
theorem xe_mod (ha : XE X K W a ta ma) (hb : XE X K W b tb mb) : XE X K W (.BinOp a .Mod b pos) (tOp (rI (fun _ j => j ≠ 0) fun i j => .int (i.fmod j)) ta tb) (dOp dMod ma mb) := xe_op op_modN rs_mod ha hb
theorem xe_pow (ha : XE X K W a ta ma) (hb : XE X K W b tb mb) : XE X K W (.BinOp a .Pow b pos) (tOp (rI CPow fun i j => .int (i ^ j.toNat)) ta tb) (dOp dPow ma mb) := xe_op op_pow rs_pow ha hb
theorem xe_cmp {op : CmpOp} {r : R2} {rd : D2} (ho : OpR X (compareOp op) r) (hr : RS K r rd) (ha : XE X K W a ta ma) (hb : XE X K W b tb mb) (hm : behindInMarks op b = false := by exact nomark _) : XE X K W (.Compare a [op] [b] pos) (tOp r ta tb) (dOp rd ma mb) := ⟨pe_cmpR ho ha.1 hb.1 hm, se_op hr ha.2 hb.2⟩
theorem xe_eqD {k0 : Nat} (C : Ctx X K W k0) (ha : XE X K W a ta ma) (hb : XE X K W b tb mb) (hm : behindInMarks .Eq b = false := by exact nomark _) : XE X K W (.Compare a [.Eq] [b] pos) (tOp (rEqD K) ta tb) (dOp dEq ma mb) := by
  have hK := C.hK
  subst hK
  exact xe_cmp (op_eqD C.hr.units) rs_eq ha hb hm
theorem xe_neD {k0 : Nat} (C : Ctx X K W k0) (ha : XE X K W a ta ma) (hb : XE X K W b tb mb) (hm : behindInMarks .NotEq b = false := by exact nomark _) : XE X K W (.Compare a [.NotEq] [b] pos) (tOp (rNeD K) ta tb) (dOp dNe ma mb) := by
  have hK := C.hK
  subst hK
  exact xe_cmp (op_neD C.hr.units) rs_ne ha hb hm
theorem xe_ix {k0 : Nat} (C : Ctx X K W k0) (ha : XE X K W a ta ma) (hb : XE X K W b tb mb) (hs : PlainIx b := by exact fun _ _ => rfl) : XE X K W (.Subscript a b pos) (tOp (rIx K) ta tb) (dOp dIx ma mb) := by
  have hK := C.hK
  subst hK
  exact ⟨pe_ix ix_seq ha.1 hb.1 hs, se_op rs_ix ha.2 hb.2⟩
end
/-! #### one value: -a, not -/
def dNeg (ma : DE) : DE := fun es P X => ma es (fun d => match d with
  | .int i => P (.int (-i))
  | _ => False) X
theorem xe_neg {X : Cx} {K : Fg} {W : WX} {a : Expr} {ta : TE} {ma : DE} {pos : Pos} (ha : XE X K W a ta ma) : XE X K W (.UnaryOp .USub a pos) (tUn (rU fun i => .int (-i)) ta) (dNeg ma) := by
  refine ⟨pe_un un_neg ha.1, ⟨fun s P X Q h k kx => ha.2.run s _ X _ h (fun d v B' H' p g dv => ?_) kx⟩⟩
  cases dv <;> try exact p.elim
  exact ⟨_, rfl, k _ _ _ _ p g (.int _)⟩
end Fw
namespace Fw
open PySem PySem.Spec L2

/-! ### tests -/
def dTest (ma : DE) : DT := fun es P X => ma es (fun d => match d with
  | .bool b => P b
  | _ => False) X
def truD : D → (Bool → Prop) → Prop
  | .none, P => P false
  | .bool b, P => P b
  | .int i, P => P (i != 0)
  | .str z, P => z.length ≤ 16777216 ∧ P ((z.length : Int) != 0)
  | .list ds, P => P (!ds.isEmpty)
  | .tuple ds, P => P (!ds.isEmpty)
  | _, _ => False
def dTruth (ma : DE) : DT := fun es P X => ma es (fun d => truD d P) X
def dNotT (ma : DT) : DT := fun es P X => ma es (fun b => P (!b)) X
def dAndT (ma mb : DT) : DT := fun es P X => ma es (fun b => if b = true then mb es P X else P false) X
def dOrT (ma mb : DT) : DT := fun es P X => ma es (fun b => if b = true then P true else mb es P X) X
def dAndV (ma mb : DE) : DE := fun es P X => ma es (fun d => match d with
  | .bool b => if b = true then mb es P X else P (.bool false)
  | _ => False) X
def dOrV (ma mb : DE) : DE := fun es P X => ma es (fun d => match d with
  | .bool b => if b = true then P (.bool true) else mb es P X
  | _ => False) X
def dNotV (ma : DE) : DE := fun es P X => ma es (fun d => match d with
  | .bool b => P (.bool (!b))
  | _ => False) X
def dIf (mt : DT) (ma mb : DE) : DE := fun es P X => mt es (fun b => if b = true then ma es P X else mb es P X) X
section
variable {K : Fg} {W : WX} {ta tb : TE} {ma mb : DE} {t u : TT} {mt mu : DT}
theorem st_B (h : SE K W ta ma) : ST K W (tB ta) (dTest ma) := ⟨fun s P X Q q k kx => h.run s _ X _ q (fun d v B' H' p g dv => by
  cases dv <;> try exact p.elim
  exact ⟨_, rfl, k _ _ _ p g⟩) kx⟩
theorem st_T (h : SE K W ta ma) : ST K W (tTest ta) (dTest ma) := ⟨fun s P X Q q k kx => h.run s _ X _ q (fun d v B' H' p g dv => by
  cases dv <;> try exact p.elim
  exact ⟨_, rfl, k _ _ _ p g⟩) kx⟩
theorem empty_eq {B : Hp} {vs : List V} {ds : List D} (h : DpAll K B vs ds) : (!vs.isEmpty) = !ds.isEmpty := by cases h <;> rfl
theorem st_truth (h : SE K W ta ma) : ST K W (fun σ H Q => ta σ H fun x H' => ∃ k, TruV K x H' k ∧ Q k H') (dTruth ma) := ⟨fun s P X Q q k kx => h.run s _ X _ q (fun d v B' H' p g dv => by
  cases dv with
  | non => exact ⟨_, rfl, k _ _ _ p g⟩
  | bl b => exact ⟨_, rfl, k _ _ _ p g⟩
  | int i => exact ⟨_, rfl, k _ _ _ p g⟩
  | str z => exact ⟨_, ⟨by rw [sz_eq]; exact p.1, rfl⟩, k _ _ _ p.2 g⟩
  | lst s1 t1 => exact ⟨_, .inl ⟨_, g.bh.sqL s1, (empty_eq t1).symm⟩, k _ _ _ p g⟩
  | tup s1 t1 => exact ⟨_, .inr (.inl ⟨_, g.bh.sqT s1, (empty_eq t1).symm⟩), k _ _ _ p g⟩) kx⟩
theorem st_not (h : ST K W t mt) : ST K W (tNot t) (dNotT mt) := ⟨fun s P X Q q k kx => h.run s _ X _ q (fun b B' H' p g => k _ _ _ p g) kx⟩
theorem st_and (h : ST K W t mt) (h2 : ST K W u mu) : ST K W (tAnd t u) (dAndT mt mu) := ⟨fun s P X Q q k kx => h.run s _ X _ q (fun b B' H' p g => by
  cases b with
  | true => exact h2.run (s.step g) P X Q p (fun b B2 H2 p2 g2 => k _ _ _ p2 (g.trans g2)) (fun x c dd B2 H2 hx g2 r => kx x c dd B2 H2 hx (g.trans g2) r)
  | false => exact k _ _ _ p g) kx⟩
theorem st_or (h : ST K W t mt) (h2 : ST K W u mu) : ST K W (tOr t u) (dOrT mt mu) := ⟨fun s P X Q q k kx => h.run s _ X _ q (fun b B' H' p g => by
  cases b with
  | true => exact k _ _ _ p g
  | false => exact h2.run (s.step g) P X Q p (fun b B2 H2 p2 g2 => k _ _ _ p2 (g.trans g2)) (fun x c dd B2 H2 hx g2 r => kx x c dd B2 H2 hx (g.trans g2) r)) kx⟩
theorem se_and (h : SE K W ta ma) (h2 : SE K W tb mb) : SE K W (tAndV ta tb) (dAndV ma mb) := ⟨fun s P X Q q k kx => h.run s _ X _ q (fun d v B' H' p g dv => by
  cases dv <;> try exact p.elim
  rename_i b
  cases b with
  | true => exact ⟨_, rfl, h2.run (s.step g) P X Q p (fun d v B2 H2 p2 g2 => k _ _ _ _ p2 (g.trans g2)) (fun x c dd B2 H2 hx g2 r => kx x c dd B2 H2 hx (g.trans g2) r)⟩
  | false => exact ⟨_, rfl, k _ _ _ _ p g (.bl _)⟩) kx⟩
theorem se_or (h : SE K W ta ma) (h2 : SE K W tb mb) : SE K W (tOrV ta tb) (dOrV ma mb) := ⟨fun s P X Q q k kx => h.run s _ X _ q (fun d v B' H' p g dv => by
  cases dv <;> try exact p.elim
  rename_i b
  cases b with
  | true => exact ⟨_, rfl, k _ _ _ _ p g (.bl _)⟩
  | false => exact ⟨_, rfl, h2.run (s.step g) P X Q p (fun d v B2 H2 p2 g2 => k _ _ _ _ p2 (g.trans g2)) (fun x c dd B2 H2 hx g2 r => kx x c dd B2 H2 hx (g.trans g2) r)⟩) kx⟩
theorem se_not (h : SE K W ta ma) : SE K W (tNotV ta) (dNotV ma) := ⟨fun s P X Q q k kx => h.run s _ X _ q (fun d v B' H' p g dv => by
  cases dv <;> try exact p.elim
  exact ⟨_, rfl, k _ _ _ _ p g (.bl _)⟩) kx⟩
theorem se_if (h : ST K W t mt) (h1 : SE K W ta ma) (h2 : SE K W tb mb) : SE K W (tIf t ta tb) (dIf mt ma mb) := ⟨fun s P X Q q k kx => h.run s _ X _ q (fun b B' H' p g => by
  cases b with
  | true => exact h1.run (s.step g) P X Q p (fun d v B2 H2 p2 g2 => k _ _ _ _ p2 (g.trans g2)) (fun x c dd B2 H2 hx g2 r => kx x c dd B2 H2 hx (g.trans g2) r)
  | false => exact h2.run (s.step g) P X Q p (fun d v B2 H2 p2 g2 => k _ _ _ _ p2 (g.trans g2)) (fun x c dd B2 H2 hx g2 r => kx x c dd B2 H2 hx (g.trans g2) r)) kx⟩
end
section
variable {X : Cx} {K : Fg} {W : WX} {a b c : Expr} {rest : List Expr} {ma mb : DE} {mt mu : DT} {pos : Pos} {ta tb : TE} {tt tu : TT}
theorem xt_val (ha : XE X K W a ta ma) (he : ∀ whole, isTrue a X.env whole = (do let v ← whole; standAt a.pos; holding [v] (truthy v)) := by intro _; rfl) : XT X K W a (tB ta) (dTest ma) := ⟨pt_val ha.1 he, st_B ha.2⟩
theorem xt_truth {k0 : Nat} (C : Ctx X K W k0) (ha : XE X K W a ta ma) (he : ∀ whole, isTrue a X.env whole = (do let v ← whole; standAt a.pos; holding [v] (truthy v)) := by intro _; rfl) : XT X K W a (fun σ H Q => ta σ H fun x H' => ∃ k, TruV K x H' k ∧ Q k H') (dTruth ma) := by
  have hK := C.hK
  subst hK
  exact ⟨pt_truth ha.1 he, st_truth ha.2⟩
theorem xt_cmp {op : CmpOp} {r : R2} {rd : D2} (ho : OpR X (compareOp op) r) (hr : RS K r rd) (ha : XE X K W a ta ma) (hb : XE X K W b tb mb) (hm : behindInMarks op b = false := by exact nomark _) : XT X K W (.Compare a [op] [b] pos) (tTest (tOp r ta tb)) (dTest (dOp rd ma mb)) := ⟨pt_cmpR ho ha.1 hb.1 hm, st_T (se_op hr ha.2 hb.2)⟩
theorem xt_eqD {k0 : Nat} (C : Ctx X K W k0) (ha : XE X K W a ta ma) (hb : XE X K W b tb mb) (hm : behindInMarks .Eq b = false := by exact nomark _) : XT X K W (.Compare a [.Eq] [b] pos) (tTest (tOp (rEqD K) ta tb)) (dTest (dOp dEq ma mb)) := by
  have hK := C.hK
  subst hK
  exact xt_cmp (op_eqD C.hr.units) rs_eq ha hb hm
theorem xt_neD {k0 : Nat} (C : Ctx X K W k0) (ha : XE X K W a ta ma) (hb : XE X K W b tb mb) (hm : behindInMarks .NotEq b = false := by exact nomark _) : XT X K W (.Compare a [.NotEq] [b] pos) (tTest (tOp (rNeD K) ta tb)) (dTest (dOp dNe ma mb)) := by
  have hK := C.hK
  subst hK
  exact xt_cmp (op_neD C.hr.units) rs_ne ha hb hm
theorem xt_not (ha : XT X K W a tt mt) : XT X K W (.UnaryOp .Not a pos) (tNot tt) (dNotT mt) := ⟨pt_not ha.1, st_not ha.2⟩
theorem xw_and1 (ha : XT X K W a tt mt) : XW X K W (.BoolOp .And [a] pos) tt mt := ⟨pw_and1 ha.1, ha.2⟩
theorem xw_or1 (ha : XT X K W a tt mt) : XW X K W (.BoolOp .Or [a] pos) tt mt := ⟨pw_or1 ha.1, ha.2⟩
theorem xw_and (ha : XT X K W a tt mt) (hb : XW X K W (.BoolOp .And (b :: rest) pos) tu mu) : XW X K W (.BoolOp .And (a :: b :: rest) pos) (tAnd tt tu) (dAndT mt mu) := ⟨pw_and ha.1 hb.1, st_and ha.2 hb.2⟩
theorem xw_or (ha : XT X K W a tt mt) (hb : XW X K W (.BoolOp .Or (b :: rest) pos) tu mu) : XW X K W (.BoolOp .Or (a :: b :: rest) pos) (tOr tt tu) (dOrT mt mu) := ⟨pw_or ha.1 hb.1, st_or ha.2 hb.2⟩
theorem xt_w (h : XW X K W a tt mt) : XT X K W a tt mt := ⟨h.1.pt, h.2⟩
theorem xe_one {op : BoolOp} (h : XE X K W a ta ma) : XE X K W (.BoolOp op [a] pos) ta ma := ⟨pe_one h.1, h.2⟩
theorem xe_and (ha : XE X K W a ta ma) (hb : XE X K W (.BoolOp .And (b :: rest) pos) tb mb) : XE X K W (.BoolOp .And (a :: b :: rest) pos) (tAndV ta tb) (dAndV ma mb) := ⟨pe_and ha.1 hb.1, se_and ha.2 hb.2⟩
theorem xe_or (ha : XE X K W a ta ma) (hb : XE X K W (.BoolOp .Or (b :: rest) pos) tb mb) : XE X K W (.BoolOp .Or (a :: b :: rest) pos) (tOrV ta tb) (dOrV ma mb) := ⟨pe_or ha.1 hb.1, se_or ha.2 hb.2⟩
theorem xe_not (ha : XE X K W a ta ma) : XE X K W (.UnaryOp .Not a pos) (tNotV ta) (dNotV ma) := ⟨pe_not ha.1, se_not ha.2⟩
theorem xe_if (hc : XT X K W c tt mt) (ha : XE X K W a ta ma) (hb : XE X K W b tb mb) : XE X K W (.IfExp c a b pos) (tIf tt ta tb) (dIf mt ma mb) := ⟨pe_ifExp hc.1 ha.1 hb.1, se_if hc.2 ha.2 hb.2⟩
end

/-! ### arguments, displays -/
def dNil : DA := fun _ P _ => P []
def dCons (ma : DE) (mr : DA) : DA := fun es P X => ma es (fun d => mr es (fun ds => P (d :: ds)) X) X
def dTup (ma : DA) : DE := fun es P X => ma es (fun ds => ds.length ≤ 16777216 ∧ P (.tuple ds)) X
def dLst (ma : DA) : DE := fun es P X => ma es (fun ds => ds.length ≤ 16777216 ∧ P (.list ds)) X
section
variable {K : Fg} {W : WX} {te : TE} {me : DE} {ta : TA} {ma : DA}
theorem sa_nil : SAr K W tNil dNil := ⟨fun s P X Q q k _ => k [] [] _ _ q s.rfl .nil⟩
theorem sa_cons (h : SE K W te me) (hr : SAr K W ta ma) : SAr K W (tCons te ta) (dCons me ma) := ⟨fun s P X Q q k kx => h.run s _ X _ q (fun d v B1 H1 p g dv =>
  hr.run (s.step g) _ X _ p (fun ds vs B2 H2 p2 g2 dvs => k _ _ _ _ p2 (g.trans g2) (.cons (g2.bb.dp dv) dvs)) (fun x c dd B2 H2 hx g2 r => kx x c dd B2 H2 hx (g.trans g2) r)) kx⟩
theorem se_tup (h : SAr K W ta ma) : SE K W (tTup ta) (dTup ma) := ⟨fun s P X Q q k kx => h.run s _ X _ q (fun ds vs B1 H1 p g dvs =>
  ⟨by rw [sz_eq, dps_len dvs]; exact p.1, fun a ha => k _ _ _ _ p.2 (g.trans ((s.step g).gr (Gr.new g.bh ha))) (.tup (SqT.of upd_same) ((Ex.new (g.bh.back ha)).dps dvs))⟩) kx⟩
theorem se_lst (h : SAr K W ta ma) : SE K W (tLst ta) (dLst ma) := ⟨fun s P X Q q k kx => h.run s _ X _ q (fun ds vs B1 H1 p g dvs =>
  ⟨by rw [sz_eq, dps_len dvs]; exact p.1, fun a ha => k _ _ _ _ p.2 (g.trans ((s.step g).gr (Gr.new g.bh ha))) (.lst (SqL.of upd_same) ((Ex.new (g.bh.back ha)).dps dvs))⟩) kx⟩
end
section
variable {X : Cx} {K : Fg} {W : WX} {e : Expr} {es : List Expr} {te : TE} {ta : TA} {me : DE} {ma : DA} {pos kpos : Pos} {nm : Option Str} {kws : List Keyword}
theorem xa_nil : XA X K W [] tNil dNil := ⟨pa_nil, sa_nil⟩
theorem xa_cons (ha : XE X K W e te me) (hr : XA X K W es ta ma) (hs : starEach (e :: es) X.env = (false, eval e X.env) :: starEach es X.env := by rfl) : XA X K W (e :: es) (tCons te ta) (dCons me ma) := ⟨pa_cons ha.1 hr.1 hs, sa_cons ha.2 hr.2⟩
theorem xk_nil : XK' X K W [] tNil dNil := ⟨pk_nil, sa_nil⟩
theorem xk_cons (ha : XE X K W e te me) (hr : XK' X K W kws ta ma) : XK' X K W (⟨nm, e, kpos⟩ :: kws) (tCons te ta) (dCons me ma) := ⟨pk_cons ha.1 hr.1, sa_cons ha.2 hr.2⟩
theorem xe_tup {k : Nat} (h : XA X K W es ta ma) : XE X K W (.Tuple es k pos) (tTup ta) (dTup ma) := ⟨pe_tup h.1, se_tup h.2⟩
theorem xe_lst (h : XA X K W es ta ma) : XE X K W (.List es pos) (tLst ta) (dLst ma) := ⟨pe_lst h.1, se_lst h.2⟩
end

/-! ### built-ins by their values -/
abbrev D1 := List D → (D → Prop) → Prop
structure RC (K : Fg) (r : List V → Hp → VK → Prop) (rd : D1) : Prop where
  run : ∀ {B H : Hp} {vs : List V} {ds : List D}, Ex B H → DpAll K B vs ds → ∀ (P : D → Prop) (Q : VK), rd ds P → (∀ d v B' H', P d → Gr B H B' H' → Dp K B' v d → Q v H') → r vs H Q
def dCB (rd : D1) (ma : DA) : DE := fun es P X => ma es (fun ds => rd ds P) X
theorem se_cb {K : Fg} {W : WX} {r : List V → Hp → VK → Prop} {rd : D1} {ta : TA} {ma : DA} (hr : RC K r rd) (h : SAr K W ta ma) : SE K W (tCB r ta) (dCB rd ma) := ⟨fun s P X Q q k kx => h.run s _ X _ q (fun ds vs B1 H1 p g dvs =>
  hr.run g.bh dvs P Q p fun d v B2 H2 p2 g2 dv => k _ _ _ _ p2 (g.trans ((s.step g).gr g2)) dv) kx⟩
section
variable {X : Cx} {K : Fg} {W : WX} {e : Expr} {es : List Expr} {ma : DA} {p pos : Pos} {x : Str} {id T : String} {r : List V → Hp → VK → Prop} {rd : D1}
variable {ta : TA}
theorem xe_cb (hc : CallR X (.builtin id) r) (hr : RC K r rd) (hm : X.mg x = none) (hv : bootBuiltins x = some (.builtin id)) (ha : XA X K W (e :: es) ta ma) (hg : Gl X x := by rfl) (hn : x ≠ "__name__" := by decide) (hdb : (x == ("__debug__" : Str)) = false := by decide)
    (he : starEach (e :: es) X.env = (false, eval e X.env) :: starEach es X.env := by rfl) (hpl : (backTo pos (starEach es X.env)).any (·.1) = false := by rfl) : XE X K W (.Call (.Name x p) (e :: es) [] pos) (tCB r ta) (dCB rd ma) := ⟨pe_callB hc hg hm hv ha.1 hn hdb he hpl, se_cb hr ha.2⟩
theorem xe_cty (hc : CallR X (.type T) r) (hr : RC K r rd) (hm : X.mg x = none) (hv : bootBuiltins x = some (.type T)) (ha : XA X K W (e :: es) ta ma) (hg : Gl X x := by rfl) (hn : x ≠ "__name__" := by decide) (hdb : (x == ("__debug__" : Str)) = false := by decide)
    (he : starEach (e :: es) X.env = (false, eval e X.env) :: starEach es X.env := by rfl) (hpl : (backTo pos (starEach es X.env)).any (·.1) = false := by rfl) : XE X K W (.Call (.Name x p) (e :: es) [] pos) (tCB r ta) (dCB rd ma) := ⟨pe_callTy hc hg hm hv ha.1 hn hdb he hpl, se_cb hr ha.2⟩
/-- a module's name for a built-in: math.gcd and the like -/
theorem xe_cfun (hc : CallR X (.builtin id) r) (hr : RC K r rd) (hm : X.mg x = some (.builtin id)) (ha : XA X K W (e :: es) ta ma) (hg : Gl X x := by rfl) (hdb : (x == ("__debug__" : Str)) = false := by decide)
    (he : starEach (e :: es) X.env = (false, eval e X.env) :: starEach es X.env := by rfl) (hpl : (backTo pos (starEach es X.env)).any (·.1) = false := by rfl) : XE X K W (.Call (.Name x p) (e :: es) [] pos) (tCB r ta) (dCB rd ma) := ⟨pe_callBfun hc hg hm ha.1 hdb he hpl, se_cb hr ha.2⟩
end

/-! ### a def's promise over data -/
abbrev Spc := List D → (D → Prop) → XP → Prop
def spD (K : Fg) (p : Spc) : Sp := fun vs H Q E => ∃ B ds P X, Ex B H ∧ DpAll K B vs ds ∧ p ds P X ∧ (∀ d v B' H', P d → Gr B H B' H' → Dp K B' v d → Q v H') ∧ ∀ x cls dd B' H', X x → Gr B H B' H' → XR K B' H' x cls dd → E cls dd H'
/-- .. of one that draws from the spring, its first parameter -/
def spS (K : Fg) (p : Spc) : Sp := fun vs H Q E => ∃ B q g vr ds P X, vs = .ref q :: vr ∧ Ex B H ∧ DpAll K B vr ds ∧ Spr H q g ∧ (B q = none ∧ B g = none) ∧ p ds P X ∧ (∀ d v B' H', P d → GrS (some (q, g)) B H B' H' → Dp K B' v d → Q v H') ∧
  ∀ x cls dd B' H', X x → GrS (some (q, g)) B H B' H' → XR K B' H' x cls dd → E cls dd H'
def dCall (p : Spc) (ma : DA) : DE := fun es P X => ma es (fun ds => p ds P X) X
def dCallS (i : Nat) (p : Spc) (ma : DA) : DE := fun es P X => es[i]? = some .s ∧ ma es (fun ds => p ds P X) X
theorem se_call {K : Fg} {W : WX} {p : Spc} {ta : TA} {ma : DA} (h : SAr K W ta ma) : SE K W (tCallS (spD K p) (WE W) ta) (dCall p ma) := ⟨fun s P X Q q k kx => h.run s _ X _ q (fun ds vs B1 H1 p1 g dvs =>
  ⟨B1, ds, P, X, g.bh, dvs, p1, fun d v B' H' p2 g2 dv => k _ _ _ _ p2 (g.trans ((s.step g).gr g2)) dv, fun x c dd B' H' hx g2 r => kx x c dd B' H' hx (g.trans ((s.step g).gr g2)) r⟩) kx⟩
theorem se_callS {K : Fg} {W : WX} {i : Nat} {p : Spc} {ta : TA} {ma : DA} (h : SAr K W ta ma) : SE K W (tCallS (spS K p) (WE W) (tCons (tVar i) ta)) (dCallS i p ma) := ⟨fun {S B0 H0 B H σ es} s P X Q q k kx => by
  obtain ⟨fp, env, _⟩ := s.env
  obtain ⟨a, g0, e1, rfl⟩ := env.getS q.1
  refine ⟨_, e1, h.run s _ X _ q.2 (fun ds vs B1 H1 p1 g dvs => ?_) kx⟩
  have s1 := s.step g
  exact ⟨B1, a, g0, vs, ds, P, X, rfl, g.bh, dvs, g.sp, s1.sf, p1, fun d v B' H' p2 g2 dv => k _ _ _ _ p2 (g.trans g2) dv, fun x c dd B' H' hx g2 r => kx x c dd B' H' hx (g.trans g2) r⟩⟩

/-- a def that stands behind the top and keeps its promise -/
structure Def (P : Program) (w : World) (K : Fg) (mg : Str → Option Value) (base : Heap) (k : Nat) (x : Str) (ps : List Str) (sp : Sp) : Prop where
  ex : ∃ f fd, FnOk P w K mg base (L2.CX P w) k f fd ps sp ∧ mg x = some (.ref f) ∧ PySem.W.keepIn K (.ref f) = true ∧ Binds K fd ps []
section
variable {X : Cx} {K : Fg} {W : WX} {k j : Nat} {ps : List Str} {sp : Sp} {x y : Str} {p q pos : Pos} {e : Expr} {es : List Expr} {ma : DA} {pr : Spc}
variable {ta : TA}
theorem xe_call (C : Ctx X K W k) (G : Def X.prog X.w K X.mg X.base j x ps (spD K pr)) (hj : j ≤ k) (ha : XA X K W (e :: es) ta ma) (hg : Gl X x := by rfl) (hdb : (x == ("__debug__" : Str)) = false := by decide)
    (he : starEach (e :: es) X.env = (false, eval e X.env) :: starEach es X.env := by rfl) (hpl : (backTo pos (starEach es X.env)).any (·.1) = false := by rfl) : XE X K W (.Call (.Name x p) (e :: es) [] pos) (tCallS (spD K pr) (WE W) ta) (dCall pr ma) := by
  have hK := C.hK
  subst hK
  obtain ⟨f, fd, G, hm, hk, hb⟩ := G.ex
  exact ⟨pe_callS G (C.hr.mono hj) hg hm hk hb (fun σ => passAt C.tk σ) ha.1 hdb he hpl, se_call ha.2⟩
theorem xe_callS (C : Ctx X K W k) (G : Def X.prog X.w K X.mg X.base j x ps (spS K pr)) (hj : j ≤ k) (i : Nat) (ha : XA X K W es ta ma) (hN : X.N[i]? = some y := by rfl) (hv : Vis X.env.scope y := by first | exact Or.inl rfl | exact Or.inr (Or.inl rfl) | exact Or.inr (Or.inr rfl)) (hg : Gl X x := by rfl) (hdb : (x == ("__debug__" : Str)) = false := by decide)
    (hd : (y == ("__debug__" : Str)) = false := by decide) (hcd : (y == ("__classdict__" : Str)) = false := by decide)
    (he : starEach (.Name y q :: es) X.env = (false, eval (.Name y q) X.env) :: starEach es X.env := by rfl) (hpl : (backTo pos (starEach es X.env)).any (·.1) = false := by rfl) : XE X K W (.Call (.Name x p) (.Name y q :: es) [] pos) (tCallS (spS K pr) (WE W) (tCons (tVar i) ta)) (dCallS i pr ma) := by
  have hK := C.hK
  subst hK
  obtain ⟨f, fd, G, hm, hk, hb⟩ := G.ex
  exact ⟨pe_callS G (C.hr.mono hj) hg hm hk hb (fun σ => passAt C.tk σ) (pa_cons (pe_var hN hv hd hcd) ha.1 he) hdb he hpl, se_callS ha.2⟩
end

/-! ### calls with keywords alone -/
def tCallKS (n : Nat) (sp : Sp) (gV : List V → List V) (W : WX) (tk : TA) : TE := fun σ H Q => tk σ H fun zs H2 => zs.length = n ∧ sp (gV zs) H2 Q (fun cls d H => W cls d σ H)
/-- how the keywords ks fill all the parameters ps: the permutation g -/
structure KB (K : Fg) (fd : FuncData) (ps ks : List Str) (g : ∀ {α : Type}, List α → List α) : Prop where
  to : ∀ (s : Shared) (ws : List Value), K.In s.heap → ws.length = ks.length → BindsTo s fd ⟨[], ks.zip ws⟩ (ps.zip (g ws)) ∧ (g ws).length = ps.length
  rel : ∀ {zs : List V} {ws : List Value}, zs.length = ks.length → Vals zs ws → Vals (g zs) (g ws)
  dp : ∀ {B : Hp} {zs : List V} {ds : List D}, zs.length = ks.length → DpAll K B zs ds → DpAll K B (g zs) (g ds)
structure DefK (P : Program) (w : World) (K : Fg) (mg : Str → Option Value) (base : Heap) (k : Nat) (x : Str) (ps ks : List Str) (g : ∀ {α : Type}, List α → List α) (sp : Sp) : Prop where
  ex : ∃ f fd, FnOk P w K mg base (L2.CX P w) k f fd ps sp ∧ mg x = some (.ref f) ∧ PySem.W.keepIn K (.ref f) = true ∧ KB K fd ps ks g
def dCallK (n : Nat) (g : List D → List D) (p : Spc) (ma : DA) : DE := fun es P X => ma es (fun ds => ds.length = n ∧ p (g ds) P X) X
section
variable {X : Cx} {K : Fg} {W : WX} {k j : Nat} {ps ks : List Str} {g : ∀ {α : Type}, List α → List α} {x : Str} {p pos : Pos} {kws : List Keyword} {ma : DA} {pr : Spc}
theorem xe_callK {t1 : TA} (C : Ctx X K W k) (G : DefK X.prog X.w K X.mg X.base j x ps ks g (spD K pr)) (hj : j ≤ k) (ha : XK' X K W kws t1 ma) (hg : Gl X x := by rfl) (hdb : (x == ("__debug__" : Str)) = false := by decide)
    (hall : (backToKw pos (keywordEach kws X.env)).all (·.1.isSome) = true := by rfl) (hks : (backToKw pos (keywordEach kws X.env)).filterMap (·.1) = ks := by rfl)
    (hpl : ((backTo pos (starEach [] X.env)).any (·.1) || (backToKw pos (keywordEach kws X.env)).any (·.1.isNone)) = false := by rfl) : XE X K W (.Call (.Name x p) [] kws pos) (tCallKS ks.length (spD K pr) g W t1) (dCallK ks.length g pr ma) := by
  have hK := C.hK
  subst hK
  obtain ⟨f, fd, F, hm, hk, hb⟩ := G.ex
  refine ⟨⟨fun pins s σ H Q I h => ?_⟩, ⟨fun s P Y Q q k kx => ?_⟩⟩
  · refine wpAny_Call_Name_kw (ld_glob I hg hm ?_ hdb)
    refine PySem.W.callWith_KW0 (h₀ := X.base) I.ok.mod.kin hk hall (thn (ha.1.run pos pins s σ H _ I h) fun ws s2 ⟨zs, H2, I2, rz, hl, q2⟩ => ⟨I2.kIn, ?_⟩) hpl
    rw [hks]
    obtain ⟨bt, gl⟩ := hb.to s2 ws I2.kIn (by rw [← rz.length]; exact hl)
    refine wpAny_call (codeAny_mono (F.run X.A X.stack s2 H2 ⟨[], ks.zip ws⟩ (g ws) (g zs) Q (fun cls d H => W cls d σ H) (C.hr.mono hj) I2.env0 bt (hb.rel hl rz) q2) fun r s' hq => ?_)
    cases r with
    | error e => exact passAt C.tk σ pins H2 s2 e s' I2 hq
    | ok fl =>
      cases fl with
      | ret u => exact I2.after hq
      | next => exact False.elim hq
      | brk => exact False.elim hq
      | cont => exact False.elim hq
  · refine ha.2.run s _ Y _ q (fun ds vs B1 H1 p1 g1 dvs => ?_) kx
    have hl : vs.length = ks.length := by rw [dps_len dvs]; exact p1.1
    exact ⟨hl, B1, g ds, P, Y, g1.bh, hb.dp hl dvs, p1.2, fun d v B' H' p2 g2 dv => k _ _ _ _ p2 (g1.trans ((s.step g1).gr g2)) dv, fun x c dd B' H' hx g2 r => kx x c dd B' H' hx (g1.trans ((s.step g1).gr g2)) r⟩
end
end Fw
namespace Fw
open PySem PySem.Spec L2

/-! ### targets -/
def gP (i : Nat) : DG := fun d es P => P (es.set i (.p d))
def gT (t : DGs) : DG := fun d es P => match d with
  | .tuple ds => t ds es P
  | _ => False
def gL (t : DGs) : DG := fun d es P => match d with
  | .list ds => t ds es P
  | _ => False
def gsNil : DGs := fun ds es P => ds = [] ∧ P es
def gsCons (t : DG) (u : DGs) : DGs := fun ds es P => match ds with
  | d :: r => t d es (fun es' => u r es' P)
  | [] => False
def gN (n : Nat) (t : DGs) : DGs := fun ds es P => ds.length = n ∧ t ds es P
theorem wipe_set {σ : L2.St} {i : Nat} {v : Option V} : ∀ {ws : List Nat}, i ∈ ws → wipe (σ.set i v) ws = wipe σ ws
  | [], h => by cases h
  | w :: ws, h => by
    unfold wipe
    by_cases c : i ∈ ws
    · rw [wipe_set c]
    · have e : i = w := by
        rcases List.mem_cons.mp h with z | z
        · exact z
        · exact absurd z c
      subst e
      have q : ∀ ws : List Nat, i ∉ ws → wipe (σ.set i v) ws = (wipe σ ws).set i v := by
        intro ws
        induction ws with
        | nil => intro _; rfl
        | cons a r ih =>
          intro n
          unfold wipe
          rw [ih fun z => n (List.mem_cons_of_mem _ z), List.set_comm _ _ fun z => n (by rw [z]; exact List.mem_cons_self)]
      rw [q ws c, List.set_set]
section
variable {K : Fg} {tg : TG} {mg : DG} {tgs : TGs} {mgs : DGs} {vs ws : List Nat} {n : Nat}
theorem sg_name (i : Nat) : SG K (gName i) (gP i) [i] := ⟨fun s h P Q q k => k _ _ q (s.setP h i) fun ws w => wipe_set (w List.mem_cons_self)⟩
theorem sgs_nil : SGs K gNil gsNil [] := ⟨fun s h P Q q k => by
  obtain ⟨rfl, q⟩ := q
  cases h
  exact ⟨rfl, k _ _ q s fun _ _ => rfl⟩⟩
theorem sgs_cons (h1 : SG K tg mg vs) (h2 : SGs K tgs mgs ws) : SGs K (gCons tg tgs) (gsCons mg mgs) (vs ++ ws) := ⟨fun s h P Q q k => by
  cases h with
  | nil => exact q.elim
  | cons a b => exact ⟨_, _, rfl, h1.run s a _ _ q fun σ' es' p s1 w1 => h2.run s1 b P Q p fun σ2 es2 p2 s2 w2 => k _ _ p2 s2 fun us hs => (w2 us fun x hx => hs (List.mem_append_right _ hx)).trans (w1 us fun x hx => hs (List.mem_append_left _ hx))⟩⟩
theorem sg_tup (h : SGs K tgs mgs vs) : SG K (gTup K n tgs) (gT (gN n mgs)) vs := ⟨fun s dv P Q q k => by
  cases dv <;> try exact q.elim
  rename_i s1 t1
  exact ⟨_, _, rfl, s.bh.sqT s1, (dps_len t1).trans q.1, h.run s t1 P Q q.2 k⟩⟩
theorem sg_lst (h : SGs K tgs mgs vs) : SG K (gUnl K n tgs) (gL (gN n mgs)) vs := ⟨fun s dv P Q q k => by
  cases dv <;> try exact q.elim
  rename_i s1 t1
  exact ⟨_, _, rfl, s.bh.sqL s1, (dps_len t1).trans q.1, h.run s t1 P Q q.2 k⟩⟩
end
section
variable {X : Cx} {K : Fg} {W : WX} {k : Nat} {e : Expr} {es : List Expr} {mg : DG} {mgs : DGs} {vs ws : List Nat} {pos : Pos} {kt n : Nat}
variable {tg : TG} {tgs : TGs}
theorem xg_name (i : Nat) {x : Str} (nd : X.N.Nodup) (hi : X.N[i]? = some x := by rfl) (hx : Loc X.env.scope x := by first | exact Or.inl rfl | exact Or.inr rfl) (hf : X.fn x = true ∨ X.env.scope.names.lookup x = some .local := by first | exact .inl rfl | exact .inr rfl) : XG X K (.Name x pos) (gName i) (gP i) [i] := ⟨pg_name nd hi hx hf, sg_name i⟩
theorem xgs_nil : XGs X K [] gNil gsNil [] := ⟨pgs_nil, sgs_nil⟩
theorem xg_tup {k0 : Nat} (C : Ctx X K W k0) (h : XGs X K es tgs mgs vs) (hn : (assignEach es X.env).length = n := by rfl) (hst : (assignEach es X.env).findIdx? (·.1) = none := by rfl) : XG X K (.Tuple es kt pos) (gTup K n tgs) (gT (gN n mgs)) vs := by
  have hK := C.hK
  subst hK
  exact ⟨pg_tup C.calm h.1 hn hst, sg_tup h.2⟩
theorem xg_lst {k0 : Nat} (C : Ctx X K W k0) (h : XGs X K es tgs mgs vs) (hn : (assignEach es X.env).length = n := by rfl) (hst : (assignEach es X.env).findIdx? (·.1) = none := by rfl) : XG X K (.Tuple es kt pos) (gUnl K n tgs) (gL (gN n mgs)) vs := by
  have hK := C.hK
  subst hK
  exact ⟨pg_unl C.calm h.1 hn hst, sg_lst h.2⟩
theorem xgs_cons (h1 : XG X K e tg mg vs) (h2 : XGs X K es tgs mgs ws) (hp : PG X e tg → PGs X es tgs → PGs X (e :: es) (gCons tg tgs)) : XGs X K (e :: es) (gCons tg tgs) (gsCons mg mgs) (vs ++ ws) := ⟨hp h1.1 h2.1, sgs_cons h1.2 h2.2⟩
end

/-! ### statements -/
def dSkip : DS := fun E es => E.nx es
def dSeq (a b : DS) : DS := fun E es => a { E with nx := b E } es
def dRet (me : DE) : DS := fun E es => me es E.rt (fun x => E.xx x es)
def dRetN : DS := fun E _ => E.rt .none
def dDrop (me : DE) : DS := fun E es => me es (fun _ => E.nx es) (fun x => E.xx x es)
def dAsg (me : DE) (mg : DG) : DS := fun E es => me es (fun d => mg d es E.nx) (fun x => E.xx x es)
def dIfS (mt : DT) (a b : DS) : DS := fun E es => mt es (fun c => if c = true then a E es else b E es) (fun x => E.xx x es)
def dBrk : DS := fun E es => E.bk es
def dCnt : DS := fun E es => E.ct es
def dPar (i j : Nat) (ma : DA) : DS := fun E es => ma es (fun ds => match ds with
  | [a, b] => E.nx ((es.set i (.p a)).set j (.p b))
  | _ => False) (fun x => E.xx x es)
def dAug (i : Nat) (rd : D2) (me : DE) : DS := fun E es => ∃ d, es[i]? = some (.p d) ∧ me es (fun b => rd d b (fun z => E.nx (es.set i (.p z)))) (fun x => E.xx x es)
def dAsgO (i : Nat) (mn : DA) : DS := fun E es => mn es (fun ds => i < es.length ∧ E.nx (es.set i (.o ds))) (fun x => E.xx x es)
def dFrz (i : Nat) (ms : DS) : DS := fun E es => ∃ ds, es[i]? = some (.o ds) ∧ ms E (es.set i (.p (.list ds)))
def dApp (i : Nat) (me : DE) : DS := fun E es => ∃ ds, es[i]? = some (.o ds) ∧ me es (fun d => ds.length < 16777216 ∧ E.nx (es.set i (.o (ds ++ [d])))) (fun x => E.xx x es)
def dPut (i : Nat) (me mi : DE) : DS := fun E es => ∃ ds, es[i]? = some (.o ds) ∧ me es (fun d => mi es (fun k => match k with
  | .int n => ∃ j, ixN ds.length n = some j ∧ E.nx (es.set i (.o (ds.set j d)))
  | _ => False) (fun x => E.xx x es)) (fun x => E.xx x es)
section
variable {K : Fg} {W : WX} {te : TE} {me : DE} {ta : TA} {ma mn : DA} {t u : TS} {mt mu : DS} {c : TT} {mc : DT} {tg : TG} {mg : DG} {vs : List Nat}
theorem ss_skip : SS K W tNext dSkip := ⟨fun s E Z h kn _ _ _ _ => kn _ _ _ _ h s Ex.rfl⟩
theorem ss_brk : SS K W tBreak dBrk := ⟨fun s E Z h _ _ kb _ _ => kb _ _ _ _ h s Ex.rfl⟩
theorem ss_cnt : SS K W tCont dCnt := ⟨fun s E Z h _ _ _ kc _ => kc _ _ _ _ h s Ex.rfl⟩
theorem ss_seq (h1 : SS K W t mt) (h2 : SS K W u mu) : SS K W (tSeq t u) (dSeq mt mu) := ⟨fun s E Z h kn kr kb kc kx =>
  h1.run s { E with nx := mu E } _ h (fun σ1 es1 B1 H1 p s1 e1 => h2.run s1 E Z p (fun a b c d e f g => kn a b c d e f (e1.trans g)) kr (fun a b c d e f g => kb a b c d e f (e1.trans g)) (fun a b c d e f g => kc a b c d e f (e1.trans g)) (fun x c d a b e f q s g r => kx x c d a b e f q s (e1.trans g) r)) kr kb kc kx⟩
theorem ss_ret (h : SE K W te me) : SS K W (tRet te) (dRet me) := ⟨fun s E Z q _ kr _ _ kx => h.run s _ _ _ q (fun d v B' H' p g dv => kr _ _ _ _ _ _ p (s.step g) dv) fun x cls dd B' H' hx g r => kx _ _ _ _ _ _ _ hx (s.step g) g.bb r⟩
theorem ss_retN : SS K W tRetN dRetN := ⟨fun s E Z q _ kr _ _ _ => kr _ _ _ _ _ _ q s .non⟩
theorem ss_drop (h : SE K W te me) : SS K W (tDrop te) (dDrop me) := ⟨fun s E Z q kn _ _ _ kx => h.run s _ _ _ q (fun d v B' H' p g dv => kn _ _ _ _ p (s.step g) g.bb) fun x cls dd B' H' hx g r => kx _ _ _ _ _ _ _ hx (s.step g) g.bb r⟩
theorem ss_asg (h : SE K W te me) (hg : SG K tg mg vs) : SS K W (tAsg te tg) (dAsg me mg) := ⟨fun s E Z q kn _ _ _ kx => h.run s _ _ _ q (fun d v B' H' p g dv => hg.run (s.step g) dv _ _ p fun σ' es' p' s' _ => kn _ _ _ _ p' s' g.bb) fun x cls dd B' H' hx g r => kx _ _ _ _ _ _ _ hx (s.step g) g.bb r⟩
theorem ss_if (h : ST K W c mc) (h1 : SS K W t mt) (h2 : SS K W u mu) : SS K W (tIfS c t u) (dIfS mc mt mu) := ⟨fun s E Z q kn kr kb kc kx => h.run s _ _ _ q (fun b B' H' p g => by
  cases b with
  | true => exact h1.run (s.step g) E Z p (fun a b c d e f w => kn a b c d e f (g.bb.trans w)) kr (fun a b c d e f w => kb a b c d e f (g.bb.trans w)) (fun a b c d e f w => kc a b c d e f (g.bb.trans w)) (fun x c d a b e f q s w r => kx x c d a b e f q s (g.bb.trans w) r)
  | false => exact h2.run (s.step g) E Z p (fun a b c d e f w => kn a b c d e f (g.bb.trans w)) kr (fun a b c d e f w => kb a b c d e f (g.bb.trans w)) (fun a b c d e f w => kc a b c d e f (g.bb.trans w)) (fun x c d a b e f q s w r => kx x c d a b e f q s (g.bb.trans w) r)) fun x cls dd B' H' hx g r => kx _ _ _ _ _ _ _ hx (s.step g) g.bb r⟩
theorem ss_par {i j : Nat} (h : SAr K W ta ma) : SS K W (tPar i j ta) (dPar i j ma) := ⟨fun s E Z q kn _ _ _ kx => h.run s _ _ _ q (fun ds vs B' H' p g dvs => by
  cases dvs with
  | nil => exact p.elim
  | cons a r => cases r with
    | nil => exact p.elim
    | cons b r => cases r with
      | nil => exact ⟨_, _, rfl, kn _ _ _ _ p (((s.step g).setP a i).setP b j) g.bb⟩
      | cons _ _ => exact p.elim) fun x cls dd B' H' hx g r => kx _ _ _ _ _ _ _ hx (s.step g) g.bb r⟩
theorem ss_asgO {i : Nat} (h : SN K W te mn) : SS K W (tAsg te (gName i)) (dAsgO i mn) := ⟨fun {S B0 H0 B H σ es} s E Z q kn _ _ _ kx => h.run s _ _ _ q (fun ds p xs B' H' q1 g hn hb hh dp => by
  have s1 := s.step g
  have h0 : H0 p = none := by
    cases e : H0 p with
    | none => rfl
    | some o => exact absurd hn (s.gs.ex (by rw [e]; exact fun z => nomatch z))
  refine kn _ _ _ _ q1.2 (s1.setO h0 hb hh dp (fun _ _ _ => ?_) i q1.1) g.bb
  obtain ⟨fp, e, n, f⟩ := s.env
  have na : p ∉ fp := fun z => e.live p z hn
  refine ⟨fp, e.mono g.bb fun a z => ?_, n, na, fun a z => ⟨(g.ne a (e.live a z)).trans (f a z).1, (f a z).2⟩⟩
  cases c : H a with
  | none => exact absurd c (e.live a z)
  | some o => exact g.hh a o c fun w => s.s0 a w (f a z).2) fun x cls dd B' H' hx g r => kx _ _ _ _ _ _ _ hx (s.step g) g.bb r⟩
theorem ss_frz (i : Nat) (h : SS K W t mt) : SS K W t (dFrz i mt) := ⟨fun s E Z q kn kr kb kc kx => by
  obtain ⟨ds, e, q⟩ := q
  obtain ⟨B', eb, s'⟩ := s.frz e
  exact h.run s' E Z q (fun a b c d e f w => kn a b c d e f (eb.trans w)) kr (fun a b c d e f w => kb a b c d e f (eb.trans w)) (fun a b c d e f w => kc a b c d e f (eb.trans w)) (fun x c d a b e f q s w r => kx x c d a b e f q s (eb.trans w) r)⟩
theorem Sim.getO {S : SA} {B0 H0 B H : Hp} {σ : L2.St} {es : En} (s : Sim K S B0 H0 σ es B H) {i : Nat} {ds : List D} (h : es[i]? = some (.o ds)) : ∃ a xs, σ[i]? = some (some (.ref a)) ∧ H a = some (.lst xs) ∧ DpAll K B xs ds := by
  obtain ⟨fp, e, _⟩ := s.env
  obtain ⟨a, xs, h1, h2, h3, _⟩ := e.getO h
  exact ⟨a, xs, h1, h2, h3⟩
theorem ss_app {i : Nat} (h : SE K W te me) : SS K W (tDrop (tBM K "list" rAppend (tVar i) (tCons te tNil))) (dApp i me) := ⟨fun {S B0 H0 B H σ es} s E Z q kn _ _ _ kx => by
  obtain ⟨ds, e, q⟩ := q
  obtain ⟨a, xs, h1, h2, h3⟩ := s.getO e
  refine ⟨_, h1, .inl ⟨rfl, _, SqL.of h2⟩, h.run s _ _ _ q (fun d v B' H' p g dv => ?_) fun x cls dd B' H' hx g r => kx _ _ _ _ _ _ _ hx (s.step g) g.bb r⟩
  have s1 := s.step g
  obtain ⟨a', xs', h1', h2', h3'⟩ := s1.getO e
  rw [h1] at h1'
  obtain rfl : a = a' := by injection (Option.some.inj h1') with z; injection z
  exact ⟨a, xs', v, rfl, rfl, h2', by rw [sz_eq, dps_len h3']; exact p.1, kn _ _ _ _ p.2 (s1.wrO (dps_app h3' (.cons dv .nil)) e h1) g.bb⟩⟩
theorem ss_put {i : Nat} {ti : TE} {mi : DE} (h : SE K W te me) (hi : SE K W ti mi) : SS K W (tAsg te (gSub (tVar i) ti rSetL)) (dPut i me mi) := ⟨fun {S B0 H0 B H σ es} s E Z q kn _ _ _ kx => by
  obtain ⟨ds, e, q⟩ := q
  obtain ⟨a, xs, h1, h2, h3⟩ := s.getO e
  refine h.run s _ _ _ q (fun d v B' H' p g dv => ?_) fun x cls dd B' H' hx g r => kx _ _ _ _ _ _ _ hx (s.step g) g.bb r
  refine ⟨_, h1, hi.run (s.step g) _ _ _ p (fun k u B2 H2 p2 g2 du => ?_) fun x cls dd B2 H2 hx g2 r => kx _ _ _ _ _ _ _ hx ((s.step g).step g2) (g.bb.trans g2.bb) r⟩
  cases du <;> try exact p2.elim
  obtain ⟨j, hj, p2⟩ := p2
  have s2 := (s.step g).step g2
  obtain ⟨a', xs', h1', h2', h3'⟩ := s2.getO e
  rw [h1] at h1'
  obtain rfl : a = a' := by injection (Option.some.inj h1') with z; injection z
  exact ⟨a, xs', _, j, rfl, rfl, h2', by rw [dps_len h3']; exact hj, kn _ _ _ _ p2 (s2.wrO (dps_set (g2.bb.dp dv) j h3') e h1) (g.bb.trans g2.bb)⟩⟩
theorem sn_lst (h : SAr K W ta ma) : SN K W (tLst ta) (fun es P X => ma es (fun ds => ds.length ≤ 16777216 ∧ P ds) X) := ⟨fun s P X Q q k kx => h.run s _ X _ q (fun ds vs B1 H1 p g dvs =>
  ⟨by rw [sz_eq, dps_len dvs]; exact p.1, fun a ha => k _ _ _ _ _ p.2 (g.trans ((s.step g).gr (Gr.own g.bh ha))) (by
    cases c : (_ : Hp) a with
    | none => exact c
    | some o => exact absurd ha (g.ex (by rw [c]; exact fun z => nomatch z))) (g.bh.back ha) upd_same dvs⟩) kx⟩
end
section
variable {X : Cx} {K : Fg} {W : WX} {k : Nat} {e a : Expr} {es : List Expr} {s : Stmt} {rest body orelse : List Stmt} {me mi : DE} {ma mn : DA} {ms mr : DS} {mc : DT} {mg : DG} {vs : List Nat} {pos pos' px py pt : Pos} {x y : Str}
variable {te ti : TE} {ta : TA} {t u : TS} {tc : TT} {g : TG}
theorem xb_nil : XB X K W [] tNext dSkip := ⟨pss_nil, ss_skip⟩
theorem xb_cons (h1 : XS X K W s t ms) (h2 : XB X K W rest u mr) : XB X K W (s :: rest) (tSeq t u) (dSeq ms mr) := ⟨pss_cons h1.1 h2.1, ss_seq h1.2 h2.2⟩
theorem xb_one (h1 : XS X K W s t ms) : XB X K W [s] t ms := ⟨pss_one h1.1, h1.2⟩
theorem xs_pass : XS X K W (.Pass pos) tNext dSkip := ⟨ps_pass, ss_skip⟩
theorem xs_brk : XS X K W (.Break pos) tBreak dBrk := ⟨ps_break, ss_brk⟩
theorem xs_cnt : XS X K W (.Continue pos) tCont dCnt := ⟨ps_continue, ss_cnt⟩
theorem xs_ret (h : XE X K W e te me) : XS X K W (.Return (some e) pos) (tRet te) (dRet me) := ⟨ps_ret h.1, ss_ret h.2⟩
theorem xs_retN : XS X K W (.Return none pos) tRetN dRetN := ⟨ps_retN, ss_retN⟩
theorem xs_expr (h : XE X K W e te me) (hs : swapsWith e none pos.line X.env = pure false := by rfl) : XS X K W (.Expr e pos) (tDrop te) (dDrop me) := ⟨ps_expr h.1 hs, ss_drop h.2⟩
theorem xs_asg {tg : Expr} (h : XE X K W e te me) (hg : XG X K tg g mg vs) (hp : PE X e te → PG X tg g → PS X (.Assign [tg] e pos) (tAsg te g)) : XS X K W (.Assign [tg] e pos) (tAsg te g) (dAsg me mg) := ⟨hp h.1 hg.1, ss_asg h.2 hg.2⟩
theorem xs_set (i : Nat) (nd : X.N.Nodup) (h : XE X K W e te me) (hi : X.N[i]? = some x := by rfl) (hx : Loc X.env.scope x := by first | exact Or.inl rfl | exact Or.inr rfl) (hs : swapsWith e (some (.Name x pos')) pos.line X.env = pure false := by rfl) (hf : X.fn x = true ∨ X.env.scope.names.lookup x = some .local := by first | exact .inl rfl | exact .inr rfl) :
    XS X K W (.Assign [.Name x pos'] e pos) (tAsg te (gName i)) (dAsg me (gP i)) := ⟨ps_set nd hi hx h.1 hs hf, ss_asg h.2 (sg_name i)⟩
theorem xs_setO (i : Nat) (nd : X.N.Nodup) (h : XN X K W e te mn) (hi : X.N[i]? = some x := by rfl) (hx : Loc X.env.scope x := by first | exact Or.inl rfl | exact Or.inr rfl) (hs : swapsWith e (some (.Name x pos')) pos.line X.env = pure false := by rfl) (hf : X.fn x = true ∨ X.env.scope.names.lookup x = some .local := by first | exact .inl rfl | exact .inr rfl) :
    XS X K W (.Assign [.Name x pos'] e pos) (tAsg te (gName i)) (dAsgO i mn) := ⟨ps_set nd hi hx h.1 hs hf, ss_asgO h.2⟩
/-- the same where the statement has a rule of its own (a comprehension stored) -/
theorem xs_setR {k0 : Nat} (C : Ctx X K W k0) (i : Nat) {st : Stmt} (hp : PS X st (tAsg te (gName i))) (h : SE K W te me) : XS X K W st (tAsg te (gName i)) (dAsg me (gP i)) := by
  have hK := C.hK
  subst hK
  exact ⟨hp, ss_asg h (sg_name i)⟩
theorem xs_setOR {k0 : Nat} (C : Ctx X K W k0) (i : Nat) {st : Stmt} (hp : PS X st (tAsg te (gName i))) (h : SN K W te mn) : XS X K W st (tAsg te (gName i)) (dAsgO i mn) := by
  have hK := C.hK
  subst hK
  exact ⟨hp, ss_asgO h⟩
theorem xs_frz (i : Nat) (h : XS X K W s t ms) : XS X K W s t (dFrz i ms) := ⟨h.1, ss_frz i h.2⟩
theorem xs_if (hc : XT X K W e tc mc) (h1 : XB X K W body t ms) (h2 : XB X K W orelse u mr) : XS X K W (.If e body orelse pos) (tIfS tc t u) (dIfS mc ms mr) := ⟨ps_if hc.1 h1.1 h2.1, ss_if hc.2 h1.2 h2.2⟩
theorem xs_app {k0 : Nat} (C : Ctx X K W k0) (i : Nat) {st : Stmt} (h : XE X K W e te me) (hp : PE X e te → PS X st (tDrop (tBM K "list" rAppend (tVar i) (tCons te tNil)))) : XS X K W st (tDrop (tBM K "list" rAppend (tVar i) (tCons te tNil))) (dApp i me) := by
  have hK := C.hK
  subst hK
  exact ⟨hp h.1, ss_app h.2⟩
theorem xs_put (i : Nat) {st : Stmt} (h : XE X K W e te me) (hi : XE X K W a ti mi) (hp : PE X e te → PE X a ti → PS X st (tAsg te (gSub (tVar i) ti rSetL))) : XS X K W st (tAsg te (gSub (tVar i) ti rSetL)) (dPut i me mi) := ⟨hp h.1 hi.1, ss_put h.2 hi.2⟩
theorem xs_par (i j : Nat) {st : Stmt} {b : Expr} (h : XA X K W [a, b] ta ma) (hp : PA X [a, b] ta → PS X st (tPar i j ta)) : XS X K W st (tPar i j ta) (dPar i j ma) := ⟨hp h.1, ss_par h.2⟩
theorem xn_lst (h : XA X K W es ta ma) : XN X K W (.List es pos) (tLst ta) (fun es P X => ma es (fun ds => ds.length ≤ 16777216 ∧ P ds) X) := ⟨pe_lst h.1, sn_lst h.2⟩
end
end Fw
namespace Fw
open PySem PySem.Spec L2

/-! ### what is walked -/
structure ItOk (K : Fg) (J : It) (B1 : Hp) (ds : List D) : Prop where
  go : ∀ {B H : Hp} {i : Nat}, Ex B1 B → Ex B H → i < ds.length → J.go i H ∧ ∀ x H', J.yld i H x H' → ∃ d B', ds[i]? = some d ∧ Gr B H B' H' ∧ Dp K B' x d
  stop : ∀ {B H : Hp}, Ex B1 B → Ex B H → J.stop ds.length H
structure SI (K : Fg) (W : WX) (wi : TI) (mi : DA) : Prop where
  run : ∀ {S : SA} {B0 H0 B H : Hp} {σ : L2.St} {es : En}, Sim K S B0 H0 σ es B H → ∀ (P : List D → Prop) (X : XP) (R : It → Hp → Prop), mi es P X →
    (∀ ds J B' H', P ds → GrS S B H B' H' → ItOk K J B' ds → R J H') → (∀ x cls dd B' H', X x → GrS S B H B' H' → XR K B' H' x cls dd → W cls dd σ H') → wi σ H R
def XI (X : Cx) (K : Fg) (W : WX) (tg iter : Expr) (wi : TI) (mi : DA) : Prop := PI X tg iter wi ∧ SI K W wi mi
def iL (me : DE) : DA := fun es P X => me es (fun d => match d with
  | .list ds => P ds
  | _ => False) X
def iT (me : DE) : DA := fun es P X => me es (fun d => match d with
  | .tuple ds => P ds
  | _ => False) X
def intsFrom (lo : Int) (n : Nat) : List D := (List.range n).map fun (k : Nat) => PyData.int (lo + k)
def iR1 (ma : DA) : DA := fun es P X => ma es (fun ds => match ds with
  | [.int n] => n < 2 ^ 62 ∧ -(2 ^ 62) ≤ n ∧ P (intsFrom 0 n.toNat)
  | _ => False) X
def iR2 (ma : DA) : DA := fun es P X => ma es (fun ds => match ds with
  | [.int a, .int b] => (-(2 ^ 62) ≤ a ∧ a < 2 ^ 62 ∧ -(2 ^ 62) ≤ b ∧ b < 2 ^ 62) ∧ P (intsFrom a (b - a).toNat)
  | _ => False) X
def iE (ma : DA) : DA := fun es P X => ma es (fun ds => match ds with
  | [.list xs] => P (xs.mapIdx fun i x => PyData.tuple [.int i, x])
  | _ => False) X
def zipD (xs ys : List D) : List D := List.zipWith (fun x y => PyData.tuple [x, y]) xs ys
def iZ (ma : DA) : DA := fun es P X => ma es (fun ds => match ds with
  | [.list xs, .list ys] => P (zipD xs ys)
  | [.tuple xs, .tuple ys] => P (zipD xs ys)
  | _ => False) X
def iS (me : DE) : DA := fun es P X => me es (fun d => match d with
  | .str z => P (z.cps.toList.map fun c => PyData.str ⟨#[c]⟩)
  | _ => False) X
section
variable {K : Fg} {W : WX} {te : TE} {me : DE} {ta : TA} {ma : DA}
theorem dps_some {B : Hp} {vs : List V} {ds : List D} {i : Nat} (h : DpAll K B vs ds) (l : i < ds.length) : ∃ v d, vs[i]? = some v ∧ ds[i]? = some d ∧ Dp K B v d := by
  obtain ⟨v, e, q⟩ := dps_get h (List.getElem?_eq_getElem l)
  exact ⟨v, _, e, List.getElem?_eq_getElem l, q⟩
theorem it_list {a : Addr} {xs : List V} {ds : List D} {B : Hp} (h : SqL K B a xs) (t : DpAll K B xs ds) : ItOk K (Itl K a) B ds :=
  ⟨fun {B2 H i} e1 e2 l => by
    obtain ⟨v, d, q1, q2, q3⟩ := dps_some t l
    refine ⟨⟨xs, v, (e1.trans e2).sqL h, q1⟩, fun x H' y => ?_⟩
    obtain ⟨rfl, y⟩ := y
    have z := y xs ((e1.trans e2).sqL h)
    rw [q1] at z
    cases z
    exact ⟨d, B2, q2, Gr.rfl e2, e1.dp q3⟩, fun e1 e2 => ⟨xs, (e1.trans e2).sqL h, by rw [dps_len t]; exact Nat.le_refl _⟩⟩
theorem it_tup {a : Addr} {xs : List V} {ds : List D} {B : Hp} (h : SqT K B a xs) (t : DpAll K B xs ds) : ItOk K (Itt K a) B ds :=
  ⟨fun {B2 H i} e1 e2 l => by
    obtain ⟨v, d, q1, q2, q3⟩ := dps_some t l
    refine ⟨⟨xs, v, (e1.trans e2).sqT h, q1⟩, fun x H' y => ?_⟩
    obtain ⟨rfl, y⟩ := y
    have z := y xs ((e1.trans e2).sqT h)
    rw [q1] at z
    cases z
    exact ⟨d, B2, q2, Gr.rfl e2, e1.dp q3⟩, fun e1 e2 => ⟨xs, (e1.trans e2).sqT h, by rw [dps_len t]; exact Nat.le_refl _⟩⟩
theorem it_rng {lo : Int} {n : Nat} {B : Hp} : ItOk K (Itr lo n) B (intsFrom lo n) :=
  ⟨fun {B2 H i} e1 e2 l => by
    have l' : i < n := by simpa [intsFrom] using l
    refine ⟨l', fun x H' y => ?_⟩
    obtain ⟨rfl, rfl⟩ := y
    exact ⟨.int (lo + i), B2, by simp [intsFrom, l'], Gr.rfl e2, .int _⟩, fun _ _ => by show n ≤ _; simp [intsFrom]⟩
theorem it_enum {a : Addr} {xs : List V} {ds : List D} {B : Hp} (h : SqL K B a xs) (t : DpAll K B xs ds) : ItOk K (Ite K a) B (ds.mapIdx fun i x => PyData.tuple [.int i, x]) :=
  ⟨fun {B2 H i} e1 e2 l => by
    have l' : i < ds.length := by simpa using l
    obtain ⟨v, d, q1, q2, q3⟩ := dps_some t l'
    refine ⟨⟨xs, v, (e1.trans e2).sqL h, q1⟩, fun x H' y => ?_⟩
    obtain ⟨T, x', rfl, hT, rfl, y⟩ := y
    have z := y xs ((e1.trans e2).sqL h)
    rw [q1] at z
    cases z
    exact ⟨.tuple [.int i, d], _, by simp [q2], Gr.new e2 hT, .tup (SqT.of upd_same) (.cons (.int _) (.cons ((Ex.new (e2.back hT)).dp (e1.dp q3)) .nil))⟩,
   fun e1 e2 => ⟨xs, (e1.trans e2).sqL h, by simp [dps_len t]⟩⟩
theorem zip_get {xs ys : List D} {i : Nat} (h : i < (zipD xs ys).length) : i < xs.length ∧ i < ys.length := by
  simp [zipD] at h
  omega
theorem it_zipL {a b : Addr} {xs ys : List V} {ds es : List D} {B : Hp} (h : SqL K B a xs) (t : DpAll K B xs ds) (h2 : SqL K B b ys) (t2 : DpAll K B ys es) : ItOk K (Itz K a b) B (zipD ds es) :=
  ⟨fun {B2 H i} e1 e2 l => by
    obtain ⟨l1, l2⟩ := zip_get l
    obtain ⟨v, d, q1, q2, q3⟩ := dps_some t l1
    obtain ⟨v', d', r1, r2, r3⟩ := dps_some t2 l2
    refine ⟨⟨xs, ys, v, v', (e1.trans e2).sqL h, (e1.trans e2).sqL h2, q1, r1⟩, fun x H' y => ?_⟩
    obtain ⟨T, x', y', rfl, hT, rfl, y1, y2⟩ := y
    have z := y1 xs ((e1.trans e2).sqL h)
    rw [q1] at z
    cases z
    have z := y2 ys ((e1.trans e2).sqL h2)
    rw [r1] at z
    cases z
    have en := Ex.new (o := .tup [v, v']) (e2.back hT)
    exact ⟨.tuple [d, d'], _, by simp [zipD, List.getElem?_zipWith, q2, r2], Gr.new e2 hT, .tup (SqT.of upd_same) (.cons (en.dp (e1.dp q3)) (.cons (en.dp (e1.dp r3)) .nil))⟩,
   fun e1 e2 => ⟨xs, ys, (e1.trans e2).sqL h, (e1.trans e2).sqL h2, by simp only [zipD, List.length_zipWith, dps_len t, dps_len t2]; omega⟩⟩
theorem it_zipT {a b : Addr} {xs ys : List V} {ds es : List D} {B : Hp} (h : SqT K B a xs) (t : DpAll K B xs ds) (h2 : SqT K B b ys) (t2 : DpAll K B ys es) : ItOk K (RZ.ItzT K a b) B (zipD ds es) :=
  ⟨fun {B2 H i} e1 e2 l => by
    obtain ⟨l1, l2⟩ := zip_get l
    obtain ⟨v, d, q1, q2, q3⟩ := dps_some t l1
    obtain ⟨v', d', r1, r2, r3⟩ := dps_some t2 l2
    refine ⟨⟨xs, ys, v, v', (e1.trans e2).sqT h, (e1.trans e2).sqT h2, q1, r1⟩, fun x H' y => ?_⟩
    obtain ⟨T, x', y', rfl, hT, rfl, y1, y2⟩ := y
    have z := y1 xs ((e1.trans e2).sqT h)
    rw [q1] at z
    cases z
    have z := y2 ys ((e1.trans e2).sqT h2)
    rw [r1] at z
    cases z
    have en := Ex.new (o := .tup [v, v']) (e2.back hT)
    exact ⟨.tuple [d, d'], _, by simp [zipD, List.getElem?_zipWith, q2, r2], Gr.new e2 hT, .tup (SqT.of upd_same) (.cons (en.dp (e1.dp q3)) (.cons (en.dp (e1.dp r3)) .nil))⟩,
   fun e1 e2 => ⟨xs, ys, (e1.trans e2).sqT h, (e1.trans e2).sqT h2, by simp only [zipD, List.length_zipWith, dps_len t, dps_len t2]; omega⟩⟩
theorem si_list (h : SE K W te me) : SI K W (iList K te) (iL me) := ⟨fun s P X R q k kx => h.run s _ X _ q (fun d v B' H' p g dv => by
  cases dv <;> try exact p.elim
  rename_i s1 t1
  exact ⟨_, rfl, ⟨_, g.bh.sqL s1⟩, k _ _ _ _ p g (it_list s1 t1)⟩) kx⟩
theorem si_tup (h : SE K W te me) : SI K W (iTup K te) (iT me) := ⟨fun s P X R q k kx => h.run s _ X _ q (fun d v B' H' p g dv => by
  cases dv <;> try exact p.elim
  rename_i s1 t1
  exact ⟨_, rfl, ⟨_, g.bh.sqT s1⟩, k _ _ _ _ p g (it_tup s1 t1)⟩) kx⟩
theorem si_rng1 (h : SAr K W ta ma) : SI K W (iRng1 ta) (iR1 ma) := ⟨fun s P X R q k kx => h.run s _ X _ q (fun ds vs B' H' p g dvs => by
  cases dvs with
  | nil => exact p.elim
  | cons a r => cases r with
    | cons _ _ => cases a <;> exact p.elim
    | nil => cases a <;> first | exact p.elim | exact ⟨_, rfl, p.2.1, p.1, k _ _ _ _ p.2.2 g it_rng⟩) kx⟩
theorem si_rng2 (h : SAr K W ta ma) : SI K W (iRng2 ta) (iR2 ma) := ⟨fun s P X R q k kx => h.run s _ X _ q (fun ds vs B' H' p g dvs => by
  cases dvs with
  | nil => exact p.elim
  | cons a r => cases r with
    | nil => cases a <;> exact p.elim
    | cons b r => cases r with
      | cons _ _ => cases a <;> cases b <;> exact p.elim
      | nil => cases a <;> cases b <;> first | exact p.elim | exact ⟨_, _, rfl, p.1, k _ _ _ _ p.2 g it_rng⟩) kx⟩
theorem si_enum (h : SAr K W ta ma) : SI K W (iEnum K ta) (iE ma) := ⟨fun s P X R q k kx => h.run s _ X _ q (fun ds vs B' H' p g dvs => by
  cases dvs with
  | nil => exact p.elim
  | cons a r => cases r with
    | cons _ _ => cases a <;> exact p.elim
    | nil => cases a with
      | lst s1 t1 => exact ⟨_, _, rfl, g.bh.sqL s1, k _ _ _ _ p g (it_enum s1 t1)⟩
      | _ => exact p.elim) kx⟩
theorem si_zip (h : SAr K W ta ma) : SI K W (RZ.iZipA K ta) (iZ ma) := ⟨fun s P X R q k kx => h.run s _ X _ q (fun ds vs B' H' p g dvs => by
  cases dvs with
  | nil => exact p.elim
  | cons a r => cases r with
    | nil => cases a <;> exact p.elim
    | cons b r => cases r with
      | cons _ _ => cases a <;> cases b <;> exact p.elim
      | nil => cases a with
        | lst s1 t1 => cases b with
          | lst s2 t2 => exact ⟨_, _, _, _, rfl, .inl ⟨g.bh.sqL s1, g.bh.sqL s2, k _ _ _ _ p g (it_zipL s1 t1 s2 t2)⟩⟩
          | _ => exact p.elim
        | tup s1 t1 => cases b with
          | tup s2 t2 => exact ⟨_, _, _, _, rfl, .inr ⟨g.bh.sqT s1, g.bh.sqT s2, k _ _ _ _ p g (it_zipT s1 t1 s2 t2)⟩⟩
          | _ => exact p.elim
        | _ => cases b <;> exact p.elim) kx⟩
end
section
variable {X : Cx} {K : Fg} {W : WX} {tg e e2 : Expr} {te : TE} {me : DE} {ta : TA} {ma : DA} {p pos tpos : Pos} {elts : List Expr} {kk : Nat}
theorem xi_list {k0 : Nat} (C : Ctx X K W k0) (h : XE X K W e te me) : XI X K W tg e (iList K te) (iL me) := by
  have hK := C.hK
  subst hK
  exact ⟨pi_list h.1, si_list h.2⟩
theorem xi_tup {k0 : Nat} (C : Ctx X K W k0) (h : XE X K W e te me) : XI X K W tg e (iTup K te) (iT me) := by
  have hK := C.hK
  subst hK
  exact ⟨pi_tup h.1, si_tup h.2⟩
theorem se_nil {X : Cx} : starEach [] X.env = [] := rfl
theorem xi_range1 (hm : X.mg "range" = none) (h : XA X K W [e] ta ma) (hg : Gl X "range" := by rfl) (hs : starEach [e] X.env = (false, eval e X.env) :: starEach [] X.env := by rfl) : XI X K W tg (.Call (.Name "range" p) [e] [] pos) (iRng1 ta) (iR1 ma) := ⟨pi_range1 hg hm h.1 (hs.trans (by rw [se_nil])), si_rng1 h.2⟩
theorem xi_range2 (hm : X.mg "range" = none) (h : XA X K W [e, e2] ta ma) (hg : Gl X "range" := by rfl) (hs : starEach [e, e2] X.env = (false, eval e X.env) :: starEach [e2] X.env := by rfl) (hs2 : starEach [e2] X.env = (false, eval e2 X.env) :: starEach [] X.env := by rfl) : XI X K W tg (.Call (.Name "range" p) [e, e2] [] pos) (iRng2 ta) (iR2 ma) :=
  ⟨pi_range2 hg hm h.1 (hs.trans (by rw [hs2, se_nil])) (hs2.trans (by rw [se_nil])), si_rng2 h.2⟩
theorem xi_enum {k0 : Nat} (C : Ctx X K W k0) (hm : X.mg "enumerate" = none) (h : XA X K W [e] ta ma) (hg : Gl X "enumerate" := by rfl) (hs : starEach [e] X.env = (false, eval e X.env) :: starEach [] X.env := by rfl) : XI X K W (.Tuple elts kk tpos) (.Call (.Name "enumerate" p) [e] [] pos) (iEnum K ta) (iE ma) := by
  have hK := C.hK
  subst hK
  exact ⟨pi_enum hg hm h.1 (hs.trans (by rw [se_nil])), si_enum h.2⟩
theorem xi_zip {k0 : Nat} (C : Ctx X K W k0) (hm : X.mg "zip" = none) (h : XA X K W [e, e2] ta ma) (hg : Gl X "zip" := by rfl) (hs : starEach [e, e2] X.env = (false, eval e X.env) :: starEach [e2] X.env := by rfl) (hpl : (backTo pos (starEach [e2] X.env)).any (·.1) = false := by rfl) : XI X K W (.Tuple elts kk tpos) (.Call (.Name "zip" p) [e, e2] [] pos) (RZ.iZipA K ta) (iZ ma) := by
  have hK := C.hK
  subst hK
  exact ⟨RZ.pi_zipA hg hm h.1 hs hpl, si_zip h.2⟩
end

/-! ### for -/
def forGo (mg : DG) (mb : DS) (E : Eo) : List D → En → Prop
  | [], es => E.nx es
  | d :: r, es => mg d es (fun es' => mb { E with nx := forGo mg mb E r, ct := forGo mg mb E r, bk := E.nx } es')
def dFor (mi : DA) (mg : DG) (mb : DS) : DS := fun E es => mi es (fun ds => forGo mg mb E ds es) (fun x => E.xx x es)
theorem ss_for {K : Fg} {W : WX} {wi : TI} {mi : DA} {g : TG} {mg : DG} {vs : List Nat} {tb : TS} {mb : DS} (hi : SI K W wi mi) (hg : SG K g mg vs) (hb : SS K W tb mb) : SS K W (tFor wi g tb) (dFor mi mg mb) := ⟨fun {S B0 H0 B H σ es} s E Z q kn kr kb kc kx => by
  refine hi.run s _ _ _ q (fun ds J B1 H1 p g1 it => ?_) fun x cls dd B' H' hx g r => kx _ _ _ _ _ _ _ hx (s.step g) g.bb r
  refine ⟨fun i m σ' H' => m = ds.length - i ∧ i ≤ ds.length ∧ ∃ es' B', forGo mg mb E (ds.drop i) es' ∧ Sim K S B0 H0 σ' es' B' H' ∧ Ex B1 B', ⟨_, rfl, Nat.zero_le _, es, B1, p, s.step g1, Ex.rfl⟩, ?_⟩
  rintro i m σ' H' ⟨rfl, hl, es', B', f, s', e1⟩
  by_cases c : i < ds.length
  · obtain ⟨h1, h2⟩ := it.go e1 s'.bh c
    refine .inr ⟨h1, fun σ2 H2 => ∃ es2 B2, forGo mg mb E (ds.drop (i + 1)) es2 ∧ Sim K S B0 H0 σ2 es2 B2 H2 ∧ Ex B1 B2, fun σ2 H2 z => ⟨ds.length - (i + 1), by omega, rfl, c, z⟩, fun x H2 y => ?_⟩
    obtain ⟨d, B2, ed, gr, dx⟩ := h2 x H2 y
    rw [List.drop_eq_getElem_cons c] at f
    have e3 : ds[i] = d := by
      rw [List.getElem?_eq_getElem c] at ed
      exact Option.some.inj ed
    rw [e3] at f
    have s2 := s'.step (s'.gr gr)
    have e2 : Ex B1 B2 := e1.trans gr.bb
    refine hg.run s2 dx _ _ f fun σ3 es3 p3 s3 _ => ?_
    exact hb.run s3 _ _ p3 (fun σ4 es4 B4 H4 p4 s4 e4 => ⟨es4, B4, p4, s4, e2.trans e4⟩) kr (fun σ4 es4 B4 H4 p4 s4 e4 => kn _ _ _ _ p4 s4 (g1.bb.trans (e2.trans e4))) (fun σ4 es4 B4 H4 p4 s4 e4 => ⟨es4, B4, p4, s4, e2.trans e4⟩) (fun x c d a b e f q s w r => kx x c d a b e f q s (g1.bb.trans (e2.trans w)) r)
  · have e : i = ds.length := by omega
    subst e
    rw [List.drop_length] at f
    exact .inl ⟨it.stop e1 s'.bh, kn _ _ _ _ f s' (g1.bb.trans e1)⟩⟩

/-! ### while -/
def dWhile (mt : DT) (mb : DS) : DS := fun E es => ∃ (I : En → Prop) (μ : En → Nat), I es ∧ ∀ es, I es → mt es (fun b => if b = true then mb { E with nx := fun es' => I es' ∧ μ es' < μ es, ct := fun es' => I es' ∧ μ es' < μ es, bk := E.nx } es else E.nx es) (fun x => E.xx x es)
theorem ss_while {K : Fg} {W : WX} {tc : TT} {mc : DT} {tb : TS} {mb : DS} (hc : ST K W tc mc) (hb : SS K W tb mb) : SS K W (tWhile tc tb) (dWhile mc mb) := ⟨fun {S B0 H0 B H σ es} s E Z q kn kr kb kc kx => by
  obtain ⟨I, μ, i0, turn⟩ := q
  refine ⟨fun m σ' H' => ∃ es' B', m = μ es' ∧ I es' ∧ Sim K S B0 H0 σ' es' B' H' ∧ Ex B B', ⟨_, es, B, rfl, i0, s, Ex.rfl⟩, ?_⟩
  rintro m σ' H' ⟨es', B', rfl, i1, s', e1⟩
  refine hc.run s' _ _ _ (turn es' i1) (fun b B2 H2 p g => ?_) fun x cls dd B' H' hx g r => kx _ _ _ _ _ _ _ hx (s'.step g) (e1.trans g.bb) r
  have s2 := s'.step g
  have e2 := e1.trans g.bb
  cases b with
  | false => exact kn _ _ _ _ p s2 e2
  | true =>
    refine ⟨fun σ3 H3 => ∃ es3 B3, (I es3 ∧ μ es3 < μ es') ∧ Sim K S B0 H0 σ3 es3 B3 H3 ∧ Ex B B3, fun σ3 H3 ⟨es3, B3, ⟨j, l⟩, z, w⟩ => ⟨_, l, es3, B3, rfl, j, z, w⟩, ?_⟩
    exact hb.run s2 _ _ p (fun σ4 es4 B4 H4 p4 s4 e4 => ⟨es4, B4, p4, s4, e2.trans e4⟩) kr (fun σ4 es4 B4 H4 p4 s4 e4 => kn _ _ _ _ p4 s4 (e2.trans e4)) (fun σ4 es4 B4 H4 p4 s4 e4 => ⟨es4, B4, p4, s4, e2.trans e4⟩) (fun x c d a b e f q s w r => kx x c d a b e f q s (e2.trans w) r)⟩
section
variable {X : Cx} {K : Fg} {W : WX} {k : Nat} {tg iter e : Expr} {wi : TI} {mi : DA} {g : TG} {mg : DG} {vs : List Nat} {body : List Stmt} {tb : TS} {mb : DS} {tc : TT} {mc : DT} {pos : Pos}
theorem xs_for (C : Ctx X K W k) (hi : XI X K W tg iter wi mi) (hg : XG X K tg g mg vs) (hb : XB X K W body tb mb) (hs : ∀ x, foldedSetIterable iter X.env x = pure x := by intro _; rfl) : XS X K W (.For tg iter body [] pos) (tFor wi g tb) (dFor mi mg mb) := ⟨ps_for C.po C.calm hi.1 hg.1 hb.1 hs, ss_for hi.2 hg.2 hb.2⟩
theorem xs_while (C : Ctx X K W k) (hc : XT X K W e tc mc) (hb : XB X K W body tb mb) : XS X K W (.While e body [] pos) (tWhile tc tb) (dWhile mc mb) := ⟨ps_while C.po hc.1 hb.1, ss_while hc.2 hb.2⟩
end
end Fw
namespace Fw
open PySem PySem.Spec L2

/-! ### comprehensions -/
abbrev WF : WX := fun _ _ _ _ => False
def wipeE (es : En) : List Nat → En
  | [] => es
  | v :: vs => (wipeE es vs).set v .un
theorem Sim.wipe {K : Fg} {S : SA} {B0 H0 B H : Hp} {σ : L2.St} {es : En} (s : Sim K S B0 H0 σ es B H) : ∀ vs : List Nat, Sim K S B0 H0 (L2.wipe σ vs) (wipeE es vs) B H
  | [] => s
  | v :: vs => (Sim.wipe s vs).setU none v
def lcGo (mg : DG) (mt : DT) (me : DE) (es0 : En) : List D → List D → (List D → Prop) → Prop
  | [], acc, P => P acc
  | d :: r, acc, P => mg d es0 (fun es1 => mt es1 (fun b => if b = true then me es1 (fun y => acc.length < 16777216 ∧ lcGo mg mt me es0 r (acc ++ [y]) P) (fun _ => False) else lcGo mg mt me es0 r acc P) (fun _ => False))
def dLc (mi : DA) (mg : DG) (mt : DT) (me : DE) (vs : List Nat) : DA := fun es P X => mi es (fun ds => lcGo mg mt me (wipeE es vs) ds [] P) X
theorem GrS.poke {S : SA} {B H B' H' : Hp} {p : Addr} {o : HO} (g : GrS S B H B' H') (hn : H p = none) (hb : B' p = none) (nS : ¬ S.has p) : GrS S B H B' (upd H' p o) :=
  ⟨g.bb, fun a u q n => by
    rw [upd_ne (ne_of_none q hn)]
    exact g.hh a u q n, fun a u q => by
    rw [upd_ne (ne_of_none q hb)]
    exact g.bh a u q, g.ne, g.sp.kept fun a q => upd_ne fun z => nS (z ▸ q)⟩
theorem sn_lc {K : Fg} {W : WX} {wi : TI} {mi : DA} {g : TG} {mg : DG} {vs0 vs : List Nat} {tt : TT} {mt : DT} {te : TE} {me : DE} (hi : SI K W wi mi) (hg : SG K g mg vs0) (hv : vs0 ⊆ vs) (ht : ST K WF tt mt) (he : SE K WF te me) :
    SN K W (tLc wi g tt te vs) (dLc mi mg mt me vs) := ⟨fun {S B0 H0 B H σ es} s P X Q q k kx => by
  refine hi.run s _ _ _ q (fun ds J B1 H1 p g1 it => ?_) kx
  have s1 := s.step g1
  intro L hL
  have nS : ¬ S.has L := fun z => (SprO.get s1.gs.sp z) hL
  have sw := s1.wipe vs
  have hB1 : B1 L = none := s1.bh.back hL
  refine ⟨fun i m H' => m = ds.length - i ∧ i ≤ ds.length ∧ ∃ B' xs acc, lcGo mg mt me (wipeE es vs) (ds.drop i) acc P ∧ GrS S B1 H1 B' H' ∧ H' L = some (.lst xs) ∧ DpAll K B' xs acc ∧ B' L = none,
    ⟨_, rfl, Nat.zero_le _, B1, [], [], p, s1.rfl.poke hL hB1 nS, upd_same, .nil, hB1⟩, ?_⟩
  rintro i m H' ⟨rfl, hl, B', xs, acc, f, gr, hx, dx, hb⟩
  by_cases c : i < ds.length
  · obtain ⟨h1, h2⟩ := it.go gr.bb gr.bh c
    refine .inr ⟨h1, fun H2 => ∃ B2 xs acc, lcGo mg mt me (wipeE es vs) (ds.drop (i + 1)) acc P ∧ GrS S B1 H1 B2 H2 ∧ H2 L = some (.lst xs) ∧ DpAll K B2 xs acc ∧ B2 L = none, fun H2 z => ⟨ds.length - (i + 1), by omega, rfl, c, z⟩, fun x H2 y => ?_⟩
    obtain ⟨d, B2, ed, gx, dv⟩ := h2 x H2 y
    rw [List.drop_eq_getElem_cons c] at f
    have e3 : ds[i] = d := by
      rw [List.getElem?_eq_getElem c] at ed
      exact Option.some.inj ed
    rw [e3] at f
    have sw' := sw.step gr
    have gx' := sw'.gr gx
    have s2 := sw'.step gx'
    have hx2 : H2 L = some (.lst xs) := gx.hh L _ hx
    have hb2 : B2 L = none := (gx.ne L (by rw [hx]; exact fun z => nomatch z)).trans hb
    refine hg.run s2 dv _ _ f fun σ3 es3 p3 s3 wp => ⟨(wp vs hv).trans ?_, ?_⟩
    · have : ∀ ws : List Nat, L2.wipe (L2.wipe σ ws) ws = L2.wipe σ ws := by
        intro ws
        induction ws with
        | nil => rfl
        | cons a r ih =>
          have e : ∀ (τ : L2.St) (us : List Nat), L2.wipe (τ.set a none) us = (L2.wipe τ us).set a none := by
            intro τ us
            induction us with
            | nil => rfl
            | cons b us ih2 =>
              show (L2.wipe (τ.set a none) us).set b none = ((L2.wipe τ us).set b none).set a none
              rw [ih2]
              by_cases z : a = b
              · rw [z]
              · rw [List.set_comm _ _ z]
          show (L2.wipe ((L2.wipe σ r).set a none) r).set a none = (L2.wipe σ r).set a none
          rw [e, ih, List.set_set]
      exact this vs
    refine ht.run s3 _ _ _ p3 (fun b B4 H4 p4 g4 => ?_) fun _ _ _ _ _ h => h.elim
    have hx4 : H4 L = some (.lst xs) := g4.hh L _ hx2 nS
    have hb4 : B4 L = none := (g4.ne L (by rw [hx2]; exact fun z => nomatch z)).trans hb2
    have gg := gr.trans (gx'.trans g4)
    cases b with
    | false => exact ⟨B4, xs, acc, p4, gg, hx4, g4.bb.dps (gx.bb.dps dx), hb4⟩
    | true =>
      refine he.run (s3.step g4) _ _ _ p4 (fun y v B5 H5 p5 g5 dy => ?_) fun _ _ _ _ _ h => h.elim
      have hx5 : H5 L = some (.lst xs) := g5.hh L _ hx4 nS
      have hb5 : B5 L = none := (g5.ne L (by rw [hx4]; exact fun z => nomatch z)).trans hb4
      have dx5 := g5.bb.dps (g4.bb.dps (gx.bb.dps dx))
      exact ⟨xs, hx5, by rw [sz_eq, dps_len dx5]; exact p5.1, B5, _, _, p5.2, (gg.trans g5).poke hL hb5 nS, upd_same, dps_app dx5 (.cons dy .nil), hb5⟩
  · have e : i = ds.length := by omega
    subst e
    rw [List.drop_length] at f
    refine .inl ⟨it.stop gr.bb gr.bh, k _ _ _ _ _ f (g1.trans gr) ?_ hb hx dx⟩
    cases z : H L with
    | none => rfl
    | some o => exact absurd hL (g1.ex (by rw [z]; exact fun w => nomatch w))⟩
def mYes : DT := fun _ P _ => P true
def XTs (X : Cx) (K : Fg) (W : WX) (ifs : List Expr) (tt : TT) (mt : DT) : Prop := PTs X ifs tt ∧ ST K W tt mt
theorem xts_nil {X : Cx} {K : Fg} {W : WX} : XTs X K W [] tYes mYes := ⟨pts_nil, ⟨fun s P X Q q k _ => k _ _ _ q s.rfl⟩⟩
theorem xts_one {X : Cx} {K : Fg} {W : WX} {c : Expr} {tt : TT} {mt : DT} (h : XT X K W c tt mt) : XTs X K W [c] tt mt := ⟨pts_one h.1, h.2⟩
theorem Ctx.blk {X : Cx} {K : Fg} {W : WX} {k : Nat} (C : Ctx X K W k) {s : Shared} {H : Hp} {scope : Scope} {cenv : PySem.Env} {fp : List Addr} : Ctx (X.blk s H scope cenv fp) K WF k :=
  ⟨C.hK, takes0, PassesOwn.never, C.hr, C.calm, C.nd⟩
section
variable {X : Cx} {K : Fg} {W : WX} {k : Nat} {elt tg iter : Expr} {ifs : List Expr} {scope : Scope} {own : List (Str × Nat)} {pos spos py : Pos} {wi : TI} {mi : DA} {g : TG} {mg : DG} {vs0 : List Nat} {tt : TT} {mt : DT} {te : TE} {me : DE} {y : Str}
theorem xn_lc {vs : List Nat} (C : Ctx X K W k) (hi : XI X K W tg iter wi mi) (ok : BlkOk X.N X.env.scope scope own)
    (hg : ∀ (s : Shared) (H : Hp) (c : Addr) (cl : List (Str × Addr)) (fp : List Addr), Ctx (X.blk s H scope (compEnvC scope cl c X.env) fp) K WF k → XG (X.blk s H scope (compEnvC scope cl c X.env) fp) K tg g mg vs0) (ht : ∀ (s : Shared) (H : Hp) (c : Addr) (cl : List (Str × Addr)) (fp : List Addr), Ctx (X.blk s H scope (compEnvC scope cl c X.env) fp) K WF k → XTs (X.blk s H scope (compEnvC scope cl c X.env) fp) K WF ifs tt mt)
    (he : ∀ (s : Shared) (H : Hp) (c : Addr) (cl : List (Str × Addr)) (fp : List Addr), Ctx (X.blk s H scope (compEnvC scope cl c X.env) fp) K WF k → XE (X.blk s H scope (compEnvC scope cl c X.env) fp) K WF elt te me) (hvs : own.map (·.2) = vs) (hv : vs0 ⊆ vs) (hs : ∀ x, foldedSetIterable iter X.env x = pure x) :
    XN X K W (.ListComp elt [⟨tg, iter, ifs, 0⟩] scope pos) (tLc wi g tt te vs) (dLc mi mg mt me vs) := by
  subst hvs
  exact ⟨pe_lc C.calm C.nd hi.1 ok (fun s H c cl fp => (hg s H c cl fp C.blk).1) (fun s H c cl fp => (ht s H c cl fp C.blk).1) (fun s H c cl fp => (he s H c cl fp C.blk).1) hs,
   sn_lc hi.2 (hg X.s_0 X.H_0 0 [] [] C.blk).2 hv (ht X.s_0 X.H_0 0 [] [] C.blk).2 (he X.s_0 X.H_0 0 [] [] C.blk).2⟩
/-- y = [..]: the list is the slot's own -/
theorem xs_lcO {vs : List Nat} (C : Ctx X K W k) (i : Nat) (hy : X.N[i]? = some y) (hyl : X.env.scope.names.lookup y = some .local) (hsw : swapsWith (.ListComp elt [⟨tg, iter, ifs, 0⟩] scope pos) (some (.Name y py)) spos.line X.env = pure true) (hi : XI X K W tg iter wi mi) (ok : BlkOk X.N X.env.scope scope own)
    (hg : ∀ (s : Shared) (H : Hp) (c : Addr) (cl : List (Str × Addr)) (fp : List Addr), Ctx (X.blk s H scope (compEnvC scope cl c X.env) fp) K WF k → XG (X.blk s H scope (compEnvC scope cl c X.env) fp) K tg g mg vs0) (ht : ∀ (s : Shared) (H : Hp) (c : Addr) (cl : List (Str × Addr)) (fp : List Addr), Ctx (X.blk s H scope (compEnvC scope cl c X.env) fp) K WF k → XTs (X.blk s H scope (compEnvC scope cl c X.env) fp) K WF ifs tt mt)
    (he : ∀ (s : Shared) (H : Hp) (c : Addr) (cl : List (Str × Addr)) (fp : List Addr), Ctx (X.blk s H scope (compEnvC scope cl c X.env) fp) K WF k → XE (X.blk s H scope (compEnvC scope cl c X.env) fp) K WF elt te me) (hvs : own.map (·.2) = vs) (hv : vs0 ⊆ vs) (hs : ∀ x, foldedSetIterable iter X.env x = pure x) :
    XS X K W (.Assign [.Name y py] (.ListComp elt [⟨tg, iter, ifs, 0⟩] scope pos) spos) (tAsg (tLc wi g tt te vs) (gName i)) (dAsgO i (dLc mi mg mt me vs)) := by
  subst hvs
  exact ⟨ps_setLc C.calm C.nd hy hyl hsw hi.1 ok (fun s H c cl fp => (hg s H c cl fp C.blk).1) (fun s H c cl fp => (ht s H c cl fp C.blk).1) (fun s H c cl fp => (he s H c cl fp C.blk).1) hs,
   ss_asgO (sn_lc hi.2 (hg X.s_0 X.H_0 0 [] [] C.blk).2 hv (ht X.s_0 X.H_0 0 [] [] C.blk).2 (he X.s_0 X.H_0 0 [] [] C.blk).2)⟩
/-- y = [..]: the list is plain data at once -/
theorem xs_lc {vs : List Nat} (C : Ctx X K W k) (i : Nat) (hy : X.N[i]? = some y) (hyl : X.env.scope.names.lookup y = some .local) (hsw : swapsWith (.ListComp elt [⟨tg, iter, ifs, 0⟩] scope pos) (some (.Name y py)) spos.line X.env = pure true) (hi : XI X K W tg iter wi mi) (ok : BlkOk X.N X.env.scope scope own)
    (hg : ∀ (s : Shared) (H : Hp) (c : Addr) (cl : List (Str × Addr)) (fp : List Addr), Ctx (X.blk s H scope (compEnvC scope cl c X.env) fp) K WF k → XG (X.blk s H scope (compEnvC scope cl c X.env) fp) K tg g mg vs0) (ht : ∀ (s : Shared) (H : Hp) (c : Addr) (cl : List (Str × Addr)) (fp : List Addr), Ctx (X.blk s H scope (compEnvC scope cl c X.env) fp) K WF k → XTs (X.blk s H scope (compEnvC scope cl c X.env) fp) K WF ifs tt mt)
    (he : ∀ (s : Shared) (H : Hp) (c : Addr) (cl : List (Str × Addr)) (fp : List Addr), Ctx (X.blk s H scope (compEnvC scope cl c X.env) fp) K WF k → XE (X.blk s H scope (compEnvC scope cl c X.env) fp) K WF elt te me) (hvs : own.map (·.2) = vs) (hv : vs0 ⊆ vs) (hs : ∀ x, foldedSetIterable iter X.env x = pure x) :
    XS X K W (.Assign [.Name y py] (.ListComp elt [⟨tg, iter, ifs, 0⟩] scope pos) spos) (tAsg (tLc wi g tt te vs) (gName i)) (dAsg (dNew (dLc mi mg mt me vs)) (gP i)) := by
  subst hvs
  exact ⟨ps_setLc C.calm C.nd hy hyl hsw hi.1 ok (fun s H c cl fp => (hg s H c cl fp C.blk).1) (fun s H c cl fp => (ht s H c cl fp C.blk).1) (fun s H c cl fp => (he s H c cl fp C.blk).1) hs,
   ss_asg (se_new (sn_lc hi.2 (hg X.s_0 X.H_0 0 [] [] C.blk).2 hv (ht X.s_0 X.H_0 0 [] [] C.blk).2 (he X.s_0 X.H_0 0 [] [] C.blk).2)) (sg_name i)⟩
end

/-! ### a list of a slot's own, looked at -/
def flatD : D → Bool
  | .none => true
  | .bool _ => true
  | .int _ => true
  | .str _ => true
  | _ => false
theorem flat_dp {K : Fg} {B B' : Hp} {v : V} {d : D} (f : flatD d = true) (h : Dp K B v d) : Dp K B' v d := by
  cases h <;> first | exact .non | exact .bl _ | exact .int _ | exact .str _ | cases f
def hideB (B H B2 : Hp) : Hp := fun b => match B b, H b with
  | none, some _ => none
  | _, _ => B2 b
theorem hide_gr {S : SA} {B H B' B2 H2 : Hp} (e : Ex B B') (g : GrS S B' H B2 H2) (bh : Ex B H) : GrS S B H (hideB B H B2) H2 :=
  ⟨fun a o q => by
    unfold hideB
    rw [q]
    exact g.bb a o (e a o q), g.hh, fun a o q => by
    unfold hideB at q
    split at q
    · cases q
    · exact g.bh a o q, fun a q => by
    unfold hideB
    cases c : B a with
    | some o => exact g.bb a o (e a o c)
    | none =>
      cases z : H a with
      | none => exact absurd z q
      | some u => rfl, g.sp⟩
def dLook (i : Nat) (me : DE) : DE := fun es P X => ∃ ds, es[i]? = some (.o ds) ∧ me (es.set i (.p (.list ds))) (fun d => flatD d = true ∧ P d) (fun x => x.2 = none ∧ X x)
def dLookT (i : Nat) (mt : DT) : DT := fun es P X => ∃ ds, es[i]? = some (.o ds) ∧ mt (es.set i (.p (.list ds))) P (fun x => x.2 = none ∧ X x)
def dIxO (i : Nat) (mb : DE) : DE := fun es P X => ∃ ds, es[i]? = some (.o ds) ∧ mb es (fun k => match k with
  | .int n => ∃ d, atI ds n = some d ∧ P d
  | _ => False) X
section
variable {K : Fg} {W : WX} {te : TE} {me : DE} {tt : TT} {mt : DT}
theorem se_look (i : Nat) (h : SE K W te me) : SE K W te (dLook i me) := ⟨fun s P X Q q k kx => by
  obtain ⟨ds, e, q⟩ := q
  obtain ⟨B', eb, s'⟩ := s.frz e
  refine h.run s' _ _ _ q (fun d v B2 H2 p g dv => k _ _ _ _ p.2 (hide_gr eb g s.bh) (flat_dp p.1 dv)) fun x cls dd B2 H2 hx g r => kx _ _ _ _ _ hx.2 (hide_gr eb g s.bh) ?_
  obtain ⟨r1, r2⟩ := r
  refine ⟨r1, ?_⟩
  rw [hx.1] at r2 ⊢
  exact r2⟩
theorem st_look (i : Nat) (h : ST K W tt mt) : ST K W tt (dLookT i mt) := ⟨fun s P X Q q k kx => by
  obtain ⟨ds, e, q⟩ := q
  obtain ⟨B', eb, s'⟩ := s.frz e
  refine h.run s' _ _ _ q (fun b B2 H2 p g => k _ _ _ p (hide_gr eb g s.bh)) fun x cls dd B2 H2 hx g r => kx _ _ _ _ _ hx.2 (hide_gr eb g s.bh) ?_
  obtain ⟨r1, r2⟩ := r
  refine ⟨r1, ?_⟩
  rw [hx.1] at r2 ⊢
  exact r2⟩
theorem se_ixO {i : Nat} (h : SE K W te me) : SE K W (tOp (rIx K) (tVar i) te) (dIxO i me) := ⟨fun {S B0 H0 B H σ es} s P X Q q k kx => by
  obtain ⟨ds, e, q⟩ := q
  obtain ⟨a, xs, h1, h2, h3⟩ := s.getO e
  refine ⟨_, h1, h.run s _ _ _ q (fun d v B' H' p g dv => ?_) kx⟩
  cases dv <;> try exact p.elim
  obtain ⟨d, z, w⟩ := p
  obtain ⟨a', xs', h1', h2', h3'⟩ := (s.step g).getO e
  rw [h1] at h1'
  obtain rfl : a = a' := by injection (Option.some.inj h1') with z; injection z
  obtain ⟨v, z2, dv⟩ := atI_dp h3' z
  exact .inl ⟨_, _, _, _, rfl, rfl, SqL.of h2', z2, k _ _ _ _ w g dv⟩⟩
end
section
variable {X : Cx} {K : Fg} {W : WX} {e a b : Expr} {te : TE} {me : DE} {tt : TT} {mt : DT} {pos pb : Pos} {x : Str}
theorem xe_look (i : Nat) (h : XE X K W e te me) : XE X K W e te (dLook i me) := ⟨h.1, se_look i h.2⟩
theorem xt_look (i : Nat) (h : XT X K W e tt mt) : XT X K W e tt (dLookT i mt) := ⟨h.1, st_look i h.2⟩
theorem xe_ixO {k0 : Nat} (C : Ctx X K W k0) (i : Nat) (h : XE X K W b te me) (hN : X.N[i]? = some x := by rfl) (hv : Vis X.env.scope x := by first | exact Or.inl rfl | exact Or.inr (Or.inl rfl) | exact Or.inr (Or.inr rfl)) (hd : (x == ("__debug__" : Str)) = false := by decide)
    (hcd : (x == ("__classdict__" : Str)) = false := by decide) (hs : PlainIx b := by exact fun _ _ => rfl) : XE X K W (.Subscript (.Name x pb) b pos) (tOp (rIx K) (tVar i) te) (dIxO i me) := by
  have hK := C.hK
  subst hK
  exact ⟨pe_ix ix_seq (pe_var hN hv hd hcd) h.1 hs, se_ixO h.2⟩
end

/-! ### built-ins -/
def bLen : D1
  | [.str z], P => z.length ≤ 16777216 ∧ P (.int z.length)
  | [.list ds], P => P (.int ds.length)
  | [.tuple ds], P => P (.int ds.length)
  | _, _ => False
def bAbs : D1
  | [.int i], P => P (.int (if i < 0 then -i else i))
  | _, _ => False
def bInt : D1
  | [.int i], P => P (.int i)
  | [.bool b], P => P (.int (if b then 1 else 0))
  | _, _ => False
def bTuple : D1
  | [.list ds], P => P (.tuple ds)
  | [.tuple ds], P => P (.tuple ds)
  | _, _ => False
def bList : D1
  | [.list ds], P => P (.list ds)
  | [.tuple ds], P => P (.list ds)
  | _, _ => False
def bAll : D1
  | [.list ds], P => ∃ bs : List Bool, ds = bs.map PyData.bool ∧ P (.bool (bs.all id))
  | _, _ => False
def bAny : D1
  | [.list ds], P => ∃ bs : List Bool, ds = bs.map PyData.bool ∧ P (.bool (bs.any id))
  | _, _ => False
def bMin : D1
  | [.int i, .int j], P => P (.int (if j < i then j else i))
  | _, _ => False
def bMax : D1
  | [.int i, .int j], P => P (.int (if j > i then j else i))
  | _, _ => False
def bGcd : D1
  | [.int i, .int j], P => P (.int ((Nat.gcd i.natAbs j.natAbs : Nat) : Int))
  | _, _ => False
section
variable {K : Fg}
theorem rc1 {r : List V → Hp → VK → Prop} {rd : D1} (h0 : ∀ P, ¬ rd [] P) (h2 : ∀ a b l P, ¬ rd (a :: b :: l) P)
    (h : ∀ {B H : Hp} {v : V} {d : D}, Ex B H → Dp K B v d → ∀ (P : D → Prop) (Q : VK), rd [d] P → (∀ d v B' H', P d → Gr B H B' H' → Dp K B' v d → Q v H') → r [v] H Q) : RC K r rd := ⟨fun e dp P Q q k => by
  cases dp with
  | nil => exact (h0 _ q).elim
  | cons a t => cases t with
    | nil => exact h e a P Q q k
    | cons b t => exact (h2 _ _ _ _ q).elim⟩
theorem rc_len : RC K (fun xs H Q => ∃ x n, xs = [x] ∧ LenV K x H n ∧ Q (.int n) H) bLen := rc1 (fun _ q => q) (fun a b l _ q => by cases a <;> exact q) fun e dv P Q q k => by
  cases dv <;> try exact q.elim
  · exact ⟨_, _, rfl, ⟨by rw [sz_eq]; exact q.1, rfl⟩, k _ _ _ _ q.2 (Gr.rfl e) (.int _)⟩
  · rename_i s1 t1
    exact ⟨_, _, rfl, .inl ⟨_, e.sqL s1, (dps_len t1).symm⟩, k _ _ _ _ q (Gr.rfl e) (.int _)⟩
  · rename_i s1 t1
    exact ⟨_, _, rfl, .inr ⟨_, e.sqT s1, (dps_len t1).symm⟩, k _ _ _ _ q (Gr.rfl e) (.int _)⟩
theorem rc_abs : RC K (fun xs H Q => ∃ i, xs = [.int i] ∧ Q (.int (if i < 0 then -i else i)) H) bAbs := rc1 (fun _ q => q) (fun a b l _ q => by cases a <;> exact q) fun e dv P Q q k => by
  cases dv <;> try exact q.elim
  exact ⟨_, rfl, k _ _ _ _ q (Gr.rfl e) (.int _)⟩
theorem rc_int : RC K (fun xs H Q => (∃ i, xs = [.int i] ∧ Q (.int i) H) ∨ ∃ k, xs = [.bl k] ∧ Q (.int (if k then 1 else 0)) H) bInt := rc1 (fun _ q => q) (fun a b l _ q => by cases a <;> exact q) fun e dv P Q q k => by
  cases dv <;> try exact q.elim
  · exact .inr ⟨_, rfl, k _ _ _ _ q (Gr.rfl e) (.int _)⟩
  · exact .inl ⟨_, rfl, k _ _ _ _ q (Gr.rfl e) (.int _)⟩
theorem rc_tuple : RC K (fun xs H Q => ∃ p ys, xs = [.ref p] ∧ ((SqL K H p ys ∧ ∀ l, H l = none → Q (.ref l) (upd H l (.tup ys))) ∨ (SqT K H p ys ∧ Q (.ref p) H))) bTuple := rc1 (fun _ q => q) (fun a b l _ q => by cases a <;> exact q) fun e dv P Q q k => by
  cases dv <;> try exact q.elim
  · rename_i s1 t1
    exact ⟨_, _, rfl, .inl ⟨e.sqL s1, fun l hl => k _ _ _ _ q (Gr.new e hl) (.tup (SqT.of upd_same) ((Ex.new (e.back hl)).dps t1))⟩⟩
  · rename_i s1 t1
    exact ⟨_, _, rfl, .inr ⟨e.sqT s1, k _ _ _ _ q (Gr.rfl e) (.tup s1 t1)⟩⟩
theorem rc_list : RC K (fun xs H Q => ∃ p ys, xs = [.ref p] ∧ (SqL K H p ys ∨ SqT K H p ys) ∧ ∀ l, H l = none → Q (.ref l) (upd H l (.lst ys))) bList := rc1 (fun _ q => q) (fun a b l _ q => by cases a <;> exact q) fun e dv P Q q k => by
  cases dv <;> try exact q.elim
  · rename_i s1 t1
    exact ⟨_, _, rfl, .inl (e.sqL s1), fun l hl => k _ _ _ _ q (Gr.new e hl) (.lst (SqL.of upd_same) ((Ex.new (e.back hl)).dps t1))⟩
  · rename_i s1 t1
    exact ⟨_, _, rfl, .inr (e.sqT s1), fun l hl => k _ _ _ _ q (Gr.new e hl) (.lst (SqL.of upd_same) ((Ex.new (e.back hl)).dps t1))⟩
theorem dps_bl {B : Hp} : ∀ {xs : List V} {bs : List Bool}, DpAll K B xs (bs.map PyData.bool) → xs = bs.map V.bl
  | _, [], h => by cases h; rfl
  | _, b :: bs, h => by
    cases h with
    | cons a t =>
      cases a
      rw [dps_bl t]
      rfl
theorem rc_all : RC K (rAll K) bAll := rc1 (fun _ q => q) (fun a b l _ q => by cases a <;> exact q) fun e dv P Q q k => by
  cases dv <;> try exact q.elim
  rename_i s1 t1
  obtain ⟨bs, rfl, q⟩ := q
  have z := dps_bl t1
  subst z
  exact ⟨_, bs, rfl, e.sqL s1, k _ _ _ _ q (Gr.rfl e) (.bl _)⟩
theorem rc_any : RC K (rAny K) bAny := rc1 (fun _ q => q) (fun a b l _ q => by cases a <;> exact q) fun e dv P Q q k => by
  cases dv <;> try exact q.elim
  rename_i s1 t1
  obtain ⟨bs, rfl, q⟩ := q
  have z := dps_bl t1
  subst z
  exact ⟨_, bs, rfl, e.sqL s1, k _ _ _ _ q (Gr.rfl e) (.bl _)⟩
theorem rc2 {r : List V → Hp → VK → Prop} {rd : D1} {g : Int → Int → D} (hrd : ∀ ds P, rd ds P → ∃ i j, ds = [.int i, .int j] ∧ P (g i j))
    (h : ∀ {B H : Hp} {i j : Int}, Ex B H → ∀ (Q : VK), (∀ v B' H', Gr B H B' H' → Dp K B' v (g i j) → Q v H') → r [.int i, .int j] H Q) : RC K r rd := ⟨fun e dp P Q q k => by
  obtain ⟨i, j, rfl, p⟩ := hrd _ _ q
  cases dp with
  | cons a t => cases t with
    | cons b t =>
      cases t
      cases a
      cases b
      exact h e Q fun v B' H' g1 dv => k _ _ _ _ p g1 dv⟩
theorem d2_cases {rd : D1} {g : Int → Int → D} (h : ∀ i j P, rd [.int i, .int j] P → P (g i j)) (hn : ∀ ds P, rd ds P → ∃ i j : Int, ds = [.int i, .int j]) : ∀ ds P, rd ds P → ∃ i j, ds = [.int i, .int j] ∧ P (g i j) := fun ds P q => by
  obtain ⟨i, j, rfl⟩ := hn ds P q
  exact ⟨i, j, rfl, h i j P q⟩
theorem two_ints {rd : D1} {g : Int → Int → D} (e : rd = fun ds P => match ds with
  | [.int i, .int j] => P (g i j)
  | _ => False) : ∀ ds P, rd ds P → ∃ i j, ds = [.int i, .int j] ∧ P (g i j) := fun ds P q => by
  subst e
  split at q
  · exact ⟨_, _, rfl, q⟩
  · exact q.elim
theorem rc_gcd : RC K rGcd bGcd := rc2 (g := fun i j => .int ((Nat.gcd i.natAbs j.natAbs : Nat) : Int)) (two_ints (by funext ds P; unfold bGcd; split <;> simp_all)) fun e Q k => ⟨_, _, rfl, k _ _ _ (Gr.rfl e) (.int _)⟩
theorem rc_min : RC K (fun xs H Q => ∃ i j, xs = [.int i, .int j] ∧ Q (.int (if j < i then j else i)) H) bMin := rc2 (g := fun i j => .int (if j < i then j else i)) (two_ints (by funext ds P; unfold bMin; split <;> simp_all)) fun e Q k => ⟨_, _, rfl, k _ _ _ (Gr.rfl e) (.int _)⟩
theorem rc_max : RC K (fun xs H Q => ∃ i j, xs = [.int i, .int j] ∧ Q (.int (if j > i then j else i)) H) bMax := rc2 (g := fun i j => .int (if j > i then j else i)) (two_ints (by funext ds P; unfold bMax; split <;> simp_all)) fun e Q k => ⟨_, _, rfl, k _ _ _ (Gr.rfl e) (.int _)⟩
end

/-! #### kinds -/
def tyD : D → String
  | .none => "NoneType"
  | .bool _ => "bool"
  | .int _ => "int"
  | .str _ => "str"
  | .list _ => "list"
  | .tuple _ => "tuple"
  | .dict _ => "dict"
theorem ty_b {K : Fg} {B : Hp} {v : V} {d : D} (h : Dp K B v d) : TyB K B v (tyD d) := by
  cases h with
  | non => exact .non
  | bl b => exact .bl b
  | int i => exact .int i
  | str x => exact .str x
  | lst s _ => exact .lst s
  | tup s _ => exact .tup s
theorem Ex.tyb {K : Fg} {B H : Hp} {v : V} {d : D} (e : Ex B H) (h : Dp K B v d) : TyB K H v (tyD d) := ty_b (e.dp h)
def dType (T : String) (me : DE) : DE := fun es P X => me es (fun d => P (.bool (decide (tyD d = T)))) X
def dNType (T : String) (me : DE) : DE := fun es P X => me es (fun d => P (.bool (!decide (tyD d = T)))) X
section
variable {X : Cx} {K : Fg} {W : WX} {a : Expr} {te : TE} {me : DE} {p p2 pos pos2 : Pos} {T : String} {x : Str}
/-- type(a) is T -/
theorem xe_typeIs {k0 : Nat} (C : Ctx X K W k0) (hm : X.mg "type" = none) (hmT : X.mg x = none) (hv : bootBuiltins x = some (.type T)) (ha : XE X K W a te me) (hg : Gl X "type" := by rfl) (hgT : Gl X x := by rfl) (hn : x ≠ "__name__" := by decide) (hd : (x == ("__debug__" : Str)) = false := by decide)
    (na : starEach [a] X.env = (false, eval a X.env) :: starEach [] X.env := by rfl) (hpl : (backTo pos (starEach [] X.env)).any (·.1) = false := by rfl) :
    XE X K W (.Compare (.Call (.Name "type" p) [a] [] pos) [.Is] [.Name x p2] pos2) (tOp (fun x y H Q => ∃ a b, x = .ty a ∧ y = .ty b ∧ Q (.bl (decide (a = b))) H) (tCB (rTyp K) (tCons te tNil)) (tC (.ty T))) (dType T me) := by
  have hK := C.hK
  subst hK
  refine ⟨pe_cmpR op_isTyB (pe_callTy call_type1 hg hm (by decide +kernel) (pa_cons ha.1 pa_nil na) (by decide) (by decide) na hpl) (pe_bltn hgT hmT hv rfl hn hd) (nomark _), ⟨fun s P X Q q k kx => ha.2.run s _ X _ q (fun d v B' H' p g dv => ?_) kx⟩⟩
  exact ⟨v, _, rfl, g.bh.tyb dv, _, _, rfl, rfl, k _ _ _ _ p g (.bl _)⟩
theorem xe_typeNot {k0 : Nat} (C : Ctx X K W k0) (hm : X.mg "type" = none) (hmT : X.mg x = none) (hv : bootBuiltins x = some (.type T)) (ha : XE X K W a te me) (hg : Gl X "type" := by rfl) (hgT : Gl X x := by rfl) (hn : x ≠ "__name__" := by decide) (hd : (x == ("__debug__" : Str)) = false := by decide)
    (na : starEach [a] X.env = (false, eval a X.env) :: starEach [] X.env := by rfl) (hpl : (backTo pos (starEach [] X.env)).any (·.1) = false := by rfl) :
    XE X K W (.Compare (.Call (.Name "type" p) [a] [] pos) [.IsNot] [.Name x p2] pos2) (tOp rNT (tCB (rTyp K) (tCons te tNil)) (tC (.ty T))) (dNType T me) := by
  have hK := C.hK
  subst hK
  refine ⟨pe_cmpR op_notTyB (pe_callTy call_type1 hg hm (by decide +kernel) (pa_cons ha.1 pa_nil na) (by decide) (by decide) na hpl) (pe_bltn hgT hmT hv rfl hn hd) (nomark _), ⟨fun s P X Q q k kx => ha.2.run s _ X _ q (fun d v B' H' p g dv => ?_) kx⟩⟩
  exact ⟨v, _, rfl, g.bh.tyb dv, _, _, rfl, rfl, k _ _ _ _ p g (.bl _)⟩
end

section
variable {X : Cx} {K : Fg} {W : WX} {a : Expr} {te : TE} {me : DE} {p p2 pos pos2 : Pos} {T : String} {x : Str}
/-- the same as tests -/
theorem xt_typeIs {k0 : Nat} (C : Ctx X K W k0) (hm : X.mg "type" = none) (hmT : X.mg x = none) (hv : bootBuiltins x = some (.type T)) (ha : XE X K W a te me) (hg : Gl X "type" := by rfl) (hgT : Gl X x := by rfl) (hn : x ≠ "__name__" := by decide) (hd : (x == ("__debug__" : Str)) = false := by decide)
    (na : starEach [a] X.env = (false, eval a X.env) :: starEach [] X.env := by rfl) (hpl : (backTo pos (starEach [] X.env)).any (·.1) = false := by rfl) :
    XT X K W (.Compare (.Call (.Name "type" p) [a] [] pos) [.Is] [.Name x p2] pos2) (tTest (tOp (fun x y H Q => ∃ a b, x = .ty a ∧ y = .ty b ∧ Q (.bl (decide (a = b))) H) (tCB (rTyp K) (tCons te tNil)) (tC (.ty T)))) (dTest (dType T me)) := by
  have hK := C.hK
  subst hK
  exact ⟨pt_cmpR op_isTyB (pe_callTy call_type1 hg hm (by decide +kernel) (pa_cons ha.1 pa_nil na) (by decide) (by decide) na hpl) (pe_bltn hgT hmT hv rfl hn hd) (nomark _), st_T (xe_typeIs (pos := pos) (pos2 := pos2) (p := p) (p2 := p2) C hm hmT hv ha hg hgT hn hd na hpl).2⟩
theorem xt_typeNot {k0 : Nat} (C : Ctx X K W k0) (hm : X.mg "type" = none) (hmT : X.mg x = none) (hv : bootBuiltins x = some (.type T)) (ha : XE X K W a te me) (hg : Gl X "type" := by rfl) (hgT : Gl X x := by rfl) (hn : x ≠ "__name__" := by decide) (hd : (x == ("__debug__" : Str)) = false := by decide)
    (na : starEach [a] X.env = (false, eval a X.env) :: starEach [] X.env := by rfl) (hpl : (backTo pos (starEach [] X.env)).any (·.1) = false := by rfl) :
    XT X K W (.Compare (.Call (.Name "type" p) [a] [] pos) [.IsNot] [.Name x p2] pos2) (tTest (tOp rNT (tCB (rTyp K) (tCons te tNil)) (tC (.ty T)))) (dTest (dNType T me)) := by
  have hK := C.hK
  subst hK
  exact ⟨pt_cmpR op_notTyB (pe_callTy call_type1 hg hm (by decide +kernel) (pa_cons ha.1 pa_nil na) (by decide) (by decide) na hpl) (pe_bltn hgT hmT hv rfl hn hd) (nomark _), st_T (xe_typeNot (pos := pos) (pos2 := pos2) (p := p) (p2 := p2) C hm hmT hv ha hg hgT hn hd na hpl).2⟩
end
end Fw
namespace Fw
open PySem PySem.Spec L2

/-! ### isinstance -/
theorem tyx_of {K : Fg} {B : Hp} {v : V} {d : D} (h : Dp K B v d) : TyX K B v (.type (tyD d)) := by
  cases h with
  | non => exact .base .non
  | bl b => exact .base (.bl b)
  | int i => exact .base (.int i)
  | str x => exact .base (.str x)
  | lst s _ =>
    rcases s with (s | ⟨o, s⟩) | ⟨o, its, n, s, c, _⟩
    · exact .base (.lst s)
    · exact .base (.frz s)
    · exact .kList s c
  | tup s _ =>
    rcases s with (s | ⟨o, s⟩) | ⟨o, its, n, s, c, _⟩
    · exact .base (.tup s)
    · exact .fTuple s
    · exact .kTuple s c
def isB (a T : String) : Bool := decide (a = T) || (decide (a = "bool") && decide (T = "int"))
theorem kit_names : ∀ a ∈ ["NoneType", "bool", "int", "str", "list", "tuple", "dict"], ∀ T ∈ ["bool", "int", "str", "tuple", "list"], kitB a T = some (isB a T) := by decide +kernel
theorem ty_mem (d : D) : tyD d ∈ ["NoneType", "bool", "int", "str", "list", "tuple", "dict"] := by cases d <;> simp [tyD]
theorem kit_all (d : D) {T : String} (hT : T ∈ ["bool", "int", "str", "tuple", "list"]) : kitB (tyD d) T = some (isB (tyD d) T) := kit_names _ (ty_mem d) _ hT
def dIs (T : String) (me : DE) : DE := fun es P X => me es (fun d => P (.bool (isB (tyD d) T))) X
def dIs2 (T U : String) (me : DE) : DE := fun es P X => me es (fun d => P (.bool (isB (tyD d) T || isB (tyD d) U))) X
section
variable {X : Cx} {K : Fg} {W : WX} {a : Expr} {te : TE} {me : DE} {p p2 p3 pos pos2 : Pos} {T U : String} {x y : Str} {k2 : Nat}
theorem xe_isi {k0 : Nat} (C : Ctx X K W k0) (hT : T ∈ ["bool", "int", "str", "tuple", "list"]) (hm : X.mg "isinstance" = none) (hmT : X.mg x = none) (hv : bootBuiltins x = some (.type T)) (ha : XE X K W a te me) (hg : Gl X "isinstance" := by rfl) (hgT : Gl X x := by rfl) (hn : x ≠ "__name__" := by decide) (hd : (x == ("__debug__" : Str)) = false := by decide)
    (na : starEach [a, .Name x p2] X.env = (false, eval a X.env) :: starEach [.Name x p2] X.env := by rfl) (nb : starEach [.Name x p2] X.env = (false, eval (.Name x p2) X.env) :: starEach [] X.env := by rfl) (hpl : (backTo pos (starEach [.Name x p2] X.env)).any (·.1) = false := by rfl) :
    XE X K W (.Call (.Name "isinstance" p) [a, .Name x p2] [] pos) (tCB (rIsi K) (tCons te (tCons (tC (.ty T)) tNil))) (dIs T me) := by
  have hK := C.hK
  subst hK
  refine ⟨pe_callB call_isi hg hm (by decide +kernel) (pa_cons ha.1 (pa_cons (pe_bltn hgT hmT hv rfl hn hd) pa_nil nb) na) (by decide) (by decide) na hpl, ⟨fun s P X Q q k kx => ha.2.run s _ X _ q (fun d v B' H' p g dv => ?_) kx⟩⟩
  exact ⟨v, _, _, _, _, rfl, .ty T, tyx_of (g.bh.dp dv), kit_ty (kit_all d hT), k _ _ _ _ p g (.bl _)⟩
theorem xe_isi2 {k0 : Nat} (C : Ctx X K W k0) (hT : T ∈ ["bool", "int", "str", "tuple", "list"]) (hU : U ∈ ["bool", "int", "str", "tuple", "list"]) (hm : X.mg "isinstance" = none) (hmT : X.mg x = none) (hmU : X.mg y = none) (hv : bootBuiltins x = some (.type T)) (hw : bootBuiltins y = some (.type U)) (ha : XE X K W a te me)
    (hg : Gl X "isinstance" := by rfl) (hgT : Gl X x := by rfl) (hgU : Gl X y := by rfl) (hn : x ≠ "__name__" := by decide) (hd : (x == ("__debug__" : Str)) = false := by decide) (hn2 : y ≠ "__name__" := by decide) (hd2 : (y == ("__debug__" : Str)) = false := by decide)
    (na : starEach [a, .Tuple [.Name x p2, .Name y p3] k2 pos2] X.env = (false, eval a X.env) :: starEach [.Tuple [.Name x p2, .Name y p3] k2 pos2] X.env := by rfl) (nb : starEach [.Tuple [.Name x p2, .Name y p3] k2 pos2] X.env = (false, eval (.Tuple [.Name x p2, .Name y p3] k2 pos2) X.env) :: starEach [] X.env := by rfl)
    (nx : starEach [.Name x p2, .Name y p3] X.env = (false, eval (.Name x p2) X.env) :: starEach [.Name y p3] X.env := by rfl) (ny : starEach [.Name y p3] X.env = (false, eval (.Name y p3) X.env) :: starEach [] X.env := by rfl) (hpl : (backTo pos (starEach [.Tuple [.Name x p2, .Name y p3] k2 pos2] X.env)).any (·.1) = false := by rfl) :
    XE X K W (.Call (.Name "isinstance" p) [a, .Tuple [.Name x p2, .Name y p3] k2 pos2] [] pos) (tCB (rIsiT K) (tCons te (tCons (tTup (tCons (tC (.ty T)) (tCons (tC (.ty U)) tNil))) tNil))) (dIs2 T U me) := by
  have hK := C.hK
  subst hK
  refine ⟨pe_callB call_isiT hg hm (by decide +kernel) (pa_cons ha.1 (pa_cons (pe_tup (pa_cons (pe_bltn hgT hmT hv rfl hn hd) (pa_cons (pe_bltn hgU hmU hw rfl hn2 hd2) pa_nil ny) nx)) pa_nil nb) na) (by decide) (by decide) na hpl, ⟨fun s P X Q q k kx => ha.2.run s _ X _ q (fun d v B' H' p g dv => ?_) kx⟩⟩
  refine ⟨by rw [sz_eq]; show 2 ≤ 16777216; decide, fun t ht => ?_⟩
  have g2 : Gr B' H' B' (upd H' t (.tup [.ty T, .ty U])) := Gr.own g.bh ht
  exact ⟨v, t, _, _, _, _, rfl, upd_same, .cons (.ty T) (.cons (.ty U) .nil), tyx_of (g2.bh.dp dv), kitAny_cons (kit_ty (kit_all d hT)) (fun e1 => by
    refine kitAny_cons (kit_ty (kit_all d hU)) (fun e2 => ?_) (fun e2 => ?_)
    · rw [e1, e2]; exact kitAny_nil
    · rw [e1, e2]; rfl) (fun e1 => by rw [e1]; rfl), k _ _ _ _ p (g.trans ((s.step g).gr g2)) (.bl _)⟩
end

/-! ### slices -/
def cutD (xs : List D) (lo hi : Option Int) : List D := (xs.drop (HT.sIx xs.length 0 lo)).take (HT.sIx xs.length xs.length hi - HT.sIx xs.length 0 lo)
abbrev DO := En → (Option Int → Prop) → XP → Prop
def dNoPart : DO := fun _ P _ => P none
def dPart (me : DE) : DO := fun es P X => me es (fun d => match d with
  | .int i => P (some i)
  | _ => False) X
structure SO (K : Fg) (W : WX) (te : TO) (me : DO) : Prop where
  run : ∀ {S : SA} {B0 H0 B H : Hp} {σ : L2.St} {es : En}, Sim K S B0 H0 σ es B H → ∀ (P : Option Int → Prop) (X : XP) (Q : Option Int → Hp → Prop), me es P X →
    (∀ o B' H', P o → GrS S B H B' H' → Q o H') → (∀ x cls dd B' H', X x → GrS S B H B' H' → XR K B' H' x cls dd → W cls dd σ H') → te σ H Q
def XO (X : Cx) (K : Fg) (W : WX) (o : Option Expr) (te : TO) (me : DO) : Prop := PO X o te ∧ SO K W te me
def slD (d : D) (lo hi : Option Int) (P : D → Prop) : Prop := match d with
  | .list ds => P (.list (cutD ds lo hi))
  | .tuple ds => P (.tuple (cutD ds lo hi))
  | .str z => z.length ≤ 16777216 ∧ P (.str (cutS z lo hi))
  | _ => False
def dSl (me : DE) (ml mh : DO) : DE := fun es P X => me es (fun d => ml es (fun lo => mh es (fun hi => slD d lo hi P) X) X) X
def rSlU (K : Fg) : V → Option Int → Option Int → Hp → VK → Prop := fun x lo hi H Q => rSlL K x lo hi H Q ∨ (rSlA K x lo hi H Q ∨ rSlS x lo hi H Q)
theorem sl_u {X : Cx} : SlR X (rSlU X.K) := sl_list.or (sl_tupA.or sl_str)
theorem cut_dp {K : Fg} {B : Hp} {vs : List V} {ds : List D} (h : DpAll K B vs ds) (lo hi : Option Int) : DpAll K B (cutV vs lo hi) (cutD ds lo hi) := by
  unfold cutV cutD
  rw [dps_len h]
  exact dps_take _ (dps_drop _ h)
theorem cut_all {ds : List D} {lo hi : Option Int} (h : HT.sIx ds.length 0 lo = 0 ∧ HT.sIx ds.length ds.length hi = ds.length) : cutD ds lo hi = ds := by
  unfold cutD
  rw [h.1, h.2]
  simp
section
variable {X : Cx} {K : Fg} {W : WX} {e a : Expr} {te : TE} {me : DE} {tl th : TO} {ml mh : DO} {lo hi : Option Expr} {p2 pos : Pos}
theorem xo_none : XO X K W none tNoPart dNoPart := ⟨po_none, ⟨fun s P Y Q q k _ => k _ _ _ q s.rfl⟩⟩
theorem xo_some (h : XE X K W e te me) : XO X K W (some e) (tPart te) (dPart me) := ⟨po_some h.1, ⟨fun s P Y Q q k kx => h.2.run s _ _ _ q (fun d v B' H' p g dv => by
  cases dv <;> try exact p.elim
  exact ⟨_, rfl, k _ _ _ p g⟩) kx⟩⟩
theorem xe_sl {k0 : Nat} (C : Ctx X K W k0) (h : XE X K W e te me) (hl : XO X K W lo tl ml) (hh : XO X K W hi th mh) : XE X K W (.Subscript e (.Slice lo hi none p2) pos) (tSl (rSlU K) te tl th) (dSl me ml mh) := by
  have hK := C.hK
  subst hK
  exact ⟨pe_slice sl_u h.1 hl.1 hh.1, ⟨fun s P Y Q q k kx => h.2.run s _ _ _ q (fun d v B1 H1 p g dv =>
    hl.2.run (s.step g) _ _ _ p (fun o1 B2 H2 p2 g2 => hh.2.run ((s.step g).step g2) _ _ _ p2 (fun o2 B3 H3 p3 g3 => by
      have gg := g.trans (g2.trans g3)
      have dv3 := g3.bb.dp (g2.bb.dp dv)
      have s3 := s.step gg
      cases dv3 <;> try exact p3.elim
      · exact .inr (.inr ⟨_, rfl, by rw [sz_eq]; exact p3.1, k _ _ _ _ p3.2 gg (.str _)⟩)
      · rename_i s1 t1
        exact .inl ⟨_, _, rfl, g3.bh.sqL s1, fun a ha => k _ _ _ _ p3 (gg.trans (s3.gr (Gr.new g3.bh ha))) (.lst (SqL.of upd_same) ((Ex.new (g3.bh.back ha)).dps (cut_dp t1 _ _)))⟩
      · rename_i a xs ds s1 t1
        refine .inr (.inl ⟨_, _, rfl, g3.bh.sqT s1, fun z => ?_, fun _ a ha => ?_⟩)
        · rw [dps_len t1] at z
          have e := cut_all z
          have p4 : P (.tuple ds) := by
            have q4 : P (.tuple (cutD ds o1 o2)) := p3
            rw [e] at q4
            exact q4
          exact k _ _ _ _ p4 gg (.tup s1 t1)
        · exact k _ _ _ _ p3 (gg.trans (s3.gr (Gr.new g3.bh ha))) (.tup (SqT.of upd_same) ((Ex.new (g3.bh.back ha)).dps (cut_dp t1 _ _)))) (fun x c dd B' H' hx g3 r => kx x c dd B' H' hx (g.trans (g2.trans g3)) r)) (fun x c dd B' H' hx g2 r => kx x c dd B' H' hx (g.trans g2) r)) kx⟩⟩
end

/-! ### a def keeps its promise -/
def startE (N : List Str) (ds : List D) : En := ds.map Sl.p ++ List.replicate (N.length - ds.length) Sl.un
def startS (N : List Str) (ds : List D) : En := Sl.s :: (ds.map Sl.p ++ List.replicate (N.length - (ds.length + 1)) Sl.un)
theorem env_un {K : Fg} {S : SA} {B H : Hp} : ∀ n : Nat, Env K S B H (List.replicate n none) (List.replicate n .un) []
  | 0 => .nil
  | n + 1 => .un (env_un n)
theorem env_start {K : Fg} {S : SA} {B H : Hp} {n : Nat} : ∀ {vs : List V} {ds : List D}, DpAll K B vs ds → Env K S B H (vs.map some ++ List.replicate n none) (ds.map Sl.p ++ List.replicate n .un) []
  | _, _, .nil => env_un n
  | _, _, .cons h t => .p h (env_start t)
theorem sim_start {K : Fg} {B H : Hp} {N : List Str} {vs : List V} {ds : List D} (e : Ex B H) (h : DpAll K B vs ds) : Sim K none B H (L2.start N vs) (startE N ds) B H := by
  refine ⟨(Gr.rfl e).s trivial, trivial, fun _ z => z.elim, [], ?_, List.nodup_nil, fun a z => by cases z⟩
  unfold L2.start startE
  rw [dps_len h]
  exact env_start h
theorem sim_startS {K : Fg} {B H : Hp} {N : List Str} {vs : List V} {ds : List D} {q g : Addr} (e : Ex B H) (h : DpAll K B vs ds) (s : Spr H q g) (f : B q = none ∧ B g = none) : Sim K (some (q, g)) B H (L2.start N (.ref q :: vs)) (startS N ds) B H := by
  refine ⟨(Gr.rfl e).s s, f, fun a z => (show SprO H (some (q, g)) from s).get z, [], ?_, List.nodup_nil, fun a z => by cases z⟩
  unfold L2.start startS
  rw [List.map_cons, List.length_cons, dps_len h]
  exact .s rfl (env_start h)
/-- the context of a def's body -/
abbrev WD (E : XK) : WX := fun cls d _ H => E cls d H
section
variable {P : Program} {w : World} {K : Fg} {mg : Str → Option Value} {base : Heap} {N ps : List Str} {x qual : Str} {st : Stmt} {f : Addr} {fd : FuncData} {k : Nat} {p : Spc}
abbrev bodyX (P : Program) (w : World) (K : Fg) (mg : Str → Option Value) (base : Heap) (N : List Str) (qual : Str) (st : Stmt) (f : Addr) (cdv : Value) (A : Around) (outer : List PySem.Env) (s : Shared) (H : Hp) (E : XK) : Cx :=
  cxOf (L2.CX P w) P w K mg base N qual (defScope st) f cdv A outer s H E
theorem ctx_of {cdv : Value} {A : Around} {outer : List PySem.Env} {s : Shared} {H : Hp} {E : XK} (S : FnScope N ps (defScope st)) (hr : Room k (A.deeper (PyProof.Rows.envOfC qual (defScope st) s.heap.objs.size f cdv))) : Ctx (bodyX P w K mg base N qual st f cdv A outer s H E) K (WD E) k :=
  ⟨rfl, takes_of rfl rfl rfl rfl, passes_of rfl, hr, rfl, S.nd⟩
theorem fn_D {ms : DS} (F : Fun K x qual st f fd) (S : FnScope N ps (defScope st)) (len : ∀ ds P X, p ds P X → ds.length = ps.length)
    (hb : ∀ (cdv : Value) (A : Around) (outer : List PySem.Env) (s : Shared) (H : Hp) (E : XK), Ctx (bodyX P w K mg base N qual st f cdv A outer s H E) K (WD E) k → ∃ ts, XB (bodyX P w K mg base N qual st f cdv A outer s H E) K (WD E) (defBody st) ts ms)
    (vc : ∀ ds Q X, p ds Q X → ms { nx := fun _ => Q .none, rt := Q, xx := fun x _ => X x } (startE N ds)) : FnOk P w K mg base (L2.CX P w) (k + 1) f fd ps (spD K p) := by
  refine F.okX S (fun vs H Q E h => ?_) (fun cdv A outer s H vs Q E hr h => ?_)
  · obtain ⟨B, ds, P', X, _, hd, hp, _⟩ := h
    rw [dps_len hd]
    exact len _ _ _ hp
  · obtain ⟨B, ds, P', X, e, hd, hp, k1, k2⟩ := h
    obtain ⟨ts, b1, b2⟩ := hb cdv A outer s H E (ctx_of S hr)
    refine ⟨ts, b1, b2.run (sim_start e hd) _ _ (vc ds P' X hp) (fun σ' es' B' H' q s' _ => ?_) (fun σ' es' d v B' H' q s' dv => ?_) (fun _ _ _ _ q _ _ => q.elim) (fun _ _ _ _ q _ _ => q.elim) fun x cls dd σ' es' B' H' hx s' _ r => ?_⟩
    · exact k1 _ _ _ _ q ⟨s'.gs.bb, fun a o z => s'.gs.hh a o z fun w => w, s'.gs.bh, s'.gs.ne⟩ .non
    · exact k1 _ _ _ _ q ⟨s'.gs.bb, fun a o z => s'.gs.hh a o z fun w => w, s'.gs.bh, s'.gs.ne⟩ dv
    · exact k2 _ _ _ _ _ hx ⟨s'.gs.bb, fun a o z => s'.gs.hh a o z fun w => w, s'.gs.bh, s'.gs.ne⟩ r
theorem fn_S {ms : DS} (F : Fun K x qual st f fd) (S : FnScope N ps (defScope st)) (len : ∀ ds P X, p ds P X → ds.length + 1 = ps.length)
    (hb : ∀ (cdv : Value) (A : Around) (outer : List PySem.Env) (s : Shared) (H : Hp) (E : XK), Ctx (bodyX P w K mg base N qual st f cdv A outer s H E) K (WD E) k → ∃ ts, XB (bodyX P w K mg base N qual st f cdv A outer s H E) K (WD E) (defBody st) ts ms)
    (vc : ∀ ds Q X, p ds Q X → ms { nx := fun _ => Q .none, rt := Q, xx := fun x _ => X x } (startS N ds)) : FnOk P w K mg base (L2.CX P w) (k + 1) f fd ps (spS K p) := by
  refine F.okX S (fun vs H Q E h => ?_) (fun cdv A outer s H vs Q E hr h => ?_)
  · obtain ⟨B, q, g, vr, ds, P', X, rfl, _, hd, _, _, hp, _⟩ := h
    rw [List.length_cons, dps_len hd]
    exact len _ _ _ hp
  · obtain ⟨B, q, g, vr, ds, P', X, rfl, e, hd, sp, sf, hp, k1, k2⟩ := h
    obtain ⟨ts, b1, b2⟩ := hb cdv A outer s H E (ctx_of S hr)
    refine ⟨ts, b1, b2.run (sim_startS e hd sp sf) _ _ (vc ds P' X hp) (fun σ' es' B' H' q s' _ => ?_) (fun σ' es' d v B' H' q s' dv => ?_) (fun _ _ _ _ q _ _ => q.elim) (fun _ _ _ _ q _ _ => q.elim) fun x cls dd σ' es' B' H' hx s' _ r => ?_⟩
    · exact k1 _ _ _ _ q s'.gs .non
    · exact k1 _ _ _ _ q s'.gs dv
    · exact k2 _ _ _ _ _ hx s'.gs r
end
end Fw
namespace Fw
open PySem PySem.Spec L2

/-! ### more lists made anew -/
def mLst (ma : DA) : DA := fun es P X => ma es (fun ds => ds.length ≤ 16777216 ∧ P ds) X
def mCat (ma mb : DE) : DA := fun es P X => ma es (fun a => mb es (fun b => match a, b with
  | .list xs, .list ys => xs.length + ys.length ≤ 16777216 ∧ P (xs ++ ys)
  | _, _ => False) X) X
def mList (ma : DA) : DA := fun es P X => ma es (fun ds => match ds with
  | [.list xs] => P xs
  | [.tuple xs] => P xs
  | _ => False) X
theorem GrS.none_back {S : SA} {B H B' H' : Hp} {p : Addr} (g : GrS S B H B' H') (h : H' p = none) : H p = none := by
  cases c : H p with
  | none => rfl
  | some o => exact absurd h (g.ex (by rw [c]; exact fun z => nomatch z))
section
variable {X : Cx} {K : Fg} {W : WX} {a b e : Expr} {ta tb : TE} {ma mb : DE} {tg : TA} {mg : DA} {pos p : Pos}
theorem xn_cat {k0 : Nat} (C : Ctx X K W k0) (ha : XE X K W a ta ma) (hb : XE X K W b tb mb) : XN X K W (.BinOp a .Add b pos) (tOp (rLists K) ta tb) (mCat ma mb) := by
  have hK := C.hK
  subst hK
  exact ⟨pe_op op_lists ha.1 hb.1, ⟨fun s P Y Q q k kx => ha.2.run s _ _ _ q (fun d v B1 H1 p1 g1 d1 =>
    hb.2.run (s.step g1) _ _ _ p1 (fun d2 v2 B2 H2 p2 g2 dd2 => by
      have dd1 := g2.bb.dp d1
      have g := g1.trans g2
      cases dd1 <;> cases dd2 <;> try exact p2.elim
      rename_i s1 t1 _ _ _ s2 t2
      refine ⟨_, _, _, _, rfl, rfl, g.bh.sqL s1, g.bh.sqL s2, by rw [sz_eq, dps_len t1, dps_len t2]; exact p2.1, fun l hl => ?_⟩
      exact k _ _ _ _ _ p2.2 (g.trans ((s.step g).gr (Gr.own g.bh hl))) (g.none_back hl) (g.bh.back hl) upd_same (dps_app t1 t2)) fun x c dd B' H' hx g2 r => kx x c dd B' H' hx (g1.trans g2) r) kx⟩⟩
theorem xn_list {k0 : Nat} (C : Ctx X K W k0) (hm : X.mg "list" = none) (ha : XA X K W [e] tg mg) (hg : Gl X "list" := by rfl) (he : starEach [e] X.env = (false, eval e X.env) :: starEach [] X.env := by rfl) (hpl : (backTo pos (starEach [] X.env)).any (·.1) = false := by rfl) :
    XN X K W (.Call (.Name "list" p) [e] [] pos) (tCB (fun xs H Q => ∃ p ys, xs = [.ref p] ∧ (SqL K H p ys ∨ SqT K H p ys) ∧ ∀ l, H l = none → Q (.ref l) (upd H l (.lst ys))) tg) (mList mg) := by
  have hK := C.hK
  subst hK
  exact ⟨pe_callTy call_list_of hg hm (by decide +kernel) ha.1 (by decide) (by decide) he hpl, ⟨fun s P Y Q q k kx => ha.2.run s _ _ _ q (fun ds vs B1 H1 p1 g dvs => by
    cases dvs with
    | nil => exact p1.elim
    | cons x t => cases t with
      | cons _ _ => cases x <;> exact p1.elim
      | nil => cases x with
        | lst s1 t1 => exact ⟨_, _, rfl, .inl (g.bh.sqL s1), fun l hl => k _ _ _ _ _ p1 (g.trans ((s.step g).gr (Gr.own g.bh hl))) (g.none_back hl) (g.bh.back hl) upd_same t1⟩
        | tup s1 t1 => exact ⟨_, _, rfl, .inr (g.bh.sqT s1), fun l hl => k _ _ _ _ _ p1 (g.trans ((s.step g).gr (Gr.own g.bh hl))) (g.none_back hl) (g.bh.back hl) upd_same t1⟩
        | _ => exact p1.elim) kx⟩⟩
/-- xs[::-1] of a list -/
def dBack (me : DE) : DE := fun es P X => me es (fun d => match d with
  | .list ds => P (.list ds.reverse)
  | _ => False) X
theorem xe_back {k : Nat} {p1 p2 p3 : Pos} {k0 : Nat} (C : Ctx X K W k0) (ha : XE X K W a ta ma) : XE X K W (.Subscript a (.Slice none none (some (.UnaryOp .USub (.Constant (.int 1) k p1) p2)) p3) pos) (tRevL K ta) (dBack ma) := by
  have hK := C.hK
  subst hK
  exact ⟨pe_revL ha.1, ⟨fun s P Y Q q k kx => ha.2.run s _ _ _ q (fun d v B1 H1 p1 g d1 => by
    cases d1 <;> try exact p1.elim
    rename_i s1 t1
    exact ⟨_, _, rfl, g.bh.sqL s1, fun l hl => k _ _ _ _ p1 (g.trans ((s.step g).gr (Gr.new g.bh hl))) (.lst (SqL.of upd_same) ((Ex.new (g.bh.back hl)).dps (dps_rev t1)))⟩) kx⟩⟩
end

/-! ### a constant of the module -/
structure KConst (K : Fg) (mg : Str → Option Value) (x : Str) (d : D) : Prop where
  ex : ∃ v u, mg x = some u ∧ RelV v u ∧ ∀ B, Dp K B v d
def tConst (K : Fg) (d : D) : TE := fun _ H Q => ∀ v, (∀ B, Dp K B v d) → Q v H
theorem xe_const {X : Cx} {K : Fg} {W : WX} {x : Str} {d : D} {pos : Pos} {k0 : Nat} (C : Ctx X K W k0) (c : KConst K X.mg x d) (hg : Gl X x := by rfl) (hd : (x == ("__debug__" : Str)) = false := by decide) : XE X K W (.Name x pos) (tConst K d) (dC d) := by
  have hK := C.hK
  subst hK
  obtain ⟨v, u, hm, r, h⟩ := c.ex
  exact ⟨⟨fun pins s σ H Q I q => (pe_glob hg hm r hd).run pins s σ H Q I (q v h)⟩, ⟨fun s P Y Q q k kx v h => k _ _ _ _ q s.rfl (h _)⟩⟩
/-! ### what is never reached -/
def dNever : DS := fun _ _ => False
theorem xs_never {X : Cx} {K : Fg} {W : WX} {st : Stmt} : XS X K W st tNever dNever := ⟨ps_never, ⟨fun s E Z h _ _ _ _ _ => h.elim⟩⟩

/-! ### x += e of ints -/
def dAddI : D2 := dI (fun _ _ => True) fun i j => .int (i + j)
def dSubI : D2 := dI (fun _ _ => True) fun i j => .int (i - j)
theorem ss_aug {K : Fg} {W : WX} {i : Nat} {te : TE} {me : DE} {f : Int → Int → Int} (h : SE K W te me) : SS K W (tAug i te (ipI f)) (dAug i (dI (fun _ _ => True) fun a b => .int (f a b)) me) := ⟨fun {S B0 H0 B H σ es} s E Z q kn _ _ _ kx => by
  obtain ⟨d, e, q⟩ := q
  obtain ⟨fp, env, _⟩ := s.env
  obtain ⟨v, e2, dp⟩ := env.getP e
  refine ⟨v, e2, h.run s _ _ _ q (fun b u B' H' p g du => ?_) fun x cls dd B' H' hx g r => kx _ _ _ _ _ _ _ hx (s.step g) g.bb r⟩
  cases dp <;> cases du <;> try exact p.elim
  exact ⟨_, _, rfl, rfl, kn _ _ _ _ p.2 ((s.step g).setP (.int _) i) g.bb⟩⟩
section
variable {X : Cx} {K : Fg} {W : WX} {e : Expr} {te : TE} {me : DE} {x : Str} {pos pos' : Pos}
theorem xs_aug_add (i : Nat) (nd : X.N.Nodup) (h : XE X K W e te me) (hi : X.N[i]? = some x := by rfl) (hx : Loc X.env.scope x := by first | exact Or.inl rfl | exact Or.inr rfl) (hf : X.fn x = true ∨ X.env.scope.names.lookup x = some .local := by first | exact .inl rfl | exact .inr rfl) :
    XS X K W (.AugAssign (.Name x pos') .Add e pos) (tAug i te (ipI fun a b => a + b)) (dAug i dAddI me) := ⟨ps_aug nd hi hx h.1 ip_add hf, ss_aug h.2⟩
end

/-! ### a permutation of keywords -/
def permL (is : List Nat) {α : Type} (l : List α) : List α := is.filterMap (l[·]?)
theorem perm_rel {zs : List V} {ws : List Value} (h : Vals zs ws) : ∀ is : List Nat, Vals (permL is zs) (permL is ws)
  | [] => .nil
  | i :: is => by
    have ih := perm_rel h is
    unfold permL at ih ⊢
    cases e : zs[i]? with
    | none =>
      rw [List.filterMap_cons_none e, List.filterMap_cons_none (h.none_of e)]
      exact ih
    | some v =>
      obtain ⟨u, e2, r⟩ := h.get e
      rw [List.filterMap_cons_some e, List.filterMap_cons_some e2]
      exact .cons r ih
theorem perm_dp {K : Fg} {B : Hp} {zs : List V} {ds : List D} (h : DpAll K B zs ds) : ∀ is : List Nat, DpAll K B (permL is zs) (permL is ds)
  | [] => .nil
  | i :: is => by
    have ih := perm_dp h is
    unfold permL at ih ⊢
    cases e : ds[i]? with
    | none =>
      have e2 : zs[i]? = none := List.getElem?_eq_none_iff.mpr (by rw [dps_len h]; exact List.getElem?_eq_none_iff.mp e)
      rw [List.filterMap_cons_none e, List.filterMap_cons_none e2]
      exact ih
    | some d =>
      obtain ⟨v, e2, r⟩ := dps_get h e
      rw [List.filterMap_cons_some e, List.filterMap_cons_some e2]
      exact .cons r ih
theorem kb_of {K : Fg} {x qual : Str} {st : Stmt} {f : Addr} {fd : FuncData} {ps ks : List Str} {is : List Nat} (F : Fun K x qual st f fd) (hl : ∀ {α : Type} (ws : List α), ws.length = ks.length → (permL is ws).length = ps.length)
    (h : ∀ (kV doc pm : Value) (an : Option Addr) (cdv ct : Value) (ws : List Value), ws.length = ks.length → bindArgs (PySem.W.fnOf x qual (defArgs st) (defBody st) (defScope st) .none kV doc pm an cdv ct) ⟨[], ks.zip ws⟩ = pure (ps.zip (permL is ws))) : KB K fd ps ks (permL is) := by
  obtain ⟨oc, od, kV, doc, pm, an, cdv, ct, osl, rfl, lk, hcd⟩ := F.ex
  exact ⟨fun s ws _ q => ⟨.of_eq (h kV doc pm an cdv ct ws q), hl ws q⟩, fun _ r => perm_rel r is, fun _ r => perm_dp r is⟩

/-! ### sorted of pairs of ints: in some order -/
def pairD : D → Bool
  | .tuple [.int _, .int _] => true
  | _ => false
def bSorted : D1
  | [.list ds], P => ds.all pairD = true ∧ ∀ es : List D, es.Perm ds → P (.list es)
  | _, _ => False
def rSortedQ (K : Fg) : List V → Hp → VK → Prop := fun vs H Q => ∃ a xs, vs = [V.ref a] ∧ SqL K H a xs ∧ (∀ x ∈ xs, ∃ t i j, x = V.ref t ∧ SqT K H t [.int i, .int j]) ∧ ∀ ys p, ys.Perm xs → H p = none → Q (.ref p) (upd H p (.lst ys))
theorem cr_sortedF {X : Cx} : CallR X (.builtin "sorted") (rSortedQ X.K) := by
  intro pins s σ H vs us Q I r h
  obtain ⟨a, xs, rfl, hs, hx, q⟩ := h
  obtain ⟨its, rv, hl, hz⟩ := I.list hs
  obtain ⟨u, rfl, ru⟩ := vals1 r
  obtain rfl : u = Value.ref a := ru
  obtain ⟨e1, e2⟩ := refs_back rv fun x m => by
    obtain ⟨t, _, _, e, _⟩ := hx x m
    exact ⟨t, e⟩
  refine Srt.sorted_pairs hl.isList (by rw [← rv.length]; exact hz) (fun v hv => ?_) fun h' d out hp k hd hn => ?_
  · obtain ⟨t, rfl⟩ := e2 v hv
    have hm : V.ref t ∈ xs := by rw [e1]; exact List.mem_map.mpr ⟨_, hv, rfl⟩
    obtain ⟨t', i, j, e, ht⟩ := hx _ hm
    cases e
    obtain ⟨its2, r2, ⟨o, ho, hc, n, hd⟩, _⟩ := I.tuple ht
    obtain ⟨u1, u2, rfl, ri, rj⟩ := vals2 r2
    obtain ⟨t1, rfl⟩ := ri
    obtain ⟨t2, rfl⟩ := rj
    exact ⟨i, j, t, o, t1, t2, n, rfl, ho, hc, hd⟩
  · have h3 : ∀ u ∈ out, ∃ a, u = Value.ref a := fun u hu => e2 u (hp.mem_iff.mp hu)
    obtain ⟨n, hn⟩ := hn
    refine ⟨.ref d, upd H d (.lst (out.map backV)), I.laid (t' := s.toks) k hd ⟨?_, out, n, vals_back h3, hn⟩, rfl, q _ d ?_ (I.hok.fresh hd)⟩
    · rw [List.length_map, hp.length_eq, ← rv.length]; exact hz
    · rw [e1]; exact hp.map backV
theorem dps_perm {K : Fg} {B : Hp} {xs ys : List V} (h : ys.Perm xs) : ∀ {ds : List D}, DpAll K B xs ds → ∃ es, es.Perm ds ∧ DpAll K B ys es := by
  induction h with
  | nil => intro ds t; cases t; exact ⟨[], .nil, .nil⟩
  | cons x _ ih =>
    intro ds t
    cases t with
    | cons a t =>
      obtain ⟨es, p, q⟩ := ih t
      exact ⟨_ :: es, p.cons _, .cons a q⟩
  | swap x y l =>
    intro ds t
    cases t with
    | cons a t => cases t with
      | cons b t => exact ⟨_, .swap _ _ _, .cons b (.cons a t)⟩
  | trans _ _ ih1 ih2 =>
    intro ds t
    obtain ⟨es, p, q⟩ := ih2 t
    obtain ⟨fs, p2, q2⟩ := ih1 q
    exact ⟨fs, p2.trans p, q2⟩
theorem pair_of {K : Fg} {B : Hp} : ∀ {xs : List V} {ds : List D}, DpAll K B xs ds → ds.all pairD = true → ∀ x ∈ xs, ∃ t i j, x = V.ref t ∧ SqT K B t [.int i, .int j]
  | _, _, .nil, _, x, m => by cases m
  | _, _, .cons a t, h, x, m => by
    rw [List.all_cons, Bool.and_eq_true] at h
    rcases List.mem_cons.mp m with rfl | m
    · have h1 := h.1
      unfold pairD at h1
      split at h1
      · cases a with
        | tup s u => cases u with
          | cons u1 u => cases u with
            | cons u2 u =>
              cases u
              cases u1
              cases u2
              exact ⟨_, _, _, rfl, s⟩
      · cases h1
    · exact pair_of t h.2 x m
theorem rc_sorted {K : Fg} : RC K (rSortedQ K) bSorted := rc1 (fun _ q => q) (fun a b l _ q => by cases a <;> exact q) fun e dv P Q q k => by
  cases dv <;> try exact q.elim
  rename_i s1 t1
  refine ⟨_, _, rfl, e.sqL s1, fun x m => ?_, fun ys p hp hn => ?_⟩
  · obtain ⟨t, i, j, e1, s2⟩ := pair_of t1 q.1 x m
    exact ⟨t, i, j, e1, e.sqT s2⟩
  · obtain ⟨es, pe, de⟩ := dps_perm hp t1
    exact k _ _ _ _ (q.2 es pe) (Gr.new e hn) (.lst (SqL.of upd_same) ((Ex.new (e.back hn)).dps de))

theorem bt_int : bootBuiltins "int" = some (.type "int") := by decide +kernel
theorem bt_bool : bootBuiltins "bool" = some (.type "bool") := by decide +kernel
theorem bt_str : bootBuiltins "str" = some (.type "str") := by decide +kernel
theorem bt_tuple : bootBuiltins "tuple" = some (.type "tuple") := by decide +kernel
theorem bt_list : bootBuiltins "list" = some (.type "list") := by decide +kernel
theorem bt_len : bootBuiltins "len" = some (.builtin "len") := by decide +kernel
theorem bt_abs : bootBuiltins "abs" = some (.builtin "abs") := by decide +kernel

section
variable {X : Cx} {K : Fg} {W : WX} {e : Expr} {ta : TA} {ma : DA} {p pos : Pos} {k : Nat}
theorem xe_len (C : Ctx X K W k) (hm : X.mg "len" = none) (ha : XA X K W [e] ta ma) (hg : Gl X "len" := by rfl)
    (he : starEach [e] X.env = (false, eval e X.env) :: starEach [] X.env := by rfl) (hpl : (backTo pos (starEach [] X.env)).any (·.1) = false := by rfl) : XE X K W (.Call (.Name "len" p) [e] [] pos) (tCB (fun xs H Q => ∃ x n, xs = [x] ∧ LenV K x H n ∧ Q (.int n) H) ta) (dCB bLen ma) := by
  have hK := C.hK
  subst hK
  exact xe_cb call_len rc_len hm (bt_len) ha hg (by decide) (by decide) he hpl
theorem xe_tupleC (C : Ctx X K W k) (hm : X.mg "tuple" = none) (ha : XA X K W [e] ta ma) (hg : Gl X "tuple" := by rfl)
    (he : starEach [e] X.env = (false, eval e X.env) :: starEach [] X.env := by rfl) (hpl : (backTo pos (starEach [] X.env)).any (·.1) = false := by rfl) : XE X K W (.Call (.Name "tuple" p) [e] [] pos) (tCB (fun xs H Q => ∃ p ys, xs = [.ref p] ∧ ((SqL K H p ys ∧ ∀ l, H l = none → Q (.ref l) (upd H l (.tup ys))) ∨ (SqT K H p ys ∧ Q (.ref p) H))) ta) (dCB bTuple ma) := by
  have hK := C.hK
  subst hK
  exact xe_cty call_tuple_of rc_tuple hm (bt_tuple) ha hg (by decide) (by decide) he hpl
theorem xe_listC (C : Ctx X K W k) (hm : X.mg "list" = none) (ha : XA X K W [e] ta ma) (hg : Gl X "list" := by rfl)
    (he : starEach [e] X.env = (false, eval e X.env) :: starEach [] X.env := by rfl) (hpl : (backTo pos (starEach [] X.env)).any (·.1) = false := by rfl) : XE X K W (.Call (.Name "list" p) [e] [] pos) (tCB (fun xs H Q => ∃ p ys, xs = [.ref p] ∧ (SqL K H p ys ∨ SqT K H p ys) ∧ ∀ l, H l = none → Q (.ref l) (upd H l (.lst ys))) ta) (dCB bList ma) := by
  have hK := C.hK
  subst hK
  exact xe_cty call_list_of rc_list hm (bt_list) ha hg (by decide) (by decide) he hpl
theorem xe_all (C : Ctx X K W k) (hm : X.mg "all" = none) (ha : XA X K W [e] ta ma) (hg : Gl X "all" := by rfl)
    (he : starEach [e] X.env = (false, eval e X.env) :: starEach [] X.env := by rfl) (hpl : (backTo pos (starEach [] X.env)).any (·.1) = false := by rfl) : XE X K W (.Call (.Name "all" p) [e] [] pos) (tCB (rAll K) ta) (dCB bAll ma) := by
  have hK := C.hK
  subst hK
  exact xe_cb (cr_all C.calm) rc_all hm (by decide +kernel) ha hg (by decide) (by decide) he hpl
theorem xe_any (C : Ctx X K W k) (hm : X.mg "any" = none) (ha : XA X K W [e] ta ma) (hg : Gl X "any" := by rfl)
    (he : starEach [e] X.env = (false, eval e X.env) :: starEach [] X.env := by rfl) (hpl : (backTo pos (starEach [] X.env)).any (·.1) = false := by rfl) : XE X K W (.Call (.Name "any" p) [e] [] pos) (tCB (rAny K) ta) (dCB bAny ma) := by
  have hK := C.hK
  subst hK
  exact xe_cb (cr_any C.calm) rc_any hm (by decide +kernel) ha hg (by decide) (by decide) he hpl
theorem xe_sorted (C : Ctx X K W k) (hm : X.mg "sorted" = none) (ha : XA X K W [e] ta ma) (hg : Gl X "sorted" := by rfl)
    (he : starEach [e] X.env = (false, eval e X.env) :: starEach [] X.env := by rfl) (hpl : (backTo pos (starEach [] X.env)).any (·.1) = false := by rfl) : XE X K W (.Call (.Name "sorted" p) [e] [] pos) (tCB (rSortedQ K) ta) (dCB bSorted ma) := by
  have hK := C.hK
  subst hK
  exact xe_cb cr_sortedF rc_sorted hm (by decide +kernel) ha hg (by decide) (by decide) he hpl
end
end Fw
namespace Fw
open PySem PySem.Spec L2

/-! ### exceptions -/
/-- the class that the module's name holds -/
def clsV (K : Fg) (x : Str) : Value := match PySem.W.nsIn K mainGlobals x with
  | some (some v) => v
  | _ => .none
theorem clsV_of {K : Fg} {x : Str} {v : Value} (h : PySem.W.nsIn K mainGlobals x = some (some v)) : clsV K x = v := by
  unfold clsV
  rw [h]
/-- an error class of the module's own, made of one text -/
structure ExcC (K : Fg) (mg : Str → Option Value) (x : Str) : Prop where
  ns : PySem.W.nsIn K mainGlobals x = some (some (clsV K x))
  gC : mg x = some (clsV K x)
  ex : ∃ (C : Addr) (bmB : List Value) (B newId initId : String), clsV K x = .ref C ∧ ExcBaseFacts B newId initId bmB ∧ PySem.W.excIn K C bmB newId = true ∧ PySem.W.keepIn K (.ref C) = true ∧ PySem.W.subIn K (.ref C) (.type "BaseException") = some true ∧ PySem.W.typeIn K (.ref C) = some (.type "type")
/-- a class that is caught -/
structure ClsN (K : Fg) (mg : Str → Option Value) (x : Str) : Prop where
  ns : PySem.W.nsIn K mainGlobals x = some (some (clsV K x))
  gC : mg x = some (clsV K x)
def tRaise (K : Fg) (W : WX) (x : Str) : TS := fun _ σ H => W (clsV K x) none σ H
def dRaise (x : Str) : DS := fun E es => E.xx (x, none) es
section
variable {X : Cx} {K : Fg} {W : WX} {k0 : Nat}
theorem xs_raise (C : Ctx X K W k0) {x m : Str} {j : Nat} {p p2 pos pos' : Pos} (G : ExcC K X.mg x) (hg : Gl X x := by rfl) (hdb : (x == ("__debug__" : Str)) = false := by decide) :
    XS X K W (.Raise (some (.Call (.Name x p) [.Constant (.str m) j p2] [] pos)) none pos') (tRaise K W x) (dRaise x) := by
  have hK := C.hK
  subst hK
  refine ⟨⟨fun pins s σ H D I h => ?_⟩, ⟨fun s E Z q _ _ _ _ kx => kx _ _ _ _ _ _ _ q s Ex.rfl ⟨G.ns, rfl⟩⟩⟩
  obtain ⟨Ca, bmB, B, newId, initId, e, F, q1, q2, q3, q4⟩ := G.ex
  have gC := G.gC
  unfold tRaise at h
  rw [e] at h gC
  exact (ps_raise C.calm C.tk (pmk_own F q1 gC q2 (raises_own q3 q4) hg hdb)).run pins s σ H D I h
/-- a body within a try: some context of its kind -/
theorem tr_ctx {W' : WX} (C : Ctx X K W k0) (hs : X.stack = X.env :: X.outer) (hf : X.env.frame = some X.env.locals) : ∃ pn xe, Ctx (X.tr pn xe) K W' k0 := by
  refine ⟨[], fun e s₁ => wpAny (model X.prog X.w) X.A (noteFrame e X.env) (fun _ _ => True) (fun _ _ => True) s₁, C.hK, fun u s' xx => ?_, PassesOwn.looking, C.hr, C.calm, C.nd⟩
  obtain ⟨a, B, sI, pins', σ', H', cls, d, rfl, J', nb, up, sky, na, os, ag, w⟩ := xx
  have ok := J'.ok.ofTry
  have hfr : X.A.frames = some (X.env :: X.outer) := by rw [ok.frames, hs]
  have sky' : Sky B (X.env :: X.outer) a (Zc cls d) X.env.locals s'.heap := by rw [← hs]; exact sky
  refine wpAny_mono (Sky.land (Q := fun _ _ => True) (E₁ := fun _ _ => True) Zc.steady hfr hf sky' fun _ _ _ => trivial) (fun _ _ _ => trivial) fun _ _ _ => trivial
end
/-- which class is below which one: what is not told is not asked -/
abbrev Sub := Str → Str → Option Bool
structure SubF (K : Fg) (sub : Sub) : Prop where
  of : ∀ {x c : Str} {b : Bool}, sub x c = some b → PySem.W.exmOne K (clsV K x) (clsV K c) = some b
/-- the handlers' readings, one behind the other -/
def hPick (sub : Sub) (E : Eo) (x : XD) (es : En) : List (Str × DS) → Prop
  | [] => E.xx x es
  | (c, m) :: r => ∃ b, sub x.1 c = some b ∧ if b = true then m { E with xx := fun _ _ => False } es else hPick sub E x es r
def dTry (sub : Sub) (mb : DS) (hs : List (Str × DS)) : DS := fun E es => mb { E with xx := fun x es' => hPick sub E x es' hs } es
/-- the handlers: their classes, statements, readings -/
inductive XHs (X : Cx) (K : Fg) : List ExceptHandler → List (Value × (Addr → Value → Option Addr → TS)) → List (Str × DS) → Prop
  | nil : XHs X K [] [] []
  | cons {x : Str} {ts : TS} {ms : DS} {b₀ : Stmt} {suite : List Stmt} {np pos' : Pos} {hds : List ExceptHandler} {l : List (Value × (Addr → Value → Option Addr → TS))} {m : List (Str × DS)} (hc : ClsN K X.mg x) (hg : Gl X x) (hdb : (x == ("__debug__" : Str)) = false)
      (hsu : ∀ (a : Addr) (pn : List (Addr × Obj)), XB (X.suite a pn) K WF (b₀ :: suite) ts ms) (r : XHs X K hds l m) :
      XHs X K (.ExceptHandler (some (.Name x np)) none (b₀ :: suite) pos' :: hds) ((clsV K x, fun _ _ _ => ts) :: l) ((x, ms) :: m)
theorem XHs.ok {X : Cx} {K : Fg} {hds : List ExceptHandler} {l : List (Value × (Addr → Value → Option Addr → TS))} {m : List (Str × DS)} (h : XHs X K hds l m) : HdsOk X hds l := by
  induction h with
  | nil => exact .nil
  | cons hc hg hdb hsu r ih => exact .cons ⟨hg, hdb, .inl hc.gC⟩ (fun a oe cls d pn _ _ => (hsu a _).1) ih
section
variable {X : Cx} {K : Fg} {W : WX} {k0 : Nat} {sub : Sub}
theorem hs_many (SF : SubF K sub) {S : SA} {B0 H0 B H : Hp} {σ : L2.St} {es : En} {hds : List ExceptHandler} {l : List (Value × (Addr → Value → Option Addr → TS))} {m : List (Str × DS)} (h : XHs X K hds l m) {x : XD} {cls : Value} {dd : Option Addr}
    (s : Sim K S B0 H0 σ es B H) (r : XR K B H x cls dd) (E : Eo) (Z : Ends) (q : hPick sub E x es m)
    (kn : ∀ σ' es' B' H', E.nx es' → Sim K S B0 H0 σ' es' B' H' → Ex B B' → Z.nx σ' H') (kr : ∀ σ' es' d v B' H', E.rt d → Sim K S B0 H0 σ' es' B' H' → Dp K B' v d → Z.rt v H')
    (kb : ∀ σ' es' B' H', E.bk es' → Sim K S B0 H0 σ' es' B' H' → Ex B B' → Z.bk σ' H') (kc : ∀ σ' es' B' H', E.ct es' → Sim K S B0 H0 σ' es' B' H' → Ex B B' → Z.ct σ' H')
    (kx : E.xx x es → W cls dd σ H) : wMany K W Z l cls dd σ H := by
  induction h with
  | nil => exact kx q
  | @cons x1 ts ms b₀ suite np pos' hds l m hc hg hdb hsu _ ih =>
    obtain ⟨b, e, q⟩ := q
    have ec : cls = clsV K x.1 := (clsV_of r.1).symm
    refine ⟨b, by rw [ec]; exact SF.of e, fun hb a na => ?_, fun hb => ?_⟩
    · subst hb
      rw [if_pos rfl] at q
      exact (hsu a []).2.run s { E with xx := fun _ _ => False } Z q kn kr kb kc fun _ _ _ _ _ _ _ z => z.elim
    · subst hb
      rw [if_neg (by decide)] at q
      exact ih q
theorem xs_try (C : Ctx X K W k0) (SF : SubF K sub) {body : List Stmt} {h₀ : ExceptHandler} {hds : List ExceptHandler} {l : List (Value × (Addr → Value → Option Addr → TS))} {m : List (Str × DS)} {pos : Pos} {tb : WX → TS} {mb : DS}
    (hb : ∀ (W : WX) (pn : List (Addr × Obj)) (xe : Value → Shared → Prop), Ctx (X.tr pn xe) K W k0 → XB (X.tr pn xe) K W body (tb W) mb) (hh : XHs X K (h₀ :: hds) l m) (hs : X.stack = X.env :: X.outer := by rfl) (hf : X.env.frame = some X.env.locals := by rfl) :
    XS X K W (.Try body (h₀ :: hds) [] [] pos) (fun D σ H => tb (wMany K W D l) D σ H) (dTry sub mb m) := by
  have hK := C.hK
  subst hK
  refine ⟨ps_try_many hs hf C.tk (fun W' pn xe tk po => (hb W' pn xe ⟨rfl, tk, po, C.hr, C.calm, C.nd⟩).1) hh.ok, ⟨fun s E Z q kn kr kb kc kx => ?_⟩⟩
  obtain ⟨pn, xe, C'⟩ := tr_ctx (W' := wMany X.K W Z l) C hs hf
  refine (hb _ pn xe C').2.run s { E with xx := fun x es' => hPick sub E x es' m } Z q kn kr kb kc fun x cls dd σ' es' B' H' hx s' e' r => ?_
  exact hs_many SF hh s' r E Z hx (fun a b c d e f g => kn a b c d e f (e'.trans g)) kr (fun a b c d e f g => kb a b c d e f (e'.trans g)) (fun a b c d e f g => kc a b c d e f (e'.trans g)) fun z => kx _ _ _ _ _ _ _ z s' e' r
end

/-! ### a chain of two comparisons -/
def dChain (r1 r2 : D2) (ma mb mc : DE) : DE := fun es P X => ma es (fun a => mb es (fun b => r1 a b (fun z => match z with
  | .bool k => if k = true then mc es (fun c => r2 b c P) X else P (.bool false)
  | _ => False)) X) X
theorem se_chain {K : Fg} {W : WX} {r r' : R2} {rd rd' : D2} {ta tb tc : TE} {ma mb mc : DE} (hr : RS K r rd) (hr' : RS K r' rd') (ha : SE K W ta ma) (hb : SE K W tb mb) (hc : SE K W tc mc) : SE K W (tChain r r' ta tb tc) (dChain rd rd' ma mb mc) := ⟨fun s P X Q h k kx => by
  refine ha.run s _ X _ h (fun a v B1 H1 h1 g1 d1 => ?_) kx
  refine hb.run (s.step g1) _ X _ h1 (fun b u B2 H2 h2 g2 d2 => ?_) (fun x c dd B' H' hx g r => kx x c dd B' H' hx (g1.trans g) r)
  refine hr.run g2.bh (g2.bb.dp d1) d2 _ _ h2 fun d z B3 H3 p g3 d3 => ?_
  have g13 := g1.trans (g2.trans ((s.step (g1.trans g2)).gr g3))
  cases d3 <;> try exact p.elim
  rename_i kk
  refine ⟨kk, rfl, ?_⟩
  cases kk with
  | false => exact k _ _ _ _ p g13 (.bl _)
  | true =>
    refine hc.run (s.step g13) _ X _ p (fun c w B4 H4 h4 g4 d4 => ?_) (fun x c dd B' H' hx g r => kx x c dd B' H' hx (g13.trans g) r)
    exact hr'.run g4.bh (g4.bb.dp (g3.bb.dp d2)) d4 P Q h4 fun d z B5 H5 p5 g5 d5 => k d z B5 H5 p5 (g13.trans (g4.trans ((s.step (g13.trans g4)).gr g5))) d5⟩
section
variable {X : Cx} {K : Fg} {W : WX} {a b c : Expr} {ta tb tc : TE} {ma mb mc : DE} {pos : Pos} {op op' : CmpOp} {r r' : R2} {rd rd' : D2}
theorem xe_chain (ho : OpR X (compareOp op) r) (hr : RS K r rd) (ho' : OpR X (compareOp op') r') (hr' : RS K r' rd') (ha : XE X K W a ta ma) (hb : XE X K W b tb mb) (hc : XE X K W c tc mc) (hm : lastMarks [op, op'] [b, c] = false := by with_unfolding_all rfl) :
    XE X K W (.Compare a [op, op'] [b, c] pos) (tChain r r' ta tb tc) (dChain rd rd' ma mb mc) := ⟨pe_chain ho ho' ha.1 hb.1 hc.1 hm, se_chain hr hr' ha.2 hb.2 hc.2⟩
theorem xt_chain (ho : OpR X (compareOp op) r) (hr : RS K r rd) (ho' : OpR X (compareOp op') r') (hr' : RS K r' rd') (ha : XE X K W a ta ma) (hb : XE X K W b tb mb) (hc : XE X K W c tc mc) (hm : lastMarks [op, op'] [b, c] = false := by with_unfolding_all rfl) :
    XT X K W (.Compare a [op, op'] [b, c] pos) (tTest (tChain r r' ta tb tc)) (dTest (dChain rd rd' ma mb mc)) := ⟨pt_chain ho ho' ha.1 hb.1 hc.1 hm, st_T (se_chain hr hr' ha.2 hb.2 hc.2)⟩
end

/-! ### texts: f'..', str(n), zfill -/
def dFmt (me : DE) : DE := fun es P X => me es (fun d => match d with
  | .str y => y.length ≤ 16777216 ∧ P (.str y)
  | .int i => i.natAbs.log2 < 1920 ∧ P (.str (toString i))
  | _ => False) X
def dJs : List DE → Str → En → (Str → Prop) → XP → Prop
  | [], acc, _, P, _ => P acc
  | m :: ms, acc, es, P, X => m es (fun d => match d with
    | .str y => (acc ++ y).length ≤ 16777216 ∧ dJs ms (acc ++ y) es P X
    | _ => False) X
def dJoined (ms : List DE) : DE := fun es P X => dJs ms Str.empty es (fun y => P (.str y)) X
inductive XJ (X : Cx) (K : Fg) (W : WX) : List Expr → List TE → List DE → Prop
  | nil : XJ X K W [] [] []
  | cons {e : Expr} {t : TE} {m : DE} {es : List Expr} {ts : List TE} {ms : List DE} (h : XE X K W e t m) (r : XJ X K W es ts ms) : XJ X K W (e :: es) (t :: ts) (m :: ms)
theorem XJ.pj {X : Cx} {K : Fg} {W : WX} {es : List Expr} {ts : List TE} {ms : List DE} (h : XJ X K W es ts ms) : PJ X es ts := by
  induction h with
  | nil => exact .nil
  | cons h _ ih => exact .cons h.1 ih
theorem XJ.run {X : Cx} {K : Fg} {W : WX} {es : List Expr} {ts : List TE} {ms : List DE} (h : XJ X K W es ts ms) : ∀ {S : SA} {B0 H0 B H : Hp} {σ : L2.St} {en : En}, Sim K S B0 H0 σ en B H → ∀ (acc : Str) (P : Str → Prop) (Y : XP) (Q : Str → Hp → Prop), dJs ms acc en P Y →
    (∀ y B' H', P y → GrS S B H B' H' → Q y H') → (∀ x cls dd B' H', Y x → GrS S B H B' H' → XR K B' H' x cls dd → W cls dd σ H') → tJs ts acc σ H Q := by
  induction h with
  | nil => intro S B0 H0 B H σ en s acc P Y Q q k _; exact k _ _ _ q s.rfl
  | cons h _ ih =>
    intro S B0 H0 B H σ en s acc P Y Q q k kx
    refine h.2.run s _ Y _ q (fun d v B1 H1 p g dv => ?_) kx
    cases dv <;> try exact p.elim
    exact ⟨_, rfl, by rw [sz_eq]; exact p.1, ih (s.step g) _ P Y Q p.2 (fun y B' H' p2 g2 => k y B' H' p2 (g.trans g2)) fun x c dd B' H' hx g2 r => kx x c dd B' H' hx (g.trans g2) r⟩
section
variable {X : Cx} {K : Fg} {W : WX} {e v1 v2 : Expr} {rest : List Expr} {te : TE} {me : DE} {ts : List TE} {ms : List DE} {pos : Pos}
theorem xe_fmt (h : XE X K W e te me) : XE X K W (.FormattedValue e (-1) none pos) (tFmt te) (dFmt me) := ⟨pe_fmt h.1, ⟨fun s P Y Q q k kx => h.2.run s _ Y _ q (fun d v B1 H1 p g dv => by
  cases dv <;> try exact p.elim
  · exact .inr ⟨_, rfl, p.1, k _ _ _ _ p.2 g (.str _)⟩
  · exact .inl ⟨_, rfl, by rw [sz_eq]; exact p.1, k _ _ _ _ p.2 g (.str _)⟩) kx⟩⟩
theorem xe_joined (h : XJ X K W (v1 :: v2 :: rest) ts ms) : XE X K W (.JoinedStr (v1 :: v2 :: rest) pos) (fun σ H Q => tJs ts Str.empty σ H fun out H1 => Q (.str out) H1) (dJoined ms) :=
  ⟨pe_joined h.pj, ⟨fun s P Y Q q k kx => h.run s _ _ Y _ q (fun y B' H' p g => k _ _ _ _ p g (.str _)) kx⟩⟩
end
def bStrInt : D1
  | [.int i], P => i.natAbs.log2 < 1920 ∧ P (.str (toString i))
  | _, _ => False
theorem rc_strInt {K : Fg} : RC K (fun xs H Q => ∃ i, xs = [V.int i] ∧ i.natAbs.log2 < 1920 ∧ Q (.str (toString i)) H) bStrInt := rc1 (fun _ q => q) (fun a b l _ q => by cases a <;> exact q) fun e dv P Q q k => by
  cases dv <;> try exact q.elim
  exact ⟨_, rfl, q.1, k _ _ _ _ q.2 (Gr.rfl e) (.str _)⟩
/-- a method of a text, of ints or texts -/
abbrev DM := Str → List D → (D → Prop) → Prop
def dBM (rd : DM) (mo : DE) (ma : DA) : DE := fun es P X => mo es (fun d => match d with
  | .str y => ma es (fun ds => rd y ds P) X
  | _ => False) X
structure RM (K : Fg) (r : V → List V → Hp → VK → Prop) (rd : DM) : Prop where
  run : ∀ {B H : Hp} {y : Str} {vs : List V} {ds : List D}, Ex B H → DpAll K B vs ds → ∀ (P : D → Prop) (Q : VK), rd y ds P → (∀ d v B' H', P d → Gr B H B' H' → Dp K B' v d → Q v H') → r (.str y) vs H Q
theorem xe_bmS {X : Cx} {K : Fg} {W : WX} {name : Str} {r : V → List V → Hp → VK → Prop} {rd : DM} {o e : Expr} {es : List Expr} {to : TE} {ta : TA} {mo : DE} {ma : DA} {apos cpos : Pos} (hr : RM K r rd)
    (ho : XE X K W o to mo) (ha : XA X K W (e :: es) ta ma) (hp : PE X o to → PA X (e :: es) ta → PE X (.Call (.Attribute o name apos) (e :: es) [] cpos) (tBM K "str" r to ta)) :
    XE X K W (.Call (.Attribute o name apos) (e :: es) [] cpos) (tBM K "str" r to ta) (dBM rd mo ma) := ⟨hp ho.1 ha.1, ⟨fun s P Y Q q k kx => ho.2.run s _ Y _ q (fun d v B1 H1 p g dv => by
  cases dv <;> try exact p.elim
  refine ⟨rfl, ha.2.run (s.step g) _ Y _ p (fun ds vs B2 H2 p2 g2 dvs => ?_) fun x c dd B' H' hx g2 r => kx x c dd B' H' hx (g.trans g2) r⟩
  exact hr.run g2.bh dvs P Q p2 fun d v B3 H3 p3 g3 dv => k _ _ _ _ p3 (g.trans (g2.trans (((s.step g).step g2).gr g3))) dv) kx⟩⟩
def mZfill : DM := fun y ds P => match ds with
  | [.int i] => PadOk i = true ∧ P (.str (Txt.zfill y i))
  | _ => False
set_option exponentiation.threshold 20000
theorem rm_zfill {K : Fg} : RM K (fun x xs H Q => ∃ (a : Str) (i : Int), x = .str a ∧ xs = [V.int i] ∧ PadOk i = true ∧ Q (.str (Txt.zfill a i)) H) mZfill := ⟨fun e dvs P Q q k => by
  cases dvs with
  | nil => exact q.elim
  | cons a t => cases t with
    | cons _ _ => cases a <;> exact q.elim
    | nil => cases a <;> try exact q.elim
             exact ⟨_, _, rfl, rfl, q.1, k _ _ _ _ q.2 (Gr.rfl e) (.str _)⟩⟩

/-! ### math.isqrt -/
def rIsqrt : List V → Hp → VK → Prop := fun vs H Q => ∃ a : Int, vs = [.int a] ∧ 0 ≤ a ∧ a < 2 ^ 13000 ∧ Q (.int ((Float64.isqrt a.toNat : Nat) : Int)) H
def bIsqrt : D1
  | [.int a], P => 0 ≤ a ∧ a < 2 ^ 13000 ∧ P (.int ((Float64.isqrt a.toNat : Nat) : Int))
  | _, _ => False
theorem cr_isqrt {X : Cx} : CallR X (.builtin "math.isqrt") rIsqrt := by
  intro pins s σ H vs us Q I r h
  obtain ⟨a, rfl, h0, h1, q⟩ := h
  obtain ⟨u, rfl, ru⟩ := vals1 r
  obtain ⟨t, rfl⟩ := (show ∃ t, u = Value.int a t from ru)
  have hl : a.toNat.log2 ≤ 12999 := PySem.W.mg_log (by
    have : ((a.toNat : Nat) : Int) < ((2 ^ 13000 : Nat) : Int) := by rw [Int.toNat_of_nonneg h0]; exact_mod_cast h1
    exact_mod_cast this)
  exact call_function_meets PySem.W.MGF.kind_isqrt PySem.W.MGF.plain_isqrt PySem.W.MGF.entry_isqrt (PySem.W.MGF.args_isqrt _) (PySem.W.mg_run_isqrt a t (by omega) (by omega) (by omega)).meets ⟨.int _, H, I.tok _, ⟨_, rfl⟩, q⟩
theorem rc_isqrt {K : Fg} : RC K rIsqrt bIsqrt := rc1 (fun _ q => q) (fun a b l _ q => by cases a <;> exact q) fun e dv P Q q k => by
  cases dv <;> try exact q.elim
  exact ⟨_, rfl, q.1, q.2.1, k _ _ _ _ q.2.2 (Gr.rfl e) (.int _)⟩

/-! ### [..] * n -/
def dRepL (mn : DA) (mb : DE) : DE := fun es P X => mn es (fun ds => mb es (fun d => match d with
  | .int k => -(2 ^ 63) ≤ k ∧ k < 2 ^ 63 ∧ ds.length * k.toNat ≤ 16777216 ∧ P (.list (List.replicate k.toNat ds).flatten)
  | _ => False) X) X
theorem dps_rep {K : Fg} {B : Hp} {xs : List V} {ds : List D} (h : DpAll K B xs ds) : ∀ n : Nat, DpAll K B (List.replicate n xs).flatten (List.replicate n ds).flatten
  | 0 => .nil
  | n + 1 => by
    rw [List.replicate_succ, List.replicate_succ, List.flatten_cons, List.flatten_cons]
    exact dps_app h (dps_rep h n)
theorem xe_repL {X : Cx} {K : Fg} {W : WX} {a b : Expr} {ta tb : TE} {mn : DA} {mb : DE} {pos : Pos} (ha : XN X K W a ta mn) (hb : XE X K W b tb mb) : XE X K W (.BinOp a .Mult b pos) (tOp rRep ta tb) (dRepL mn mb) := ⟨pe_op op_rep ha.1 hb.1, ⟨fun {S B0 H0 B H σ es} s P Y Q q k kx =>
  ha.2.run s _ Y _ q (fun ds p xs B1 H1 p1 g1 hn hb1 hh dx => hb.2.run (s.step g1) _ Y _ p1 (fun d v B2 H2 p2 g2 dv => by
    cases dv <;> try exact p2.elim
    obtain ⟨k1, k2, k3, p2⟩ := p2
    have nS : ¬ S.has p := fun z => by
      have e := SprO.get s.gs.sp z
      exact e hn
    exact ⟨p, _, xs, rfl, rfl, g2.hh p _ hh nS, k1, k2, by rw [sz_eq, dps_len dx]; exact k3, fun l hl => k _ _ _ _ p2 (g1.trans (g2.trans (((s.step g1).step g2).gr (Gr.new g2.bh hl)))) (.lst (SqL.of upd_same) ((Ex.new (g2.bh.back hl)).dps (dps_rep (g2.bb.dps dx) _)))⟩) fun x c dd B' H' hx g2 r => kx x c dd B' H' hx (g1.trans g2) r) kx⟩⟩
end Fw
namespace Fw
open PySem PySem.Spec L2

/-! ### texts: a sign in a text, startswith, lstrip(signs), partition, int(text), walks -/
def dIn : D2
  | .str x, .str z, P => ∃ c, x = ⟨#[c]⟩ ∧ P (.bool (decide (c ∈ z.cps.toList)))
  | _, _, _ => False
def rInS : R2 := fun x y H Q => ∃ (c : Nat) (z : Str), x = .str ⟨#[c]⟩ ∧ y = .str z ∧ Q (.bl (decide (c ∈ z.cps.toList))) H
theorem op_inS {X : Cx} : OpR X (compareOp .In) rInS := op_in_sign
theorem rs_in {K : Fg} : RS K rInS dIn := ⟨fun {B H x y dx dy} e h1 h2 P Q q k => by
  cases h1 <;> cases h2 <;> try exact q.elim
  obtain ⟨c, rfl, q⟩ := q
  exact ⟨_, _, rfl, rfl, k _ _ _ _ q (Gr.rfl e) (.bl _)⟩⟩
def mStart : DM := fun y ds P => match ds with
  | [.str b] => P (.bool (Txt.startswith y b))
  | _ => False
def mLstrip : DM := fun y ds P => match ds with
  | [.str b] => y.length ≤ 16777216 ∧ P (.str (Txt.lstripChars y b))
  | _ => False
def mPart : DM := fun y ds P => match ds with
  | [.str b] => (b.length == 0) = false ∧ y.length ≤ 16777216 ∧ P (.tuple [.str (Txt.partition y b).1, .str (Txt.partition y b).2.1, .str (Txt.partition y b).2.2])
  | _ => False
theorem rm_start {K : Fg} : RM K (fun x xs H Q => ∃ a b, x = .str a ∧ xs = [V.str b] ∧ Q (.bl (Txt.startswith a b)) H) mStart := ⟨fun e dvs P Q q k => by
  cases dvs with
  | nil => exact q.elim
  | cons a t => cases t with
    | cons _ _ => cases a <;> exact q.elim
    | nil => cases a <;> try exact q.elim
             exact ⟨_, _, rfl, rfl, k _ _ _ _ q (Gr.rfl e) (.bl _)⟩⟩
theorem rm_lstrip {K : Fg} : RM K (fun x xs H Q => ∃ a b, x = .str a ∧ xs = [V.str b] ∧ a.length ≤ sizeLine ∧ Q (.str (Txt.lstripChars a b)) H) mLstrip := ⟨fun e dvs P Q q k => by
  cases dvs with
  | nil => exact q.elim
  | cons a t => cases t with
    | cons _ _ => cases a <;> exact q.elim
    | nil => cases a <;> try exact q.elim
             exact ⟨_, _, rfl, rfl, by rw [sz_eq]; exact q.1, k _ _ _ _ q.2 (Gr.rfl e) (.str _)⟩⟩
theorem rm_part {K : Fg} : RM K (fun x xs H Q => ∃ a b, x = .str a ∧ xs = [V.str b] ∧ (b.length == 0) = false ∧ a.length ≤ sizeLine ∧
    ∀ p, H p = none → Q (.ref p) (upd H p (.tup [.str (Txt.partition a b).1, .str (Txt.partition a b).2.1, .str (Txt.partition a b).2.2]))) mPart := ⟨fun e dvs P Q q k => by
  cases dvs with
  | nil => exact q.elim
  | cons a t => cases t with
    | cons _ _ => cases a <;> exact q.elim
    | nil => cases a <;> try exact q.elim
             exact ⟨_, _, rfl, rfl, q.1, by rw [sz_eq]; exact q.2.1, fun p hp => k _ _ _ _ q.2.2 (Gr.new e hp) (.tup (SqT.of upd_same) (.cons (.str _) (.cons (.str _) (.cons (.str _) .nil))))⟩⟩
def bIntS : D1
  | [.str a], P => ∃ n, PySem.intText? a = some n ∧ a.length ≤ 640 ∧ P (.int n)
  | _, _ => False
theorem rc_intS {K : Fg} : RC K (fun xs H Q => ∃ a n, xs = [V.str a] ∧ PySem.intText? a = some n ∧ a.length ≤ 640 ∧ Q (.int n) H) bIntS := rc1 (fun _ q => q) (fun a b l _ q => by cases a <;> exact q) fun e dv P Q q k => by
  cases dv <;> try exact q.elim
  obtain ⟨n, h1, h2, q⟩ := q
  exact ⟨_, _, rfl, h1, h2, k _ _ _ _ q (Gr.rfl e) (.int _)⟩
section
variable {X : Cx} {K : Fg} {W : WX} {tg e : Expr} {te : TE} {me : DE}
theorem it_str {z : Str} {B : Hp} : ItOk K (Its z) B (z.cps.toList.map fun c => PyData.str ⟨#[c]⟩) :=
  ⟨fun {B2 H i} e1 e2 l => by
    have l' : i < z.cps.size := by simpa using l
    refine ⟨l', fun x H' y => ?_⟩
    obtain ⟨rfl, c, hc, rfl⟩ := y
    exact ⟨.str ⟨#[c]⟩, B2, by simp [hc], Gr.rfl e2, .str _⟩, fun _ _ => by show z.cps.size ≤ _; simp⟩
theorem si_str (h : SE K W te me) : SI K W (iStr te) (iS me) := ⟨fun s P X R q k kx => h.run s _ X _ q (fun d v B' H' p g dv => by
  cases dv <;> try exact p.elim
  exact ⟨_, rfl, k _ _ _ _ p g it_str⟩) kx⟩
theorem xi_str (h : XE X K W e te me) : XI X K W tg e (iStr te) (iS me) := ⟨pi_str h.1, si_str h.2⟩
end

/-! ### a table of the body's own: keys are texts -/
theorem Sim.getK {K : Fg} {S : SA} {B0 H0 B H : Hp} {σ : L2.St} {es : En} (s : Sim K S B0 H0 σ es B H) {i n : Nat} {f : Str → Option D} (h : es[i]? = some (.k n f)) : ∃ a kw, σ[i]? = some (some (.ref a)) ∧ H a = some (.dK kw) ∧ kw.length ≤ n ∧ KOk K B kw f := by
  obtain ⟨fp, e, _⟩ := s.env
  obtain ⟨a, xs, h1, h2, h3, h4, _⟩ := e.getK h
  exact ⟨a, xs, h1, h2, h3, h4⟩
theorem OD.getD {K : Fg} {B : Hp} {v z : V} {d : D} : ∀ {o : Option V} {p : Option D}, OD K B o p → Dp K B z d → Dp K B (o.getD z) (p.getD d)
  | none, none, _, h => h
  | some _, some _, h, _ => h
  | none, some _, h, _ => h.elim
  | some _, none, h, _ => h.elim
def dNewK (i : Nat) : DS := fun E es => i < es.length ∧ E.nx (es.set i (.k 0 fun _ => none))
def dKGet (i : Nat) (me mf : DE) : DE := fun es P X => ∃ n f, es[i]? = some (.k n f) ∧ me es (fun d => mf es (fun z => match d with
  | .str x => P ((f x).getD z)
  | _ => False) X) X
def dKPut (i : Nat) (mk mv : DE) : DS := fun E es => ∃ n f, es[i]? = some (.k n f) ∧ n < 16777216 ∧ mv es (fun d => mk es (fun k => match k with
  | .str x => E.nx (es.set i (.k (n + 1) fun y => if y = x then some d else f y))
  | _ => False) (fun x => E.xx x es)) (fun x => E.xx x es)
section
variable {X : Cx} {K : Fg} {W : WX} {k0 : Nat} {x : Str} {e f : Expr} {te tf : TE} {me mf : DE} {pos pos' p0 p1 apos cpos : Pos}
theorem ss_newK (i : Nat) : SS K W (tAsg tDNewK (gName i)) (dNewK i) := ⟨fun {S B0 H0 B H σ es} s E Z q kn _ _ _ _ => fun p hp =>
  kn _ _ _ _ q.2 (s.newK (kw := []) (n1 := 0) (f1 := fun _ => none) hp (Nat.le_refl _) (fun _ => trivial) i q.1) Ex.rfl⟩
theorem xs_newK (i : Nat) (nd : X.N.Nodup) (hi : X.N[i]? = some x := by rfl) (hx : Loc X.env.scope x := by first | exact Or.inl rfl | exact Or.inr rfl) (hs : swapsWith (.Dict [] [] p1) (some (.Name x pos')) pos.line X.env = pure false := by rfl) (hf : X.fn x = true ∨ X.env.scope.names.lookup x = some .local := by first | exact .inl rfl | exact .inr rfl) :
    XS X K W (.Assign [.Name x pos'] (.Dict [] [] p1) pos) (tAsg tDNewK (gName i)) (dNewK i) := ⟨ps_set nd hi hx pe_dnewK hs hf, ss_newK i⟩
theorem se_kget (i : Nat) (ha : SE K W te me) (hb : SE K W tf mf) : SE K W (tDGet2 (tVar i) te tf) (dKGet i me mf) := ⟨fun {S B0 H0 B H σ es} s P Y Q q k kx => by
  obtain ⟨n, g0, hi, q⟩ := q
  obtain ⟨a, kw, h1, h2, h3, h4⟩ := s.getK hi
  refine ⟨_, h1, a, rfl, .inl ⟨kw, .inl h2⟩, ha.run s _ Y _ q (fun d v B1 H1 p g dv => ?_) kx⟩
  refine hb.run (s.step g) _ Y _ p (fun z u B2 H2 p2 g2 du => ?_) fun x c dd B' H' hx g2 r => kx x c dd B' H' hx (g.trans g2) r
  have s2 := (s.step g).step g2
  obtain ⟨a', kw', h1', h2', h3', h4'⟩ := s2.getK hi
  rw [h1] at h1'
  obtain rfl : a = a' := by injection (Option.some.inj h1') with z; injection z
  cases dv <;> try exact p2.elim
  rename_i y
  exact ⟨_, DGet.k (k := .inr y) h2', k _ _ _ _ p2 (g.trans g2) (OD.getD (v := u) (h4' y) du)⟩⟩
theorem xe_kget (C : Ctx X K W k0) (i : Nat) (ha : XE X K W e te me) (hb : XE X K W f tf mf) (ho : PE X (.Name x p0) (tVar i)) (m : M2 X (.Name x p0) "get" apos e f cpos := by exact ⟨rfl, rfl, rfl, rfl⟩) :
    XE X K W (.Call (.Attribute (.Name x p0) "get" apos) [e, f] [] cpos) (tDGet2 (tVar i) te tf) (dKGet i me mf) := ⟨pe_dget2 (by have := C.hr.units; omega) ho ha.1 hb.1 m, se_kget i ha.2 hb.2⟩
theorem ss_kput (i : Nat) (hk : SE K W te me) (hv : SE K W tf mf) : SS K W (sDPut (tVar i) te tf) (dKPut i me mf) := ⟨fun {S B0 H0 B H σ es} s E Z q kn _ _ _ kx => by
  obtain ⟨n, g0, hi, hn, q⟩ := q
  refine hv.run s _ _ _ q (fun d v B1 H1 p g dv => ?_) fun x cls dd B' H' hx g r => kx _ _ _ _ _ _ _ hx (s.step g) g.bb r
  obtain ⟨a, kw, h1, h2, h3, h4⟩ := (s.step g).getK hi
  refine ⟨_, h1, hk.run (s.step g) _ _ _ p (fun k u B2 H2 p2 g2 du => ?_) fun x cls dd B2 H2 hx g2 r => kx _ _ _ _ _ _ _ hx ((s.step g).step g2) (g.bb.trans g2.bb) r⟩
  cases du <;> try exact p2.elim
  rename_i y
  have s2 := (s.step g).step g2
  obtain ⟨a', kw', h1', h2', h3', h4'⟩ := s2.getK hi
  rw [h1] at h1'
  obtain rfl : a = a' := by injection (Option.some.inj h1') with z; injection z
  refine ⟨a, _, rfl, DPut.k (k := .inr y) h2' (by rw [sz_eq]; omega), kn _ _ _ _ p2 (s2.wrK (n1 := n + 1) (Nat.le_trans (length_putK _ _ _) (by omega)) (fun w => ?_) hi h1) (g.bb.trans g2.bb)⟩
  rw [valV_put]
  by_cases c : w = y
  · subst c
    rw [if_pos rfl, if_pos rfl]
    exact g2.bb.dp dv
  · rw [if_neg c, if_neg (fun z => c (by injection z))]
    exact h4' w⟩
theorem xs_kput (C : Ctx X K W k0) (i : Nat) (hk : XE X K W e te me) (hv : XE X K W f tf mf) (ho : PE X (.Name x p0) (tVar i)) (hs : swapsWith f (some (.Subscript (.Name x p0) e pos')) pos.line X.env = pure false := by rfl) :
    XS X K W (.Assign [.Subscript (.Name x p0) e pos'] f pos) (sDPut (tVar i) te tf) (dKPut i me mf) := ⟨ps_dput (by have := C.hr.units; omega) ho hk.1 hv.1 hs, ss_kput i hk.2 hv.2⟩
end
end Fw
/-! Errors with one field: made, raised, caught by a name, the field read. -/
namespace Fw
open PySem PySem.Spec PyProof.Rows L2

def clsA (K : Fg) (x : Str) : Addr := match clsV K x with
  | .ref C => C
  | _ => 0
theorem clsA_of {K : Fg} {x : Str} {C : Addr} (h : clsV K x = .ref C) : clsA K x = C := by
  unfold clsA
  rw [h]
/-- what an __init__ of one row self.f = f promises -/
def spInit (K : Fg) (C : Addr) (f : Str) : Sp := fun vs H Q _ => ∃ a v, vs = [.ref a, v] ∧ H a = some (exo a C none) ∧ ∀ dx, H dx = none → dx ≠ a → Q .non (upd (upd H dx (exd dx [(f, v)])) a (exo a C (some dx)))
structure ExcF (P : Program) (w : World) (K : Fg) (mg : Str → Option Value) (base : Heap) (x f : Str) : Prop where
  ns : PySem.W.nsIn K mainGlobals x = some (some (clsV K x))
  gC : mg x = some (clsV K x)
  rf : clsV K x = .ref (clsA K x)
  oe : OexC K (clsA K x)
  xf : XfC K (clsA K x)
  no : PySem.W.findIn K (.ref (clsA K x)) f = some none
  ini : ∃ (fI : Addr) (fd : FuncData), PySem.W.findIn K (.ref (clsA K x)) "__init__" = some (some (.ref fI)) ∧ PySem.W.typeIn K (.ref fI) = some (.type "function") ∧ Binds K fd ["self", f] [] ∧ FnOk P w K mg base CX0 1 fI fd ["self", f] (spInit K (clsA K x) f)
def dRaiseF (x f : Str) (me : DE) : DS := fun E es => me es (fun d => E.xx (x, some (f, d)) es) (fun y => E.xx y es)
section
variable {X : Cx} {K : Fg} {W : WX} {k0 : Nat}
theorem xs_raiseF (C : Ctx X K W k0) (hk : 2 ≤ k0) {x f : Str} {e : Expr} {te : TE} {me : DE} {p pos pos' : Pos} (G : ExcF X.prog X.w K X.mg X.base x f) (h : XE X K W e te me) (hg : Gl X x := by rfl) (hdb : (x == ("__debug__" : Str)) = false := by decide)
    (he : starEach [e] X.env = (false, eval e X.env) :: starEach [] X.env := by rfl) (hpl : (backTo pos (starEach [] X.env)).any (·.1) = false := by rfl) :
    XS X K W (.Raise (some (.Call (.Name x p) [e] [] pos)) none pos') (fun _ σ H => tMkO (clsA K x) (spInit K (clsA K x) f) [] (tCons te tNil) σ H fun cls d H' => W cls d σ H') (dRaiseF x f me) := by
  have hK := C.hK
  subst hK
  obtain ⟨fI, fd, i1, i2, i3, F1⟩ := G.ini
  refine ⟨ps_raise C.calm C.tk (pmk_oex G.oe i1 i2 F1 (C.hr.mono hk) i3 .nil pass0 hg (G.gC.trans (by rw [G.rf])) (pa_cons h.1 pa_nil he) hdb he hpl), ⟨fun {S B0 H0 B H σ es} s E Z q _ _ _ _ kx => ?_⟩⟩
  refine h.2.run s _ _ _ q (fun d v B1 H1 p1 g dv => ?_) fun y cls dd B' H' hx g r => kx _ _ _ _ _ _ _ hx (s.step g) g.bb r
  refine ⟨by simp, fun a ha => ⟨a, v, rfl, upd_same, fun dx hdx ne => ⟨rfl, dx, [(f, v)], upd_same, ?_, ?_, ?_⟩⟩⟩
  · rw [upd_ne ne, upd_same]
  · rw [upd_ne ne] at hdx
    exact hdx
  · rw [upd_ne ne] at hdx
    have eH : upd (del (upd (upd (upd H1 a (exo a (clsA X.K x) none)) dx (exd dx [(f, v)])) a (exo a (clsA X.K x) (some dx))) a) dx (.xd [(f, v)]) = upd H1 dx (.xd [(f, v)]) := by
      funext b
      by_cases c1 : b = dx
      · subst c1
        rw [upd_same, upd_same]
      · rw [upd_ne c1, upd_ne c1]
        by_cases c2 : b = a
        · subst c2
          rw [del_same, ha]
        · rw [del_ne c2, upd_ne c2, upd_ne c1, upd_ne c2]
    rw [eH]
    have g2 : Gr B1 H1 (upd B1 dx (.xd [(f, v)])) (upd H1 dx (.xd [(f, v)])) := Gr.new g.bh hdx
    have g3 := g.trans ((s.step g).gr g2)
    refine kx _ _ _ _ _ _ _ p1 (s.step g3) g3.bb ⟨G.ns.trans (by rw [G.rf]), dx, v, rfl, upd_same, g2.bb.dp dv⟩
/-- e.f in an except suite -/
def dFld (i : Nat) (a : Addr) (cls : Value) (d : Option Addr) (x f : Str) : DE := fun es P _ => ∃ z, es[i]? = some (.x a cls d (x, some (f, z))) ∧ P z
theorem se_fld {a : Addr} {cls : Value} {d : Option Addr} {x f : Str} {i : Nat} {C : Addr} (hc : PySem.W.nsIn K mainGlobals x = some (some (.ref C))) : SE K W (tXf a cls d C f (tVar i)) (dFld i a cls d x f) := ⟨fun {S B0 H0 B H σ es} s P Y Q q k _ => by
  obtain ⟨z, hi, q⟩ := q
  obtain ⟨fp, e, _⟩ := s.env
  obtain ⟨h1, h2, dd, v, h3, h4, h5⟩ := e.getX hi
  have ec : cls = .ref C := by
    rw [hc] at h2
    injection h2 with h2
    injection h2 with h2
    exact h2.symm
  exact ⟨_, h1, rfl, ec, dd, _, v, h3, s.bh _ _ h4, by simp [List.lookup], k _ _ _ _ q s.rfl h5⟩⟩
theorem xe_fld (i : Nat) {a : Addr} {oe : Obj} {cls : Value} {d : Option Addr} {pn : List (Addr × Obj)} {e : Expr} {pos : Pos} {x f : Str} (hK : X.K = K) (G : ExcF X.prog X.w K X.mg X.base x f) (hz : Zc cls d oe) (hf : ∃ vs, oe.data = .fields vs) (he : PE (X.suite a ((a, oe) :: pn)) e (tVar i))
    (hb : attributeBase e f X.env (eval e X.env) = eval e X.env := by rfl) : XE (X.suite a ((a, oe) :: pn)) K W (.Attribute e f pos) (tXf a cls d (clsA K x) f (tVar i)) (dFld i a cls d x f) := by
  subst hK
  exact ⟨pe_xf G.xf G.no hz hf he hb, se_fld (G.ns.trans (by rw [G.rf]))⟩
end

/-! ### except clauses, with a name or without one -/
abbrev HdT := Value × Option Nat × (Addr → Value → Option Addr → TS)
def wMix (K : Fg) (Wout : WX) (D : Ends) : List HdT → WX
  | [] => Wout
  | (c, none, ts) :: r => fun cls d σ H => ∃ b, PySem.W.exmOne K cls c = some b ∧ (b = true → ∀ a, H a = none → ts a cls d D σ H) ∧ (b = false → wMix K Wout D r cls d σ H)
  | (c, some i, ts) :: r => fun cls d σ H => ∃ b, PySem.W.exmOne K cls c = some b ∧
    (b = true → ∀ a, H a = none → ts a cls d { nx := fun σ' H' => D.nx (σ'.set i none) H', rt := D.rt, bk := fun σ' H' => D.bk (σ'.set i none) H', ct := fun σ' H' => D.ct (σ'.set i none) H' } (σ.set i (some (.ref a))) H) ∧ (b = false → wMix K Wout D r cls d σ H)
inductive HdMix (X : Cx) : List ExceptHandler → List HdT → Prop
  | nil : HdMix X [] []
  | one {x : Str} {c : Value} {ts : Addr → Value → Option Addr → TS} {b₀ : Stmt} {suite : List Stmt} {np pos' : Pos} {hds : List ExceptHandler} {l : List HdT} (hc : Names X x c)
      (hsu : ∀ (a : Addr) (oe : Obj) (cls : Value) (d : Option Addr) (pn : List (Addr × Obj)), Zc cls d oe → (∃ vs, oe.data = .fields vs) → PSs (X.suite a ((a, oe) :: pn)) (b₀ :: suite) (ts a cls d)) (r : HdMix X hds l) :
      HdMix X (.ExceptHandler (some (.Name x np)) none (b₀ :: suite) pos' :: hds) ((c, none, ts) :: l)
  | named {x n : Str} {i : Nat} {c : Value} {ts : Addr → Value → Option Addr → TS} {b₀ : Stmt} {suite : List Stmt} {np pos' : Pos} {hds : List ExceptHandler} {l : List HdT} (hc : Names X x c) (hi : X.N[i]? = some n) (hln : X.env.kindOf n = some .local)
      (hsu : ∀ (a : Addr) (oe : Obj) (cls : Value) (d : Option Addr) (pn : List (Addr × Obj)), Zc cls d oe → (∃ vs, oe.data = .fields vs) → PSs (X.suite a ((a, oe) :: pn)) (b₀ :: suite) (ts a cls d)) (r : HdMix X hds l) :
      HdMix X (.ExceptHandler (some (.Name x np)) (some n) (b₀ :: suite) pos' :: hds) ((c, some i, ts) :: l)
section
variable {X : Cx} {pins : List (Addr × Obj)} {D : Ends}
/-- a suite's end, the suite left -/
theorem suite_end {a : Addr} {oe : Obj} {f : Flow} {s6 : Shared} (ok : X.Ok) (h : SP (X.suite a ((a, oe) :: (X.pn ++ pins))) [] D f s6) : SP X pins D f s6 := by
  cases f with
  | next => obtain ⟨σ6, H6, S6, q6⟩ := h; exact ⟨_, _, S6.unsuite ok, q6⟩
  | brk => obtain ⟨σ6, H6, S6, q6⟩ := h; exact ⟨_, _, S6.unsuite ok, q6⟩
  | cont => obtain ⟨σ6, H6, S6, q6⟩ := h; exact ⟨_, _, S6.unsuite ok, q6⟩
  | ret u => obtain ⟨v6, σ6, H6, S6, r6, q6⟩ := h; exact ⟨_, _, _, S6.unsuite ok, r6, q6⟩
/-- a try body's end, the try left -/
theorem try_end {pn' : List (Addr × Obj)} {xe : Value → Shared → Prop} {f : Flow} {s1 : Shared} (ok : X.Ok) (h : SP (X.tr (X.pn ++ pins) xe) pn' D f s1) : SP X pins D f s1 := by
  cases f with
  | next => obtain ⟨σ', H', J', q⟩ := h; exact ⟨σ', H', J'.ofTry ok, q⟩
  | brk => obtain ⟨σ', H', J', q⟩ := h; exact ⟨σ', H', J'.ofTry ok, q⟩
  | cont => obtain ⟨σ', H', J', q⟩ := h; exact ⟨σ', H', J'.ofTry ok, q⟩
  | ret u => obtain ⟨v, σ', H', J', r, q⟩ := h; exact ⟨v, σ', H', J'.ofTry ok, r, q⟩
/-- an exception that flies over a body, its clauses looked through one by one -/
theorem catch_mix {Wout : WX} {hds : List ExceptHandler} {l : List HdT} (hs : X.stack = X.env :: X.outer) (hf : X.env.frame = some X.env.locals) (hN : X.N.Nodup) (tk : Takes X Wout) (ok : X.Ok) (hh : HdMix X hds l)
    {a : Addr} {B : Heap} {sI s3 : Shared} {σ : L2.St} {H : Hp} {cls : Value} {d : Option Addr} (J : Inv X pins σ H sI) (nb : ∀ b o, sI.heap.get? b = some o → b ∉ frs X.stack → B.get? b = some o) (up : sI.heap.UpToSlots s3.heap)
    (fl : HandSPX.FlyingZ B (X.env :: X.outer) a (Zc cls d) s3.heap) (na : H a = none) (os : s3.os = sI.os) (ag : AllBare s3.gens) (w : wMix X.K Wout D l cls d σ H) :
    wpAny (model X.prog X.w) X.A (handleBy (.ref a) X.env hds) (SP X pins D) X.xe s3 := by
  have J3 : Inv X pins σ H s3 := J.landed nb fl.1 up os ag
  obtain ⟨oe3, vs3, he3, hz3, hd3⟩ := fl.there
  have nfr : a ∉ frs (X.env :: X.outer) := fun hm => by
    obtain ⟨_, o', e', hnf⟩ := fl.2.2.1.mem hm
    rw [he3] at e'
    cases e'
    exact hnf _ hd3
  have nL : a ≠ X.env.locals := fun z => nfr (List.mem_filterMap.mpr ⟨X.env, List.mem_cons_self, by rw [hf, z]⟩)
  have nF : a ∉ X.fs := fun hm => by
    obtain ⟨e, he, q⟩ := List.mem_filterMap.mp hm
    exact nfr (List.mem_filterMap.mpr ⟨e, List.mem_cons_of_mem _ he, q⟩)
  have S3 := J3.suite he3 hd3 na nL nF
  have test : ∀ {x : Str} {np : Pos} {c : Value} {Q : Value → Shared → Prop} {E : Value → Shared → Prop}, Names X x c → Q c s3 → wpAny (model X.prog X.w) (X.A.mark (some (.ref a))) (eval (.Name x np) X.env) Q E s3 := fun {x np c Q E} hc q => by
    obtain ⟨hg, hdbg, hm | ⟨hm, hv, hnn⟩⟩ := hc
    · exact ld_glob (X := X.suite a ((a, oe3) :: (X.pn ++ pins))) S3 hg hm q hdbg
    · exact ld_blt (X := X.suite a ((a, oe3) :: (X.pn ++ pins))) S3 hg hm hv q hnn hdbg
  have LT : PySem.W.Looks (model X.prog X.w) s3.heap (typeOf (.ref a)) cls := fun A Q E s k q => wpAny_typeOf_ref (k _ _ he3) (by rw [hz3.1]; exact q)
  induction hh with
  | nil =>
    refine wpAny_handleBy_nil ?_
    obtain ⟨k1, k2, k3, oe, vs, T, oT, ts', he, hz, hd, h1, hr⟩ := id fl
    unfold PySem.passOn
    refine wpAny_bind (wpAny_field he hd h1 ?_)
    rw [if_neg (show ¬ ((Value.ref T == Value.none) = true) from by simp)]
    have fin : wpAny (model X.prog X.w) X.A (setFlight (.ref a) X.env.frame) (fun _ s4 => wpAny (model X.prog X.w) X.A (throw (.ref a) : Sem Flow) (SP X pins D) X.xe s4) X.xe s3 := by
      rw [hf]
      refine HandSPX.setFlight_upZ fl fun h4 hh4 up4 => wpAny_throw (tk _ _ ?_)
      exact ⟨a, B, sI, pins, σ, H, cls, d, rfl, J, nb, up.trans up4, .inr (.inr (by rw [hs]; exact hh4)), na, os, ag, w⟩
    first
      | exact wpAny_bind (wpAny_pure (wpAny_bind fin))
      | exact wpAny_bind fin
  | @one x c ts b₀ suite np pos' hds2 l2 hc hsu r ih =>
    obtain ⟨b, hb1, hyes, hno⟩ := w
    refine wpAny_handleBy_cons (codeAny_handlers_test ?_) (by intro q; cases q)
    refine test hc ((PySem.W.exm_one (M := model X.prog X.w) J3.kIn LT hb1).here ?_)
    cases b with
    | true =>
      refine codeAny_handlers_suite ?_
      refine HandSPX.lands_againZ fl fun h4 fl4 up4 => ?_
      have J4 : Inv X pins σ H { s3 with heap := h4 } := J.landed nb fl4.1 (up.trans up4) os ag
      obtain ⟨oe4, vs4, he4, hz4, hd4⟩ := fl4.there
      exact wpAny_mono ((hsu a oe4 cls d (X.pn ++ pins) hz4 ⟨_, hd4⟩).run [] _ _ H _ (J4.suite he4 hd4 na nL nF) (hyes rfl a na)) (fun f s6 hsp => suite_end ok hsp) fun _ _ z => False.elim z
    | false => exact ih (hno rfl)
  | @named x n i c ts b₀ suite np pos' hds2 l2 hc hi hln hsu r ih =>
    obtain ⟨b, hb1, hyes, hno⟩ := w
    refine wpAny_handleBy_cons (codeAny_handlers_test ?_) (by intro q; cases q)
    refine test hc ((PySem.W.exm_one (M := model X.prog X.w) J3.kIn LT hb1).here ?_)
    cases b with
    | true =>
      refine codeAny_handlers_suite_as ?_
      refine HandSPX.lands_againZ fl fun h4 fl4 up4 => ?_
      have J4 : Inv X pins σ H { s3 with heap := h4 } := J.landed nb fl4.1 (up.trans up4) os ag
      obtain ⟨oe4, vs4, he4, hz4, hd4⟩ := fl4.there
      refine store_ok (X := X.suite a ((a, oe4) :: (X.pn ++ pins))) (v := .ref a) (J4.suite he4 hd4 na nL nF) hN hi (.inl hln) rfl (fun s5 S5 => ?_) (.inr hln)
      refine wpAny_mono ((hsu a oe4 cls d (X.pn ++ pins) hz4 ⟨_, hd4⟩).run [] s5 _ H _ S5 (hyes rfl a na)) (fun f s6 hsp => ?_) (fun _ _ z => False.elim z)
      have leave : ∀ {σ6 : L2.St} {H6 : Hp} {Q : Shared → Prop}, Inv (X.suite a ((a, oe4) :: (X.pn ++ pins))) [] σ6 H6 s6 → (∀ s7, Inv X pins (σ6.set i none) H6 s7 → Q s7) →
          wpAny (model X.prog X.w) X.A (do bindName X.env n .none; unbindBehindTheSuite X.env n pos') (fun _ s7 => Q s7) X.xe s6 := fun S6 hq => gone_ok (S6.unsuite ok) hN hi hln hq
      cases f with
      | next => obtain ⟨σ6, H6, S6, q6⟩ := hsp; exact leave S6 fun s7 J7 => ⟨_, _, J7, q6⟩
      | brk => obtain ⟨σ6, H6, S6, q6⟩ := hsp; exact leave S6 fun s7 J7 => ⟨_, _, J7, q6⟩
      | cont => obtain ⟨σ6, H6, S6, q6⟩ := hsp; exact leave S6 fun s7 J7 => ⟨_, _, J7, q6⟩
      | ret u => obtain ⟨v6, σ6, H6, S6, r6, q6⟩ := hsp; exact leave S6 fun s7 J7 => ⟨_, _, _, J7, r6, q6⟩
    | false => exact ih (hno rfl)
theorem ps_try_mix {Wout : WX} {body : List Stmt} {h₀ : ExceptHandler} {hds : List ExceptHandler} {l : List HdT} {pos : Pos} {tb : WX → TS} (hs : X.stack = X.env :: X.outer) (hf : X.env.frame = some X.env.locals) (hN : X.N.Nodup) (tk : Takes X Wout)
    (hb : ∀ (W : WX) (pn : List (Addr × Obj)) (xe : Value → Shared → Prop), Takes (X.tr pn xe) W → PassesOwn (model X.prog X.w) X.A X.env xe → PSs (X.tr pn xe) body (tb W))
    (hh : HdMix X (h₀ :: hds) l) : PS X (.Try body (h₀ :: hds) [] [] pos) (fun D σ H => tb (wMix X.K Wout D l) D σ H) := by
  refine ⟨fun pins s σ H D I h => wpAny_Try_except ?_⟩
  have ok := I.ok
  have hfr : X.A.frames = some (X.env :: X.outer) := by rw [ok.frames, hs]
  refine wpAny_mono ((hb (wMix X.K Wout D l) (X.pn ++ pins) (fun e s₁ => wpAny (model X.prog X.w) X.A (noteFrame e X.env) (fun _ s₂ => wpAny (model X.prog X.w) X.A (setFlight e none) (fun _ s₃ =>
    wpAny (model X.prog X.w) X.A (handleBy e X.env (h₀ :: hds)) (SP X pins D) X.xe s₃) X.xe s₂) X.xe s₁) (fun u s' xx => ?_) PassesOwn.looking).run [] s σ H D (I.toTry _) h) (fun f s1 hsp => ?_) (fun e s1 he => he)
  · obtain ⟨a, B, sI, pins', σ', H', cls, d, rfl, J', nb, up, sky, na, os, ag, w⟩ := xx
    have sky' : Sky B (X.env :: X.outer) a (Zc cls d) X.env.locals s'.heap := by rw [← hs]; exact sky
    show wpAny (model X.prog X.w) X.A (noteFrame (.ref a) X.env) _ _ _
    exact Sky.land Zc.steady hfr hf sky' fun h3 fl3 up3 => catch_mix (s3 := { s' with heap := h3 }) hs hf hN tk ok hh (J'.ofTry ok) nb (up.trans up3) fl3 na os ag w
  · have e := try_end ok hsp
    cases f with
    | next => exact wpAny_execs_nil e
    | brk => exact e
    | cont => exact e
    | ret u => exact e
end
/-! ### the same over data -/
abbrev HdD := Str × Option Nat × (Addr → Value → Option Addr → DS)
def hPickM (sub : Sub) (E : Eo) (x : XD) (es : En) : List HdD → Prop
  | [] => E.xx x es
  | (c, none, m) :: r => ∃ b, sub x.1 c = some b ∧ if b = true then ∀ a cls d, m a cls d { E with xx := fun _ _ => False } es else hPickM sub E x es r
  | (c, some i, m) :: r => ∃ b, sub x.1 c = some b ∧ if b = true then ∀ a cls d, m a cls d { nx := fun es' => E.nx (es'.set i .un), rt := E.rt, bk := fun es' => E.bk (es'.set i .un), ct := fun es' => E.ct (es'.set i .un), xx := fun _ _ => False } (es.set i (.x a cls d x)) else hPickM sub E x es r
def dTryM (sub : Sub) (mb : DS) (hs : List HdD) : DS := fun E es => mb { E with xx := fun x es' => hPickM sub E x es' hs } es
inductive XHm (X : Cx) (K : Fg) : List ExceptHandler → List HdT → List HdD → Prop
  | nil : XHm X K [] [] []
  | one {x : Str} {ts : Addr → Value → Option Addr → TS} {ms : Addr → Value → Option Addr → DS} {b₀ : Stmt} {suite : List Stmt} {np pos' : Pos} {hds : List ExceptHandler} {l : List HdT} {m : List HdD} (hc : ClsN K X.mg x) (hg : Gl X x) (hdb : (x == ("__debug__" : Str)) = false)
      (hsu : ∀ (a : Addr) (oe : Obj) (cls : Value) (d : Option Addr) (pn : List (Addr × Obj)), Zc cls d oe → (∃ vs, oe.data = .fields vs) → XB (X.suite a ((a, oe) :: pn)) K WF (b₀ :: suite) (ts a cls d) (ms a cls d)) (r : XHm X K hds l m) :
      XHm X K (.ExceptHandler (some (.Name x np)) none (b₀ :: suite) pos' :: hds) ((clsV K x, none, ts) :: l) ((x, none, ms) :: m)
  | named {x n : Str} {i : Nat} {ts : Addr → Value → Option Addr → TS} {ms : Addr → Value → Option Addr → DS} {b₀ : Stmt} {suite : List Stmt} {np pos' : Pos} {hds : List ExceptHandler} {l : List HdT} {m : List HdD} (hc : ClsN K X.mg x) (hg : Gl X x) (hdb : (x == ("__debug__" : Str)) = false)
      (hi : X.N[i]? = some n) (hln : X.env.kindOf n = some .local)
      (hsu : ∀ (a : Addr) (oe : Obj) (cls : Value) (d : Option Addr) (pn : List (Addr × Obj)), Zc cls d oe → (∃ vs, oe.data = .fields vs) → XB (X.suite a ((a, oe) :: pn)) K WF (b₀ :: suite) (ts a cls d) (ms a cls d)) (r : XHm X K hds l m) :
      XHm X K (.ExceptHandler (some (.Name x np)) (some n) (b₀ :: suite) pos' :: hds) ((clsV K x, some i, ts) :: l) ((x, some i, ms) :: m)
theorem XHm.ok {X : Cx} {K : Fg} {hds : List ExceptHandler} {l : List HdT} {m : List HdD} (h : XHm X K hds l m) : HdMix X hds l := by
  induction h with
  | nil => exact .nil
  | one hc hg hdb hsu r ih => exact .one ⟨hg, hdb, .inl hc.gC⟩ (fun a oe cls d pn z v => (hsu a oe cls d pn z v).1) ih
  | named hc hg hdb hi hln hsu r ih => exact .named ⟨hg, hdb, .inl hc.gC⟩ hi hln (fun a oe cls d pn z v => (hsu a oe cls d pn z v).1) ih
section
variable {X : Cx} {K : Fg} {W : WX} {k0 : Nat} {sub : Sub}
theorem hs_mix (SF : SubF K sub) {S : SA} {B0 H0 B H : Hp} {σ : L2.St} {es : En} {hds : List ExceptHandler} {l : List HdT} {m : List HdD} (h : XHm X K hds l m) {x : XD} {cls : Value} {dd : Option Addr}
    (s : Sim K S B0 H0 σ es B H) (r : XR K B H x cls dd) (E : Eo) (Z : Ends) (q : hPickM sub E x es m)
    (kn : ∀ σ' es' B' H', E.nx es' → Sim K S B0 H0 σ' es' B' H' → Ex B B' → Z.nx σ' H') (kr : ∀ σ' es' d v B' H', E.rt d → Sim K S B0 H0 σ' es' B' H' → Dp K B' v d → Z.rt v H')
    (kb : ∀ σ' es' B' H', E.bk es' → Sim K S B0 H0 σ' es' B' H' → Ex B B' → Z.bk σ' H') (kc : ∀ σ' es' B' H', E.ct es' → Sim K S B0 H0 σ' es' B' H' → Ex B B' → Z.ct σ' H')
    (kx : E.xx x es → W cls dd σ H) : wMix K W Z l cls dd σ H := by
  induction h with
  | nil => exact kx q
  | @one x1 ts ms b₀ suite np pos' hds l m hc hg hdb hsu _ ih =>
    obtain ⟨b, e, q⟩ := q
    have ec : cls = clsV K x.1 := (clsV_of r.1).symm
    refine ⟨b, by rw [ec]; exact SF.of e, fun hb a na => ?_, fun hb => ?_⟩
    · subst hb
      rw [if_pos rfl] at q
      exact (hsu a { cls := cls, dict := dd, data := .fields #[] } cls dd [] ⟨rfl, rfl⟩ ⟨_, rfl⟩).2.run s { E with xx := fun _ _ => False } Z (q a cls dd) kn kr kb kc fun _ _ _ _ _ _ _ z => z.elim
    · subst hb
      rw [if_neg (by decide)] at q
      exact ih q
  | @named x1 n i ts ms b₀ suite np pos' hds l m hc hg hdb hi hln hsu _ ih =>
    obtain ⟨b, e, q⟩ := q
    have ec : cls = clsV K x.1 := (clsV_of r.1).symm
    refine ⟨b, by rw [ec]; exact SF.of e, fun hb a na => ?_, fun hb => ?_⟩
    · subst hb
      rw [if_pos rfl] at q
      exact (hsu a { cls := cls, dict := dd, data := .fields #[] } cls dd [] ⟨rfl, rfl⟩ ⟨_, rfl⟩).2.run (s.setX (a := a) (r.mono Ex.rfl) i) _ _ (q a cls dd) (fun σ' es' B' H' h1 s1 e1 => kn _ _ _ _ h1 (s1.setU none i) e1) kr
        (fun σ' es' B' H' h1 s1 e1 => kb _ _ _ _ h1 (s1.setU none i) e1) (fun σ' es' B' H' h1 s1 e1 => kc _ _ _ _ h1 (s1.setU none i) e1) fun _ _ _ _ _ _ _ z => z.elim
    · subst hb
      rw [if_neg (by decide)] at q
      exact ih q
theorem xs_tryM (C : Ctx X K W k0) (SF : SubF K sub) {body : List Stmt} {h₀ : ExceptHandler} {hds : List ExceptHandler} {l : List HdT} {m : List HdD} {pos : Pos} {tb : WX → TS} {mb : DS}
    (hb : ∀ (W : WX) (pn : List (Addr × Obj)) (xe : Value → Shared → Prop), Ctx (X.tr pn xe) K W k0 → XB (X.tr pn xe) K W body (tb W) mb) (hh : XHm X K (h₀ :: hds) l m) (hs : X.stack = X.env :: X.outer := by rfl) (hf : X.env.frame = some X.env.locals := by rfl) :
    XS X K W (.Try body (h₀ :: hds) [] [] pos) (fun D σ H => tb (wMix K W D l) D σ H) (dTryM sub mb m) := by
  have hK := C.hK
  subst hK
  refine ⟨ps_try_mix hs hf C.nd C.tk (fun W' pn xe tk po => (hb W' pn xe ⟨rfl, tk, po, C.hr, C.calm, C.nd⟩).1) hh.ok, ⟨fun s E Z q kn kr kb kc kx => ?_⟩⟩
  obtain ⟨pn, xe, C'⟩ := tr_ctx (W' := wMix X.K W Z l) C hs hf
  refine (hb _ pn xe C').2.run s { E with xx := fun x es' => hPickM sub E x es' m } Z q kn kr kb kc fun x cls dd σ' es' B' H' hx s' e' r => ?_
  exact hs_mix SF hh s' r E Z hx (fun a b c d e f g => kn a b c d e f (e'.trans g)) kr (fun a b c d e f g => kb a b c d e f (e'.trans g)) (fun a b c d e f g => kc a b c d e f (e'.trans g)) fun z => kx _ _ _ _ _ _ _ z s' e' r
end
end Fw
namespace Fw
open PySem PySem.Spec L2

/-! ### a text in a list of texts; find; a sign many times -/
def strsOf : List D → Option (List Str)
  | [] => some []
  | .str x :: r => (strsOf r).map (x :: ·)
  | _ :: _ => none
def dInL : D2
  | .str x, .list ds, P => ∃ ss, strsOf ds = some ss ∧ P (.bool (ss.any fun y => y == x))
  | _, _, _ => False
theorem dps_strs {K : Fg} {B : Hp} : ∀ {vs : List V} {ds : List D} {ss : List Str}, DpAll K B vs ds → strsOf ds = some ss → vs = ss.map V.str
  | _, _, ss, .nil, h => by simp [strsOf] at h; subst h; rfl
  | _, _, ss, .cons a t, h => by
    cases a <;> simp only [strsOf, reduceCtorEq, Option.map_eq_some_iff] at h
    obtain ⟨r, h1, rfl⟩ := h
    rw [dps_strs t h1]
    rfl
theorem inV_strs (x : Str) : ∀ ss : List Str, inV (V.str x) (ss.map V.str) = ss.any fun y => y == x
  | [] => rfl
  | y :: r => by
    have := inV_strs x r
    unfold inV at this ⊢
    rw [List.map_cons, List.any_cons, List.any_cons, this]
    rfl
theorem flat_all (ss : List Str) : (ss.map V.str).all flatV = true := by
  rw [List.all_map]
  simp [flatV]
theorem rs_inL {K : Fg} : RS K (rIn K false) dInL := ⟨fun {B H x y dx dy} e h1 h2 P Q q k => by
  cases h1 <;> cases h2 <;> try exact q.elim
  rename_i z a vs ds s1 t1
  obtain ⟨ss, h3, q⟩ := q
  have ev := dps_strs t1 h3
  subst ev
  refine ⟨_, _, rfl, .inl (e.sqL s1), rfl, flat_all ss, ?_⟩
  rw [inV_strs]
  exact k _ _ _ _ q (Gr.rfl e) (.bl _)⟩
theorem xe_inL {X : Cx} {K : Fg} {W : WX} {k0 : Nat} (C : Ctx X K W k0) {a b : Expr} {ta tb : TE} {ma mb : DE} {pos : Pos} (ha : XE X K W a ta ma) (hb : XE X K W b tb mb) (hm : behindInMarks .In b = false := by with_unfolding_all rfl) : XE X K W (.Compare a [.In] [b] pos) (tOp (rIn K false) ta tb) (dOp dInL ma mb) := by
  have hK := C.hK
  subst hK
  exact xe_cmp op_in_seq rs_inL ha hb hm
theorem xt_inL {X : Cx} {K : Fg} {W : WX} {k0 : Nat} (C : Ctx X K W k0) {a b : Expr} {ta tb : TE} {ma mb : DE} {pos : Pos} (ha : XE X K W a ta ma) (hb : XE X K W b tb mb) (hm : behindInMarks .In b = false := by with_unfolding_all rfl) : XT X K W (.Compare a [.In] [b] pos) (tTest (tOp (rIn K false) ta tb)) (dTest (dOp dInL ma mb)) := by
  have hK := C.hK
  subst hK
  exact xt_cmp op_in_seq rs_inL ha hb hm
def mFind : DM := fun y ds P => match ds with
  | [.str b] => P (.int (Txt.find y b))
  | _ => False
theorem rm_find {K : Fg} : RM K (fun x xs H Q => ∃ a b, x = .str a ∧ xs = [V.str b] ∧ Q (.int (Txt.find a b)) H) mFind := ⟨fun e dvs P Q q k => by
  cases dvs with
  | nil => exact q.elim
  | cons a t => cases t with
    | cons _ _ => cases a <;> exact q.elim
    | nil => cases a <;> try exact q.elim
             exact ⟨_, _, rfl, rfl, k _ _ _ _ q (Gr.rfl e) (.int _)⟩⟩
/-- a text of one sign, n times -/
def timesS (c : Nat) (n : Nat) : Str := ⟨(List.replicate n c).toArray⟩
def dMulS : D2
  | .str x, .int n, P => ∃ c, x = ⟨#[c]⟩ ∧ 2 ≤ n ∧ n ≤ 1000 ∧ P (.str (timesS c n.toNat))
  | _, _, _ => False
def rMulS : R2 := fun x y H Q => ∃ c n, x = .str ⟨#[c]⟩ ∧ y = .int n ∧ 2 ≤ n ∧ n ≤ 1000 ∧ Q (.str (timesS c n.toNat)) H
theorem fold_one (c : Nat) : ∀ (n : Nat) (a : Array Nat), (List.replicate n #[c]).foldl (· ++ ·) a = a ++ (List.replicate n c).toArray
  | 0, a => by simp
  | n + 1, a => by
    rw [List.replicate_succ, List.foldl_cons, fold_one c n, List.replicate_succ]
    apply Array.toList_inj.mp
    simp
theorem op_mulS {X : Cx} : OpR X (binaryOp .Mult) rMulS := by
  intro pins s σ H x y v u Q I rx ry h
  obtain ⟨c, n, rfl, rfl, h2, h3, q⟩ := h
  obtain ⟨t, rfl⟩ := rx
  obtain ⟨t', rfl⟩ := ry
  have l1 : (⟨#[c]⟩ : Str).length = 1 := rfl
  refine PySem.P.mul_str (by rw [decide_eq_false (by omega), decide_eq_false (by omega)]; rfl) (fun _ _ z => ?_) (fun _ _ => ?_) ?_
  · rw [l1] at z
    have : (1 : Int) ≤ (2 ^ 63 - 1) / n := by
      have h5 : (1000 : Int) ≤ 2 ^ 63 - 1 := by decide
      exact Int.le_ediv_of_mul_le (by omega) (by omega)
    have z' : (2 ^ 63 - 1) / n < 1 := by simpa using z
    omega
  · rw [l1, Nat.one_mul]
    have hb : n.toNat ≤ 1000 := by omega
    have hall : ∀ k : Nat, k ≤ 1000 → PySem.Builtin.Str.tooLong k = false := by decide +kernel
    exact hall _ hb
  · rw [if_neg (by omega), if_neg (by rw [l1]; simp; omega)]
    have e : (⟨(List.replicate n.toNat (#[c] : Array Nat)).foldl (· ++ ·) #[]⟩ : Str) = timesS c n.toNat := by
      unfold timesS
      rw [fold_one]
      simp
    show Made.post (Made.str ⟨(List.replicate n.toNat (#[c] : Array Nat)).foldl (· ++ ·) #[]⟩) _ s
    rw [e]
    refine ⟨?_, .str _, _, I.tok _, ⟨_, rfl⟩, q⟩
    have el : (timesS c n.toNat).length = n.toNat := by simp [timesS, Str.length]
    show (timesS c n.toNat).length ≤ sizeLine
    rw [el, sz_eq]
    omega
theorem rs_mulS {K : Fg} : RS K rMulS dMulS := ⟨fun {B H x y dx dy} e h1 h2 P Q q k => by
  cases h1 <;> cases h2 <;> try exact q.elim
  obtain ⟨c, rfl, a, b, q⟩ := q
  exact ⟨_, _, rfl, rfl, a, b, k _ _ _ _ q (Gr.rfl e) (.str _)⟩⟩
theorem xe_mulS {X : Cx} {K : Fg} {W : WX} {a b : Expr} {ta tb : TE} {ma mb : DE} {pos : Pos} (ha : XE X K W a ta ma) (hb : XE X K W b tb mb) : XE X K W (.BinOp a .Mult b pos) (tOp rMulS ta tb) (dOp dMulS ma mb) := xe_op op_mulS rs_mulS ha hb
end Fw
namespace Fw
open PySem PySem.Spec L2
/-! ### sep.join(texts) -/
def mJoin : DM := fun y ds P => match ds with
  | [.list xs] => ∃ ys, strsOf xs = some ys ∧ (ys.map (·.length)).sum + ys.length * y.length ≤ 16777216 ∧ P (.str (Txt.join y ys))
  | [.tuple xs] => ∃ ys, strsOf xs = some ys ∧ (ys.map (·.length)).sum + ys.length * y.length ≤ 16777216 ∧ P (.str (Txt.join y ys))
  | _ => False
abbrev rJoin (K : Fg) : V → List V → Hp → VK → Prop := fun x xs H Q => ∃ a p, ∃ ys : List Str, x = .str a ∧ xs = [.ref p] ∧ (SqL K H p (ys.map V.str) ∨ SqT K H p (ys.map V.str)) ∧ (ys.map (·.length)).sum + ys.length * a.length ≤ 16777216 ∧ Q (.str (Txt.join a ys)) H
theorem rm_join {K : Fg} : RM K (rJoin K) mJoin := ⟨fun e dvs P Q q k => by
  cases dvs with
  | nil => exact q.elim
  | cons a t => cases t with
    | cons _ _ => cases a <;> exact q.elim
    | nil =>
      cases a <;> try exact q.elim
      all_goals
        rename_i h hd
        obtain ⟨ys, e1, hz, q⟩ := q
        have := dps_strs hd e1
        subst this
      · exact ⟨_, _, ys, rfl, rfl, .inl (e.sqL h), hz, k _ _ _ _ q (Gr.rfl e) (.str _)⟩
      · exact ⟨_, _, ys, rfl, rfl, .inr (e.sqT h), hz, k _ _ _ _ q (Gr.rfl e) (.str _)⟩⟩
theorem xe_join {X : Cx} {K : Fg} {W : WX} {o e : Expr} {to : TE} {ta : TA} {mo : DE} {ma : DA} {apos cpos : Pos} {k0 : Nat} (C : Ctx X K W k0)
    (ho : XE X K W o to mo) (ha : XA X K W [e] ta ma) (hp : PE X o to → PA X [e] ta → PE X (.Call (.Attribute o "join" apos) [e] [] cpos) (tBM X.K "str" (rJoin X.K) to ta)) :
    XE X K W (.Call (.Attribute o "join" apos) [e] [] cpos) (tBM K "str" (rJoin K) to ta) (dBM mJoin mo ma) := by
  have hK := C.hK
  subst hK
  exact xe_bmS rm_join ho ha hp
end Fw
namespace K01
open PySem PySem.Spec L2 Fw SX

/-! ### divisors of powers of ten -/
theorem cop_of {n d : Nat} (hd : d = 2 ∨ d = 5) (h : n % d ≠ 0) : Nat.Coprime d n := by
  unfold Nat.Coprime
  rw [Nat.gcd_rec]
  rcases hd with rfl | rfl
  · rw [show n % 2 = 1 by omega]; decide
  · have : n % 5 = 1 ∨ n % 5 = 2 ∨ n % 5 = 3 ∨ n % 5 = 4 := by omega
    rcases this with e | e | e | e <;> rw [e] <;> decide
theorem cop10 {r : Nat} (h2 : r % 2 ≠ 0) (h5 : r % 5 ≠ 0) (k : Nat) : Nat.Coprime r (10 ^ k) := by
  have a : Nat.Coprime (2 * 5) r := (cop_of (.inl rfl) h2).mul_left (cop_of (.inr rfl) h5)
  exact (a.pow_left k).symm
theorem ten_pow (k : Nat) : 10 ^ k = 2 ^ k * 5 ^ k := by rw [← Nat.mul_pow]
theorem dvd_ten {x y r k : Nat} (h2 : r % 2 ≠ 0) (h5 : r % 5 ≠ 0) : 2 ^ x * 5 ^ y * r ∣ 10 ^ k ↔ r = 1 ∧ x ≤ k ∧ y ≤ k := by
  constructor
  · intro h
    have r1 : r = 1 := (cop10 h2 h5 k).eq_one_of_dvd (Nat.dvd_trans (Nat.dvd_mul_left _ _) h)
    subst r1
    rw [Nat.mul_one, ten_pow] at h
    have c25 : ∀ a b : Nat, Nat.Coprime (2 ^ a) (5 ^ b) := fun a b => Nat.Coprime.pow a b (by decide)
    have a1 : 2 ^ x ∣ 2 ^ k := (c25 x k).dvd_of_dvd_mul_right (Nat.dvd_trans (Nat.dvd_mul_right _ _) h)
    have a2 : 5 ^ y ∣ 5 ^ k := (c25 k y).symm.dvd_of_dvd_mul_left (Nat.dvd_trans (Nat.dvd_mul_left _ _) h)
    exact ⟨rfl, (Nat.pow_dvd_pow_iff_le_right (by decide)).mp a1, (Nat.pow_dvd_pow_iff_le_right (by decide)).mp a2⟩
  · rintro ⟨rfl, hx, hy⟩
    rw [Nat.mul_one, ten_pow]
    exact Nat.mul_dvd_mul (Nat.pow_dvd_pow _ hx) (Nat.pow_dvd_pow _ hy)
theorem decomp : ∀ b : Nat, 0 < b → ∃ x y r, b = 2 ^ x * 5 ^ y * r ∧ r % 2 ≠ 0 ∧ r % 5 ≠ 0 := by
  intro b
  induction b using Nat.strongRecOn with
  | _ b ih =>
    intro hb
    by_cases h2 : b % 2 = 0
    · obtain ⟨x, y, r, e, a, c⟩ := ih (b / 2) (by omega) (by omega)
      refine ⟨x + 1, y, r, ?_, a, c⟩
      have : b = 2 * (b / 2) := by omega
      rw [this, e, Nat.pow_succ]
      simp only [Nat.mul_comm, Nat.mul_left_comm, Nat.mul_assoc]
    · by_cases h5 : b % 5 = 0
      · obtain ⟨x, y, r, e, a, c⟩ := ih (b / 5) (by omega) (by omega)
        refine ⟨x, y + 1, r, ?_, a, c⟩
        have : b = 5 * (b / 5) := by omega
        rw [this, e, Nat.pow_succ]
        simp only [Nat.mul_comm, Nat.mul_left_comm, Nat.mul_assoc]
      · exact ⟨0, 0, b, by simp, h2, h5⟩
/-- the fewest digits behind the point -/
def Least (b p : Nat) : Prop := b ∣ 10 ^ p ∧ (p = 0 ∨ ¬ b ∣ 10 ^ (p - 1))
theorem least_of {x y : Nat} : Least (2 ^ x * 5 ^ y) (max x y) := by
  have e : 2 ^ x * 5 ^ y = 2 ^ x * 5 ^ y * 1 := by omega
  unfold Least
  rw [e, dvd_ten (by decide) (by decide)]
  refine ⟨⟨rfl, by omega, by omega⟩, ?_⟩
  rcases Nat.eq_zero_or_pos (max x y) with z | z
  · exact .inl z
  · refine .inr fun h => ?_
    rw [dvd_ten (by decide) (by decide)] at h
    omega
theorem dvd_up {b p k : Nat} (h : b ∣ 10 ^ p) (l : p ≤ k) : b ∣ 10 ^ k := Nat.dvd_trans h (Nat.pow_dvd_pow _ l)
theorem Least.le {b p k : Nat} (h : Least b p) (d : b ∣ 10 ^ k) : p ≤ k := by
  rcases h.2 with z | z
  · omega
  · rcases Nat.lt_or_ge k p with c | c
    · exact absurd (dvd_up d (by omega)) z
    · exact c
theorem Least.uniq {b p p' : Nat} (h : Least b p) (h' : Least b p') : p = p' := Nat.le_antisymm (h.le h'.1) (h'.le h.1)
theorem Least.bound {b p n : Nat} (h : Least b p) (hb : b < 2 ^ n) (b0 : 0 < b) : p ≤ n := by
  obtain ⟨x, y, r, e, a, c⟩ := decomp b b0
  have d := h.1
  rw [e, dvd_ten a c] at d
  obtain ⟨rfl, d1, d2⟩ := d
  rw [Nat.mul_one] at e
  subst e
  have := h.uniq least_of
  subst this
  have p2 : 0 < 2 ^ x := Nat.pow_pos (by decide)
  have p5 : 0 < 5 ^ y := Nat.pow_pos (by decide)
  have h1 : 2 ^ x < 2 ^ n := Nat.lt_of_le_of_lt (Nat.le_mul_of_pos_right _ p5) hb
  have h2 : 2 ^ y < 2 ^ n := Nat.lt_of_le_of_lt (Nat.le_trans (Nat.pow_le_pow_left (by decide) y) (Nat.le_mul_of_pos_left _ p2)) hb
  have := (Nat.pow_lt_pow_iff_right (by decide)).mp h1
  have := (Nat.pow_lt_pow_iff_right (by decide)).mp h2
  omega
theorem cop_mod {r : Nat} : ¬ 2 ∣ r → ¬ 5 ∣ r → r % 2 ≠ 0 ∧ r % 5 ≠ 0 := fun h2 h5 => ⟨fun z => h2 (Nat.dvd_of_mod_eq_zero z), fun z => h5 (Nat.dvd_of_mod_eq_zero z)⟩
/-- what the two counts of divisions tell -/
theorem counts {n x y : Nat} (h0 : 0 < n) (h2 : 2 ^ x ∣ n) (h2' : ¬ 2 ^ (x + 1) ∣ n) (h5 : 5 ^ y ∣ n) (h5' : ¬ 5 ^ (y + 1) ∣ n) : (2 ^ x * 5 ^ y = n ∧ Least n (max x y)) ∨ (2 ^ x * 5 ^ y ≠ n ∧ ∀ k, ¬ n ∣ 10 ^ k) := by
  have c : Nat.Coprime (2 ^ x) (5 ^ y) := Nat.Coprime.pow x y (by decide)
  obtain ⟨r, e⟩ := c.mul_dvd_of_dvd_of_dvd h2 h5
  have r2 : ¬ 2 ∣ r := fun ⟨t, z⟩ => h2' ⟨5 ^ y * t, by rw [e, z, Nat.pow_succ]; simp only [Nat.mul_comm, Nat.mul_left_comm, Nat.mul_assoc]⟩
  have r5 : ¬ 5 ∣ r := fun ⟨t, z⟩ => h5' ⟨2 ^ x * t, by rw [e, z, Nat.pow_succ]; simp only [Nat.mul_comm, Nat.mul_left_comm, Nat.mul_assoc]⟩
  obtain ⟨a, b⟩ := cop_mod r2 r5
  by_cases r1 : r = 1
  · subst r1
    rw [Nat.mul_one] at e
    subst e
    exact .inl ⟨rfl, least_of⟩
  · refine .inr ⟨fun z => ?_, fun k d => ?_⟩
    · rw [← z] at e
      have p : 0 < 2 ^ x * 5 ^ y := Nat.mul_pos (Nat.pow_pos (by decide)) (Nat.pow_pos (by decide))
      have : 2 ^ x * 5 ^ y * 1 = 2 ^ x * 5 ^ y * r := by omega
      exact r1 (Nat.eq_of_mul_eq_mul_left p this).symm
    · rw [e, dvd_ten a b] at d
      exact r1 d.1

/-! ### digits -/
def sg (t : Int) : List Nat := if t < 0 then [45] else []
def pad : Nat → Nat → List Nat
  | 0, _ => []
  | p + 1, n => pad p (n / 10) ++ [48 + n % 10]
abbrev numL := TL.numL
theorem pad_len : ∀ p n : Nat, (pad p n).length = p
  | 0, _ => rfl
  | p + 1, n => by simp [pad, pad_len p]
theorem pad_dig : ∀ (p n : Nat), ∀ c ∈ pad p n, 48 ≤ c ∧ c ≤ 57
  | 0, _, _, h => by simp [pad] at h
  | p + 1, n, c, h => by
    rw [pad, List.mem_append, List.mem_singleton] at h
    rcases h with h | h
    · exact pad_dig p _ c h
    · omega
theorem pad_zero : ∀ p : Nat, pad p 0 = List.replicate p 48
  | 0 => rfl
  | p + 1 => by rw [pad, Nat.zero_div, pad_zero p, List.replicate_succ']
theorem num_dig (n : Nat) : ∀ c ∈ numL n, 48 ≤ c ∧ c ≤ 57 := fun c h => by
  rcases Nat.lt_or_ge c 48 with a | a
  · exact absurd h (TL.numL_free (.inl a))
  · rcases Nat.lt_or_ge 57 c with b | b
    · exact absurd h (TL.numL_free (.inr b))
    · exact ⟨a, b⟩
/-- filled up to p + 1 digits -/
def zf (k : Nat) (l : List Nat) : List Nat := List.replicate (k - l.length) 48 ++ l
theorem zf_snoc (k : Nat) (l : List Nat) (c : Nat) : zf (k + 1) (l ++ [c]) = zf k l ++ [c] := by
  simp [zf]
theorem zf_num : ∀ (p n : Nat), zf (p + 1) (numL n) = numL (n / 10 ^ p) ++ pad p n
  | 0, n => by
    have h : 0 < (numL n).length := List.length_pos_iff.mpr (TL.numL_ne n)
    simp only [zf, pad, Nat.pow_zero, Nat.div_one, List.append_nil]
    rw [show 0 + 1 - (numL n).length = 0 by omega]
    rfl
  | p + 1, n => by
    rcases Nat.lt_or_ge n 10 with h | h
    · rw [show numL n = [] ++ [48 + n] from TL.numL_lt h, zf_snoc, Nat.div_eq_of_lt (Nat.lt_of_lt_of_le h (by rw [Nat.pow_succ]; have : 0 < 10 ^ p := Nat.pow_pos (by decide); omega)), pad, Nat.div_eq_of_lt h, pad_zero, Nat.mod_eq_of_lt h, show numL 0 = [48] from TL.numL_lt (by decide)]
      simp [zf, List.replicate_succ]
    · rw [show numL n = numL (n / 10) ++ [48 + n % 10] from TL.numL_step h, zf_snoc, zf_num p, pad, ← List.append_assoc, Nat.div_div_eq_div_mul, Nat.pow_succ, Nat.mul_comm 10]
/-- what digits tell -/
def val (l : List Nat) : Nat := l.foldl (fun a c => a * 10 + (c - 48)) 0
theorem val_go : ∀ (l : List Nat) (a : Nat), l.foldl (fun a c => a * 10 + (c - 48)) a = a * 10 ^ l.length + val l
  | [], a => by simp [val]
  | c :: l, a => by
    have e : val (c :: l) = (0 * 10 + (c - 48)) * 10 ^ l.length + val l := val_go l _
    rw [List.foldl_cons, val_go l, e, List.length_cons, Nat.pow_succ, Nat.add_mul, Nat.zero_mul, Nat.zero_add]
    have : a * 10 * 10 ^ l.length = a * (10 ^ l.length * 10) := by simp only [Nat.mul_comm, Nat.mul_left_comm, Nat.mul_assoc]
    omega
theorem val_app (l m : List Nat) : val (l ++ m) = val l * 10 ^ m.length + val m := by
  rw [val, List.foldl_append, val_go m]; rfl
theorem val_num (n : Nat) : val (numL n) = n := by
  induction n using Nat.strongRecOn with
  | _ n ih =>
    rcases Nat.lt_or_ge n 10 with h | h
    · rw [show numL n = [48 + n] from TL.numL_lt h]
      simp [val]
    · rw [show numL n = numL (n / 10) ++ [48 + n % 10] from TL.numL_step h, val_app, ih _ (by omega)]
      simp [val]
      omega
theorem val_pad : ∀ p n : Nat, val (pad p n) = n % 10 ^ p
  | 0, n => by simp [pad, val, Nat.mod_one]
  | p + 1, n => by
    rw [pad, val_app, val_pad p]
    simp only [List.length_singleton, Nat.pow_one]
    have : val [48 + n % 10] = n % 10 := by simp [val]
    rw [this, Nat.pow_succ, Nat.mul_comm (10 ^ p) 10, Nat.mod_mul]
    omega
theorem val_both (p n : Nat) : val (numL (n / 10 ^ p) ++ pad p n) = n := by
  rw [val_app, val_num, val_pad, pad_len]
  exact Nat.div_add_mod' n (10 ^ p)
end K01
namespace K01
open PySem PySem.Spec L2 Fw

/-- a fraction, as data -/
def fr (q : Rat) : D := .tuple [.int q.num, .int q.den]
def Sz (q : Rat) (n : Nat) : Prop := q.num.natAbs < 2 ^ n ∧ q.den < 2 ^ n
def isFr : D → Bool
  | .tuple [.int t, .int b] => decide (1 ≤ b) && decide (Nat.gcd t.natAbs b.natAbs = 1)
  | _ => false
def c_NOUGHT : D := .tuple [.int 0, .int 1]
def c_MOST_DIGITS : D := .int 30
def cF : XD := ("InvalidFraction", none)
def cC : XD := ("InvalidCount", none)
def p_reduced : Spc := fun ds P _ => ∃ t b : Int, ds = [.int t, .int b] ∧ b ≠ 0 ∧ b.natAbs < 2 ^ 9000 ∧ P (fr (Rat.divInt t b))
def p_added : Spc := fun ds P _ => ∃ a b : Rat, ds = [fr a, fr b] ∧ Sz a 4400 ∧ Sz b 4400 ∧ P (fr (a + b))
def p_subtracted : Spc := fun ds P _ => ∃ a b : Rat, ds = [fr a, fr b] ∧ Sz a 4400 ∧ Sz b 4400 ∧ P (fr (a - b))
def p_multiplied : Spc := fun ds P _ => ∃ a b : Rat, ds = [fr a, fr b] ∧ Sz a 4400 ∧ Sz b 4400 ∧ P (fr (a * b))
def p_divided : Spc := fun ds P _ => ∃ a b : Rat, ds = [fr a, fr b] ∧ Sz a 4400 ∧ Sz b 4400 ∧ b ≠ 0 ∧ P (fr (a / b))
def p_inverse : Spc := fun ds P _ => ∃ b : Rat, ds = [fr b] ∧ b ≠ 0 ∧ P (fr b⁻¹)
def p_opposite : Spc := fun ds P _ => ∃ b : Rat, ds = [fr b] ∧ P (fr (-b))
def p_is_less : Spc := fun ds P _ => ∃ a b : Rat, ds = [fr a, fr b] ∧ Sz a 4400 ∧ Sz b 4400 ∧ P (.bool (decide (a < b)))
def p_power : Spc := fun ds P _ => ∃ (b : Int) (n : Nat), ds = [.int b, .int n] ∧ b.natAbs < 16 ∧ n ≤ 200 ∧ P (.int (b ^ n))
def p_divisions : Spc := fun ds P _ => ∃ n d : Int, ds = [.int n, .int d] ∧ 0 < n ∧ n.natAbs < 2 ^ 134 ∧ 2 ≤ d ∧ d ≤ 5 ∧ ∀ k : Nat, k ≤ 134 → P (.int k)
def p_decimal_places : Spc := fun ds P _ => ∃ n : Int, ds = [.int n] ∧ 0 < n ∧ n.natAbs < 2 ^ 134 ∧ P .none ∧ ∀ k : Nat, k ≤ 134 → P (.int k)
def p_whole_text : Spc := fun ds P _ => ∃ n : Nat, ds = [.int n] ∧ n < 2 ^ 1500 ∧ ∀ s : Str, s.length ≤ 2000 → P (.str s)
def p_number_text : Spc := fun ds P _ => ∃ q : Rat, ds = [fr q] ∧ Sz q 134 ∧ ∀ s, P (.str s)
def p_is_integer : Spc := fun ds P _ => ∃ d, ds = [d] ∧ P (.bool (decide (tyD d = "int")))
def p_is_fraction : Spc := fun ds P _ => ∃ d, ds = [d] ∧ P (.bool (isFr d))
def p_check_fraction : Spc := fun ds P X => ∃ d, ds = [d] ∧ (isFr d = true → P .none) ∧ (isFr d = false → X cF)
def p_check_both : Spc := fun ds P X => ∃ d e, ds = [d, e] ∧ ((isFr d && isFr e) = true → P .none) ∧ ((isFr d && isFr e) = false → X cF)
def cntOk : D → Int → Int → Bool
  | .int i, lo, hi => decide (lo ≤ i) && decide (i ≤ hi)
  | _, _, _ => false
def p_check_count : Spc := fun ds P X => ∃ (d : D) (lo hi : Int), ds = [d, .int lo, .int hi] ∧ (cntOk d lo hi = true → P .none) ∧ (cntOk d lo hi = false → X cC)
def fracOk : D → D → Bool
  | .int _, .int b => decide (b ≠ 0)
  | _, _ => false
def p_fraction : Spc := fun ds P X => ∃ d e, ds = [d, e] ∧ (∀ t b : Int, d = .int t → e = .int b → b ≠ 0 → b.natAbs < 2 ^ 9000 ∧ P (fr (Rat.divInt t b))) ∧ (fracOk d e = false → X cF)
/-- of two fractions, or refused -/
def pB (f : Rat → Rat → D) : Spc := fun ds P X => ∃ d e, ds = [d, e] ∧ (∀ a b, d = fr a → e = fr b → Sz a 4400 ∧ Sz b 4400 ∧ P (f a b)) ∧ ((isFr d && isFr e) = false → X cF)
def p_plus : Spc := pB fun a b => fr (a + b)
def p_minus : Spc := pB fun a b => fr (a - b)
def p_times : Spc := pB fun a b => fr (a * b)
def p_below : Spc := pB fun a b => .bool (decide (a < b))
def p_over : Spc := fun ds P X => ∃ d e, ds = [d, e] ∧ (∀ a b, d = fr a → e = fr b → Sz a 4400 ∧ Sz b 4400 ∧ (b ≠ 0 → P (fr (a / b))) ∧ (b = 0 → X cF)) ∧ ((isFr d && isFr e) = false → X cF)
def frTup : D → Bool
  | .tuple xs => xs.all isFr
  | _ => false
/-- a tuple that is not too long, its fractions not too great -/
def SzT (d : D) : Prop := ∀ xs, d = .tuple xs → xs.length ≤ 31 ∧ ∀ x ∈ xs, ∀ q, x = fr q → Sz q 134
def p_sum_of : Spc := fun ds P X => ∃ d, ds = [d] ∧ SzT d ∧ (frTup d = true → ∀ v, P v) ∧ (frTup d = false → X cF)
def rootN (q : Rat) (n : Nat) : Nat := Float64.isqrt (q.num * 10 ^ n * 10 ^ n / q.den).toNat
def rootQ (q : Rat) (n : Nat) : Rat := Rat.divInt (rootN q n) (10 ^ n)
def p_root : Spc := fun ds P X => ∃ d e, ds = [d, e] ∧ (isFr d = false → X cF) ∧ ∀ q, d = fr q → Sz q 1000 ∧ (q.num < 0 → X cF) ∧ (0 ≤ q.num → (cntOk e 0 30 = false → X cC) ∧ ∀ n : Nat, e = .int n → n ≤ 30 → P (fr (rootQ q n)))
def p_fraction_text : Spc := fun ds P X => ∃ d, ds = [d] ∧ (∀ q, d = fr q → Sz q 134) ∧ (isFr d = true → ∀ v, P v) ∧ (isFr d = false → X cF)
def kinds (d : D) : List D := [.bool (isB (tyD d) "bool"), .bool (isB (tyD d) "int"), .bool (isB (tyD d) "str"), .bool (isB (tyD d) "tuple"), .bool (isB (tyD d) "list"), .bool (isN d)]
def p__law_kinds : Spc := fun ds P _ => ∃ d, ds = [d] ∧ P (.list (kinds d))
mutual
/-- data of at most n levels of short lists, tuples -/
def flat : Nat → D → Prop
  | _, .none => True
  | _, .bool _ => True
  | _, .int _ => True
  | _, .str _ => False
  | n + 1, .list xs => xs.length ≤ 1000 ∧ flatAll n xs
  | n + 1, .tuple xs => xs.length ≤ 1000 ∧ flatAll n xs
  | _, _ => False
def flatAll : Nat → List D → Prop
  | _, [] => True
  | n, x :: xs => flat n x ∧ flatAll n xs
end
def pa (n : Nat) : Spc := fun ds P _ => ∃ d, ds = [d, d] ∧ flat n d ∧ P (.bool true)
def p__law_alike : Spc := pa 4
def p__law_low : Spc := p_reduced
def p__law_plus : Spc := p_added
def p__law_minus : Spc := p_subtracted
def p__law_times : Spc := p_multiplied
def p__law_below : Spc := p_is_less
def p__law_drop : Spc := fun ds P _ => ∃ n : Int, ds = [.int n] ∧ 0 < n ∧ n.natAbs < 2 ^ 9000 ∧ ∀ r : Int, 0 ≤ r → r < n → P (.int r)
def p__law_number : Spc := fun ds P _ => ds = [] ∧ ∀ q : Rat, Sz q 134 → P (fr q)
def p__law_above : Spc := fun ds P _ => ds = [] ∧ ∀ q : Rat, Sz q 134 → 0 < q.num → P (fr q)
/-- how a call of this kind ends: none, or the name of what is raised -/
def outc (k : Int) (d e : D) : Option Str :=
  if k < 5 then if isFr d && isFr e then if k = 3 then match e with
    | .tuple [.int t, _] => if t = 0 then some "InvalidFraction" else none
    | _ => none else none else some "InvalidFraction"
  else if k = 5 then if isFr d && isFr e then none else some "InvalidFraction"
  else if k = 6 then if isFr d then none else some "InvalidFraction"
  else if k = 7 then if fracOk d e then none else some "InvalidFraction"
  else if k = 8 then if frTup d then none else some "InvalidFraction"
  else if isFr d then match d with
    | .tuple [.int t, _] => if t < 0 then some "InvalidFraction" else if cntOk e 0 30 then none else some "InvalidCount"
    | _ => none
  else some "InvalidFraction"
structure SzC (k : Int) (d e : D) : Prop where
  d1 : ∀ q, d = fr q → Sz q 134
  e1 : ∀ q, e = fr q → Sz q 134
  e2 : ∀ i : Int, e = .int i → i.natAbs < 2 ^ 134
  d2 : k = 8 → SzT d
def p__law_call : Spc := fun ds P X => ∃ (k : Int) (d e : D), ds = [.int k, d, e] ∧ 0 ≤ k ∧ k ≤ 10 ∧ SzC k d e ∧ (outc k d e = none → ∀ v, P v) ∧ ∀ n, outc k d e = some n → X (n, none)
def word : Option Str → Str
  | none => ""
  | some n => if n == "InvalidFraction" then "fraction" else "count"
def p__law_tried : Spc := fun ds P X => ∃ (k : Int) (d e : D), ds = [.int k, d, e] ∧ 0 ≤ k ∧ k ≤ 10 ∧ SzC k d e ∧ P (.str (word (outc k d e)))
/-- what is no fraction, and small -/
def BadD (d : D) : Prop := isFr d = false ∧ (∀ i : Int, d = .int i → i.natAbs < 2 ^ 134)
def p__law_none : Spc := fun ds P _ => ∃ q : Rat, ds = [fr q] ∧ Sz q 134 ∧ ∀ d, BadD d → P d
def p__law_roots_right : Spc := fun ds P _ => ∃ q : Rat, ds = [fr q] ∧ Sz q 134 ∧ 0 < q.num ∧ P (.bool true)
end K01
namespace K01
open PySem PySem.Spec L2 Fw
abbrev N_reduced : List Str := ["top", "bottom", "common"]
abbrev N_added : List Str := ["one", "other", "top", "bottom", "other_top", "other_bottom", "common", "rest", "total", "left"]
abbrev N_subtracted : List Str := ["one", "other"]
abbrev N_multiplied : List Str := ["one", "other", "top", "bottom", "other_top", "other_bottom", "common", "other_common"]
abbrev N_inverse : List Str := ["number", "top", "bottom"]
abbrev N_divided : List Str := ["one", "other"]
abbrev N_opposite : List Str := ["number"]
abbrev N_is_less : List Str := ["one", "other"]
abbrev N_power : List Str := ["base", "exponent", "product", "_"]
abbrev N_divisions : List Str := ["number", "divisor", "count"]
abbrev N_decimal_places : List Str := ["bottom", "twos", "fives"]
abbrev N_whole_text : List Str := ["number", "parts"]
abbrev N_number_text : List Str := ["number", "top", "bottom", "sign", "places", "digits"]
abbrev N_is_integer : List Str := ["value"]
abbrev N_is_fraction : List Str := ["value", "top", "bottom"]
abbrev N_check_fraction : List Str := ["value"]
abbrev N_check_both : List Str := ["one", "other"]
abbrev N_check_count : List Str := ["value", "low", "high"]
abbrev N_fraction : List Str := ["top", "bottom"]
abbrev N_plus : List Str := ["one", "other"]
abbrev N_minus : List Str := ["one", "other"]
abbrev N_times : List Str := ["one", "other"]
abbrev N_over : List Str := ["one", "other"]
abbrev N_below : List Str := ["one", "other"]
abbrev N_sum_of : List Str := ["numbers", "total", "number"]
abbrev N_root : List Str := ["number", "digits", "top", "bottom", "scale"]
abbrev N_fraction_text : List Str := ["number"]
abbrev N__law_spring : List Str := ["script", "great", "cell", "mixed"]
abbrev N__law_drop : List Str := ["spring", "many", "great", "found"]
abbrev N__law_kinds : List Str := ["thing", "found"]
abbrev N__law_alike : List Str := ["found", "due", "k"]
abbrev N__law_low : List Str := ["top", "bottom", "one", "other"]
abbrev N__law_plus : List Str := ["one", "other"]
abbrev N__law_minus : List Str := ["one", "other"]
abbrev N__law_times : List Str := ["one", "other"]
abbrev N__law_below : List Str := ["one", "other"]
abbrev N__law_number : List Str := ["spring", "way"]
abbrev N__law_above : List Str := ["spring", "top", "bottom"]
abbrev N__law_call : List Str := ["kind", "one", "other"]
abbrev N__law_tried : List Str := ["kind", "one", "other", "found"]
abbrev N__law_none : List Str := ["spring", "good", "odd"]
abbrev N__law_roots_right : List Str := ["spring", "number", "tiny", "bound", "digits", "unit", "turn", "found", "again"]
abbrev N_law : List Str := ["script", "spring", "turn", "one", "other", "bad", "worse", "kind", "odd", "pair", "value", "wrong", "told"]
end K01
namespace K01
open PySem PySem.Spec L2 Fw
def top (i : Nat) : Stmt := PySem.Challenge.pw_fastestalong_k04_roots_and_refusals_of_f.main.body.getD i (.Pass ⟨0, 0, 0, 0⟩)
abbrev s_reduced : Stmt := top 7
theorem sc_reduced : FnScope N_reduced ["top", "bottom"] (defScope s_reduced) := ⟨rfl, rfl, rfl, by decide +kernel, rfl, by decide +kernel, by decide +kernel⟩
abbrev s_added : Stmt := top 8
theorem sc_added : FnScope N_added ["one", "other"] (defScope s_added) := ⟨rfl, rfl, rfl, by decide +kernel, rfl, by decide +kernel, by decide +kernel⟩
abbrev s_subtracted : Stmt := top 9
theorem sc_subtracted : FnScope N_subtracted ["one", "other"] (defScope s_subtracted) := ⟨rfl, rfl, rfl, by decide +kernel, rfl, by decide +kernel, by decide +kernel⟩
abbrev s_multiplied : Stmt := top 10
theorem sc_multiplied : FnScope N_multiplied ["one", "other"] (defScope s_multiplied) := ⟨rfl, rfl, rfl, by decide +kernel, rfl, by decide +kernel, by decide +kernel⟩
abbrev s_inverse : Stmt := top 11
theorem sc_inverse : FnScope N_inverse ["number"] (defScope s_inverse) := ⟨rfl, rfl, rfl, by decide +kernel, rfl, by decide +kernel, by decide +kernel⟩
abbrev s_divided : Stmt := top 12
theorem sc_divided : FnScope N_divided ["one", "other"] (defScope s_divided) := ⟨rfl, rfl, rfl, by decide +kernel, rfl, by decide +kernel, by decide +kernel⟩
abbrev s_opposite : Stmt := top 13
theorem sc_opposite : FnScope N_opposite ["number"] (defScope s_opposite) := ⟨rfl, rfl, rfl, by decide +kernel, rfl, by decide +kernel, by decide +kernel⟩
abbrev s_is_less : Stmt := top 14
theorem sc_is_less : FnScope N_is_less ["one", "other"] (defScope s_is_less) := ⟨rfl, rfl, rfl, by decide +kernel, rfl, by decide +kernel, by decide +kernel⟩
abbrev s_power : Stmt := top 15
theorem sc_power : FnScope N_power ["base", "exponent"] (defScope s_power) := ⟨rfl, rfl, rfl, by decide +kernel, rfl, by decide +kernel, by decide +kernel⟩
abbrev s_divisions : Stmt := top 17
theorem sc_divisions : FnScope N_divisions ["number", "divisor"] (defScope s_divisions) := ⟨rfl, rfl, rfl, by decide +kernel, rfl, by decide +kernel, by decide +kernel⟩
abbrev s_decimal_places : Stmt := top 18
theorem sc_decimal_places : FnScope N_decimal_places ["bottom"] (defScope s_decimal_places) := ⟨rfl, rfl, rfl, by decide +kernel, rfl, by decide +kernel, by decide +kernel⟩
abbrev s_whole_text : Stmt := top 19
theorem sc_whole_text : FnScope N_whole_text ["number"] (defScope s_whole_text) := ⟨rfl, rfl, rfl, by decide +kernel, rfl, by decide +kernel, by decide +kernel⟩
abbrev s_number_text : Stmt := top 20
theorem sc_number_text : FnScope N_number_text ["number"] (defScope s_number_text) := ⟨rfl, rfl, rfl, by decide +kernel, rfl, by decide +kernel, by decide +kernel⟩
abbrev s_is_integer : Stmt := top 23
theorem sc_is_integer : FnScope N_is_integer ["value"] (defScope s_is_integer) := ⟨rfl, rfl, rfl, by decide +kernel, rfl, by decide +kernel, by decide +kernel⟩
abbrev s_is_fraction : Stmt := top 24
theorem sc_is_fraction : FnScope N_is_fraction ["value"] (defScope s_is_fraction) := ⟨rfl, rfl, rfl, by decide +kernel, rfl, by decide +kernel, by decide +kernel⟩
abbrev s_check_fraction : Stmt := top 25
theorem sc_check_fraction : FnScope N_check_fraction ["value"] (defScope s_check_fraction) := ⟨rfl, rfl, rfl, by decide +kernel, rfl, by decide +kernel, by decide +kernel⟩
abbrev s_check_both : Stmt := top 26
theorem sc_check_both : FnScope N_check_both ["one", "other"] (defScope s_check_both) := ⟨rfl, rfl, rfl, by decide +kernel, rfl, by decide +kernel, by decide +kernel⟩
abbrev s_check_count : Stmt := top 27
theorem sc_check_count : FnScope N_check_count ["value", "low", "high"] (defScope s_check_count) := ⟨rfl, rfl, rfl, by decide +kernel, rfl, by decide +kernel, by decide +kernel⟩
abbrev s_fraction : Stmt := top 28
theorem sc_fraction : FnScope N_fraction ["top", "bottom"] (defScope s_fraction) := ⟨rfl, rfl, rfl, by decide +kernel, rfl, by decide +kernel, by decide +kernel⟩
abbrev s_plus : Stmt := top 29
theorem sc_plus : FnScope N_plus ["one", "other"] (defScope s_plus) := ⟨rfl, rfl, rfl, by decide +kernel, rfl, by decide +kernel, by decide +kernel⟩
abbrev s_minus : Stmt := top 30
theorem sc_minus : FnScope N_minus ["one", "other"] (defScope s_minus) := ⟨rfl, rfl, rfl, by decide +kernel, rfl, by decide +kernel, by decide +kernel⟩
abbrev s_times : Stmt := top 31
theorem sc_times : FnScope N_times ["one", "other"] (defScope s_times) := ⟨rfl, rfl, rfl, by decide +kernel, rfl, by decide +kernel, by decide +kernel⟩
abbrev s_over : Stmt := top 32
theorem sc_over : FnScope N_over ["one", "other"] (defScope s_over) := ⟨rfl, rfl, rfl, by decide +kernel, rfl, by decide +kernel, by decide +kernel⟩
abbrev s_below : Stmt := top 33
theorem sc_below : FnScope N_below ["one", "other"] (defScope s_below) := ⟨rfl, rfl, rfl, by decide +kernel, rfl, by decide +kernel, by decide +kernel⟩
abbrev s_sum_of : Stmt := top 34
theorem sc_sum_of : FnScope N_sum_of ["numbers"] (defScope s_sum_of) := ⟨rfl, rfl, rfl, by decide +kernel, rfl, by decide +kernel, by decide +kernel⟩
abbrev s_root : Stmt := top 35
theorem sc_root : FnScope N_root ["number", "digits"] (defScope s_root) := ⟨rfl, rfl, rfl, by decide +kernel, rfl, by decide +kernel, by decide +kernel⟩
abbrev s_fraction_text : Stmt := top 36
theorem sc_fraction_text : FnScope N_fraction_text ["number"] (defScope s_fraction_text) := ⟨rfl, rfl, rfl, by decide +kernel, rfl, by decide +kernel, by decide +kernel⟩
abbrev s__law_spring : Stmt := top 38
theorem sc__law_spring : FnScope N__law_spring ["script"] (defScope s__law_spring) := ⟨rfl, rfl, rfl, by decide +kernel, rfl, by decide +kernel, by decide +kernel⟩
abbrev s__law_drop : Stmt := top 39
theorem sc__law_drop : FnScope N__law_drop ["spring", "many"] (defScope s__law_drop) := ⟨rfl, rfl, rfl, by decide +kernel, rfl, by decide +kernel, by decide +kernel⟩
abbrev s__law_kinds : Stmt := top 40
theorem sc__law_kinds : FnScope N__law_kinds ["thing"] (defScope s__law_kinds) := ⟨rfl, rfl, rfl, by decide +kernel, rfl, by decide +kernel, by decide +kernel⟩
abbrev s__law_alike : Stmt := top 41
theorem sc__law_alike : FnScope N__law_alike ["found", "due"] (defScope s__law_alike) := ⟨rfl, rfl, rfl, by decide +kernel, rfl, by decide +kernel, by decide +kernel⟩
abbrev s__law_low : Stmt := top 42
theorem sc__law_low : FnScope N__law_low ["top", "bottom"] (defScope s__law_low) := ⟨rfl, rfl, rfl, by decide +kernel, rfl, by decide +kernel, by decide +kernel⟩
abbrev s__law_plus : Stmt := top 43
theorem sc__law_plus : FnScope N__law_plus ["one", "other"] (defScope s__law_plus) := ⟨rfl, rfl, rfl, by decide +kernel, rfl, by decide +kernel, by decide +kernel⟩
abbrev s__law_minus : Stmt := top 44
theorem sc__law_minus : FnScope N__law_minus ["one", "other"] (defScope s__law_minus) := ⟨rfl, rfl, rfl, by decide +kernel, rfl, by decide +kernel, by decide +kernel⟩
abbrev s__law_times : Stmt := top 45
theorem sc__law_times : FnScope N__law_times ["one", "other"] (defScope s__law_times) := ⟨rfl, rfl, rfl, by decide +kernel, rfl, by decide +kernel, by decide +kernel⟩
abbrev s__law_below : Stmt := top 46
theorem sc__law_below : FnScope N__law_below ["one", "other"] (defScope s__law_below) := ⟨rfl, rfl, rfl, by decide +kernel, rfl, by decide +kernel, by decide +kernel⟩
abbrev s__law_number : Stmt := top 47
theorem sc__law_number : FnScope N__law_number ["spring"] (defScope s__law_number) := ⟨rfl, rfl, rfl, by decide +kernel, rfl, by decide +kernel, by decide +kernel⟩
abbrev s__law_above : Stmt := top 48
theorem sc__law_above : FnScope N__law_above ["spring"] (defScope s__law_above) := ⟨rfl, rfl, rfl, by decide +kernel, rfl, by decide +kernel, by decide +kernel⟩
abbrev s__law_call : Stmt := top 49
theorem sc__law_call : FnScope N__law_call ["kind", "one", "other"] (defScope s__law_call) := ⟨rfl, rfl, rfl, by decide +kernel, rfl, by decide +kernel, by decide +kernel⟩
abbrev s__law_tried : Stmt := top 50
theorem sc__law_tried : FnScope N__law_tried ["kind", "one", "other"] (defScope s__law_tried) := ⟨rfl, rfl, rfl, by decide +kernel, rfl, by decide +kernel, by decide +kernel⟩
abbrev s__law_none : Stmt := top 51
theorem sc__law_none : FnScope N__law_none ["spring", "good"] (defScope s__law_none) := ⟨rfl, rfl, rfl, by decide +kernel, rfl, by decide +kernel, by decide +kernel⟩
abbrev s__law_roots_right : Stmt := top 52
theorem sc__law_roots_right : FnScope N__law_roots_right ["spring", "number"] (defScope s__law_roots_right) := ⟨rfl, rfl, rfl, by decide +kernel, rfl, by decide +kernel, by decide +kernel⟩
abbrev s_law : Stmt := top 53
theorem sc_law : FnScope N_law ["script"] (defScope s_law) := ⟨rfl, rfl, rfl, by decide +kernel, rfl, by decide +kernel, by decide +kernel⟩
end K01
namespace K01
open PySem PySem.Spec L2 Fw
def subT : Sub := fun x c => if x == "InvalidCount" then (if c == "CourseError" then some true else if c == "InvalidCount" then some true else if c == "InvalidFraction" then some false else none) else if x == "InvalidFraction" then (if c == "CourseError" then some true else if c == "InvalidCount" then some false else if c == "InvalidFraction" then some true else none) else none
def ms_reduced : DS := (dSeq (dAsg (dCB bGcd (dCons (dVar 0) (dCons (dVar 1) dNil))) (gP 2))
  (dSeq (dIfS (dTest (dOp dLt (dVar 1) (dC (.int 0))))
  (dAsg (dNeg (dVar 2)) (gP 2))
  dSkip)
  (dRet (dTup (dCons (dOp dFdiv (dVar 0) (dVar 2)) (dCons (dOp dFdiv (dVar 1) (dVar 2)) dNil))))))
def ms_added : DS := (dSeq (dAsg (dVar 0) (gT (gN 2 (gsCons (gP 2) (gsCons (gP 3) gsNil)))))
  (dSeq (dAsg (dVar 1) (gT (gN 2 (gsCons (gP 4) (gsCons (gP 5) gsNil)))))
  (dSeq (dAsg (dCB bGcd (dCons (dVar 3) (dCons (dVar 5) dNil))) (gP 6))
  (dSeq (dAsg (dOp dFdiv (dVar 3) (dVar 6)) (gP 7))
  (dSeq (dAsg (dOp dAdd (dOp dMul (dVar 2) (dOp dFdiv (dVar 5) (dVar 6))) (dOp dMul (dVar 4) (dVar 7))) (gP 8))
  (dSeq (dAsg (dCB bGcd (dCons (dVar 8) (dCons (dVar 6) dNil))) (gP 9))
  (dRet (dTup (dCons (dOp dFdiv (dVar 8) (dVar 9)) (dCons (dOp dMul (dVar 7) (dOp dFdiv (dVar 5) (dVar 9))) dNil))))))))))
def ms_subtracted : DS := (dRet (dCall p_added (dCons (dVar 0) (dCons (dCall p_opposite (dCons (dVar 1) dNil)) dNil))))
def ms_multiplied : DS := (dSeq (dAsg (dVar 0) (gT (gN 2 (gsCons (gP 2) (gsCons (gP 3) gsNil)))))
  (dSeq (dAsg (dVar 1) (gT (gN 2 (gsCons (gP 4) (gsCons (gP 5) gsNil)))))
  (dSeq (dAsg (dCB bGcd (dCons (dVar 2) (dCons (dVar 5) dNil))) (gP 6))
  (dSeq (dAsg (dCB bGcd (dCons (dVar 4) (dCons (dVar 3) dNil))) (gP 7))
  (dRet (dTup (dCons (dOp dMul (dOp dFdiv (dVar 2) (dVar 6)) (dOp dFdiv (dVar 4) (dVar 7))) (dCons (dOp dMul (dOp dFdiv (dVar 3) (dVar 7)) (dOp dFdiv (dVar 5) (dVar 6))) dNil))))))))
def ms_inverse : DS := (dSeq (dAsg (dVar 0) (gT (gN 2 (gsCons (gP 1) (gsCons (gP 2) gsNil)))))
  (dRet (dIf (dTest (dOp dGt (dVar 1) (dC (.int 0)))) (dTup (dCons (dVar 2) (dCons (dVar 1) dNil))) (dTup (dCons (dNeg (dVar 2)) (dCons (dNeg (dVar 1)) dNil))))))
def ms_divided : DS := (dRet (dCall p_multiplied (dCons (dVar 0) (dCons (dCall p_inverse (dCons (dVar 1) dNil)) dNil))))
def ms_opposite : DS := (dRet (dTup (dCons (dNeg (dOp dIx (dVar 0) (dC (.int 0)))) (dCons (dOp dIx (dVar 0) (dC (.int 1))) dNil))))
def ms_is_less : DS := (dRet (dOp dLt (dOp dMul (dOp dIx (dVar 0) (dC (.int 0))) (dOp dIx (dVar 1) (dC (.int 1)))) (dOp dMul (dOp dIx (dVar 1) (dC (.int 0))) (dOp dIx (dVar 0) (dC (.int 1))))))
def ms_power : DS := (dSeq (dAsg (dC (.int 1)) (gP 2))
  (dSeq (dFor (iR1 (dCons (dVar 1) dNil)) (gP 3)
  (dAsg (dOp dMul (dVar 2) (dVar 0)) (gP 2)))
  (dRet (dVar 2))))
def ms_divisions : DS := (dSeq (dAsg (dC (.int 0)) (gP 2))
  (dSeq (dWhile (dTest (dOp dEq (dOp dMod (dVar 0) (dVar 1)) (dC (.int 0))))
  (dSeq (dAsg (dOp dFdiv (dVar 0) (dVar 1)) (gP 0))
  (dAug 2 dAddI (dC (.int 1)))))
  (dRet (dVar 2))))
def ms_decimal_places : DS := (dSeq (dAsg (dCall p_divisions (dCons (dVar 0) (dCons (dC (.int 2)) dNil))) (gP 1))
  (dSeq (dAsg (dCall p_divisions (dCons (dVar 0) (dCons (dC (.int 5)) dNil))) (gP 2))
  (dSeq (dIfS (dTest (dOp dNe (dOp dMul (dCall p_power (dCons (dC (.int 2)) (dCons (dVar 1) dNil))) (dCall p_power (dCons (dC (.int 5)) (dCons (dVar 2) dNil)))) (dVar 0)))
  (dRet (dC .none))
  dSkip)
  (dRet (dCB bMax (dCons (dVar 1) (dCons (dVar 2) dNil)))))))
def ms_whole_text : DS := (dSeq (dAsgO 1 (mLst dNil))
  (dSeq (dWhile (dTest (dOp dGe (dVar 0) (dOp dPow (dC (.int 10)) (dC (.int 64)))))
  (dSeq (dApp 1 (dBM mZfill (dCB bStrInt (dCons (dOp dMod (dVar 0) (dOp dPow (dC (.int 10)) (dC (.int 64)))) dNil)) (dCons (dC (.int 64)) dNil)))
  (dAsg (dOp dFdiv (dVar 0) (dOp dPow (dC (.int 10)) (dC (.int 64)))) (gP 0))))
  (dSeq (dApp 1 (dCB bStrInt (dCons (dVar 0) dNil)))
  (dFrz 1 (dRet (dBM mJoin (dC (.str "")) (dCons (dBack (dVar 1)) dNil)))))))
def ms_number_text : DS := (dSeq (dAsg (dVar 0) (gT (gN 2 (gsCons (gP 1) (gsCons (gP 2) gsNil)))))
  (dSeq (dAsg (dIf (dTest (dOp dLt (dVar 1) (dC (.int 0)))) (dC (.str "-")) (dC (.str ""))) (gP 3))
  (dSeq (dAsg (dCall p_decimal_places (dCons (dVar 2) dNil)) (gP 4))
  (dSeq (dIfS (dTest (dOp dIsO (dVar 4) (dC .none)))
  (dRet (dJoined [(dFmt (dVar 3)), (dFmt (dCall p_whole_text (dCons (dCB bAbs (dCons (dVar 1) dNil)) dNil))), (dC (.str "/")), (dFmt (dCall p_whole_text (dCons (dVar 2) dNil)))]))
  dSkip)
  (dSeq (dAsg (dCall p_whole_text (dCons (dOp dFdiv (dOp dMul (dCB bAbs (dCons (dVar 1) dNil)) (dCall p_power (dCons (dC (.int 10)) (dCons (dVar 4) dNil)))) (dVar 2)) dNil)) (gP 5))
  (dSeq (dIfS (dTest (dOp dEq (dVar 4) (dC (.int 0))))
  (dRet (dOp dAdd (dVar 3) (dVar 5)))
  dSkip)
  (dSeq (dAsg (dBM mZfill (dVar 5) (dCons (dOp dAdd (dVar 4) (dC (.int 1))) dNil)) (gP 5))
  (dRet (dJoined [(dFmt (dVar 3)), (dFmt (dSl (dVar 5) dNoPart (dPart (dNeg (dVar 4))))), (dC (.str ".")), (dFmt (dSl (dVar 5) (dPart (dNeg (dVar 4))) dNoPart))])))))))))
def ms_is_integer : DS := (dRet (dType "int" (dVar 0)))
def ms_is_fraction : DS := (dSeq (dIfS (dOrT (dTest (dNType "tuple" (dVar 0))) (dTest (dOp dNe (dCB bLen (dCons (dVar 0) dNil)) (dC (.int 2)))))
  (dRet (dC (.bool false)))
  dSkip)
  (dSeq (dAsg (dVar 0) (gT (gN 2 (gsCons (gP 1) (gsCons (gP 2) gsNil)))))
  (dSeq (dIfS (dOrT (dNotT (dTruth (dCall p_is_integer (dCons (dVar 1) dNil)))) (dNotT (dTruth (dCall p_is_integer (dCons (dVar 2) dNil)))))
  (dRet (dC (.bool false)))
  dSkip)
  (dRet (dAndV (dOp dGe (dVar 2) (dC (.int 1))) (dOp dEq (dCB bGcd (dCons (dVar 1) (dCons (dVar 2) dNil))) (dC (.int 1))))))))
def ms_check_fraction : DS := (dIfS (dNotT (dTruth (dCall p_is_fraction (dCons (dVar 0) dNil))))
  (dRaise "InvalidFraction")
  dSkip)
def ms_check_both : DS := (dSeq (dDrop (dCall p_check_fraction (dCons (dVar 0) dNil)))
  (dDrop (dCall p_check_fraction (dCons (dVar 1) dNil))))
def ms_check_count : DS := (dIfS (dOrT (dNotT (dTruth (dCall p_is_integer (dCons (dVar 0) dNil)))) (dNotT (dTest (dChain dLe dLe (dVar 1) (dVar 0) (dVar 2)))))
  (dRaise "InvalidCount")
  dSkip)
def ms_fraction : DS := (dSeq (dIfS (dOrT (dNotT (dTruth (dCall p_is_integer (dCons (dVar 0) dNil)))) (dNotT (dTruth (dCall p_is_integer (dCons (dVar 1) dNil)))))
  (dRaise "InvalidFraction")
  dSkip)
  (dSeq (dIfS (dTest (dOp dEq (dVar 1) (dC (.int 0))))
  (dRaise "InvalidFraction")
  dSkip)
  (dRet (dCall p_reduced (dCons (dVar 0) (dCons (dVar 1) dNil))))))
def ms_plus : DS := (dSeq (dDrop (dCall p_check_both (dCons (dVar 0) (dCons (dVar 1) dNil))))
  (dRet (dCall p_added (dCons (dVar 0) (dCons (dVar 1) dNil)))))
def ms_minus : DS := (dSeq (dDrop (dCall p_check_both (dCons (dVar 0) (dCons (dVar 1) dNil))))
  (dRet (dCall p_subtracted (dCons (dVar 0) (dCons (dVar 1) dNil)))))
def ms_times : DS := (dSeq (dDrop (dCall p_check_both (dCons (dVar 0) (dCons (dVar 1) dNil))))
  (dRet (dCall p_multiplied (dCons (dVar 0) (dCons (dVar 1) dNil)))))
def ms_over : DS := (dSeq (dDrop (dCall p_check_both (dCons (dVar 0) (dCons (dVar 1) dNil))))
  (dSeq (dIfS (dTest (dOp dEq (dVar 1) (dC c_NOUGHT)))
  (dRaise "InvalidFraction")
  dSkip)
  (dRet (dCall p_divided (dCons (dVar 0) (dCons (dVar 1) dNil))))))
def ms_below : DS := (dSeq (dDrop (dCall p_check_both (dCons (dVar 0) (dCons (dVar 1) dNil))))
  (dRet (dCall p_is_less (dCons (dVar 0) (dCons (dVar 1) dNil)))))
def ms_sum_of : DS := (dSeq (dIfS (dTest (dNType "tuple" (dVar 0)))
  (dRaise "InvalidFraction")
  dSkip)
  (dSeq (dAsg (dC c_NOUGHT) (gP 1))
  (dSeq (dFor (iT (dVar 0)) (gP 2)
  (dSeq (dDrop (dCall p_check_fraction (dCons (dVar 2) dNil)))
  (dAsg (dCall p_added (dCons (dVar 1) (dCons (dVar 2) dNil))) (gP 1))))
  (dRet (dVar 1)))))
def ms_root : DS := (dSeq (dDrop (dCall p_check_fraction (dCons (dVar 0) dNil)))
  (dSeq (dAsg (dVar 0) (gT (gN 2 (gsCons (gP 2) (gsCons (gP 3) gsNil)))))
  (dSeq (dIfS (dTest (dOp dLt (dVar 2) (dC (.int 0))))
  (dRaise "InvalidFraction")
  dSkip)
  (dSeq (dDrop (dCall p_check_count (dCons (dVar 1) (dCons (dC (.int 0)) (dCons (dC c_MOST_DIGITS) dNil)))))
  (dSeq (dAsg (dCall p_power (dCons (dC (.int 10)) (dCons (dVar 1) dNil))) (gP 4))
  (dRet (dCall p_reduced (dCons (dCB bIsqrt (dCons (dOp dFdiv (dOp dMul (dOp dMul (dVar 2) (dVar 4)) (dVar 4)) (dVar 3)) dNil)) (dCons (dVar 4) dNil)))))))))
def ms_fraction_text : DS := (dSeq (dDrop (dCall p_check_fraction (dCons (dVar 0) dNil)))
  (dRet (dCall p_number_text (dCons (dVar 0) dNil))))
def ms__law_kinds : DS := (dSeq (dAsg (dLst (dCons (dIs "bool" (dVar 0)) (dCons (dIs "int" (dVar 0)) (dCons (dIs "str" (dVar 0)) dNil)))) (gP 1))
  (dRet (dOp dAdd (dVar 1) (dLst (dCons (dIs "tuple" (dVar 0)) (dCons (dIs "list" (dVar 0)) (dCons (dOp dIsO (dVar 0) (dC .none)) dNil)))))))
def ms__law_alike (pr : Spc) : DS := (dSeq (dIfS (dTest (dOp dNe (dCall p__law_kinds (dCons (dVar 0) dNil)) (dCall p__law_kinds (dCons (dVar 1) dNil))))
  (dRet (dC (.bool false)))
  dSkip)
  (dSeq (dIfS (dTruth (dIs2 "tuple" "list" (dVar 1)))
  (dRet (dAndV (dOp dEq (dCB bLen (dCons (dVar 0) dNil)) (dCB bLen (dCons (dVar 1) dNil))) (dCB bAll (dCons (dNew (dLc (iR1 (dCons (dCB bLen (dCons (dVar 1) dNil)) dNil)) (gP 2) mYes (dCall pr (dCons (dOp dIx (dVar 0) (dVar 2)) (dCons (dOp dIx (dVar 1) (dVar 2)) dNil))) [2])) dNil))))
  dSkip)
  (dRet (dOp dEq (dVar 0) (dVar 1)))))
def ms__law_low : DS := (dSeq (dPar 2 3 (dCons (dCB bAbs (dCons (dVar 0) dNil)) (dCons (dCB bAbs (dCons (dVar 1) dNil)) dNil)))
  (dSeq (dWhile (dTest (dOp dGt (dVar 3) (dC (.int 0))))
  (dPar 2 3 (dCons (dVar 3) (dCons (dOp dMod (dCB bInt (dCons (dVar 2) dNil)) (dVar 3)) dNil))))
  (dSeq (dAsg (dIf (dTest (dOp dGt (dVar 1) (dC (.int 0)))) (dVar 2) (dNeg (dVar 2))) (gP 2))
  (dRet (dTup (dCons (dOp dFdiv (dVar 0) (dVar 2)) (dCons (dOp dFdiv (dVar 1) (dVar 2)) dNil)))))))
def ms__law_plus : DS := (dRet (dCall p__law_low (dCons (dOp dAdd (dOp dMul (dOp dIx (dVar 0) (dC (.int 0))) (dOp dIx (dVar 1) (dC (.int 1)))) (dOp dMul (dOp dIx (dVar 1) (dC (.int 0))) (dOp dIx (dVar 0) (dC (.int 1))))) (dCons (dOp dMul (dOp dIx (dVar 0) (dC (.int 1))) (dOp dIx (dVar 1) (dC (.int 1)))) dNil))))
def ms__law_minus : DS := (dRet (dCall p__law_plus (dCons (dVar 0) (dCons (dTup (dCons (dNeg (dOp dIx (dVar 1) (dC (.int 0)))) (dCons (dOp dIx (dVar 1) (dC (.int 1))) dNil))) dNil))))
def ms__law_times : DS := (dRet (dCall p__law_low (dCons (dOp dMul (dOp dIx (dVar 0) (dC (.int 0))) (dOp dIx (dVar 1) (dC (.int 0)))) (dCons (dOp dMul (dOp dIx (dVar 0) (dC (.int 1))) (dOp dIx (dVar 1) (dC (.int 1)))) dNil))))
def ms__law_below : DS := (dRet (dOp dLt (dOp dMul (dOp dIx (dVar 0) (dC (.int 0))) (dOp dIx (dVar 1) (dC (.int 1)))) (dOp dMul (dOp dIx (dVar 1) (dC (.int 0))) (dOp dIx (dVar 0) (dC (.int 1))))))
def ms__law_number : DS := (dSeq (dAsg (dCallS 0 p__law_drop (dCons (dC (.int 6)) dNil)) (gP 1))
  (dSeq (dIfS (dTest (dOp dEq (dVar 1) (dC (.int 0))))
  (dRet (dTup (dCons (dOp dSub (dCallS 0 p__law_drop (dCons (dC (.int 2001)) dNil)) (dC (.int 1000))) (dCons (dC (.int 1)) dNil))))
  dSkip)
  (dSeq (dIfS (dTest (dOp dLt (dVar 1) (dC (.int 3))))
  (dRet (dCall p__law_low (dCons (dOp dSub (dCallS 0 p__law_drop (dCons (dC (.int 2000001)) dNil)) (dC (.int 1000000))) (dCons (dOp dIx (dLst (dCons (dC (.int 100)) (dCons (dC (.int 1000)) (dCons (dC (.int 8)) (dCons (dC (.int 20)) dNil))))) (dCallS 0 p__law_drop (dCons (dC (.int 4)) dNil))) dNil))))
  dSkip)
  (dSeq (dIfS (dTest (dOp dLt (dVar 1) (dC (.int 5))))
  (dRet (dCall p__law_low (dCons (dOp dSub (dCallS 0 p__law_drop (dCons (dC (.int 41)) dNil)) (dC (.int 20))) (dCons (dOp dAdd (dC (.int 1)) (dCallS 0 p__law_drop (dCons (dC (.int 12)) dNil))) dNil))))
  dSkip)
  (dRet (dCall p__law_low (dCons (dOp dSub (dCallS 0 p__law_drop (dCons (dC (.int 2000001)) dNil)) (dC (.int 1000000))) (dCons (dOp dAdd (dC (.int 1)) (dCallS 0 p__law_drop (dCons (dC (.int 1000)) dNil))) dNil))))))))
def ms__law_above : DS := (dSeq (dAsg (dCallS 0 p__law_number dNil) (gT (gN 2 (gsCons (gP 1) (gsCons (gP 2) gsNil)))))
  (dRet (dIf (dTest (dOp dNe (dVar 1) (dC (.int 0)))) (dTup (dCons (dCB bAbs (dCons (dVar 1) dNil)) (dCons (dVar 2) dNil))) (dTup (dCons (dC (.int 1)) (dCons (dC (.int 100)) dNil))))))
def ms__law_call : DS := (dSeq (dIfS (dTest (dOp dEq (dVar 0) (dC (.int 0))))
  (dRet (dCall p_plus (dCons (dVar 1) (dCons (dVar 2) dNil))))
  dSkip)
  (dSeq (dIfS (dTest (dOp dEq (dVar 0) (dC (.int 1))))
  (dRet (dCallK 2 (permL [1, 0]) p_minus (dCons (dVar 2) (dCons (dVar 1) dNil))))
  dSkip)
  (dSeq (dIfS (dTest (dOp dEq (dVar 0) (dC (.int 2))))
  (dRet (dCall p_times (dCons (dVar 1) (dCons (dVar 2) dNil))))
  dSkip)
  (dSeq (dIfS (dTest (dOp dEq (dVar 0) (dC (.int 3))))
  (dRet (dCallK 2 (permL [1, 0]) p_over (dCons (dVar 2) (dCons (dVar 1) dNil))))
  dSkip)
  (dSeq (dIfS (dTest (dOp dEq (dVar 0) (dC (.int 4))))
  (dRet (dCall p_below (dCons (dVar 1) (dCons (dVar 2) dNil))))
  dSkip)
  (dSeq (dIfS (dTest (dOp dEq (dVar 0) (dC (.int 5))))
  (dRet (dCall p_sum_of (dCons (dTup (dCons (dVar 1) (dCons (dVar 2) (dCons (dVar 1) dNil)))) dNil)))
  dSkip)
  (dSeq (dIfS (dTest (dOp dEq (dVar 0) (dC (.int 6))))
  (dRet (dCall p_fraction_text (dCons (dVar 1) dNil)))
  dSkip)
  (dSeq (dIfS (dTest (dOp dEq (dVar 0) (dC (.int 7))))
  (dRet (dCall p_fraction (dCons (dVar 1) (dCons (dVar 2) dNil))))
  dSkip)
  (dSeq (dIfS (dTest (dOp dEq (dVar 0) (dC (.int 8))))
  (dRet (dCall p_sum_of (dCons (dVar 1) dNil)))
  dSkip)
  (dRet (dIf (dTest (dOp dEq (dVar 0) (dC (.int 9)))) (dCall p_root (dCons (dVar 1) (dCons (dVar 2) dNil))) (dCallK 2 (permL [1, 0]) p_root (dCons (dVar 2) (dCons (dVar 1) dNil))))))))))))))
def ms__law_tried : DS := (dSeq (dAsg (dC (.str "")) (gP 3))
  (dSeq (dTry subT (dDrop (dCall p__law_call (dCons (dVar 0) (dCons (dVar 1) (dCons (dVar 2) dNil)))))
  [("InvalidFraction", (dAsg (dC (.str "fraction")) (gP 3))), ("InvalidCount", (dAsg (dC (.str "count")) (gP 3))), ("CourseError", (dAsg (dC (.str "other")) (gP 3)))])
  (dRet (dVar 3))))
def ms__law_none : DS := (dSeq (dAsg (dLst (dCons (dTup (dCons (dOp dMul (dOp dIx (dVar 1) (dC (.int 0))) (dC (.int 3))) (dCons (dOp dMul (dOp dIx (dVar 1) (dC (.int 1))) (dC (.int 3))) dNil))) (dCons (dTup (dCons (dOp dIx (dVar 1) (dC (.int 0))) (dCons (dNeg (dOp dIx (dVar 1) (dC (.int 1)))) dNil))) (dCons (dTup (dCons (dOp dIx (dVar 1) (dC (.int 0))) (dCons (dC (.int 0)) dNil))) (dCons (dCB bList (dCons (dVar 1) dNil)) (dCons (dOp dAdd (dVar 1) (dTup (dCons (dC (.int 1)) dNil))) (dCons (dSl (dVar 1) dNoPart (dPart (dC (.int 1)))) (dCons (dOp dIx (dVar 1) (dC (.int 0))) (dCons (dC .none) (dCons (dC (.str "1/2")) dNil)))))))))) (gP 2))
  (dSeq (dAsg (dOp dAdd (dVar 2) (dLst (dCons (dC (.bool true)) (dCons (dTup (dCons (dC (.bool true)) (dCons (dC (.int 1)) dNil))) (dCons (dTup (dCons (dC (.int 1)) (dCons (dC (.bool true)) dNil))) (dCons (dTup (dCons (dCB bStrInt (dCons (dOp dIx (dVar 1) (dC (.int 0))) dNil)) (dCons (dOp dIx (dVar 1) (dC (.int 1))) dNil))) (dCons (dTup (dCons (dVar 1) (dCons (dVar 1) dNil))) (dCons (dTup dNil) (dCons (dTup (dCons (dC (.int 0)) (dCons (dC (.int 2)) dNil))) dNil))))))))) (gP 2))
  (dRet (dOp dIx (dVar 2) (dCallS 0 p__law_drop (dCons (dC (.int 16)) dNil))))))
def ms__law_roots_right : DS := (dSeq (dAsg (dTup (dCons (dC (.int 1)) (dCons (dOp dPow (dC (.int 10)) (dC (.int 40))) dNil))) (gP 2))
  (dSeq (dAsg (dOp dIx (dLst (dCons (dVar 1) (dCons (dCall p__law_times (dCons (dVar 1) (dCons (dVar 1) dNil))) (dCons (dCall p__law_plus (dCons (dCall p__law_times (dCons (dVar 1) (dCons (dVar 1) dNil))) (dCons (dVar 2) dNil))) (dCons (dCall p__law_minus (dCons (dCall p__law_times (dCons (dVar 1) (dCons (dVar 1) dNil))) (dCons (dVar 2) dNil))) dNil))))) (dCallS 0 p__law_drop (dCons (dC (.int 4)) dNil))) (gP 1))
  (dSeq (dIfS (dTest (dOp dEq (dCallS 0 p__law_drop (dCons (dC (.int 4)) dNil)) (dC (.int 0))))
  (dSeq (dAsg (dOp dMul (dOp dPow (dC (.int 10)) (dC (.int 50))) (dOp dPow (dC (.int 10)) (dC (.int 49)))) (gP 3))
  (dAsg (dCall p__law_low (dCons (dOp dAdd (dC (.int 1)) (dCallS 0 p__law_drop (dCons (dVar 3) dNil))) (dCons (dOp dAdd (dC (.int 1)) (dCallS 0 p__law_drop (dCons (dVar 3) dNil))) dNil))) (gP 1)))
  dSkip)
  (dSeq (dIfS (dTest (dOp dLt (dOp dIx (dVar 1) (dC (.int 0))) (dC (.int 0))))
  (dRet (dC (.bool true)))
  dSkip)
  (dSeq (dPar 4 5 (dCons (dCallS 0 p__law_drop (dCons (dC (.int 31)) dNil)) (dCons (dTup (dCons (dC (.int 1)) (dCons (dC (.int 1)) dNil))) dNil)))
  (dSeq (dFor (iR1 (dCons (dVar 4) dNil)) (gP 6)
  (dAsg (dCall p__law_times (dCons (dVar 5) (dCons (dTup (dCons (dC (.int 1)) (dCons (dC (.int 10)) dNil))) dNil))) (gP 5)))
  (dSeq (dAsg (dCall p_root (dCons (dVar 1) (dCons (dVar 4) dNil))) (gP 7))
  (dSeq (dIfS (dNotT (dTruth (dCall p__law_alike (dCons (dLst (dCons (dVar 7) (dCons (dCallK 2 (permL [1, 0]) p_root (dCons (dVar 4) (dCons (dVar 1) dNil))) (dCons (dCall p_root (dCons (dTup (dCons (dC (.int 0)) (dCons (dC (.int 1)) dNil))) (dCons (dVar 4) dNil))) dNil)))) (dCons (dLst (dCons (dVar 7) (dCons (dVar 7) (dCons (dTup (dCons (dC (.int 0)) (dCons (dC (.int 1)) dNil))) dNil)))) dNil)))))
  (dRet (dC (.bool false)))
  dSkip)
  (dSeq (dAsg (dCall p__law_plus (dCons (dVar 7) (dCons (dVar 5) dNil))) (gP 8))
  (dSeq (dIfS (dOrT (dTest (dOp dNe (dCall p__law_low (dCons (dOp dIx (dVar 7) (dC (.int 0))) (dCons (dOp dIx (dVar 7) (dC (.int 1))) dNil))) (dVar 7))) (dOrT (dTest (dOp dLt (dOp dIx (dVar 7) (dC (.int 0))) (dC (.int 0)))) (dTest (dOp dNe (dOp dIx (dCall p__law_low (dCons (dOp dMul (dOp dIx (dVar 7) (dC (.int 0))) (dOp dIx (dVar 5) (dC (.int 1)))) (dCons (dOp dIx (dVar 7) (dC (.int 1))) dNil))) (dC (.int 1))) (dC (.int 1))))))
  (dRet (dC (.bool false)))
  dSkip)
  (dRet (dAndV (dNotV (dCall p__law_below (dCons (dVar 1) (dCons (dCall p__law_times (dCons (dVar 7) (dCons (dVar 7) dNil))) dNil)))) (dCall p__law_below (dCons (dVar 1) (dCons (dCall p__law_times (dCons (dVar 8) (dCons (dVar 8) dNil))) dNil)))))))))))))))
def ms_law : DS := (dSeq (dFor (iR1 (dCons (dC (.int 6)) dNil)) (gP 2)
  (dSeq (dPar 3 4 (dCons (dCallS 1 p__law_number dNil) (dCons (dCallS 1 p__law_above dNil) dNil)))
  (dSeq (dPar 5 6 (dCons (dCallS 1 p__law_none (dCons (dVar 3) dNil)) (dCons (dCallS 1 p__law_none (dCons (dVar 4) dNil)) dNil)))
  (dSeq (dIfS (dNotT (dTruth (dCallS 1 p__law_roots_right (dCons (dVar 4) dNil))))
  (dRet (dC (.bool false)))
  dSkip)
  (dSeq (dFor (iR1 (dCons (dC (.int 7)) dNil)) (gP 7)
  (dSeq (dIfS (dOrT (dTest (dOp dNe (dCall p__law_tried (dCons (dVar 7) (dCons (dVar 3) (dCons (dVar 4) dNil)))) (dC (.str "")))) (dTest (dOp dNe (dCall p__law_tried (dCons (dVar 7) (dCons (dVar 5) (dCons (dOp dIx (dLst (dCons (dVar 4) (dCons (dVar 6) dNil))) (dCallS 1 p__law_drop (dCons (dC (.int 2)) dNil))) dNil)))) (dC (.str "fraction")))))
  (dRet (dC (.bool false)))
  dSkip)
  (dIfS (dOrT (dAndT (dTest (dOp dLt (dVar 7) (dC (.int 6)))) (dTest (dOp dNe (dCall p__law_tried (dCons (dVar 7) (dCons (dVar 3) (dCons (dVar 6) dNil)))) (dC (.str "fraction"))))) (dTest (dOp dNe (dCall p__law_tried (dCons (dVar 7) (dCons (dVar 3) (dCons (dTup (dCons (dC (.int 0)) (dCons (dC (.int 1)) dNil))) dNil)))) (dOp dIx (dLst (dCons (dC (.str "")) (dCons (dC (.str "fraction")) dNil))) (dCB bInt (dCons (dOp dEq (dVar 7) (dC (.int 3))) dNil))))))
  (dRet (dC (.bool false)))
  dSkip)))
  (dSeq (dAsg (dOp dIx (dLst (dCons (dC .none) (dCons (dC (.bool true)) (dCons (dC (.str "1")) (dCons (dTup (dCons (dC (.int 1)) (dCons (dC (.int 1)) dNil))) (dCons (dLst (dCons (dC (.int 1)) dNil)) (dCons (dC (.bool false)) (dCons (dTup dNil) (dCons (dC (.str "")) dNil))))))))) (dCallS 1 p__law_drop (dCons (dC (.int 8)) dNil))) (gP 8))
  (dSeq (dFor (iL (dLst (dCons (dTup (dCons (dOp dIx (dVar 3) (dC (.int 0))) (dCons (dC (.int 0)) dNil))) (dCons (dTup (dCons (dVar 8) (dCons (dOp dIx (dVar 3) (dC (.int 1))) dNil))) (dCons (dTup (dCons (dOp dIx (dVar 3) (dC (.int 0))) (dCons (dVar 8) dNil))) (dCons (dTup (dCons (dVar 8) (dCons (dVar 8) dNil))) (dCons (dTup (dCons (dVar 8) (dCons (dC (.int 0)) dNil))) dNil))))))) (gP 9)
  (dIfS (dTest (dOp dNe (dCall p__law_tried (dCons (dC (.int 7)) (dCons (dOp dIx (dVar 9) (dC (.int 0))) (dCons (dOp dIx (dVar 9) (dC (.int 1))) dNil)))) (dC (.str "fraction"))))
  (dRet (dC (.bool false)))
  dSkip))
  (dSeq (dIfS (dTest (dOp dNe (dLst (dCons (dCall p__law_tried (dCons (dC (.int 7)) (dCons (dOp dIx (dVar 3) (dC (.int 0))) (dCons (dNeg (dOp dIx (dVar 3) (dC (.int 1)))) dNil)))) (dCons (dCall p__law_tried (dCons (dC (.int 8)) (dCons (dTup (dCons (dVar 3) (dCons (dVar 4) dNil))) (dCons (dC .none) dNil)))) (dCons (dCall p__law_tried (dCons (dC (.int 8)) (dCons (dTup dNil) (dCons (dC .none) dNil)))) dNil)))) (dRepL (mLst (dCons (dC (.str "")) dNil)) (dC (.int 3)))))
  (dRet (dC (.bool false)))
  dSkip)
  (dSeq (dIfS (dTest (dOp dNe (dNew (dLc (iL (dLst (dCons (dLst (dCons (dVar 3) dNil)) (dCons (dC .none) (dCons (dOp dIx (dVar 3) (dC (.int 0))) (dCons (dC (.str "1")) (dCons (dTup (dCons (dVar 3) (dCons (dVar 6) dNil))) (dCons (dTup (dCons (dVar 5) dNil)) (dCons (dC (.bool true)) dNil))))))))) (gP 10) mYes (dCall p__law_tried (dCons (dC (.int 8)) (dCons (dVar 10) (dCons (dC .none) dNil)))) [10])) (dRepL (mLst (dCons (dC (.str "fraction")) dNil)) (dC (.int 7)))))
  (dRet (dC (.bool false)))
  dSkip)
  (dSeq (dAsg (dOp dIx (dLst (dCons (dNeg (dC (.int 1))) (dCons (dC (.int 31)) (dCons (dC .none) (dCons (dC (.bool true)) (dCons (dC (.str "3")) (dCons (dTup (dCons (dC (.int 3)) (dCons (dC (.int 1)) dNil))) (dCons (dOp dPow (dC (.int 10)) (dC (.int 20))) dNil)))))))) (dCallS 1 p__law_drop (dCons (dC (.int 7)) dNil))) (gP 11))
  (dFor (iL (dLst (dCons (dC (.int 9)) (dCons (dC (.int 10)) dNil)))) (gP 7)
  (dSeq (dAsg (dLst (dCons (dCall p__law_tried (dCons (dVar 7) (dCons (dVar 4) (dCons (dC (.int 30)) dNil)))) (dCons (dCall p__law_tried (dCons (dVar 7) (dCons (dVar 4) (dCons (dVar 11) dNil)))) (dCons (dCall p__law_tried (dCons (dVar 7) (dCons (dVar 5) (dCons (dVar 11) dNil)))) (dCons (dCall p__law_tried (dCons (dVar 7) (dCons (dTup (dCons (dNeg (dOp dIx (dVar 4) (dC (.int 0)))) (dCons (dOp dIx (dVar 4) (dC (.int 1))) dNil))) (dCons (dC (.int 3)) dNil)))) dNil))))) (gP 12))
  (dIfS (dTest (dOp dNe (dVar 12) (dLst (dCons (dC (.str "")) (dCons (dC (.str "count")) (dCons (dC (.str "fraction")) (dCons (dC (.str "fraction")) dNil)))))))
  (dRet (dC (.bool false)))
  dSkip)))))))))))))
  (dRet (dC (.bool true))))
end K01
namespace K01
open PySem Fw
theorem fr_eq {n d : Int} (hd : 0 < d) (h : Nat.gcd n.natAbs d.natAbs = 1) : PyData.tuple [.int n, .int d] = fr (Rat.divInt n d) := by
  have e1 : (Rat.divInt n d).num = n := by
    rw [Rat.num_divInt]
    have g : d.gcd n = 1 := by rw [Int.gcd_comm]; exact h
    rw [g, Int.sign_eq_one_of_pos hd]
    simp
  have e2 : ((Rat.divInt n d).den : Int) = d := by
    rw [Rat.den_divInt]
    have g : d.gcd n = 1 := by rw [Int.gcd_comm]; exact h
    rw [g, if_neg (by omega)]
    simp
    omega
  unfold fr
  rw [e1, e2]
theorem exact_div {c t : Int} (hc : c ≠ 0) : (c * t).fdiv c = t := Int.mul_fdiv_cancel_left _ hc
theorem red_frac {t b c : Int} (hb : b ≠ 0) (hc : c.natAbs = Nat.gcd t.natAbs b.natAbs) (hs : 0 < c * b) : PyData.tuple [.int (t.fdiv c), .int (b.fdiv c)] = fr (Rat.divInt t b) := by
  have c0 : c ≠ 0 := by intro z; subst z; simp at hs
  obtain ⟨t', rfl⟩ : c ∣ t := Int.natAbs_dvd_natAbs.mp (hc ▸ Nat.gcd_dvd_left _ _)
  obtain ⟨b', rfl⟩ : c ∣ b := Int.natAbs_dvd_natAbs.mp (hc ▸ Nat.gcd_dvd_right _ _)
  rw [exact_div c0, exact_div c0, Rat.divInt_mul_left c0]
  have hb' : 0 < b' := by
    have z : 0 < (c * c) * b' := by rw [Int.mul_assoc]; exact hs
    have cc : 0 < c * c := by
      rcases Int.lt_or_gt_of_ne c0 with q | q
      · exact Int.mul_pos_of_neg_of_neg q q
      · exact Int.mul_pos q q
    rcases Int.lt_or_le 0 b' with h | h
    · exact h
    · have q := Int.mul_le_mul_of_nonneg_left h (Int.le_of_lt cc)
      rw [Int.mul_zero] at q
      omega
  refine fr_eq hb' ?_
  have cp : 0 < c.natAbs := Int.natAbs_pos.mpr c0
  rw [Int.natAbs_mul, Int.natAbs_mul, Nat.gcd_mul_left] at hc
  exact Nat.eq_of_mul_eq_mul_left cp (by omega)
theorem den_pos (q : Rat) : 0 < (q.den : Int) := by have := q.den_pos; omega
theorem bits_le {a b : Nat} {n : Nat} (h : a ≤ b) (hb : b < 2 ^ n) : a < 2 ^ n := Nat.lt_of_le_of_lt h hb
theorem div_ok {j : Int} {n : Nat} (h : j ≠ 0) (hb : j.natAbs < 2 ^ n) (h0 : 0 < n) (h9 : n ≤ 9000) (i : Int) : DivOk i j := DivOk.w h hb h0 h9
/-- a quotient of numbers: lowest terms of a sum, as the program makes them -/
theorem add_frac (a b : Rat) {g r s t h : Int} (hg : g = (Nat.gcd a.den b.den : Nat)) (hr : (a.den : Int) = g * r) (hs : (b.den : Int) = g * s) (ht : t = a.num * s + b.num * r) (hh : h = (Nat.gcd t.natAbs g.natAbs : Nat)) :
    ∃ t' g', t = h * t' ∧ g = h * g' ∧ 0 < h ∧ 0 < g ∧ 0 < r ∧ 0 < s ∧ PyData.tuple [.int t', .int (r * (s * g'))] = fr (a + b) := by
  have da := a.den_pos
  have db := b.den_pos
  have gp : 0 < g := by rw [hg]; exact Int.natCast_pos.mpr (Nat.gcd_pos_of_pos_left _ da)
  have hp : 0 < h := by rw [hh]; exact Int.natCast_pos.mpr (Nat.gcd_pos_of_pos_right _ (by omega))
  have rp : 0 < r := by
    rcases Int.lt_or_le 0 r with q | q
    · exact q
    · have z := Int.mul_le_mul_of_nonneg_left q (Int.le_of_lt gp)
      rw [Int.mul_zero] at z
      omega
  have sp : 0 < s := by
    rcases Int.lt_or_le 0 s with q | q
    · exact q
    · have z := Int.mul_le_mul_of_nonneg_left q (Int.le_of_lt gp)
      rw [Int.mul_zero] at z
      omega
  obtain ⟨t', et⟩ : h ∣ t := by rw [hh]; exact Int.natAbs_dvd_natAbs.mp (by simpa using Nat.gcd_dvd_left _ _)
  obtain ⟨g', eg⟩ : h ∣ g := by rw [hh]; exact Int.natAbs_dvd_natAbs.mp (by simpa using Nat.gcd_dvd_right _ _)
  refine ⟨t', g', et, eg, hp, gp, rp, sp, ?_⟩
  have g'p : 0 < g' := by
    rcases Int.lt_or_le 0 g' with q | q
    · exact q
    · have z := Int.mul_le_mul_of_nonneg_left q (Int.le_of_lt hp)
      rw [Int.mul_zero] at z
      omega
  have bp : 0 < r * (s * g') := Int.mul_pos rp (Int.mul_pos sp g'p)
  -- the value
  have val : a + b = Rat.divInt t' (r * (s * g')) := by
    have e : a + b = Rat.divInt (a.num * b.den + b.num * a.den) (a.den * b.den) := by
      rw [Rat.add_def', ← Rat.divInt_ofNat]
      simp
    have e2 : Rat.divInt (a.num * b.den + b.num * a.den) (a.den * b.den) = Rat.divInt t' (r * (s * g')) := by
      have m1 : (a.num * b.den + b.num * a.den : Int) = (g * h) * t' := by
        rw [hr, hs]
        have : a.num * (g * s) + b.num * (g * r) = g * (a.num * s + b.num * r) := by grind
        rw [this, ← ht, et]
        grind
      have m2 : ((a.den : Int) * b.den) = (g * h) * (r * (s * g')) := by
        rw [hr, hs]
        have : g * r * (g * s) = g * (r * (s * g)) := by grind
        rw [this]
        conv => lhs; arg 2; rw [eg]
        grind
      rw [m1, m2, Rat.divInt_mul_left]
      intro z
      rcases Int.mul_eq_zero.mp z with q | q <;> omega
    rw [e, e2]
  rw [val]
  refine fr_eq bp ?_
  -- lowest terms
  have crs : Nat.Coprime r.natAbs s.natAbs := by
    have e1 : a.den = g.natAbs * r.natAbs := by rw [← Int.natAbs_mul, ← hr]; simp
    have e2 : b.den = g.natAbs * s.natAbs := by rw [← Int.natAbs_mul, ← hs]; simp
    have e3 : g.natAbs = Nat.gcd a.den b.den := by rw [hg]; simp
    rw [e1, e2, Nat.gcd_mul_left] at e3
    have : 0 < g.natAbs := by omega
    exact Nat.eq_of_mul_eq_mul_left this (by omega)
  have car : Nat.Coprime a.num.natAbs r.natAbs := by
    have e1 : a.den = g.natAbs * r.natAbs := by rw [← Int.natAbs_mul, ← hr]; simp
    have c := a.reduced
    rw [e1] at c
    exact Nat.Coprime.coprime_mul_left_right c
  have cbs : Nat.Coprime b.num.natAbs s.natAbs := by
    have e1 : b.den = g.natAbs * s.natAbs := by rw [← Int.natAbs_mul, ← hs]; simp
    have c := b.reduced
    rw [e1] at c
    exact Nat.Coprime.coprime_mul_left_right c
  have ctr : Nat.Coprime t.natAbs r.natAbs := by
    have c1 : Int.gcd (a.num * s) r = 1 := by
      show Nat.gcd (a.num * s).natAbs r.natAbs = 1
      rw [Int.natAbs_mul]
      exact Nat.Coprime.mul_left car crs.symm
    show Int.gcd t r = 1
    rw [ht, Int.gcd_add_mul_right_left] <;> exact c1
  have cts : Nat.Coprime t.natAbs s.natAbs := by
    have c1 : Int.gcd (b.num * r) s = 1 := by
      show Nat.gcd (b.num * r).natAbs s.natAbs = 1
      rw [Int.natAbs_mul]
      exact Nat.Coprime.mul_left cbs crs
    show Int.gcd t s = 1
    rw [ht, Int.add_comm, Int.gcd_add_mul_right_left] <;> exact c1
  have ctg : Nat.Coprime t'.natAbs g'.natAbs := by
    have z : h.natAbs = Nat.gcd t.natAbs g.natAbs := by
      have q := congrArg Int.natAbs hh
      simpa using q
    rw [et, eg, Int.natAbs_mul, Int.natAbs_mul, Nat.gcd_mul_left] at z
    have : 0 < h.natAbs := by omega
    exact Nat.eq_of_mul_eq_mul_left this (by omega)
  have down : ∀ {k : Int}, Nat.Coprime t.natAbs k.natAbs → Nat.Coprime t'.natAbs k.natAbs := fun {k} c => by
    rw [et, Int.natAbs_mul] at c
    exact Nat.Coprime.coprime_mul_left c
  rw [Int.natAbs_mul, Int.natAbs_mul]
  exact Nat.Coprime.mul_right (down ctr) (Nat.Coprime.mul_right (down cts) ctg)
theorem mul_parts (a b : Rat) : (a * b).num = a.num / (Nat.gcd a.num.natAbs b.den : Nat) * (b.num / (Nat.gcd b.num.natAbs a.den : Nat)) ∧ (a * b).den = a.den / Nat.gcd b.num.natAbs a.den * (b.den / Nat.gcd a.num.natAbs b.den) := by
  show (Rat.mul a b).num = _ ∧ (Rat.mul a b).den = _
  unfold Rat.mul
  simp [Int.divExact_eq_tdiv, Nat.divExact_eq_div]
theorem fdiv_nat {a g : Nat} (hg : 0 < g) (h : g ∣ a) : ((a : Int)).fdiv (g : Int) = ((a / g : Nat) : Int) := by
  obtain ⟨k, rfl⟩ := h
  rw [Nat.mul_div_cancel_left _ hg]
  have : ((g * k : Nat) : Int) = (g : Int) * k := by simp
  rw [this, Int.mul_fdiv_cancel_left _ (by omega)]
theorem mul_frac (a b : Rat) : PyData.tuple [.int (a.num.fdiv (Nat.gcd a.num.natAbs b.den : Nat) * b.num.fdiv (Nat.gcd b.num.natAbs a.den : Nat)), .int ((a.den : Int).fdiv (Nat.gcd b.num.natAbs a.den : Nat) * (b.den : Int).fdiv (Nat.gcd a.num.natAbs b.den : Nat))] = fr (a * b) := by
  have g1 : 0 < Nat.gcd a.num.natAbs b.den := Nat.gcd_pos_of_pos_right _ b.den_pos
  have g2 : 0 < Nat.gcd b.num.natAbs a.den := Nat.gcd_pos_of_pos_right _ a.den_pos
  obtain ⟨e1, e2⟩ := mul_parts a b
  unfold fr
  rw [e1, e2, Int.fdiv_eq_ediv_of_nonneg _ (by omega), Int.fdiv_eq_ediv_of_nonneg _ (by omega), fdiv_nat g2 (Nat.gcd_dvd_right _ _), fdiv_nat g1 (Nat.gcd_dvd_right _ _)]
  simp
theorem inv_frac (b : Rat) (b0 : b ≠ 0) : fr b⁻¹ = if 0 < b.num then .tuple [.int b.den, .int b.num] else .tuple [.int (-b.den), .int (-b.num)] := by
  have bn : b.num ≠ 0 := fun z => b0 (Rat.num_eq_zero.mp z)
  unfold fr
  rw [Rat.num_inv, Rat.den_inv, if_neg bn]
  by_cases c : 0 < b.num
  · rw [if_pos c, Int.sign_eq_one_of_pos c]
    have : ((b.num.natAbs : Nat) : Int) = b.num := by omega
    rw [this]; simp
  · rw [if_neg c, Int.sign_eq_neg_one_of_neg (by omega)]
    have : ((b.num.natAbs : Nat) : Int) = -b.num := by omega
    rw [this]; simp
end K01
namespace K01
open PySem
theorem sq_nonneg' (a : Int) : 0 ≤ a * a := by
  rcases Int.le_total 0 a with h | h
  · exact Int.mul_nonneg h h
  · exact Int.mul_nonneg_of_nonpos_of_nonpos h h
theorem newton_i {n u d q y x : Int} (hx : x = u + d) (hd : 1 ≤ d) (hu : 0 ≤ u) (hq : 0 ≤ q) (hy : 0 ≤ y) (hn : 8 ≤ n) (h4 : (d * d) * (d * d) ≤ 2 * n) (hr : u * u ≤ n) (hxx : n < x * x) (q1 : x * q ≤ n) (q2 : n < x * (q + 1)) (y1 : 2 * y ≤ x + q) (y2 : x + q ≤ 2 * y + 1) :
    n < (y + 1) * (y + 1) ∧ (1 ≤ y → (y - 1) * (y - 1) ≤ n) := by
  have x0 : 0 < x := by omega
  have s1 : 4 * (x * (q + 1)) ≤ (x + q + 1) * (x + q + 1) := by
    have := sq_nonneg' (x - q - 1)
    grind
  have s2 : (x + q + 1) * (x + q + 1) ≤ (2 * y + 2) * (2 * y + 2) := Int.mul_le_mul (by omega) (by omega) (by omega) (by omega)
  refine ⟨?_, fun hy1 => ?_⟩
  · have s3 : (2 * y + 2) * (2 * y + 2) = 4 * ((y + 1) * (y + 1)) := by grind
    omega
  · have tq : q < x := by
      rcases Int.lt_or_le q x with h | h
      · exact h
      · have := Int.mul_le_mul_of_nonneg_left h (Int.le_of_lt x0)
        omega
    generalize ht : x - q = t
    have xt : x * t ≤ x * (2 * d) + x - 1 := by
      have a1 : x * t = x * x - x * q := by rw [← ht]; grind
      have a2 : x * x - u * u ≤ x * (2 * d) := by
        have := sq_nonneg' d
        rw [hx]; grind
      have a3 : x * (q + 1) = x * q + x := by grind
      have a4 : n - u * u ≥ 0 := by omega
      -- x*x - n ≤ x*x - u*u is false direction; use hr
      have a5 : x * x - n ≤ x * x - u * u := by omega
      omega
    have t2 : t ≤ 2 * d := by
      rcases Int.lt_or_le (2 * d) t with h | h
      · have := Int.mul_le_mul_of_nonneg_left (show 2 * d + 1 ≤ t by omega) (Int.le_of_lt x0)
        have e : x * (2 * d + 1) = x * (2 * d) + x := by grind
        omega
      · exact h
    have tt : t * t ≤ 4 * (d * d) := by
      have := Int.mul_le_mul t2 t2 (by omega) (by omega)
      have e : (2 * d) * (2 * d) = 4 * (d * d) := by grind
      omega
    have big : d * d + 1 ≤ x + q := by
      rcases Int.lt_or_le (x + q) (d * d + 1) with h | h
      · have z : (x + q + 1) * (x + q + 1) ≤ (d * d + 1) * (d * d + 1) := Int.mul_le_mul (by omega) (by omega) (by omega) (by have := sq_nonneg' d; omega)
        have e : (d * d + 1) * (d * d + 1) = (d * d) * (d * d) + 2 * (d * d) + 1 := by grind
        have nd : n ≤ d * d := by omega
        have dd8 : 8 ≤ d * d := by omega
        have := Int.mul_le_mul_of_nonneg_right dd8 (show 0 ≤ d * d by omega)
        omega
      · exact h
    have w1 : (2 * (y - 1)) * (2 * (y - 1)) ≤ (x + q - 2) * (x + q - 2) := Int.mul_le_mul (by omega) (by omega) (by omega) (by omega)
    have w2 : (x + q - 2) * (x + q - 2) = t * t + 4 * (x * q) - 4 * (x + q) + 4 := by rw [← ht]; grind
    have w3 : (2 * (y - 1)) * (2 * (y - 1)) = 4 * ((y - 1) * (y - 1)) := by grind
    omega
theorem below8 {n : Nat} (h : n < 8) : Float64.rootBelow8 n * Float64.rootBelow8 n ≤ n ∧ n < (Float64.rootBelow8 n + 1) * (Float64.rootBelow8 n + 1) := by
  have : n = 0 ∨ n = 1 ∨ n = 2 ∨ n = 3 ∨ n = 4 ∨ n = 5 ∨ n = 6 ∨ n = 7 := by omega
  rcases this with rfl | rfl | rfl | rfl | rfl | rfl | rfl | rfl <;> decide
theorem halves_ok : ∀ (l n : Nat), n < 2 ^ (l + 3) → Float64.rootByHalves l n * Float64.rootByHalves l n ≤ n ∧ n < (Float64.rootByHalves l n + 1) * (Float64.rootByHalves l n + 1)
  | 0, n, h => below8 (by simpa using h)
  | l + 1, n, h => by
    unfold Float64.rootByHalves
    by_cases c : n < 8
    · rw [if_pos c]; exact below8 c
    rw [if_neg c]
    simp only []
    have n0 : n ≠ 0 := by omega
    generalize hk : (n.log2 + 1) / 4 = k
    have k1 : 1 ≤ k := by
      have : 3 ≤ n.log2 := (Nat.le_log2 n0).mpr (by omega)
      omega
    have hd4 : 2 ^ (4 * k) ≤ 2 * n := by
      have a := Nat.log2_self_le n0
      have b : 2 ^ (4 * k) ≤ 2 ^ (n.log2 + 1) := Nat.pow_le_pow_right (by decide) (by omega)
      rw [Nat.pow_succ] at b
      omega
    have e4 : (4 : Nat) ^ k = 2 ^ k * 2 ^ k := by
      rw [← Nat.pow_add, show (4:Nat) = 2 ^ 2 from rfl, ← Nat.pow_mul]
      congr 1; omega
    have hsm : n / 4 ^ k < 2 ^ (l + 3) := by
      have b : (4 : Nat) ^ 1 ≤ 4 ^ k := Nat.pow_le_pow_right (by decide) k1
      have : n / 4 ^ k ≤ n / 4 := Nat.div_le_div_left (by simpa using b) (by decide)
      have : 2 ^ (l + 1 + 3) = 2 * 2 ^ (l + 3) := by rw [Nat.pow_succ _ (l + 3), Nat.mul_comm] <;> rfl
      omega
    obtain ⟨r1, r2⟩ := halves_ok l _ hsm
    generalize Float64.rootByHalves l (n / 4 ^ k) = r at r1 r2
    generalize hdd : 2 ^ k = d at e4
    have d1 : 1 ≤ d := by rw [← hdd]; exact Nat.one_le_two_pow
    rw [e4] at r1 r2
    have dp : 0 < d * d := Nat.mul_pos d1 d1
    have ha : r * r * (d * d) ≤ n := (Nat.le_div_iff_mul_le dp).mp r1
    have hb : n < (r + 1) * (r + 1) * (d * d) := (Nat.div_lt_iff_lt_mul dp).mp r2
    generalize hx : (r + 1) * d = x
    have hxu : x = r * d + d := by rw [← hx]; grind
    have x0 : 0 < x := by omega
    generalize hq : n / x = q
    have q1 : x * q ≤ n := by rw [← hq]; exact Nat.mul_div_le n x
    have q2 : n < x * (q + 1) := by rw [← hq]; exact Nat.lt_mul_div_succ n x0
    generalize hy : (x + q) / 2 = y
    have d4 : (d * d) * (d * d) ≤ 2 * n := by
      have : 2 ^ (4 * k) = (d * d) * (d * d) := by
        rw [← hdd, ← Nat.pow_add, ← Nat.pow_add]; congr 1; omega
      omega
    have N := newton_i (n := n) (u := (r * d : Nat)) (d := d) (q := q) (y := y) (x := x) (by omega) (by omega) (by omega) (by omega) (by omega) (by omega) (by exact_mod_cast d4)
      (by have : (r * d) * (r * d) ≤ n := by (have e : (r * d) * (r * d) = r * r * (d * d) := by grind); omega
          exact_mod_cast this)
      (by have : n < x * x := by (have e : x * x = (r + 1) * (r + 1) * (d * d) := by rw [← hx]; grind); omega
          exact_mod_cast this) (by exact_mod_cast q1) (by exact_mod_cast q2) (by omega) (by omega)
    obtain ⟨m1, m2⟩ := N
    have m1' : n < (y + 1) * (y + 1) := by exact_mod_cast m1
    by_cases g : y * y > n
    · rw [if_pos g]
      have y1 : 1 ≤ y := by
        rcases Nat.eq_zero_or_pos y with z | z
        · subst z; omega
        · exact z
      have m2' := m2 (by omega)
      have e : ((y - 1 : Nat) : Int) = (y : Int) - 1 := by omega
      rw [← e] at m2'
      refine ⟨by exact_mod_cast m2', ?_⟩
      rw [Nat.sub_add_cancel y1]
      exact g
    · rw [if_neg g]
      exact ⟨by omega, m1'⟩
theorem isqrt_ok (n : Nat) : Float64.isqrt n * Float64.isqrt n ≤ n ∧ n < (Float64.isqrt n + 1) * (Float64.isqrt n + 1) := by
  refine halves_ok _ n ?_
  by_cases h : n = 0
  · subst h; decide
  · have := Nat.lt_log2_self (n := n)
    have : 2 ^ (n.log2 + 1) ≤ 2 ^ (n.log2 + 3) := Nat.pow_le_pow_right (by decide) (by omega)
    omega
end K01
namespace K01
open PySem PySem.Spec L2 Fw SX PySem.Builtin.Str

theorem sx_minus : Str.ofString "-" = S [45] := TL.ext_tl (TL.tl_ofString _)
theorem s_dot : Str.ofString "." = S [46] := TL.ext_tl (TL.tl_ofString _)
theorem s_slash : Str.ofString "/" = S [47] := TL.ext_tl (TL.tl_ofString _)
theorem s_zero : Str.ofString "0" = S [48] := TL.ext_tl (TL.tl_ofString _)
theorem s_none : Str.ofString "" = S [] := TL.ext_tl (TL.tl_ofString _)
theorem s_neg0 : Str.ofString "-0" = S [45, 48] := TL.ext_tl (TL.tl_ofString _)
theorem s_dot0 : Str.ofString ".0" = S [46, 48] := TL.ext_tl (TL.tl_ofString _)
theorem s_digits : Str.ofString "0123456789" = S [48, 49, 50, 51, 52, 53, 54, 55, 56, 57] := TL.ext_tl (TL.tl_ofString _)
theorem S_list (l : List Nat) : (S l).cps.toList = l := rfl
theorem mem_digits (c : Nat) : decide (c ∈ (S [48, 49, 50, 51, 52, 53, 54, 55, 56, 57]).cps.toList) = decide (48 ≤ c ∧ c ≤ 57) := by
  rw [S_list]
  apply decide_eq_decide.mpr
  simp only [List.mem_cons, List.not_mem_nil, or_false]
  omega
theorem startsx_minus (l : List Nat) : Txt.startswith (S l) (S [45]) = decide (l.head? = some 45) := by
  unfold Txt.startswith
  rw [StrLaws.subAt_eq, S_len, S_len, S_list, S_list]
  cases l with
  | nil => simp
  | cons c r =>
    simp
    by_cases h : c = 45 <;> simp [h]
theorem head_sg {t : Int} {N : List Nat} (h : ∀ c ∈ N, 48 ≤ c ∧ c ≤ 57) : decide ((sg t ++ N).head? = some 45) = decide (t < 0) := by
  unfold sg
  apply decide_eq_decide.mpr
  split
  · simp [*]
  · cases N with
    | nil => simp [*]
    | cons c r =>
      have := h c List.mem_cons_self
      simp [*]
      omega
theorem tw_false {p : Nat → Bool} : ∀ {l : List Nat}, (∀ c ∈ l, p c = false) → l.takeWhile p = []
  | [], _ => rfl
  | c :: r, h => by rw [List.takeWhile_cons, h c List.mem_cons_self]; rfl
theorem lstrip_minus {t : Int} {N : List Nat} (h : ∀ c ∈ N, 48 ≤ c ∧ c ≤ 57) : Txt.lstripChars (S (sg t ++ N)) (S [45]) = S N := by
  unfold Txt.lstripChars
  rw [PyProof.Rows.stripBy_eq]
  refine TL.ext_tl ?_
  have hi : stripHi (S [45]).cps.contains false (S (sg t ++ N)) (stripLo (S [45]).cps.contains true (S (sg t ++ N))) = (S (sg t ++ N)).length := rfl
  rw [hi, TL.tl_strSub_end]
  show (sg t ++ N).drop (((sg t ++ N).takeWhile (S [45]).cps.contains).length) = N
  have z : ∀ c, (S [45]).cps.contains c = (c == 45) := fun c => by
    have e : (S [45]).cps.contains c = decide (c = 45) := by simp
    rw [e]
    by_cases h : c = 45
    · subst h; rfl
    · rw [decide_eq_false h, beq_eq_false_iff_ne.mpr h]
  have w : N.takeWhile (S [45]).cps.contains = [] := tw_false fun c hc => by
    have := h c hc
    rw [z]
    simp
    omega
  unfold sg
  split
  · rw [List.cons_append, List.nil_append, List.takeWhile_cons, z]
    simp only [beq_self_eq_true, if_true, w]
    rfl
  · rw [List.nil_append, w]
    rfl
theorem zfill_num (p n : Nat) : Txt.zfill (S (numL n)) ((p : Int) + 1) = S (zf (p + 1) (numL n)) := by
  unfold Txt.zfill
  rw [S_len]
  split
  · rename_i h
    unfold zf
    rw [show p + 1 - (numL n).length = 0 by omega]
    rfl
  · rename_i h
    have e : ((p : Int) + 1).toNat - (numL n).length = p + 1 - (numL n).length := by omega
    rw [e]
    unfold zfilled
    obtain ⟨c, r, hc⟩ : ∃ c r, numL n = c :: r := by
      cases q : numL n with
      | nil => exact absurd q (TL.numL_ne n)
      | cons c r => exact ⟨c, r, rfl⟩
    have hd := num_dig n c (by rw [hc]; exact List.mem_cons_self)
    have e0 : (S (numL n)).cps[0]? = some c := by rw [hc]; simp
    rw [e0]
    have pd : padded (S (numL n)) (p + 1 - (numL n).length) 0 48 = S (zf (p + 1) (numL n)) := by
      unfold padded zf
      refine TL.ext_tl ?_
      show (Array.replicate _ 48 ++ (numL n).toArray ++ Array.replicate 0 48).toList = _
      simp
    split
    · rename_i h1; injection h1 with h1; omega
    · rename_i h1; injection h1 with h1; omega
    · exact pd
theorem cut_last {A B : List Nat} (h : 0 < B.length) : cutS (S (A ++ B)) none (some (-(B.length : Int))) = S A ∧ cutS (S (A ++ B)) (some (-(B.length : Int))) none = S B := by
  have n1 : (-(B.length : Int)) < 0 := by omega
  have e : ((-(B.length : Int)) + ((A ++ B).length : Int)).toNat = A.length := by rw [List.length_append]; omega
  constructor
  · unfold cutS HT.sIx
    rw [S_len]
    simp only [n1, if_true, e, S_list]
    simp
  · unfold cutS HT.sIx
    rw [S_len]
    simp only [n1, if_true, e, S_list]
    simp
theorem cut_from (A B : List Nat) : cutS (S (A ++ B)) (some (A.length : Int)) none = S B := by
  have n1 : ¬ (A.length : Int) < 0 := by omega
  unfold cutS HT.sIx
  rw [S_len]
  simp only [n1, if_false, S_list, Int.toNat_natCast]
  rw [show min A.length (A ++ B).length = A.length by rw [List.length_append]; omega]
  simp
theorem cut_to (A B : List Nat) : cutS (S (A ++ B)) none (some (A.length : Int)) = S A := by
  have n1 : ¬ (A.length : Int) < 0 := by omega
  unfold cutS HT.sIx
  rw [S_len]
  simp only [n1, if_false, S_list, Int.toNat_natCast]
  rw [show min A.length (A ++ B).length = A.length by rw [List.length_append]; omega]
  simp
theorem cut_one (A : List Nat) (c : Nat) (r : List Nat) : cutS (S (A ++ c :: r)) (some (A.length : Int)) (some ((A.length : Int) + 1)) = S [c] := by
  have n1 : ¬ (A.length : Int) < 0 := by omega
  have n2 : ¬ (A.length : Int) + 1 < 0 := by omega
  unfold cutS HT.sIx
  rw [S_len]
  simp only [n1, n2, if_false, S_list, Int.toNat_natCast]
  rw [show min A.length (A ++ c :: r).length = A.length by rw [List.length_append]; omega, show min (((A.length : Int) + 1).toNat) (A ++ c :: r).length = A.length + 1 by rw [List.length_append, List.length_cons]; omega]
  simp
theorem part_hit {s : Nat} {p rest : List Nat} (h : s ∉ p) : Txt.partition (S (p ++ s :: rest)) (S [s]) = (S p, S [s], S rest) := partition_some (by simp) (by
  have := TL.par_part1 (S := []) (rest := rest) (acc := []) h
  simpa using this)
theorem part_miss {s : Nat} {p : List Nat} (h : s ∉ p) : Txt.partition (S p) (S [s]) = (S p, S [], S []) := partition_none (by simp) (TL.par_none1 h)
theorem str_int (t : Int) : Str.ofString (toString t) = S (sg t ++ numL t.natAbs) := by
  cases t with
  | ofNat n =>
    have := num_S n
    have e : sg (Int.ofNat n) = [] := if_neg (Int.not_lt.mpr (Int.natCast_nonneg n))
    rw [e]
    exact this
  | negSucc n =>
    have e : sg (Int.negSucc n) = [45] := if_pos (by omega)
    rw [e]
    refine TL.ext_tl ?_
    rw [TL.tl_ofString]
    have h := num_S (n + 1)
    have h2 : (toString (((n + 1 : Nat) : Int))).toList.map Char.toNat = numL (n + 1) := by
      have := congrArg TL.tl h
      rw [TL.tl_ofString] at this
      exact this
    show (toString (Int.negSucc n)).toList.map Char.toNat = 45 :: numL (n + 1)
    rw [← h2]
    have e3 : toString (Int.negSucc n) = "-" ++ toString (((n + 1 : Nat) : Int)) := rfl
    rw [e3, String.toList_append]
    rfl
theorem int_sign {c : Nat} (h : 48 ≤ c ∧ c ≤ 57) : PySem.intText? (S [c]) = some ((c : Int) - 48) := by
  rw [int_S (a := [c]) (by simp [h]) (by simp) (by simp)]
  have : NumText.digitsVal [c] = c - 48 := by simp [NumText.digitsVal]
  rw [this]
  congr 1
  omega
theorem dg_lt {l : List Nat} (h : ∀ c ∈ l, 48 ≤ c ∧ c ≤ 57) : ∀ c ∈ l, c < 128 := fun c m => by have := h c m; omega
theorem sg_lt (t : Int) : ∀ c ∈ sg t, c < 128 := fun c m => by
  unfold sg at m
  split at m
  · simp at m; omega
  · cases m
theorem sg_len (t : Int) : (sg t).length ≤ 1 := by unfold sg; split <;> simp
end K01
namespace K01
open PySem PySem.Spec L2 Fw
theorem two_le : 2 ≤ 16777216 := by decide
theorem gcd_ne {t b : Int} (hb : b ≠ 0) : ((Nat.gcd t.natAbs b.natAbs : Nat) : Int) ≠ 0 := by
  have : 0 < Nat.gcd t.natAbs b.natAbs := Nat.gcd_pos_of_pos_right _ (Int.natAbs_pos.mpr hb)
  omega
theorem gcd_small {t b : Int} {n : Nat} (hb : b ≠ 0) (h : b.natAbs < 2 ^ n) : Nat.gcd t.natAbs b.natAbs < 2 ^ n :=
  Nat.lt_of_le_of_lt (Nat.gcd_le_right _ (Int.natAbs_pos.mpr hb)) h
theorem vc_reduced : ∀ ds Q X, p_reduced ds Q X → ms_reduced { nx := fun _ => Q .none, rt := Q, xx := fun x _ => X x } (startE N_reduced ds) := by
  rintro ds Q X ⟨t, b, rfl, hb, hz, q⟩
  simp only [dSeq, dAsg, dRet, dRaise, dRetN, dDrop, dIfS, dSkip, dVar, dC, dOp, dTup, dLst, dCons, dNil, dCB, dCall, dCallS, dCallK, gP, gT, gL, gN, gsNil, gsCons, dTest, dTruth, truD, dNotT, dAndT, dOrT, dAndV, dOrV, dNotV, dIf, dNeg, dAdd, dSub, dMul, dFdiv, dMod, dPow, dI, dLt, dLe, dGt, dGe, dEq, dNe, dIsO, dNotO, dIx, dPar, dFor, iL, iT, iR1, dNew, bLen, bAbs, bInt, bGcd, bTuple, bList, bAll, dType, dNType, dIs, dIs2, startE, List.map_cons, List.map_nil, List.length_cons, List.length_nil, List.cons_append, List.nil_append, List.getElem?_cons_zero, List.getElem?_cons_succ, List.set_cons_zero, List.set_cons_succ, Option.some.injEq, Sl.p.injEq, exists_eq_left', exists_eq_left, Nat.reduceAdd, Nat.reduceSub, List.replicate, forall_const, true_and, and_true, if_true, if_false, Bool.false_eq_true, eq_self, ite_true, ite_false, reduceCtorEq, ms_reduced]
  have g0 := gcd_ne (t := t) hb
  have gs := gcd_small (t := t) hb hz
  have gp : 0 < Nat.gcd t.natAbs b.natAbs := Nat.gcd_pos_of_pos_right _ (Int.natAbs_pos.mpr hb)
  have k : ∀ c : Int, c.natAbs = Nat.gcd t.natAbs b.natAbs → 0 < c * b → DivOk t c ∧ DivOk b c ∧ 2 ≤ 16777216 ∧ Q (.tuple [.int (t.fdiv c), .int (b.fdiv c)]) := fun c e hs => by
    have c0 : c ≠ 0 := by intro z; subst z; simp at hs
    have cs : c.natAbs < 2 ^ 9000 := by rw [e]; exact gs
    refine ⟨div_ok c0 cs (by decide) (by decide) _, div_ok c0 cs (by decide) (by decide) _, two_le, ?_⟩
    rw [red_frac hb e hs]
    exact q
  by_cases c : b < 0
  · rw [if_pos (decide_eq_true c)]
    exact k _ (by simp) (Int.mul_pos_of_neg_of_neg (by omega) c)
  · rw [if_neg (by simpa using c)]
    exact k _ (by simp) (Int.mul_pos (by omega) (by omega))
theorem nat_abs_den (q : Rat) : ((q.den : Int)).natAbs = q.den := by simp
theorem vc_added : ∀ ds Q X, p_added ds Q X → ms_added { nx := fun _ => Q .none, rt := Q, xx := fun x _ => X x } (startE N_added ds) := by
  rintro ds Q X ⟨a, b, rfl, ha, hb, q⟩
  simp only [dSeq, dAsg, dRet, dRaise, dRetN, dDrop, dIfS, dSkip, dVar, dC, dOp, dTup, dLst, dCons, dNil, dCB, dCall, dCallS, dCallK, gP, gT, gL, gN, gsNil, gsCons, dTest, dTruth, truD, dNotT, dAndT, dOrT, dAndV, dOrV, dNotV, dIf, dNeg, dAdd, dSub, dMul, dFdiv, dMod, dPow, dI, dLt, dLe, dGt, dGe, dEq, dNe, dIsO, dNotO, dIx, dPar, dFor, iL, iT, iR1, dNew, bLen, bAbs, bInt, bGcd, bTuple, bList, bAll, dType, dNType, dIs, dIs2, startE, List.map_cons, List.map_nil, List.length_cons, List.length_nil, List.cons_append, List.nil_append, List.getElem?_cons_zero, List.getElem?_cons_succ, List.set_cons_zero, List.set_cons_succ, Option.some.injEq, Sl.p.injEq, exists_eq_left', exists_eq_left, Nat.reduceAdd, Nat.reduceSub, List.replicate, forall_const, true_and, and_true, if_true, if_false, Bool.false_eq_true, eq_self, ite_true, ite_false, reduceCtorEq, ms_added, fr, nat_abs_den]
  have da := a.den_pos
  have db := b.den_pos
  have gpn : 0 < Nat.gcd a.den b.den := Nat.gcd_pos_of_pos_left _ da
  generalize hg : ((Nat.gcd a.den b.den : Nat) : Int) = g
  have g0 : g ≠ 0 := by omega
  have gs : g.natAbs < 2 ^ 4400 := by rw [← hg]; exact Nat.lt_of_le_of_lt (by simpa using Nat.gcd_le_left _ da) ha.2
  obtain ⟨r, hr⟩ : g ∣ (a.den : Int) := by rw [← hg]; exact Int.natCast_dvd_natCast.mpr (Nat.gcd_dvd_left _ _)
  obtain ⟨s, hs⟩ : g ∣ (b.den : Int) := by rw [← hg]; exact Int.natCast_dvd_natCast.mpr (Nat.gcd_dvd_right _ _)
  have fr_ : (a.den : Int).fdiv g = r := by rw [hr]; exact exact_div g0
  have fs_ : (b.den : Int).fdiv g = s := by rw [hs]; exact exact_div g0
  rw [fr_, fs_]
  generalize ht : a.num * s + b.num * r = t
  generalize hh : ((Nat.gcd t.natAbs g.natAbs : Nat) : Int) = h
  obtain ⟨t', g', et, eg, hp, gp, rp, sp, e⟩ := add_frac a b hg.symm hr hs ht.symm hh.symm
  have h0 : h ≠ 0 := by omega
  have hle : h.natAbs < 2 ^ 4400 := by
    rw [← hh]
    exact Nat.lt_of_le_of_lt (by simpa using Nat.gcd_le_right _ (Int.natAbs_pos.mpr g0)) gs
  have rs : r.natAbs < 2 ^ 4400 := by
    refine Nat.lt_of_le_of_lt ?_ ha.2
    have z : a.den = g.natAbs * r.natAbs := by rw [← Int.natAbs_mul, ← hr]; simp
    rw [z]
    exact Nat.le_mul_of_pos_left _ (by omega)
  have ss : s.natAbs < 2 ^ 4400 := by
    refine Nat.lt_of_le_of_lt ?_ hb.2
    have z : b.den = g.natAbs * s.natAbs := by rw [← Int.natAbs_mul, ← hs]; simp
    rw [z]
    exact Nat.le_mul_of_pos_left _ (by omega)
  have e1 : t.fdiv h = t' := by rw [et]; exact exact_div h0
  have e2 : (b.den : Int).fdiv h = s * g' := by
    have : (b.den : Int) = h * (s * g') := by rw [hs, eg]; grind
    rw [this]; exact exact_div h0
  have sgs : (s * g').natAbs < 2 ^ 4400 := by
    refine Nat.lt_of_le_of_lt ?_ hb.2
    have z : b.den = h.natAbs * (s * g').natAbs := by
      rw [← Int.natAbs_mul]
      have : (b.den : Int) = h * (s * g') := by rw [hs, eg]; grind
      rw [← this]; simp
    rw [z]
    exact Nat.le_mul_of_pos_left _ (by omega)
  rw [e1, e2, e]
  have w0 : (0:Nat) < 4400 := by decide
  have w1 : 4400 + 4400 ≤ 1000000 := by decide
  have w9 : 4400 ≤ 9000 := by decide
  exact ⟨div_ok g0 gs w0 w9 _, div_ok g0 gs w0 w9 _, MulOk.w ha.1 ss w0 w0 w1, MulOk.w hb.1 rs w0 w0 w1, div_ok h0 hle w0 w9 _, div_ok h0 hle w0 w9 _, MulOk.w rs sgs w0 w0 w1, two_le, q⟩
end K01
namespace K01
open PySem PySem.Spec L2 Fw
theorem at0 {α : Type} (a : α) (l : List α) : atI (a :: l) 0 = some a := atI_nat (j := 0) (by simp)
theorem at1 {α : Type} (a b : α) (l : List α) : atI (a :: b :: l) 1 = some b := atI_nat (j := 1) (by simp)
theorem at2 {α : Type} (a b c : α) (l : List α) : atI (a :: b :: c :: l) 2 = some c := atI_nat (j := 2) (by simp)
theorem at3 {α : Type} (a b c d : α) (l : List α) : atI (a :: b :: c :: d :: l) 3 = some d := atI_nat (j := 3) (by simp)
theorem fr_neg (b : Rat) : PyData.tuple [.int (-b.num), .int b.den] = fr (-b) := by
  unfold fr
  rw [Rat.neg_num, Rat.neg_den]
theorem sz_neg {b : Rat} {n : Nat} (h : Sz b n) : Sz (-b) n := ⟨by rw [Rat.neg_num, Int.natAbs_neg]; exact h.1, by rw [Rat.neg_den]; exact h.2⟩
theorem shaped_int (i : Int) : SeqAt.shaped (.int i) = true := by
  unfold SeqAt.shaped
  simp [PyData.canLay0, PyData.depth]
theorem fr_shaped (q : Rat) : SeqAt.shaped (fr q) = true := by
  unfold SeqAt.shaped fr
  simp [PyData.canLay0, PyData.canLayAll0, PyData.depth, PyData.depthAll]
theorem eqv_int (i j : Int) : PyData.eqv (.int i) (.int j) = decide (i = j) := by
  simp [PyData.eqv]
  rfl
theorem fr_eqv (a b : Rat) : PyData.eqv (fr a) (fr b) = decide (a = b) := by
  unfold fr
  simp only [PyData.eqv, PyData.eqvAll, Bool.and_true]
  by_cases h : a = b
  · subst h; simp
  · rw [decide_eq_false h]
    have : ¬ (a.num = b.num ∧ (a.den : Int) = b.den) := fun ⟨x, y⟩ => h (Rat.ext x (by omega))
    by_cases c : a.num = b.num
    · have c2 : ¬ (a.den : Int) = b.den := fun z => this ⟨c, z⟩
      rw [beq_eq_false_iff_ne.mpr c2, Bool.and_false]
    · rw [beq_eq_false_iff_ne.mpr c, Bool.false_and]
theorem vc_opposite : ∀ ds Q X, p_opposite ds Q X → ms_opposite { nx := fun _ => Q .none, rt := Q, xx := fun x _ => X x } (startE N_opposite ds) := by
  rintro ds Q X ⟨b, rfl, q⟩
  have e1 : fr b = .tuple [.int b.num, .int b.den] := rfl
  simp only [dSeq, dAsg, dRet, dRaise, dRetN, dDrop, dIfS, dSkip, dVar, dC, dOp, dTup, dLst, dCons, dNil, dCB, dCall, dCallS, dCallK, gP, gT, gL, gN, gsNil, gsCons, dTest, dTruth, truD, dNotT, dAndT, dOrT, dAndV, dOrV, dNotV, dIf, dNeg, dAdd, dSub, dMul, dFdiv, dMod, dPow, dI, dLt, dLe, dGt, dGe, dEq, dNe, dIsO, dNotO, dIx, dPar, dFor, iL, iT, iR1, dNew, bLen, bAbs, bInt, bGcd, bTuple, bList, bAll, dType, dNType, dIs, dIs2, startE, List.map_cons, List.map_nil, List.length_cons, List.length_nil, List.cons_append, List.nil_append, List.getElem?_cons_zero, List.getElem?_cons_succ, List.set_cons_zero, List.set_cons_succ, Option.some.injEq, Sl.p.injEq, exists_eq_left', exists_eq_left, Nat.reduceAdd, Nat.reduceSub, List.replicate, forall_const, true_and, and_true, if_true, if_false, Bool.false_eq_true, eq_self, ite_true, ite_false, reduceCtorEq, ms_opposite, e1, at0, at1]
  refine ⟨two_le, ?_⟩
  rw [fr_neg]
  exact q
theorem vc_subtracted : ∀ ds Q X, p_subtracted ds Q X → ms_subtracted { nx := fun _ => Q .none, rt := Q, xx := fun x _ => X x } (startE N_subtracted ds) := by
  rintro ds Q X ⟨a, b, rfl, ha, hb, q⟩
  simp only [dSeq, dAsg, dRet, dRaise, dRetN, dDrop, dIfS, dSkip, dVar, dC, dOp, dTup, dLst, dCons, dNil, dCB, dCall, dCallS, dCallK, gP, gT, gL, gN, gsNil, gsCons, dTest, dTruth, truD, dNotT, dAndT, dOrT, dAndV, dOrV, dNotV, dIf, dNeg, dAdd, dSub, dMul, dFdiv, dMod, dPow, dI, dLt, dLe, dGt, dGe, dEq, dNe, dIsO, dNotO, dIx, dPar, dFor, iL, iT, iR1, dNew, bLen, bAbs, bInt, bGcd, bTuple, bList, bAll, dType, dNType, dIs, dIs2, startE, List.map_cons, List.map_nil, List.length_cons, List.length_nil, List.cons_append, List.nil_append, List.getElem?_cons_zero, List.getElem?_cons_succ, List.set_cons_zero, List.set_cons_succ, Option.some.injEq, Sl.p.injEq, exists_eq_left', exists_eq_left, Nat.reduceAdd, Nat.reduceSub, List.replicate, forall_const, true_and, and_true, if_true, if_false, Bool.false_eq_true, eq_self, ite_true, ite_false, reduceCtorEq, ms_subtracted]
  refine ⟨b, rfl, a, -b, rfl, ha, sz_neg hb, ?_⟩
  rw [← Rat.sub_eq_add_neg]
  exact q
theorem quo_le {i : Int} {g : Nat} {n : Nat} (h : i.natAbs < 2 ^ n) (hg : 0 < g) (hd : (g : Int) ∣ i) : (i.fdiv g).natAbs < 2 ^ n := by
  obtain ⟨k, rfl⟩ := hd
  rw [Int.mul_fdiv_cancel_left _ (by omega)]
  rw [Int.natAbs_mul] at h
  exact Nat.lt_of_le_of_lt (Nat.le_mul_of_pos_left _ (by simpa using hg)) h
theorem vc_multiplied : ∀ ds Q X, p_multiplied ds Q X → ms_multiplied { nx := fun _ => Q .none, rt := Q, xx := fun x _ => X x } (startE N_multiplied ds) := by
  rintro ds Q X ⟨a, b, rfl, ha, hb, q⟩
  simp only [dSeq, dAsg, dRet, dRaise, dRetN, dDrop, dIfS, dSkip, dVar, dC, dOp, dTup, dLst, dCons, dNil, dCB, dCall, dCallS, dCallK, gP, gT, gL, gN, gsNil, gsCons, dTest, dTruth, truD, dNotT, dAndT, dOrT, dAndV, dOrV, dNotV, dIf, dNeg, dAdd, dSub, dMul, dFdiv, dMod, dPow, dI, dLt, dLe, dGt, dGe, dEq, dNe, dIsO, dNotO, dIx, dPar, dFor, iL, iT, iR1, dNew, bLen, bAbs, bInt, bGcd, bTuple, bList, bAll, dType, dNType, dIs, dIs2, startE, List.map_cons, List.map_nil, List.length_cons, List.length_nil, List.cons_append, List.nil_append, List.getElem?_cons_zero, List.getElem?_cons_succ, List.set_cons_zero, List.set_cons_succ, Option.some.injEq, Sl.p.injEq, exists_eq_left', exists_eq_left, Nat.reduceAdd, Nat.reduceSub, List.replicate, forall_const, true_and, and_true, if_true, if_false, Bool.false_eq_true, eq_self, ite_true, ite_false, reduceCtorEq, ms_multiplied, fr, nat_abs_den]
  have g1 : 0 < Nat.gcd a.num.natAbs b.den := Nat.gcd_pos_of_pos_right _ b.den_pos
  have g2 : 0 < Nat.gcd b.num.natAbs a.den := Nat.gcd_pos_of_pos_right _ a.den_pos
  have w0 : (0:Nat) < 4400 := by decide
  have w1 : 4400 + 4400 ≤ 1000000 := by decide
  have w9 : 4400 ≤ 9000 := by decide
  have s1 : ((Nat.gcd a.num.natAbs b.den : Nat) : Int).natAbs < 2 ^ 4400 := Nat.lt_of_le_of_lt (by simpa using Nat.gcd_le_right _ b.den_pos) hb.2
  have s2 : ((Nat.gcd b.num.natAbs a.den : Nat) : Int).natAbs < 2 ^ 4400 := Nat.lt_of_le_of_lt (by simpa using Nat.gcd_le_right _ a.den_pos) ha.2
  have d1 : ((Nat.gcd a.num.natAbs b.den : Nat) : Int) ∣ a.num := Int.natAbs_dvd_natAbs.mp (by simpa using Nat.gcd_dvd_left _ _)
  have d2 : ((Nat.gcd b.num.natAbs a.den : Nat) : Int) ∣ b.num := Int.natAbs_dvd_natAbs.mp (by simpa using Nat.gcd_dvd_left _ _)
  have d3 : ((Nat.gcd b.num.natAbs a.den : Nat) : Int) ∣ (a.den : Int) := Int.natCast_dvd_natCast.mpr (Nat.gcd_dvd_right _ _)
  have d4 : ((Nat.gcd a.num.natAbs b.den : Nat) : Int) ∣ (b.den : Int) := Int.natCast_dvd_natCast.mpr (Nat.gcd_dvd_right _ _)
  refine ⟨div_ok (by omega) s1 w0 w9 _, div_ok (by omega) s2 w0 w9 _, MulOk.w (quo_le ha.1 g1 d1) (quo_le hb.1 g2 d2) w0 w0 w1, div_ok (by omega) s2 w0 w9 _, div_ok (by omega) s1 w0 w9 _, MulOk.w (quo_le (by simpa using ha.2) g2 d3) (quo_le (by simpa using hb.2) g1 d4) w0 w0 w1, two_le, ?_⟩
  rw [mul_frac]
  exact q
theorem vc_inverse : ∀ ds Q X, p_inverse ds Q X → ms_inverse { nx := fun _ => Q .none, rt := Q, xx := fun x _ => X x } (startE N_inverse ds) := by
  rintro ds Q X ⟨b, rfl, b0, q⟩
  have e := inv_frac b b0
  simp only [dSeq, dAsg, dRet, dRaise, dRetN, dDrop, dIfS, dSkip, dVar, dC, dOp, dTup, dLst, dCons, dNil, dCB, dCall, dCallS, dCallK, gP, gT, gL, gN, gsNil, gsCons, dTest, dTruth, truD, dNotT, dAndT, dOrT, dAndV, dOrV, dNotV, dIf, dNeg, dAdd, dSub, dMul, dFdiv, dMod, dPow, dI, dLt, dLe, dGt, dGe, dEq, dNe, dIsO, dNotO, dIx, dPar, dFor, iL, iT, iR1, dNew, bLen, bAbs, bInt, bGcd, bTuple, bList, bAll, dType, dNType, dIs, dIs2, startE, List.map_cons, List.map_nil, List.length_cons, List.length_nil, List.cons_append, List.nil_append, List.getElem?_cons_zero, List.getElem?_cons_succ, List.set_cons_zero, List.set_cons_succ, Option.some.injEq, Sl.p.injEq, exists_eq_left', exists_eq_left, Nat.reduceAdd, Nat.reduceSub, List.replicate, forall_const, true_and, and_true, if_true, if_false, Bool.false_eq_true, eq_self, ite_true, ite_false, reduceCtorEq, ms_inverse, fr]
  by_cases c : 0 < b.num
  · rw [if_pos c] at e
    rw [if_pos (decide_eq_true c)]
    refine ⟨two_le, ?_⟩
    rw [← e]; exact q
  · rw [if_neg c] at e
    rw [if_neg (by simpa using c)]
    refine ⟨two_le, ?_⟩
    rw [← e]; exact q
theorem sz_inv0 {b : Rat} {m : Nat} (b0 : b ≠ 0) (hb : Sz b m) : Sz b⁻¹ m := by
  have bn : b.num ≠ 0 := fun z => b0 (Rat.num_eq_zero.mp z)
  constructor
  · rw [Rat.num_inv, Int.natAbs_mul]
    have : b.num.sign.natAbs = 1 := Int.natAbs_sign_of_ne_zero bn
    rw [this, Nat.one_mul]
    simpa using hb.2
  · rw [Rat.den_inv, if_neg bn]
    exact hb.1
theorem vc_divided : ∀ ds Q X, p_divided ds Q X → ms_divided { nx := fun _ => Q .none, rt := Q, xx := fun x _ => X x } (startE N_divided ds) := by
  rintro ds Q X ⟨a, b, rfl, ha, hb, b0, q⟩
  simp only [dSeq, dAsg, dRet, dRaise, dRetN, dDrop, dIfS, dSkip, dVar, dC, dOp, dTup, dLst, dCons, dNil, dCB, dCall, dCallS, dCallK, gP, gT, gL, gN, gsNil, gsCons, dTest, dTruth, truD, dNotT, dAndT, dOrT, dAndV, dOrV, dNotV, dIf, dNeg, dAdd, dSub, dMul, dFdiv, dMod, dPow, dI, dLt, dLe, dGt, dGe, dEq, dNe, dIsO, dNotO, dIx, dPar, dFor, iL, iT, iR1, dNew, bLen, bAbs, bInt, bGcd, bTuple, bList, bAll, dType, dNType, dIs, dIs2, startE, List.map_cons, List.map_nil, List.length_cons, List.length_nil, List.cons_append, List.nil_append, List.getElem?_cons_zero, List.getElem?_cons_succ, List.set_cons_zero, List.set_cons_succ, Option.some.injEq, Sl.p.injEq, exists_eq_left', exists_eq_left, Nat.reduceAdd, Nat.reduceSub, List.replicate, forall_const, true_and, and_true, if_true, if_false, Bool.false_eq_true, eq_self, ite_true, ite_false, reduceCtorEq, ms_divided]
  refine ⟨b, rfl, b0, a, b⁻¹, rfl, ha, sz_inv0 b0 hb, ?_⟩
  rw [← Rat.div_def]
  exact q
theorem vc_is_less : ∀ ds Q X, p_is_less ds Q X → ms_is_less { nx := fun _ => Q .none, rt := Q, xx := fun x _ => X x } (startE N_is_less ds) := by
  rintro ds Q X ⟨a, b, rfl, ha, hb, q⟩
  simp only [dSeq, dAsg, dRet, dRaise, dRetN, dDrop, dIfS, dSkip, dVar, dC, dOp, dTup, dLst, dCons, dNil, dCB, dCall, dCallS, dCallK, gP, gT, gL, gN, gsNil, gsCons, dTest, dTruth, truD, dNotT, dAndT, dOrT, dAndV, dOrV, dNotV, dIf, dNeg, dAdd, dSub, dMul, dFdiv, dMod, dPow, dI, dLt, dLe, dGt, dGe, dEq, dNe, dIsO, dNotO, dIx, dPar, dFor, iL, iT, iR1, dNew, bLen, bAbs, bInt, bGcd, bTuple, bList, bAll, dType, dNType, dIs, dIs2, startE, List.map_cons, List.map_nil, List.length_cons, List.length_nil, List.cons_append, List.nil_append, List.getElem?_cons_zero, List.getElem?_cons_succ, List.set_cons_zero, List.set_cons_succ, Option.some.injEq, Sl.p.injEq, exists_eq_left', exists_eq_left, Nat.reduceAdd, Nat.reduceSub, List.replicate, forall_const, true_and, and_true, if_true, if_false, Bool.false_eq_true, eq_self, ite_true, ite_false, reduceCtorEq, ms_is_less, fr, at0, at1]
  have w0 : (0:Nat) < 4400 := by decide
  have w1 : 4400 + 4400 ≤ 1000000 := by decide
  refine ⟨MulOk.w ha.1 (by simpa using hb.2) w0 w0 w1, MulOk.w hb.1 (by simpa using ha.2) w0 w0 w1, ?_⟩
  have : decide (a.num * (b.den : Int) < b.num * a.den) = decide (a < b) := by
    by_cases c : a < b
    · rw [decide_eq_true c, decide_eq_true ((Rat.lt_iff a b).mp c)]
    · rw [decide_eq_false c, decide_eq_false (fun z => c ((Rat.lt_iff a b).mpr z))]
  rw [this]; exact q
theorem vc_is_integer : ∀ ds Q X, p_is_integer ds Q X → ms_is_integer { nx := fun _ => Q .none, rt := Q, xx := fun x _ => X x } (startE N_is_integer ds) := by
  rintro ds Q X ⟨d, rfl, q⟩
  simp only [dSeq, dAsg, dRet, dRaise, dRetN, dDrop, dIfS, dSkip, dVar, dC, dOp, dTup, dLst, dCons, dNil, dCB, dCall, dCallS, dCallK, gP, gT, gL, gN, gsNil, gsCons, dTest, dTruth, truD, dNotT, dAndT, dOrT, dAndV, dOrV, dNotV, dIf, dNeg, dAdd, dSub, dMul, dFdiv, dMod, dPow, dI, dLt, dLe, dGt, dGe, dEq, dNe, dIsO, dNotO, dIx, dPar, dFor, iL, iT, iR1, dNew, bLen, bAbs, bInt, bGcd, bTuple, bList, bAll, dType, dNType, dIs, dIs2, startE, List.map_cons, List.map_nil, List.length_cons, List.length_nil, List.cons_append, List.nil_append, List.getElem?_cons_zero, List.getElem?_cons_succ, List.set_cons_zero, List.set_cons_succ, Option.some.injEq, Sl.p.injEq, exists_eq_left', exists_eq_left, Nat.reduceAdd, Nat.reduceSub, List.replicate, forall_const, true_and, and_true, if_true, if_false, Bool.false_eq_true, eq_self, ite_true, ite_false, reduceCtorEq, ms_is_integer]
  exact q
theorem vc_is_fraction : ∀ ds Q X, p_is_fraction ds Q X → ms_is_fraction { nx := fun _ => Q .none, rt := Q, xx := fun x _ => X x } (startE N_is_fraction ds) := by
  rintro ds Q X ⟨d, rfl, q⟩
  simp only [dSeq, dAsg, dRet, dRaise, dRetN, dDrop, dIfS, dSkip, dVar, dC, dOp, dTup, dLst, dCons, dNil, dCB, dCall, dCallS, dCallK, gP, gT, gL, gN, gsNil, gsCons, dTest, dTruth, truD, dNotT, dAndT, dOrT, dAndV, dOrV, dNotV, dIf, dNeg, dAdd, dSub, dMul, dFdiv, dMod, dPow, dI, dLt, dLe, dGt, dGe, dEq, dNe, dIsO, dNotO, dIx, dPar, dFor, iL, iT, iR1, dNew, bLen, bAbs, bInt, bGcd, bTuple, bList, bAll, dType, dNType, dIs, dIs2, startE, List.map_cons, List.map_nil, List.length_cons, List.length_nil, List.cons_append, List.nil_append, List.getElem?_cons_zero, List.getElem?_cons_succ, List.set_cons_zero, List.set_cons_succ, Option.some.injEq, Sl.p.injEq, exists_eq_left', exists_eq_left, Nat.reduceAdd, Nat.reduceSub, List.replicate, forall_const, true_and, and_true, if_true, if_false, Bool.false_eq_true, eq_self, ite_true, ite_false, reduceCtorEq, ms_is_fraction, p_is_integer]
  cases d with
  | tuple xs =>
    simp only [tyD, shaped_int, eqv_int]
    rcases xs with _ | ⟨x, _ | ⟨y, _ | ⟨z, r⟩⟩⟩
    · simpa [isFr] using q
    · simpa [isFr] using q
    · cases x <;> cases y <;> simp_all [isFr, tyD, shaped_int, eqv_int]
      rename_i t b
      by_cases c : 1 ≤ b
      · simp_all
        exact_mod_cast q
      · simp_all
        intro z
        omega
    · have : ¬ ((r.length : Int) + 1 + 1 + 1 = 2) := by omega
      simpa [isFr, this] using q
  | _ => simpa [isFr, tyD] using q
end K01
namespace K01
open PySem PySem.Spec L2 Fw
theorem isFr_fr (q : Rat) : isFr (fr q) = true := by
  unfold fr isFr
  have h1 : (1 : Int) ≤ q.den := den_pos q
  have h2 : Nat.gcd q.num.natAbs (q.den : Int).natAbs = 1 := by simpa using q.reduced
  simp [h2]
  exact ⟨h1, by simpa using h2⟩
theorem isFr_of {d : D} (h : isFr d = true) : ∃ q, d = fr q := by
  unfold isFr at h
  split at h
  · rename_i t b
    rw [Bool.and_eq_true, decide_eq_true_eq, decide_eq_true_eq] at h
    exact ⟨_, fr_eq (by omega) h.2⟩
  · cases h
theorem fr_inj {a b : Rat} (h : fr a = fr b) : a = b := by
  unfold fr at h
  injection h with h
  injection h with h1 h
  injection h with h2 _
  injection h1 with h1
  injection h2 with h2
  exact Rat.ext h1 (by omega)
theorem vc_check_fraction : ∀ ds Q X, p_check_fraction ds Q X → ms_check_fraction { nx := fun _ => Q .none, rt := Q, xx := fun x _ => X x } (startE N_check_fraction ds) := by
  rintro ds Q X ⟨d, rfl, h, q⟩
  simp only [dSeq, dAsg, dRet, dRaise, dRetN, dDrop, dIfS, dSkip, dVar, dC, dOp, dTup, dLst, dCons, dNil, dCB, dCall, dCallS, dCallK, gP, gT, gL, gN, gsNil, gsCons, dTest, dTruth, truD, dNotT, dAndT, dOrT, dAndV, dOrV, dNotV, dIf, dNeg, dAdd, dSub, dMul, dFdiv, dMod, dPow, dI, dLt, dLe, dGt, dGe, dEq, dNe, dIsO, dNotO, dIx, dPar, dFor, iL, iT, iR1, dNew, bLen, bAbs, bInt, bGcd, bTuple, bList, bAll, dType, dNType, dIs, dIs2, startE, List.map_cons, List.map_nil, List.length_cons, List.length_nil, List.cons_append, List.nil_append, List.getElem?_cons_zero, List.getElem?_cons_succ, List.set_cons_zero, List.set_cons_succ, Option.some.injEq, Sl.p.injEq, exists_eq_left', exists_eq_left, Nat.reduceAdd, Nat.reduceSub, List.replicate, forall_const, true_and, and_true, if_true, if_false, Bool.false_eq_true, eq_self, ite_true, ite_false, reduceCtorEq, ms_check_fraction, p_is_fraction]
  refine ⟨_, rfl, ?_⟩
  cases c : isFr d with
  | true => simpa [c] using h c
  | false => simpa [c, cF] using q c
theorem vc_check_both : ∀ ds Q X, p_check_both ds Q X → ms_check_both { nx := fun _ => Q .none, rt := Q, xx := fun x _ => X x } (startE N_check_both ds) := by
  rintro ds Q X ⟨d, e, rfl, h, q⟩
  simp only [dSeq, dAsg, dRet, dRaise, dRetN, dDrop, dIfS, dSkip, dVar, dC, dOp, dTup, dLst, dCons, dNil, dCB, dCall, dCallS, dCallK, gP, gT, gL, gN, gsNil, gsCons, dTest, dTruth, truD, dNotT, dAndT, dOrT, dAndV, dOrV, dNotV, dIf, dNeg, dAdd, dSub, dMul, dFdiv, dMod, dPow, dI, dLt, dLe, dGt, dGe, dEq, dNe, dIsO, dNotO, dIx, dPar, dFor, iL, iT, iR1, dNew, bLen, bAbs, bInt, bGcd, bTuple, bList, bAll, dType, dNType, dIs, dIs2, startE, List.map_cons, List.map_nil, List.length_cons, List.length_nil, List.cons_append, List.nil_append, List.getElem?_cons_zero, List.getElem?_cons_succ, List.set_cons_zero, List.set_cons_succ, Option.some.injEq, Sl.p.injEq, exists_eq_left', exists_eq_left, Nat.reduceAdd, Nat.reduceSub, List.replicate, forall_const, true_and, and_true, if_true, if_false, Bool.false_eq_true, eq_self, ite_true, ite_false, reduceCtorEq, ms_check_both, p_check_fraction]
  refine ⟨_, rfl, fun c => ⟨_, rfl, fun c2 => h (by rw [c, c2]; rfl), fun c2 => q (by rw [c, c2]; rfl)⟩, fun c => q (by rw [c]; rfl)⟩
theorem int_ty {d : D} (h : tyD d = "int") : ∃ i, d = .int i := by
  cases d <;> simp [tyD] at h
  exact ⟨_, rfl⟩
theorem vc_check_count : ∀ ds Q X, p_check_count ds Q X → ms_check_count { nx := fun _ => Q .none, rt := Q, xx := fun x _ => X x } (startE N_check_count ds) := by
  rintro ds Q X ⟨d, lo, hi, rfl, h, q⟩
  simp only [dSeq, dAsg, dRet, dRaise, dRetN, dDrop, dIfS, dSkip, dVar, dC, dOp, dTup, dLst, dCons, dNil, dCB, dCall, dCallS, dCallK, gP, gT, gL, gN, gsNil, gsCons, dTest, dTruth, truD, dNotT, dAndT, dOrT, dAndV, dOrV, dNotV, dIf, dNeg, dAdd, dSub, dMul, dFdiv, dMod, dPow, dI, dLt, dLe, dGt, dGe, dEq, dNe, dIsO, dNotO, dIx, dPar, dFor, iL, iT, iR1, dNew, bLen, bAbs, bInt, bGcd, bTuple, bList, bAll, dType, dNType, dIs, dIs2, startE, List.map_cons, List.map_nil, List.length_cons, List.length_nil, List.cons_append, List.nil_append, List.getElem?_cons_zero, List.getElem?_cons_succ, List.set_cons_zero, List.set_cons_succ, Option.some.injEq, Sl.p.injEq, exists_eq_left', exists_eq_left, Nat.reduceAdd, Nat.reduceSub, List.replicate, forall_const, true_and, and_true, if_true, if_false, Bool.false_eq_true, eq_self, ite_true, ite_false, reduceCtorEq, ms_check_count, p_is_integer, dChain]
  refine ⟨_, rfl, ?_⟩
  cases d with
  | int i =>
    simp only [tyD, decide_true, Bool.not_true, Bool.false_eq_true, if_false]
    by_cases c1 : lo ≤ i
    · rw [if_pos (decide_eq_true c1)]
      by_cases c2 : i ≤ hi
      · have := h (by simp [cntOk, c1, c2])
        simpa [c2] using this
      · have := q (by simp [cntOk, c1, c2])
        simpa [c2, cC] using this
    · rw [if_neg (by simpa using c1)]
      have := q (by simp [cntOk, c1])
      simpa [cC] using this
  | _ =>
    have := q rfl
    simpa [tyD, cC] using this
theorem vc_fraction : ∀ ds Q X, p_fraction ds Q X → ms_fraction { nx := fun _ => Q .none, rt := Q, xx := fun x _ => X x } (startE N_fraction ds) := by
  rintro ds Q X ⟨d, e, rfl, h, q⟩
  simp only [dSeq, dAsg, dRet, dRaise, dRetN, dDrop, dIfS, dSkip, dVar, dC, dOp, dTup, dLst, dCons, dNil, dCB, dCall, dCallS, dCallK, gP, gT, gL, gN, gsNil, gsCons, dTest, dTruth, truD, dNotT, dAndT, dOrT, dAndV, dOrV, dNotV, dIf, dNeg, dAdd, dSub, dMul, dFdiv, dMod, dPow, dI, dLt, dLe, dGt, dGe, dEq, dNe, dIsO, dNotO, dIx, dPar, dFor, iL, iT, iR1, dNew, bLen, bAbs, bInt, bGcd, bTuple, bList, bAll, dType, dNType, dIs, dIs2, startE, List.map_cons, List.map_nil, List.length_cons, List.length_nil, List.cons_append, List.nil_append, List.getElem?_cons_zero, List.getElem?_cons_succ, List.set_cons_zero, List.set_cons_succ, Option.some.injEq, Sl.p.injEq, exists_eq_left', exists_eq_left, Nat.reduceAdd, Nat.reduceSub, List.replicate, forall_const, true_and, and_true, if_true, if_false, Bool.false_eq_true, eq_self, ite_true, ite_false, reduceCtorEq, ms_fraction, p_is_integer]
  refine ⟨_, rfl, ?_⟩
  cases d with
  | int t =>
    simp only [tyD, decide_true, Bool.not_true, Bool.false_eq_true, if_false]
    refine ⟨_, rfl, ?_⟩
    cases e with
    | int b =>
      simp only [tyD, decide_true, Bool.not_true, Bool.false_eq_true, if_false]
      refine ⟨shaped_int _, shaped_int _, ?_⟩
      rw [eqv_int]
      by_cases c : b = 0
      · rw [if_pos (decide_eq_true c)]
        exact q (by simp [fracOk, c])
      · rw [if_neg (by simpa using c)]
        obtain ⟨h1, h2⟩ := h t b rfl rfl c
        exact ⟨t, b, rfl, c, h1, h2⟩
    | _ =>
      have := q rfl
      simpa [tyD, cF] using this
  | _ =>
    have := q rfl
    simpa [tyD, cF] using this
theorem two_frs {d e : D} (h : (isFr d && isFr e) = true) : ∃ a b, d = fr a ∧ e = fr b := by
  rw [Bool.and_eq_true] at h
  obtain ⟨a, rfl⟩ := isFr_of h.1
  obtain ⟨b, rfl⟩ := isFr_of h.2
  exact ⟨a, b, rfl, rfl⟩
theorem vc_plus : ∀ ds Q X, p_plus ds Q X → ms_plus { nx := fun _ => Q .none, rt := Q, xx := fun x _ => X x } (startE N_plus ds) := by
  rintro ds Q X ⟨d, e, rfl, h, q⟩
  simp only [dSeq, dAsg, dRet, dRaise, dRetN, dDrop, dIfS, dSkip, dVar, dC, dOp, dTup, dLst, dCons, dNil, dCB, dCall, dCallS, dCallK, gP, gT, gL, gN, gsNil, gsCons, dTest, dTruth, truD, dNotT, dAndT, dOrT, dAndV, dOrV, dNotV, dIf, dNeg, dAdd, dSub, dMul, dFdiv, dMod, dPow, dI, dLt, dLe, dGt, dGe, dEq, dNe, dIsO, dNotO, dIx, dPar, dFor, iL, iT, iR1, dNew, bLen, bAbs, bInt, bGcd, bTuple, bList, bAll, dType, dNType, dIs, dIs2, startE, List.map_cons, List.map_nil, List.length_cons, List.length_nil, List.cons_append, List.nil_append, List.getElem?_cons_zero, List.getElem?_cons_succ, List.set_cons_zero, List.set_cons_succ, Option.some.injEq, Sl.p.injEq, exists_eq_left', exists_eq_left, Nat.reduceAdd, Nat.reduceSub, List.replicate, forall_const, true_and, and_true, if_true, if_false, Bool.false_eq_true, eq_self, ite_true, ite_false, reduceCtorEq, ms_plus]
  refine ⟨_, _, rfl, fun c => ?_, q⟩
  obtain ⟨a, b, rfl, rfl⟩ := two_frs c
  exact ⟨a, b, rfl, h a b rfl rfl⟩
theorem vc_minus : ∀ ds Q X, p_minus ds Q X → ms_minus { nx := fun _ => Q .none, rt := Q, xx := fun x _ => X x } (startE N_minus ds) := by
  rintro ds Q X ⟨d, e, rfl, h, q⟩
  simp only [dSeq, dAsg, dRet, dRaise, dRetN, dDrop, dIfS, dSkip, dVar, dC, dOp, dTup, dLst, dCons, dNil, dCB, dCall, dCallS, dCallK, gP, gT, gL, gN, gsNil, gsCons, dTest, dTruth, truD, dNotT, dAndT, dOrT, dAndV, dOrV, dNotV, dIf, dNeg, dAdd, dSub, dMul, dFdiv, dMod, dPow, dI, dLt, dLe, dGt, dGe, dEq, dNe, dIsO, dNotO, dIx, dPar, dFor, iL, iT, iR1, dNew, bLen, bAbs, bInt, bGcd, bTuple, bList, bAll, dType, dNType, dIs, dIs2, startE, List.map_cons, List.map_nil, List.length_cons, List.length_nil, List.cons_append, List.nil_append, List.getElem?_cons_zero, List.getElem?_cons_succ, List.set_cons_zero, List.set_cons_succ, Option.some.injEq, Sl.p.injEq, exists_eq_left', exists_eq_left, Nat.reduceAdd, Nat.reduceSub, List.replicate, forall_const, true_and, and_true, if_true, if_false, Bool.false_eq_true, eq_self, ite_true, ite_false, reduceCtorEq, ms_minus]
  refine ⟨_, _, rfl, fun c => ?_, q⟩
  obtain ⟨a, b, rfl, rfl⟩ := two_frs c
  exact ⟨a, b, rfl, h a b rfl rfl⟩
theorem vc_times : ∀ ds Q X, p_times ds Q X → ms_times { nx := fun _ => Q .none, rt := Q, xx := fun x _ => X x } (startE N_times ds) := by
  rintro ds Q X ⟨d, e, rfl, h, q⟩
  simp only [dSeq, dAsg, dRet, dRaise, dRetN, dDrop, dIfS, dSkip, dVar, dC, dOp, dTup, dLst, dCons, dNil, dCB, dCall, dCallS, dCallK, gP, gT, gL, gN, gsNil, gsCons, dTest, dTruth, truD, dNotT, dAndT, dOrT, dAndV, dOrV, dNotV, dIf, dNeg, dAdd, dSub, dMul, dFdiv, dMod, dPow, dI, dLt, dLe, dGt, dGe, dEq, dNe, dIsO, dNotO, dIx, dPar, dFor, iL, iT, iR1, dNew, bLen, bAbs, bInt, bGcd, bTuple, bList, bAll, dType, dNType, dIs, dIs2, startE, List.map_cons, List.map_nil, List.length_cons, List.length_nil, List.cons_append, List.nil_append, List.getElem?_cons_zero, List.getElem?_cons_succ, List.set_cons_zero, List.set_cons_succ, Option.some.injEq, Sl.p.injEq, exists_eq_left', exists_eq_left, Nat.reduceAdd, Nat.reduceSub, List.replicate, forall_const, true_and, and_true, if_true, if_false, Bool.false_eq_true, eq_self, ite_true, ite_false, reduceCtorEq, ms_times]
  refine ⟨_, _, rfl, fun c => ?_, q⟩
  obtain ⟨a, b, rfl, rfl⟩ := two_frs c
  exact ⟨a, b, rfl, h a b rfl rfl⟩
theorem vc_below : ∀ ds Q X, p_below ds Q X → ms_below { nx := fun _ => Q .none, rt := Q, xx := fun x _ => X x } (startE N_below ds) := by
  rintro ds Q X ⟨d, e, rfl, h, q⟩
  simp only [dSeq, dAsg, dRet, dRaise, dRetN, dDrop, dIfS, dSkip, dVar, dC, dOp, dTup, dLst, dCons, dNil, dCB, dCall, dCallS, dCallK, gP, gT, gL, gN, gsNil, gsCons, dTest, dTruth, truD, dNotT, dAndT, dOrT, dAndV, dOrV, dNotV, dIf, dNeg, dAdd, dSub, dMul, dFdiv, dMod, dPow, dI, dLt, dLe, dGt, dGe, dEq, dNe, dIsO, dNotO, dIx, dPar, dFor, iL, iT, iR1, dNew, bLen, bAbs, bInt, bGcd, bTuple, bList, bAll, dType, dNType, dIs, dIs2, startE, List.map_cons, List.map_nil, List.length_cons, List.length_nil, List.cons_append, List.nil_append, List.getElem?_cons_zero, List.getElem?_cons_succ, List.set_cons_zero, List.set_cons_succ, Option.some.injEq, Sl.p.injEq, exists_eq_left', exists_eq_left, Nat.reduceAdd, Nat.reduceSub, List.replicate, forall_const, true_and, and_true, if_true, if_false, Bool.false_eq_true, eq_self, ite_true, ite_false, reduceCtorEq, ms_below]
  refine ⟨_, _, rfl, fun c => ?_, q⟩
  obtain ⟨a, b, rfl, rfl⟩ := two_frs c
  exact ⟨a, b, rfl, h a b rfl rfl⟩
theorem zero_fr : PyData.tuple [.int 0, .int 1] = fr 0 := rfl
theorem vc_over : ∀ ds Q X, p_over ds Q X → ms_over { nx := fun _ => Q .none, rt := Q, xx := fun x _ => X x } (startE N_over ds) := by
  rintro ds Q X ⟨d, e, rfl, h, q⟩
  simp only [dSeq, dAsg, dRet, dRaise, dRetN, dDrop, dIfS, dSkip, dVar, dC, dOp, dTup, dLst, dCons, dNil, dCB, dCall, dCallS, dCallK, gP, gT, gL, gN, gsNil, gsCons, dTest, dTruth, truD, dNotT, dAndT, dOrT, dAndV, dOrV, dNotV, dIf, dNeg, dAdd, dSub, dMul, dFdiv, dMod, dPow, dI, dLt, dLe, dGt, dGe, dEq, dNe, dIsO, dNotO, dIx, dPar, dFor, iL, iT, iR1, dNew, bLen, bAbs, bInt, bGcd, bTuple, bList, bAll, dType, dNType, dIs, dIs2, startE, List.map_cons, List.map_nil, List.length_cons, List.length_nil, List.cons_append, List.nil_append, List.getElem?_cons_zero, List.getElem?_cons_succ, List.set_cons_zero, List.set_cons_succ, Option.some.injEq, Sl.p.injEq, exists_eq_left', exists_eq_left, Nat.reduceAdd, Nat.reduceSub, List.replicate, forall_const, true_and, and_true, if_true, if_false, Bool.false_eq_true, eq_self, ite_true, ite_false, reduceCtorEq, ms_over, c_NOUGHT, zero_fr]
  refine ⟨_, _, rfl, fun c => ?_, q⟩
  obtain ⟨a, b, rfl, rfl⟩ := two_frs c
  obtain ⟨h1, h2, h3, h4⟩ := h a b rfl rfl
  refine ⟨fr_shaped _, fr_shaped _, ?_⟩
  rw [fr_eqv]
  by_cases b0 : b = 0
  · rw [if_pos (decide_eq_true b0)]
    exact h4 b0
  · rw [if_neg (by simpa using b0)]
    exact ⟨a, b, rfl, h1, h2, b0, h3 b0⟩
/-! sizes -/
theorem sz_mono {q : Rat} {n m : Nat} (h : Sz q n) (l : n ≤ m) : Sz q m := ⟨Nat.lt_of_lt_of_le h.1 (Nat.pow_le_pow_right (by decide) l), Nat.lt_of_lt_of_le h.2 (Nat.pow_le_pow_right (by decide) l)⟩
theorem divInt_sz {n d : Int} {k : Nat} (hd : d ≠ 0) (hn : n.natAbs < 2 ^ k) (h : d.natAbs < 2 ^ k) : Sz (Rat.divInt n d) k := by
  constructor
  · rw [Rat.num_divInt]
    refine Nat.lt_of_le_of_lt ?_ hn
    have : (d.sign * n / (d.gcd n : Int)).natAbs ≤ (d.sign * n).natAbs := by
      rw [Int.natAbs_ediv_of_dvd]
      · exact Nat.div_le_self _ _
      · exact Int.dvd_mul_of_dvd_right (Int.gcd_dvd_right _ _)
    refine Nat.le_trans this ?_
    rw [Int.natAbs_mul, Int.natAbs_sign_of_ne_zero hd]
    omega
  · rw [Rat.den_divInt, if_neg hd]
    exact Nat.lt_of_le_of_lt (Nat.div_le_self _ _) h
theorem sz_add {a b : Rat} {n m : Nat} (ha : Sz a n) (hb : Sz b m) : Sz (a + b) (n + m + 1) := by
  have e : a + b = Rat.divInt (a.num * b.den + b.num * a.den) (a.den * b.den) := by
    rw [Rat.add_def', ← Rat.divInt_ofNat]; simp
  rw [e]
  have da := den_pos a
  have db := den_pos b
  have p2 : 2 ^ (n + m + 1) = 2 ^ (n + m) + 2 ^ (n + m) := by rw [Nat.pow_succ]; omega
  refine divInt_sz ?_ ?_ ?_
  · have := Int.mul_pos da db
    omega
  · have x := wide_lt (i := a.num) (j := (b.den : Int)) ha.1 (by simpa using hb.2)
    have y := wide_lt (i := b.num) (j := (a.den : Int)) hb.1 (by simpa using ha.2)
    rw [Nat.add_comm m n] at y
    have := Int.natAbs_add_le (a.num * b.den) (b.num * a.den)
    omega
  · have x := wide_lt (i := (a.den : Int)) (j := (b.den : Int)) (by simpa using ha.2) (by simpa using hb.2)
    omega
theorem sz_mul {a b : Rat} {n m : Nat} (ha : Sz a n) (hb : Sz b m) : Sz (a * b) (n + m) := by
  have e : a * b = Rat.divInt (a.num * b.num) (a.den * b.den) := by
    rw [Rat.mul_def', ← Rat.divInt_ofNat]; simp
  rw [e]
  have da := den_pos a
  have db := den_pos b
  refine divInt_sz ?_ (wide_lt ha.1 hb.1) (wide_lt (by simpa using ha.2) (by simpa using hb.2))
  have := Int.mul_pos da db
  omega
theorem sz_sub {a b : Rat} {n m : Nat} (ha : Sz a n) (hb : Sz b m) : Sz (a - b) (n + m + 1) := by
  rw [Rat.sub_eq_add_neg]
  exact sz_add ha (sz_neg hb)
theorem sz_inv {b : Rat} {m : Nat} (b0 : b ≠ 0) (hb : Sz b m) : Sz b⁻¹ m := by
  have e := Rat.num_divInt_den b
  have e2 : b⁻¹ = Rat.divInt b.den b.num := by
    conv => lhs; rw [← e]
    rw [Rat.inv_divInt]
  rw [e2]
  exact divInt_sz (fun z => b0 (Rat.num_eq_zero.mp z)) (by simpa using hb.2) hb.1
theorem sz_div {a b : Rat} {n m : Nat} (ha : Sz a n) (hb : Sz b m) (b0 : b ≠ 0) : Sz (a / b) (n + m) := by
  rw [Rat.div_def]
  exact sz_mul ha (sz_inv b0 hb)
theorem sz_zero : Sz 0 1 := by constructor <;> decide
end K01
namespace K01
open PySem PySem.Spec L2 Fw SX
theorem log_lt {n k : Nat} (h : n < 2 ^ k) (h0 : 0 < k) : n.log2 < k := by
  by_cases z : n = 0
  · subst z; simpa using h0
  · exact (Nat.log2_lt z).mpr h
theorem str_small (i : Int) (h : i.natAbs.log2 < 1920) : (Str.ofString (toString i)).length ≤ 2000 := by
  have e := int_text_length_le (k := 1920) (by decide) h
  rw [ofString_length]
  omega
theorem fdiv_nat' (x y : Nat) : (x : Int).fdiv y = ((x / y : Nat) : Int) := by
  rw [Int.fdiv_eq_ediv_of_nonneg _ (Int.natCast_nonneg y)]
  simp
theorem fmod_nat0 (x y : Nat) : (x : Int).fmod y = ((x % y : Nat) : Int) := by
  rw [Int.fmod_eq_emod_of_nonneg _ (Int.natCast_nonneg _)]
  rfl
theorem str_nat (n : Nat) : Str.ofString (toString ((n : Nat) : Int)) = S (numL n) := num_S n
theorem numL_small {n : Nat} (h : n < 2 ^ 1500) : (numL n).length ≤ 2000 := by
  have := str_small (n : Int) (by
    show n.log2 < 1920
    exact Nat.lt_trans (log_lt h (by decide)) (by decide))
  rw [str_nat, S_len] at this
  exact this
/-! ### a whole number's text, part by part -/
theorem num_cut : ∀ (p n : Nat), 10 ^ p ≤ n → numL n = numL (n / 10 ^ p) ++ pad p n
  | 0, n, _ => by simp [pad]
  | p + 1, n, h => by
    have e : 10 ^ (p + 1) = 10 * 10 ^ p := by rw [Nat.pow_succ, Nat.mul_comm]
    have hp : 0 < 10 ^ p := Nat.pow_pos (by decide)
    have h1 : 10 ^ p ≤ n / 10 := by
      rw [Nat.le_div_iff_mul_le (by decide)]
      omega
    rw [show numL n = numL (n / 10) ++ [48 + n % 10] from TL.numL_step (by omega), num_cut p (n / 10) h1, pad, List.append_assoc, Nat.div_div_eq_div_mul, e]
theorem pad_cut : ∀ (p n : Nat), pad (p + 1) n = (48 + n / 10 ^ p % 10) :: pad p n
  | 0, n => by simp [pad]
  | p + 1, n => by
    rw [pad, pad_cut p (n / 10), Nat.div_div_eq_div_mul, List.cons_append]
    have e : 10 * 10 ^ p = 10 ^ (p + 1) := by rw [Nat.pow_succ, Nat.mul_comm]
    rw [e]
    rfl
theorem pad_mod : ∀ (p n : Nat), pad p (n % 10 ^ p) = pad p n
  | 0, n => rfl
  | p + 1, n => by
    have e : 10 ^ (p + 1) = 10 * 10 ^ p := by rw [Nat.pow_succ, Nat.mul_comm]
    have e1 : n % 10 ^ (p + 1) / 10 = n / 10 % 10 ^ p := by rw [e, Nat.mod_mul_right_div_self]
    have e2 : n % 10 ^ (p + 1) % 10 = n % 10 := Nat.mod_mod_of_dvd _ (by rw [e]; exact Nat.dvd_mul_right _ _)
    rw [pad, e1, e2, pad_mod p (n / 10), pad]
theorem zf_pad {p n : Nat} (h : n < 10 ^ (p + 1)) : zf (p + 1) (numL n) = pad (p + 1) n := by
  have h1 : n / 10 ^ p < 10 := by
    rw [Nat.div_lt_iff_lt_mul (Nat.pow_pos (by decide))]
    rw [Nat.pow_succ] at h
    omega
  rw [zf_num, pad_cut, Nat.mod_eq_of_lt h1, show numL (n / 10 ^ p) = [48 + n / 10 ^ p] from TL.numL_lt h1]
  rfl
theorem chunk (n : Nat) : Txt.zfill (Str.ofString (toString ((n % 10 ^ 64 : Nat) : Int))) 64 = S (pad 64 n) := by
  have z := zfill_num 63 (n % 10 ^ 64)
  rw [show (((63 : Nat) : Int) + 1) = 64 from rfl] at z
  rw [str_nat, z, zf_pad (Nat.mod_lt _ (Nat.pow_pos (by decide))), pad_mod]
theorem joinL_nil : ∀ ls : List (List Nat), TL.joinL [] ls = ls.flatten
  | [] => rfl
  | [p] => by simp [TL.joinL]
  | p :: q :: r => by
    show p ++ ([] ++ TL.joinL [] (q :: r)) = _
    rw [joinL_nil (q :: r)]
    rfl
theorem join_S (ls : List (List Nat)) : Txt.join (Str.ofString "") (ls.map S) = S ls.flatten := by
  rw [s_none, TL.join_eq]
  refine TL.ext_tl ?_
  rw [TL.tl_join, List.map_map]
  have e : ls.map (TL.tl ∘ S) = ls := by
    conv => rhs; rw [← List.map_id ls]
    exact List.map_congr_left fun x _ => rfl
  rw [e]
  exact joinL_nil ls
theorem strs_map : ∀ ls : List (List Nat), strsOf (ls.map fun l => PyData.str (S l)) = some (ls.map S)
  | [] => rfl
  | l :: r => by
    rw [List.map_cons]
    unfold strsOf
    rw [strs_map r]
    rfl
theorem sum_len : ∀ ls : List (List Nat), ((ls.map S).map (·.length)).sum = ls.flatten.length
  | [] => rfl
  | l :: r => by
    rw [List.map_cons, List.map_cons, List.sum_cons, sum_len r, S_len, List.flatten_cons, List.length_append]
theorem ten64 : (10 : Int) ^ (64 : Int).toNat = ((10 ^ 64 : Nat) : Int) := by decide +kernel
theorem vc_whole_text : ∀ ds Q X, p_whole_text ds Q X → ms_whole_text { nx := fun _ => Q .none, rt := Q, xx := fun x _ => X x } (startE N_whole_text ds) := by
  rintro ds Q X ⟨N, rfl, hN, q⟩
  simp only [dSeq, dAsg, dRet, dRaise, dRetN, dDrop, dIfS, dSkip, dVar, dC, dOp, dTup, dLst, dCons, dNil, dCB, dCall, dCallS, dCallK, gP, gT, gL, gN, gsNil, gsCons, dTest, dTruth, truD, dNotT, dAndT, dOrT, dAndV, dOrV, dNotV, dIf, dNeg, dAdd, dSub, dMul, dFdiv, dMod, dPow, dI, dLt, dLe, dGt, dGe, dEq, dNe, dIsO, dNotO, dIx, dPar, dFor, iL, iT, iR1, dNew, bLen, bAbs, bInt, bGcd, bTuple, bList, bAll, dType, dNType, dIs, dIs2, startE, List.map_cons, List.map_nil, List.length_cons, List.length_nil, List.cons_append, List.nil_append, List.getElem?_cons_zero, List.getElem?_cons_succ, List.set_cons_zero, List.set_cons_succ, Option.some.injEq, Sl.p.injEq, exists_eq_left', exists_eq_left, Nat.reduceAdd, Nat.reduceSub, List.replicate, forall_const, true_and, and_true, if_true, if_false, Bool.false_eq_true, eq_self, ite_true, ite_false, reduceCtorEq, ms_whole_text, dAsgO, mLst, dWhile, dApp, dBM, bStrInt, mZfill, ten64]
  refine ⟨by decide, by decide, ?_⟩
  refine ⟨fun es => ∃ (n : Nat) (ls : List (List Nat)), es = [.p (.int n), .o (ls.map fun l => PyData.str (S l))] ∧ n ≤ N ∧ ls.length + (numL n).length ≤ 3000 ∧ numL N = numL n ++ ls.reverse.flatten, fun es => match es with
    | .p (.int n) :: _ => n.toNat
    | _ => 0, ⟨N, [], rfl, Nat.le_refl _, by have := numL_small hN; simp; omega, by simp⟩, ?_⟩
  rintro es ⟨n, ls, rfl, hn, hl, he⟩
  have cp : CPow 10 64 := ⟨by decide, by decide, by decide⟩
  have dk : Fw.DivOk (n : Int) ((10 ^ 64 : Nat) : Int) := ⟨by decide +kernel, by decide +kernel⟩
  simp only [dSeq, dAsg, dRet, dRaise, dRetN, dDrop, dIfS, dSkip, dVar, dC, dOp, dTup, dLst, dCons, dNil, dCB, dCall, dCallS, dCallK, gP, gT, gL, gN, gsNil, gsCons, dTest, dTruth, truD, dNotT, dAndT, dOrT, dAndV, dOrV, dNotV, dIf, dNeg, dAdd, dSub, dMul, dFdiv, dMod, dPow, dI, dLt, dLe, dGt, dGe, dEq, dNe, dIsO, dNotO, dIx, dPar, dFor, iL, iT, iR1, dNew, bLen, bAbs, bInt, bGcd, bTuple, bList, bAll, dType, dNType, dIs, dIs2, startE, List.map_cons, List.map_nil, List.length_cons, List.length_nil, List.cons_append, List.nil_append, List.getElem?_cons_zero, List.getElem?_cons_succ, List.set_cons_zero, List.set_cons_succ, Option.some.injEq, Sl.p.injEq, exists_eq_left', exists_eq_left, Nat.reduceAdd, Nat.reduceSub, List.replicate, forall_const, true_and, and_true, if_true, if_false, Bool.false_eq_true, eq_self, ite_true, ite_false, reduceCtorEq, dApp, dBM, bStrInt, mZfill, ten64]
  refine ⟨cp, ?_⟩
  by_cases c : 10 ^ 64 ≤ n
  · rw [decide_eq_true (by exact_mod_cast c)]
    rw [if_pos rfl]
    have em : ((n : Nat) : Int).fmod ((10 ^ 64 : Nat) : Int) = ((n % 10 ^ 64 : Nat) : Int) := fmod_nat0 _ _
    have ef : ((n : Nat) : Int).fdiv ((10 ^ 64 : Nat) : Int) = ((n / 10 ^ 64 : Nat) : Int) := fdiv_nat' _ _
    have lg : ((n % 10 ^ 64 : Nat) : Int).natAbs.log2 < 1920 := Nat.lt_trans (log_lt (k := 250) (Nat.lt_trans (Nat.mod_lt n (Nat.pow_pos (by decide))) (by decide +kernel)) (by decide)) (by decide)
    have cutn := num_cut 64 n c
    have ln : (numL n).length = (numL (n / 10 ^ 64)).length + 64 := by rw [cutn, List.length_append, pad_len]
    rw [em, ef]
    refine ⟨_, rfl, cp, by decide +kernel, lg, by decide +kernel, by simp; omega, cp, dk, ?_⟩
    rw [chunk]
    refine ⟨⟨n / 10 ^ 64, ls ++ [pad 64 n], by simp, Nat.le_trans (Nat.div_le_self _ _) hn, by rw [List.length_append, List.length_singleton]; omega, ?_⟩, ?_⟩
    · rw [he, cutn]
      simp
    · have : n / 10 ^ 64 < n := Nat.div_lt_self (by have : 0 < 10 ^ 64 := Nat.pow_pos (by decide); omega) (by decide +kernel)
      show ((n / 10 ^ 64 : Nat) : Int).toNat < ((n : Nat) : Int).toNat
      rw [Int.toNat_natCast, Int.toNat_natCast]
      exact this
  · rw [decide_eq_false (by exact_mod_cast c)]
    rw [if_neg (by decide)]
    have lg : ((n : Nat) : Int).natAbs.log2 < 1920 := Nat.lt_trans (log_lt (n := n) (Nat.lt_of_le_of_lt hn hN) (by decide)) (by decide)
    refine ⟨_, rfl, lg, by simp; omega, ?_⟩
    simp only [dFrz]
    refine ⟨_, rfl, ?_⟩
    simp only [dSeq, dAsg, dRet, dRaise, dRetN, dDrop, dIfS, dSkip, dVar, dC, dOp, dTup, dLst, dCons, dNil, dCB, dCall, dCallS, dCallK, gP, gT, gL, gN, gsNil, gsCons, dTest, dTruth, truD, dNotT, dAndT, dOrT, dAndV, dOrV, dNotV, dIf, dNeg, dAdd, dSub, dMul, dFdiv, dMod, dPow, dI, dLt, dLe, dGt, dGe, dEq, dNe, dIsO, dNotO, dIx, dPar, dFor, iL, iT, iR1, dNew, bLen, bAbs, bInt, bGcd, bTuple, bList, bAll, dType, dNType, dIs, dIs2, startE, List.map_cons, List.map_nil, List.length_cons, List.length_nil, List.cons_append, List.nil_append, List.getElem?_cons_zero, List.getElem?_cons_succ, List.set_cons_zero, List.set_cons_succ, Option.some.injEq, Sl.p.injEq, exists_eq_left', exists_eq_left, Nat.reduceAdd, Nat.reduceSub, List.replicate, forall_const, true_and, and_true, if_true, if_false, Bool.false_eq_true, eq_self, ite_true, ite_false, reduceCtorEq, dBM, dBack, mJoin]
    have ee : (ls.map fun l => PyData.str (S l)) ++ [PyData.str (Str.ofString (toString ((n : Nat) : Int)))] = (ls ++ [numL n]).map fun l => PyData.str (S l) := by
      rw [List.map_append, str_nat]
      rfl
    rw [ee, ← List.map_reverse]
    refine ⟨_, strs_map _, ?_, ?_⟩
    · rw [sum_len, List.reverse_append]
      have t : ([numL n].reverse ++ ls.reverse).flatten = numL N := by rw [he]; rfl
      rw [t]
      have := numL_small hN
      have z : (Str.ofString "").length = 0 := by rw [s_none, S_len]; rfl
      rw [z]
      omega
    · rw [join_S, List.reverse_append]
      have t : ([numL n].reverse ++ ls.reverse).flatten = numL N := by rw [he]; rfl
      rw [t]
      exact q _ (by rw [S_len]; exact numL_small hN)
end K01
namespace K01
open PySem PySem.Spec L2 Fw
theorem forGo_nil (mg : DG) (mb : DS) (E : Eo) (es : En) : forGo mg mb E [] es = E.nx es := rfl
theorem forGo_cons (mg : DG) (mb : DS) (E : Eo) (d : D) (r : List D) (es : En) : forGo mg mb E (d :: r) es = mg d es (fun es' => mb { E with nx := forGo mg mb E r, ct := forGo mg mb E r, bk := E.nx } es') := rfl
theorem vc_sum_of : ∀ ds Q X, p_sum_of ds Q X → ms_sum_of { nx := fun _ => Q .none, rt := Q, xx := fun x _ => X x } (startE N_sum_of ds) := by
  rintro ds Q X ⟨d, rfl, hz, h, q⟩
  cases d with
  | tuple xs =>
    obtain ⟨hl, hs⟩ := hz xs rfl
    simp only [dSeq, dAsg, dRet, dRaise, dRetN, dDrop, dIfS, dSkip, dVar, dC, dOp, dTup, dLst, dCons, dNil, dCB, dCall, dCallS, dCallK, gP, gT, gL, gN, gsNil, gsCons, dTest, dTruth, truD, dNotT, dAndT, dOrT, dAndV, dOrV, dNotV, dIf, dNeg, dAdd, dSub, dMul, dFdiv, dMod, dPow, dI, dLt, dLe, dGt, dGe, dEq, dNe, dIsO, dNotO, dIx, dPar, dFor, iL, iT, iR1, dNew, bLen, bAbs, bInt, bGcd, bTuple, bList, bAll, dType, dNType, dIs, dIs2, startE, List.map_cons, List.map_nil, List.length_cons, List.length_nil, List.cons_append, List.nil_append, List.getElem?_cons_zero, List.getElem?_cons_succ, List.set_cons_zero, List.set_cons_succ, Option.some.injEq, Sl.p.injEq, exists_eq_left', exists_eq_left, Nat.reduceAdd, Nat.reduceSub, List.replicate, forall_const, true_and, and_true, if_true, if_false, Bool.false_eq_true, eq_self, ite_true, ite_false, reduceCtorEq, ms_sum_of, tyD, decide_true, Bool.not_true, c_NOUGHT, zero_fr]
    generalize hE : ({ nx := _, rt := _, bk := _, ct := _, xx := _ } : Eo) = E
    have key : ∀ (rs : List D) (tot : Rat) (k : Nat) (x : Sl), Sz tot k → k + rs.length * 135 ≤ 4400 → (∀ r ∈ rs, ∀ q, r = fr q → Sz q 134) → (rs.all isFr = true → ∀ t x, E.nx [.p (.tuple xs), .p (fr t), x]) → (rs.all isFr = false → ∀ es, E.xx cF es) →
        forGo (gP 2) (dSeq (dDrop (dCall p_check_fraction (dCons (dVar 2) dNil))) (dAsg (dCall p_added (dCons (dVar 1) (dCons (dVar 2) dNil))) (gP 1))) E rs [.p (.tuple xs), .p (fr tot), x] := by
      intro rs
      induction rs with
      | nil => intro tot k x _ _ _ h _; exact h rfl _ x
      | cons r rs ih =>
        intro tot k x hk hs hr h hx
        rw [forGo_cons]
        simp only [dSeq, dAsg, dRet, dRaise, dRetN, dDrop, dIfS, dSkip, dVar, dC, dOp, dTup, dLst, dCons, dNil, dCB, dCall, dCallS, dCallK, gP, gT, gL, gN, gsNil, gsCons, dTest, dTruth, truD, dNotT, dAndT, dOrT, dAndV, dOrV, dNotV, dIf, dNeg, dAdd, dSub, dMul, dFdiv, dMod, dPow, dI, dLt, dLe, dGt, dGe, dEq, dNe, dIsO, dNotO, dIx, dPar, dFor, iL, iT, iR1, dNew, bLen, bAbs, bInt, bGcd, bTuple, bList, bAll, dType, dNType, dIs, dIs2, startE, List.map_cons, List.map_nil, List.length_cons, List.length_nil, List.cons_append, List.nil_append, List.getElem?_cons_zero, List.getElem?_cons_succ, List.set_cons_zero, List.set_cons_succ, Option.some.injEq, Sl.p.injEq, exists_eq_left', exists_eq_left, Nat.reduceAdd, Nat.reduceSub, List.replicate, forall_const, true_and, and_true, if_true, if_false, Bool.false_eq_true, eq_self, ite_true, ite_false, reduceCtorEq]
        rw [List.length_cons] at hs
        refine ⟨_, rfl, fun c => ?_, fun c => hx (by rw [List.all_cons, c]; rfl) _⟩
        obtain ⟨r', rfl⟩ := isFr_of c
        have hr1 := hr (fr r') List.mem_cons_self r' rfl
        refine ⟨tot, r', rfl, sz_mono hk (by omega), sz_mono hr1 (by decide), ?_⟩
        exact ih (tot + r') (k + 134 + 1) _ (sz_add hk hr1) (by omega) (fun y m => hr y (List.mem_cons_of_mem _ m)) (fun z => h (by rw [List.all_cons, c, z]; rfl)) fun z => hx (by rw [List.all_cons, c, z]; rfl)
    refine key xs 0 1 _ sz_zero (by omega) hs (fun c t x => ?_) fun c es => ?_
    · subst hE
      exact ⟨_, rfl, h c _⟩
    · subst hE
      exact q c
  | _ =>
    have := q rfl
    simpa [dSeq, dAsg, dRet, dRaise, dRetN, dDrop, dIfS, dSkip, dVar, dC, dOp, dTup, dLst, dCons, dNil, dCB, dCall, dCallS, dCallK, gP, gT, gL, gN, gsNil, gsCons, dTest, dTruth, truD, dNotT, dAndT, dOrT, dAndV, dOrV, dNotV, dIf, dNeg, dAdd, dSub, dMul, dFdiv, dMod, dPow, dI, dLt, dLe, dGt, dGe, dEq, dNe, dIsO, dNotO, dIx, dPar, dFor, iL, iT, iR1, dNew, bLen, bAbs, bInt, bGcd, bTuple, bList, bAll, dType, dNType, dIs, dIs2, startE, List.map_cons, List.map_nil, List.length_cons, List.length_nil, List.cons_append, List.nil_append, List.getElem?_cons_zero, List.getElem?_cons_succ, List.set_cons_zero, List.set_cons_succ, Option.some.injEq, Sl.p.injEq, exists_eq_left', exists_eq_left, Nat.reduceAdd, Nat.reduceSub, List.replicate, forall_const, true_and, and_true, if_true, if_false, Bool.false_eq_true, eq_self, ite_true, ite_false, reduceCtorEq, ms_sum_of, tyD, cF] using this
theorem pow_bits {b : Int} (hb : b.natAbs < 16) : ∀ k : Nat, (b ^ k).natAbs < 2 ^ (4 * k + 1)
  | 0 => by simp
  | k + 1 => by
    have ih := pow_bits hb k
    rw [Int.pow_succ, Int.natAbs_mul]
    have e : 2 ^ (4 * (k + 1) + 1) = 2 ^ (4 * k + 1) * 16 := by
      rw [show 4 * (k + 1) + 1 = (4 * k + 1) + 4 by omega, Nat.pow_add]
    rw [e]
    exact Nat.mul_lt_mul_of_lt_of_le ih (by omega) (by decide)
theorem intsFrom_cons (lo : Int) (n : Nat) : Fw.intsFrom lo (n + 1) = .int lo :: Fw.intsFrom (lo + 1) n := by
  unfold Fw.intsFrom
  rw [List.range_succ_eq_map, List.map_cons, List.map_map]
  congr 1
  · simp
  · apply List.map_congr_left
    intro k _
    simp
    omega
theorem vc_power : ∀ ds Q X, p_power ds Q X → ms_power { nx := fun _ => Q .none, rt := Q, xx := fun x _ => X x } (startE N_power ds) := by
  rintro ds Q X ⟨b, n, rfl, hb, hn, q⟩
  simp only [dSeq, dAsg, dRet, dRaise, dRetN, dDrop, dIfS, dSkip, dVar, dC, dOp, dTup, dLst, dCons, dNil, dCB, dCall, dCallS, dCallK, gP, gT, gL, gN, gsNil, gsCons, dTest, dTruth, truD, dNotT, dAndT, dOrT, dAndV, dOrV, dNotV, dIf, dNeg, dAdd, dSub, dMul, dFdiv, dMod, dPow, dI, dLt, dLe, dGt, dGe, dEq, dNe, dIsO, dNotO, dIx, dPar, dFor, iL, iT, iR1, dNew, bLen, bAbs, bInt, bGcd, bTuple, bList, bAll, dType, dNType, dIs, dIs2, startE, List.map_cons, List.map_nil, List.length_cons, List.length_nil, List.cons_append, List.nil_append, List.getElem?_cons_zero, List.getElem?_cons_succ, List.set_cons_zero, List.set_cons_succ, Option.some.injEq, Sl.p.injEq, exists_eq_left', exists_eq_left, Nat.reduceAdd, Nat.reduceSub, List.replicate, forall_const, true_and, and_true, if_true, if_false, Bool.false_eq_true, eq_self, ite_true, ite_false, reduceCtorEq, ms_power, Int.toNat_natCast]
  refine ⟨by omega, by omega, ?_⟩
  generalize hE : ({ nx := _, rt := _, bk := _, ct := _, xx := _ } : Eo) = E
  have key : ∀ (r k : Nat) (lo : Int) (x : Sl), k + r = n → (∀ x, E.nx [.p (.int b), .p (.int n), .p (.int (b ^ n)), x]) →
      forGo (gP 3) (dAsg (dOp (dI MulOk fun i j => .int (i * j)) (dVar 2) (dVar 0)) (gP 2)) E (Fw.intsFrom lo r) [.p (.int b), .p (.int n), .p (.int (b ^ k)), x] := by
    intro r
    induction r with
    | zero => intro k lo x e h; obtain rfl : k = n := by omega
              exact h x
    | succ r ih =>
      intro k lo x e h
      rw [intsFrom_cons, forGo_cons]
      simp only [dSeq, dAsg, dRet, dRaise, dRetN, dDrop, dIfS, dSkip, dVar, dC, dOp, dTup, dLst, dCons, dNil, dCB, dCall, dCallS, dCallK, gP, gT, gL, gN, gsNil, gsCons, dTest, dTruth, truD, dNotT, dAndT, dOrT, dAndV, dOrV, dNotV, dIf, dNeg, dAdd, dSub, dMul, dFdiv, dMod, dPow, dI, dLt, dLe, dGt, dGe, dEq, dNe, dIsO, dNotO, dIx, dPar, dFor, iL, iT, iR1, dNew, bLen, bAbs, bInt, bGcd, bTuple, bList, bAll, dType, dNType, dIs, dIs2, startE, List.map_cons, List.map_nil, List.length_cons, List.length_nil, List.cons_append, List.nil_append, List.getElem?_cons_zero, List.getElem?_cons_succ, List.set_cons_zero, List.set_cons_succ, Option.some.injEq, Sl.p.injEq, exists_eq_left', exists_eq_left, Nat.reduceAdd, Nat.reduceSub, List.replicate, forall_const, true_and, and_true, if_true, if_false, Bool.false_eq_true, eq_self, ite_true, ite_false, reduceCtorEq]
      refine ⟨MulOk.r ⟨by omega, by omega⟩, ?_⟩
      rw [← Int.pow_succ]
      exact ih (k + 1) _ _ (by omega) h
  have h0 := key n 0 0 .un (by omega) fun x => by
    subst hE
    exact ⟨_, rfl, q⟩
  rw [Int.pow_zero] at h0
  exact h0
theorem vc_divisions : ∀ ds Q X, p_divisions ds Q X → ms_divisions { nx := fun _ => Q .none, rt := Q, xx := fun x _ => X x } (startE N_divisions ds) := by
  rintro ds Q X ⟨n, d, rfl, n0, nz, d2, d5, q⟩
  simp only [dSeq, dAsg, dRet, dRaise, dRetN, dDrop, dIfS, dSkip, dVar, dC, dOp, dTup, dLst, dCons, dNil, dCB, dCall, dCallS, dCallK, gP, gT, gL, gN, gsNil, gsCons, dTest, dTruth, truD, dNotT, dAndT, dOrT, dAndV, dOrV, dNotV, dIf, dNeg, dAdd, dSub, dMul, dFdiv, dMod, dPow, dI, dLt, dLe, dGt, dGe, dEq, dNe, dIsO, dNotO, dIx, dPar, dFor, iL, iT, iR1, dNew, bLen, bAbs, bInt, bGcd, bTuple, bList, bAll, dType, dNType, dIs, dIs2, startE, List.map_cons, List.map_nil, List.length_cons, List.length_nil, List.cons_append, List.nil_append, List.getElem?_cons_zero, List.getElem?_cons_succ, List.set_cons_zero, List.set_cons_succ, Option.some.injEq, Sl.p.injEq, exists_eq_left', exists_eq_left, Nat.reduceAdd, Nat.reduceSub, List.replicate, forall_const, true_and, and_true, if_true, if_false, Bool.false_eq_true, eq_self, ite_true, ite_false, reduceCtorEq, ms_divisions, dWhile]
  refine ⟨fun es => ∃ (m : Int) (k : Nat), es = [.p (.int m), .p (.int d), .p (.int k)] ∧ 0 < m ∧ m * 2 ^ k ≤ n, fun es => match es with
    | .p (.int m) :: _ => m.toNat
    | _ => 0, ⟨n, 0, rfl, n0, by simp⟩, ?_⟩
  rintro es ⟨m, k, rfl, m0, hm⟩
  simp only [dSeq, dAsg, dRet, dRaise, dRetN, dDrop, dIfS, dSkip, dVar, dC, dOp, dTup, dLst, dCons, dNil, dCB, dCall, dCallS, dCallK, gP, gT, gL, gN, gsNil, gsCons, dTest, dTruth, truD, dNotT, dAndT, dOrT, dAndV, dOrV, dNotV, dIf, dNeg, dAdd, dSub, dMul, dFdiv, dMod, dPow, dI, dLt, dLe, dGt, dGe, dEq, dNe, dIsO, dNotO, dIx, dPar, dFor, iL, iT, iR1, dNew, bLen, bAbs, bInt, bGcd, bTuple, bList, bAll, dType, dNType, dIs, dIs2, startE, List.map_cons, List.map_nil, List.length_cons, List.length_nil, List.cons_append, List.nil_append, List.getElem?_cons_zero, List.getElem?_cons_succ, List.set_cons_zero, List.set_cons_succ, Option.some.injEq, Sl.p.injEq, exists_eq_left', exists_eq_left, Nat.reduceAdd, Nat.reduceSub, List.replicate, forall_const, true_and, and_true, if_true, if_false, Bool.false_eq_true, eq_self, ite_true, ite_false, reduceCtorEq, dAug, dAddI]
  refine ⟨by omega, shaped_int _, shaped_int _, ?_⟩
  rw [eqv_int]
  have kb : k < 134 := by
    have h1 : (2 : Int) ^ k ≤ m * 2 ^ k := by
      have := Int.mul_le_mul_of_nonneg_right (show (1 : Int) ≤ m by omega) (show (0 : Int) ≤ 2 ^ k from Int.pow_nonneg (by decide))
      omega
    have h2 : (2 : Int) ^ k < 2 ^ 134 := by
      have z : (n : Int) < 2 ^ 134 := by
        have : ((n.natAbs : Nat) : Int) < ((2 ^ 134 : Nat) : Int) := by exact_mod_cast nz
        have e : ((n.natAbs : Nat) : Int) = n := by omega
        rw [e] at this
        exact_mod_cast this
      omega
    have h3 : (2 : Nat) ^ k < 2 ^ 134 := by exact_mod_cast h2
    exact (Nat.pow_lt_pow_iff_right (by decide)).mp h3
  by_cases c : m.fmod d = 0
  · rw [if_pos (decide_eq_true c)]
    have dv : d ∣ m := by
      rw [Int.fmod_eq_emod_of_nonneg _ (by omega)] at c
      exact Int.dvd_of_emod_eq_zero c
    obtain ⟨t, rfl⟩ := dv
    have e : (d * t).fdiv d = t := Int.mul_fdiv_cancel_left _ (by omega)
    have t0 : 0 < t := by
      rcases Int.lt_or_le 0 t with h | h
      · exact h
      · have := Int.mul_le_mul_of_nonneg_left h (show 0 ≤ d by omega)
        omega
    have le : 2 * t ≤ d * t := Int.mul_le_mul_of_nonneg_right (by omega) (by omega)
    refine ⟨DivOk.w (by omega) (b := 3) (by omega) (by decide) (by decide), ?_⟩
    rw [e]
    refine ⟨⟨t, k + 1, by simp, t0, ?_⟩, ?_⟩
    · rw [Int.pow_succ]
      have := Int.mul_le_mul_of_nonneg_right le (show (0 : Int) ≤ 2 ^ k from Int.pow_nonneg (by decide))
      have e2 : t * (2 ^ k * 2) = 2 * t * 2 ^ k := by grind
      omega
    · show t.toNat < (d * t).toNat
      omega
  · rw [if_neg (by simpa using c)]
    exact q k (by omega)
theorem vc_decimal_places : ∀ ds Q X, p_decimal_places ds Q X → ms_decimal_places { nx := fun _ => Q .none, rt := Q, xx := fun x _ => X x } (startE N_decimal_places ds) := by
  rintro ds Q X ⟨n, rfl, n0, nz, q1, q2⟩
  simp only [dSeq, dAsg, dRet, dRaise, dRetN, dDrop, dIfS, dSkip, dVar, dC, dOp, dTup, dLst, dCons, dNil, dCB, dCall, dCallS, dCallK, gP, gT, gL, gN, gsNil, gsCons, dTest, dTruth, truD, dNotT, dAndT, dOrT, dAndV, dOrV, dNotV, dIf, dNeg, dAdd, dSub, dMul, dFdiv, dMod, dPow, dI, dLt, dLe, dGt, dGe, dEq, dNe, dIsO, dNotO, dIx, dPar, dFor, iL, iT, iR1, dNew, bLen, bAbs, bInt, bGcd, bTuple, bList, bAll, dType, dNType, dIs, dIs2, startE, List.map_cons, List.map_nil, List.length_cons, List.length_nil, List.cons_append, List.nil_append, List.getElem?_cons_zero, List.getElem?_cons_succ, List.set_cons_zero, List.set_cons_succ, Option.some.injEq, Sl.p.injEq, exists_eq_left', exists_eq_left, Nat.reduceAdd, Nat.reduceSub, List.replicate, forall_const, true_and, and_true, if_true, if_false, Bool.false_eq_true, eq_self, ite_true, ite_false, reduceCtorEq, ms_decimal_places, bMax]
  refine ⟨n, 2, rfl, n0, nz, by decide, by decide, fun k hk => ⟨n, 5, rfl, n0, nz, by decide, by decide, fun j hj => ⟨2, k, rfl, by decide, by omega, 5, j, rfl, by decide, by omega, ?_⟩⟩⟩
  have b1 := pow_bits (b := 2) (by decide) k
  have b2 := pow_bits (b := 5) (by decide) j
  refine ⟨MulOk.w b1 b2 (by omega) (by omega) (by omega), shaped_int _, shaped_int _, ?_⟩
  rw [eqv_int]
  split
  · exact q1
  · show Q (.int (if (j : Int) > k then j else k))
    by_cases c : (j : Int) > k
    · rw [if_pos c]; exact q2 j hj
    · rw [if_neg c]; exact q2 k hk
theorem app_len (a b : Str) : (a ++ b).length = a.length + b.length := by
  show (a.cps ++ b.cps).size = a.cps.size + b.cps.size
  exact Array.size_append
theorem vc_number_text : ∀ ds Q X, p_number_text ds Q X → ms_number_text { nx := fun _ => Q .none, rt := Q, xx := fun x _ => X x } (startE N_number_text ds) := by
  rintro ds Q X ⟨p, rfl, hp, q⟩
  have dp : 0 < (p.den : Int) := den_pos p
  have bz : (p.den : Int).natAbs < 2 ^ 134 := by rw [nat_abs_den]; exact hp.2
  have e0 : (Str.empty).length = 0 := rfl
  have e1 : ("/" : Str).length ≤ 1 := by decide +kernel
  have e2 : ("." : Str).length ≤ 1 := by decide +kernel
  have e3 : ("-" : Str).length ≤ 1 := by decide +kernel
  have e4 : ("" : Str).length ≤ 1 := by decide +kernel
  have e1' : (Str.ofString "/").length ≤ 1 := by decide +kernel
  have e2' : (Str.ofString ".").length ≤ 1 := by decide +kernel
  have l15 : ∀ {n k : Nat}, n < 2 ^ k → k ≤ 1500 → n < 2 ^ 1500 := fun h hk => Nat.lt_of_lt_of_le h (Nat.pow_le_pow_right (by decide) hk)
  have ea : (if p.num < 0 then -p.num else p.num) = ((p.num.natAbs : Nat) : Int) := by split <;> omega
  simp only [dSeq, dAsg, dRet, dRaise, dRetN, dDrop, dIfS, dSkip, dVar, dC, dOp, dTup, dLst, dCons, dNil, dCB, dCall, dCallS, dCallK, gP, gT, gL, gN, gsNil, gsCons, dTest, dTruth, truD, dNotT, dAndT, dOrT, dAndV, dOrV, dNotV, dIf, dNeg, dAdd, dSub, dMul, dFdiv, dMod, dPow, dI, dLt, dLe, dGt, dGe, dEq, dNe, dIsO, dNotO, dIx, dPar, dFor, iL, iT, iR1, dNew, bLen, bAbs, bInt, bGcd, bTuple, bList, bAll, dType, dNType, dIs, dIs2, startE, List.map_cons, List.map_nil, List.length_cons, List.length_nil, List.cons_append, List.nil_append, List.getElem?_cons_zero, List.getElem?_cons_succ, List.set_cons_zero, List.set_cons_succ, Option.some.injEq, Sl.p.injEq, exists_eq_left', exists_eq_left, Nat.reduceAdd, Nat.reduceSub, List.replicate, forall_const, true_and, and_true, if_true, if_false, Bool.false_eq_true, eq_self, ite_true, ite_false, reduceCtorEq, ms_number_text, fr, dJoined, dJs, dFmt, dSl, dNoPart, dPart, dBM, mZfill, slD, isN]
  rw [ea]
  split
  case' isTrue => generalize Str.ofString "-" = sn at e3; have es := e3
  case' isFalse => generalize Str.ofString "" = sn at e4; have es := e4
  all_goals
    refine ⟨_, rfl, dp, bz, ?_, fun k hk => ?_⟩
    · dsimp only
      rw [if_pos rfl]
      refine ⟨by omega, by rw [app_len]; omega, p.num.natAbs, rfl, l15 hp.1 (by decide), fun s hs => ?_⟩
      dsimp only
      refine ⟨by omega, by rw [app_len, app_len]; omega, by rw [app_len, app_len, app_len]; omega, p.den, rfl, l15 hp.2 (by decide), fun s2 hs2 => ?_⟩
      dsimp only
      exact ⟨by omega, by rw [app_len, app_len, app_len, app_len]; omega, q _⟩
    · dsimp only
      rw [if_neg (by decide)]
      have pb := pow_bits (b := 10) (by decide) k
      have ab : ((p.num.natAbs : Nat) : Int).natAbs < 2 ^ 134 := hp.1
      have m1 : Fw.MulOk ((p.num.natAbs : Nat) : Int) (10 ^ k) := MulOk.w ab pb (by decide) (by omega) (by omega)
      have m2 : Fw.DivOk (((p.num.natAbs : Nat) : Int) * 10 ^ k) p.den := DivOk.w (by omega) (b := 134) bz (by decide) (by decide)
      have m4 : PadOk ((k : Int) + 1) = true := by
        have h : ∀ k : Nat, k ≤ 134 → PadOk ((k : Int) + 1) = true := by decide +kernel
        exact h k hk
      have pn : (10 : Int) ^ k = ((10 ^ k : Nat) : Int) := by simp
      have eN : (((p.num.natAbs : Nat) : Int) * 10 ^ k).fdiv p.den = ((p.num.natAbs * 10 ^ k / p.den : Nat) : Int) := by
        rw [pn, ← Int.natCast_mul, fdiv_nat']
      have hN : p.num.natAbs * 10 ^ k / p.den < 2 ^ 1500 := by
        have w := wide_lt ab pb
        rw [pn, ← Int.natCast_mul, Int.natAbs_natCast] at w
        exact l15 (Nat.lt_of_le_of_lt (Nat.div_le_self _ _) w) (by omega)
      refine ⟨10, k, rfl, by decide, by omega, ?_⟩
      dsimp only
      refine ⟨m1, m2, ?_⟩
      rw [eN]
      refine ⟨_, rfl, hN, fun dg hdg => ?_⟩
      refine ⟨shaped_int _, shaped_int _, ?_⟩
      rw [eqv_int]
      by_cases c : (k : Int) = 0
      · rw [if_pos (decide_eq_true c)]
        exact ⟨by omega, q _⟩
      · rw [if_neg (by simpa using c)]
        have zl : (Txt.zfill dg ((k : Int) + 1)).length ≤ 2135 := by
          have z := PyProof.Rows.len_zfill dg ((k : Int) + 1)
          split at z <;> omega
        generalize hz : Txt.zfill dg ((k : Int) + 1) = zf at zl
        have c1 : ∀ lo hi, (cutS zf lo hi).length ≤ 2135 := fun lo hi => Nat.le_trans (cutS_length _ _ _) zl
        have x1 := c1 none (some (-(k : Int)))
        have x2 := c1 (some (-(k : Int))) none
        refine ⟨m4, ?_⟩
        rw [hz]
        refine ⟨by omega, ?_, by omega, by omega, ?_, ?_, by omega, by omega, ?_, q _⟩ <;> simp only [app_len] <;> omega
theorem vc_fraction_text : ∀ ds Q X, p_fraction_text ds Q X → ms_fraction_text { nx := fun _ => Q .none, rt := Q, xx := fun x _ => X x } (startE N_fraction_text ds) := by
  rintro ds Q X ⟨d, rfl, hz, h, q⟩
  simp only [dSeq, dAsg, dRet, dRaise, dRetN, dDrop, dIfS, dSkip, dVar, dC, dOp, dTup, dLst, dCons, dNil, dCB, dCall, dCallS, dCallK, gP, gT, gL, gN, gsNil, gsCons, dTest, dTruth, truD, dNotT, dAndT, dOrT, dAndV, dOrV, dNotV, dIf, dNeg, dAdd, dSub, dMul, dFdiv, dMod, dPow, dI, dLt, dLe, dGt, dGe, dEq, dNe, dIsO, dNotO, dIx, dPar, dFor, iL, iT, iR1, dNew, bLen, bAbs, bInt, bGcd, bTuple, bList, bAll, dType, dNType, dIs, dIs2, startE, List.map_cons, List.map_nil, List.length_cons, List.length_nil, List.cons_append, List.nil_append, List.getElem?_cons_zero, List.getElem?_cons_succ, List.set_cons_zero, List.set_cons_succ, Option.some.injEq, Sl.p.injEq, exists_eq_left', exists_eq_left, Nat.reduceAdd, Nat.reduceSub, List.replicate, forall_const, true_and, and_true, if_true, if_false, Bool.false_eq_true, eq_self, ite_true, ite_false, reduceCtorEq, ms_fraction_text]
  refine ⟨_, rfl, fun c => ?_, q⟩
  obtain ⟨a, rfl⟩ := isFr_of c
  exact ⟨a, rfl, hz a rfl, fun s => h c _⟩
end K01
namespace K01
open PySem PySem.Spec L2 Fw
theorem pow10_bits {n : Nat} (h : n ≤ 30) : ((10 : Int) ^ n).natAbs < 2 ^ 130 := Nat.lt_of_lt_of_le (pow_bits (b := 10) (by decide) n) (Nat.pow_le_pow_right (by decide) (by omega))
theorem rootN_le {q : Rat} {n : Nat} (hq : Sz q 1000) (h : n ≤ 30) : (q.num * 10 ^ n * 10 ^ n).natAbs < 2 ^ 1260 := by
  have a := wide_lt hq.1 (pow10_bits h)
  exact wide_lt a (pow10_bits h)
theorem vc_root : ∀ ds Q X, p_root ds Q X → ms_root { nx := fun _ => Q .none, rt := Q, xx := fun x _ => X x } (startE N_root ds) := by
  rintro ds Q X ⟨d, e, rfl, h1, h2⟩
  simp only [dSeq, dAsg, dRet, dRaise, dRetN, dDrop, dIfS, dSkip, dVar, dC, dOp, dTup, dLst, dCons, dNil, dCB, dCall, dCallS, dCallK, gP, gT, gL, gN, gsNil, gsCons, dTest, dTruth, truD, dNotT, dAndT, dOrT, dAndV, dOrV, dNotV, dIf, dNeg, dAdd, dSub, dMul, dFdiv, dMod, dPow, dI, dLt, dLe, dGt, dGe, dEq, dNe, dIsO, dNotO, dIx, dPar, dFor, iL, iT, iR1, dNew, bLen, bAbs, bInt, bGcd, bTuple, bList, bAll, dType, dNType, dIs, dIs2, startE, List.map_cons, List.map_nil, List.length_cons, List.length_nil, List.cons_append, List.nil_append, List.getElem?_cons_zero, List.getElem?_cons_succ, List.set_cons_zero, List.set_cons_succ, Option.some.injEq, Sl.p.injEq, exists_eq_left', exists_eq_left, Nat.reduceAdd, Nat.reduceSub, List.replicate, forall_const, true_and, and_true, if_true, if_false, Bool.false_eq_true, eq_self, ite_true, ite_false, reduceCtorEq, ms_root]
  refine ⟨_, rfl, fun c => ?_, h1⟩
  obtain ⟨q, rfl⟩ := isFr_of c
  obtain ⟨hq, h3, h4⟩ := h2 q rfl
  simp only [fr, c_MOST_DIGITS]
  by_cases c1 : q.num < 0
  · rw [if_pos (decide_eq_true c1)]
    exact ⟨rfl, trivial, h3 c1⟩
  rw [if_neg (by simpa using c1)]
  obtain ⟨h5, h6⟩ := h4 (by omega)
  refine ⟨rfl, trivial, _, _, _, rfl, fun c2 => ?_, h5⟩
  cases e <;> try cases c2
  rename_i i
  simp only [cntOk, Bool.and_eq_true, decide_eq_true_eq] at c2
  obtain ⟨n, rfl⟩ := Int.eq_ofNat_of_zero_le c2.1
  have hn : n ≤ 30 := by omega
  have dp : 0 < (q.den : Int) := den_pos q
  have bz : (q.den : Int).natAbs < 2 ^ 1000 := by rw [nat_abs_den]; exact hq.2
  have p1 := pow10_bits hn
  have r1 := rootN_le hq hn
  have p0 : (0 : Int) < 10 ^ n := Int.pow_pos (by decide)
  refine ⟨10, n, rfl, by decide, by omega, ?_⟩
  dsimp only
  refine ⟨MulOk.w hq.1 p1 (by decide) (by decide) (by decide), MulOk.w (wide_lt hq.1 p1) p1 (by decide) (by decide) (by decide), DivOk.w (by omega) (b := 1000) bz (by decide) (by decide), ?_⟩
  have en : (q.num * 10 ^ n * 10 ^ n).fdiv q.den = q.num * 10 ^ n * 10 ^ n / q.den := Int.fdiv_eq_ediv_of_nonneg _ (by omega)
  rw [en]
  have t0 : 0 ≤ q.num * 10 ^ n * 10 ^ n / (q.den : Int) := Int.ediv_nonneg (Int.mul_nonneg (Int.mul_nonneg (by omega) (by omega)) (by omega)) (by omega)
  refine ⟨t0, ?_, ?_⟩
  · have z : (q.num * 10 ^ n * 10 ^ n / (q.den : Int)).natAbs < 2 ^ 1260 := Nat.lt_of_le_of_lt (Int.natAbs_ediv_le_natAbs _ _) r1
    have z2 : (q.num * 10 ^ n * 10 ^ n / (q.den : Int)) = ((q.num * 10 ^ n * 10 ^ n / (q.den : Int)).natAbs : Int) := by omega
    rw [z2]
    have z3 : (q.num * 10 ^ n * 10 ^ n / (q.den : Int)).natAbs < 2 ^ 13000 := Nat.lt_of_lt_of_le z (Nat.pow_le_pow_right (by decide) (by decide))
    exact_mod_cast z3
  · exact ⟨_, _, rfl, by omega, Nat.lt_of_lt_of_le p1 (Nat.pow_le_pow_right (by decide) (by decide)), h6 n rfl hn⟩
theorem fmod_nat (x y : Nat) : (x : Int).fmod y = ((x % y : Nat) : Int) := by
  rw [Int.fmod_eq_emod_of_nonneg _ (Int.natCast_nonneg y)]
  simp
theorem vc__law_low : ∀ ds Q X, p__law_low ds Q X → ms__law_low { nx := fun _ => Q .none, rt := Q, xx := fun x _ => X x } (startE N__law_low ds) := by
  rintro ds Q X ⟨t, b, rfl, hb, hz, q⟩
  simp only [dSeq, dAsg, dRet, dRaise, dRetN, dDrop, dIfS, dSkip, dVar, dC, dOp, dTup, dLst, dCons, dNil, dCB, dCall, dCallS, dCallK, gP, gT, gL, gN, gsNil, gsCons, dTest, dTruth, truD, dNotT, dAndT, dOrT, dAndV, dOrV, dNotV, dIf, dNeg, dAdd, dSub, dMul, dFdiv, dMod, dPow, dI, dLt, dLe, dGt, dGe, dEq, dNe, dIsO, dNotO, dIx, dPar, dFor, iL, iT, iR1, dNew, bLen, bAbs, bInt, bGcd, bTuple, bList, bAll, dType, dNType, dIs, dIs2, startE, List.map_cons, List.map_nil, List.length_cons, List.length_nil, List.cons_append, List.nil_append, List.getElem?_cons_zero, List.getElem?_cons_succ, List.set_cons_zero, List.set_cons_succ, Option.some.injEq, Sl.p.injEq, exists_eq_left', exists_eq_left, Nat.reduceAdd, Nat.reduceSub, List.replicate, forall_const, true_and, and_true, if_true, if_false, Bool.false_eq_true, eq_self, ite_true, ite_false, reduceCtorEq, ms__law_low, dWhile]
  have ab : ∀ i : Int, (if i < 0 then -i else i) = ((i.natAbs : Nat) : Int) := fun i => by split <;> omega
  rw [ab, ab]
  refine ⟨fun es => ∃ x y : Nat, es = [.p (.int t), .p (.int b), .p (.int x), .p (.int y)] ∧ Nat.gcd x y = Nat.gcd t.natAbs b.natAbs, fun es => match es with
    | [_, _, _, .p (.int y)] => y.toNat
    | _ => 0, ⟨_, _, rfl, rfl⟩, ?_⟩
  rintro es ⟨x, y, rfl, h⟩
  simp only [dSeq, dAsg, dRet, dRaise, dRetN, dDrop, dIfS, dSkip, dVar, dC, dOp, dTup, dLst, dCons, dNil, dCB, dCall, dCallS, dCallK, gP, gT, gL, gN, gsNil, gsCons, dTest, dTruth, truD, dNotT, dAndT, dOrT, dAndV, dOrV, dNotV, dIf, dNeg, dAdd, dSub, dMul, dFdiv, dMod, dPow, dI, dLt, dLe, dGt, dGe, dEq, dNe, dIsO, dNotO, dIx, dPar, dFor, iL, iT, iR1, dNew, bLen, bAbs, bInt, bGcd, bTuple, bList, bAll, dType, dNType, dIs, dIs2, startE, List.map_cons, List.map_nil, List.length_cons, List.length_nil, List.cons_append, List.nil_append, List.getElem?_cons_zero, List.getElem?_cons_succ, List.set_cons_zero, List.set_cons_succ, Option.some.injEq, Sl.p.injEq, exists_eq_left', exists_eq_left, Nat.reduceAdd, Nat.reduceSub, List.replicate, forall_const, true_and, and_true, if_true, if_false, Bool.false_eq_true, eq_self, ite_true, ite_false, reduceCtorEq]
  by_cases c : 0 < (y : Int)
  · rw [if_pos (decide_eq_true c)]
    have y0 : 0 < y := by omega
    refine ⟨by omega, ⟨y, x % y, by rw [fmod_nat], ?_⟩, ?_⟩
    · rw [Nat.gcd_comm, ← Nat.gcd_rec, Nat.gcd_comm, h]
    · rw [fmod_nat]
      show (((x % y : Nat) : Int)).toNat < ((y : Nat) : Int).toNat
      rw [Int.toNat_natCast, Int.toNat_natCast]
      exact Nat.mod_lt x y0
  · rw [if_neg (by simpa using c)]
    have y0 : y = 0 := by omega
    subst y0
    rw [Nat.gcd_zero_right] at h
    have gs := gcd_small (t := t) hb hz
    have gp : 0 < Nat.gcd t.natAbs b.natAbs := Nat.gcd_pos_of_pos_right _ (Int.natAbs_pos.mpr hb)
    have k : ∀ c : Int, c.natAbs = Nat.gcd t.natAbs b.natAbs → 0 < c * b → DivOk t c ∧ DivOk b c ∧ 2 ≤ 16777216 ∧ Q (.tuple [.int (t.fdiv c), .int (b.fdiv c)]) := fun c e hs => by
      have c0 : c ≠ 0 := by intro z; subst z; simp at hs
      have cs : c.natAbs < 2 ^ 9000 := by rw [e]; exact gs
      refine ⟨div_ok c0 cs (by decide) (by decide) _, div_ok c0 cs (by decide) (by decide) _, two_le, ?_⟩
      rw [red_frac hb e hs]
      exact q
    by_cases c : 0 < b
    · rw [if_pos (decide_eq_true c)]
      exact k _ (by simpa using h) (Int.mul_pos (by omega) c)
    · rw [if_neg (by simpa using c)]
      exact k _ (by simpa using h) (Int.mul_pos_of_neg_of_neg (by omega) (by omega))
theorem vc__law_plus : ∀ ds Q X, p__law_plus ds Q X → ms__law_plus { nx := fun _ => Q .none, rt := Q, xx := fun x _ => X x } (startE N__law_plus ds) := by
  rintro ds Q X ⟨a, b, rfl, ha, hb, q⟩
  simp only [dSeq, dAsg, dRet, dRaise, dRetN, dDrop, dIfS, dSkip, dVar, dC, dOp, dTup, dLst, dCons, dNil, dCB, dCall, dCallS, dCallK, gP, gT, gL, gN, gsNil, gsCons, dTest, dTruth, truD, dNotT, dAndT, dOrT, dAndV, dOrV, dNotV, dIf, dNeg, dAdd, dSub, dMul, dFdiv, dMod, dPow, dI, dLt, dLe, dGt, dGe, dEq, dNe, dIsO, dNotO, dIx, dPar, dFor, iL, iT, iR1, dNew, bLen, bAbs, bInt, bGcd, bTuple, bList, bAll, dType, dNType, dIs, dIs2, startE, List.map_cons, List.map_nil, List.length_cons, List.length_nil, List.cons_append, List.nil_append, List.getElem?_cons_zero, List.getElem?_cons_succ, List.set_cons_zero, List.set_cons_succ, Option.some.injEq, Sl.p.injEq, exists_eq_left', exists_eq_left, Nat.reduceAdd, Nat.reduceSub, List.replicate, forall_const, true_and, and_true, if_true, if_false, Bool.false_eq_true, eq_self, ite_true, ite_false, reduceCtorEq, ms__law_plus, fr, at0, at1]
  have w0 : (0:Nat) < 4400 := by decide
  have w1 : 4400 + 4400 ≤ 1000000 := by decide
  have da := den_pos a
  have db := den_pos b
  have ad : (a.den : Int).natAbs < 2 ^ 4400 := by simpa using ha.2
  have bd : (b.den : Int).natAbs < 2 ^ 4400 := by simpa using hb.2
  refine ⟨MulOk.w ha.1 bd w0 w0 w1, MulOk.w hb.1 ad w0 w0 w1, MulOk.w ad bd w0 w0 w1, _, _, rfl, ?_, ?_, ?_⟩
  · have := Int.mul_pos da db
    omega
  · exact Nat.lt_of_lt_of_le (wide_lt (a := 4400) (b := 4400) ad bd) (Nat.pow_le_pow_right (by decide) (by decide))
  · have e : Rat.divInt (a.num * b.den + b.num * a.den) (a.den * b.den) = a + b := by
      rw [Rat.add_def', ← Rat.divInt_ofNat]; simp
    rw [e]
    exact q
theorem atI_of {α : Type} {l : List α} {r : Int} (h0 : 0 ≤ r) (h1 : r < l.length) : ∃ x, x ∈ l ∧ atI l r = some x := by
  obtain ⟨j, rfl⟩ := Int.eq_ofNat_of_zero_le h0
  have hj : j < l.length := by omega
  exact ⟨l[j], List.getElem_mem hj, atI_nat (List.getElem?_eq_getElem hj)⟩
theorem num_sz {n d : Int} {N : Nat} (hd : d ≠ 0) (hn : n.natAbs < N) (h : d.natAbs < N) (hN : N ≤ 2 ^ 134) : Sz (Rat.divInt n d) 134 := divInt_sz hd (Nat.lt_of_lt_of_le hn hN) (Nat.lt_of_lt_of_le h hN)
theorem big : (2000001 : Nat) ≤ 2 ^ 134 := by decide
theorem big2 : (2000001 : Nat) < 2 ^ 9000 := Nat.lt_of_lt_of_le (by decide : 2000001 < 2 ^ 64) (Nat.pow_le_pow_right (by decide) (by decide))
theorem low_of {Q : D → Prop} {X : XP} {n d : Int} (hd : d ≠ 0) (hn : n.natAbs < 2000001) (h : d.natAbs < 2000001) (q : ∀ q : Rat, Sz q 134 → Q (fr q)) : p__law_low [.int n, .int d] Q X :=
  ⟨_, _, rfl, hd, Nat.lt_trans h big2, q _ (num_sz hd hn h big)⟩
theorem drop_ok {Q : D → Prop} {X : XP} {n : Int} (h0 : 0 < n) (h : n.natAbs ≤ 2000001) (q : ∀ r : Int, 0 ≤ r → r < n → Q (.int r)) : p__law_drop [.int n] Q X :=
  ⟨n, rfl, h0, Nat.lt_of_le_of_lt h big2, q⟩
theorem vc__law_number : ∀ ds Q X, p__law_number ds Q X → ms__law_number { nx := fun _ => Q .none, rt := Q, xx := fun x _ => X x } (startS N__law_number ds) := by
  rintro ds Q X ⟨rfl, q⟩
  simp only [dSeq, dAsg, dRet, dRaise, dRetN, dDrop, dIfS, dSkip, dVar, dC, dOp, dTup, dLst, dCons, dNil, dCB, dCall, dCallS, dCallK, gP, gT, gL, gN, gsNil, gsCons, dTest, dTruth, truD, dNotT, dAndT, dOrT, dAndV, dOrV, dNotV, dIf, dNeg, dAdd, dSub, dMul, dFdiv, dMod, dPow, dI, dLt, dLe, dGt, dGe, dEq, dNe, dIsO, dNotO, dIx, dPar, dFor, iL, iT, iR1, dNew, bLen, bAbs, bInt, bGcd, bTuple, bList, bAll, dType, dNType, dIs, dIs2, startE, List.map_cons, List.map_nil, List.length_cons, List.length_nil, List.cons_append, List.nil_append, List.getElem?_cons_zero, List.getElem?_cons_succ, List.set_cons_zero, List.set_cons_succ, Option.some.injEq, Sl.p.injEq, exists_eq_left', exists_eq_left, Nat.reduceAdd, Nat.reduceSub, List.replicate, forall_const, true_and, and_true, if_true, if_false, Bool.false_eq_true, eq_self, ite_true, ite_false, reduceCtorEq, ms__law_number, startS]
  refine drop_ok (by decide) (by decide) fun way h0 h1 => ?_
  simp only [dSeq, dAsg, dRet, dRaise, dRetN, dDrop, dIfS, dSkip, dVar, dC, dOp, dTup, dLst, dCons, dNil, dCB, dCall, dCallS, dCallK, gP, gT, gL, gN, gsNil, gsCons, dTest, dTruth, truD, dNotT, dAndT, dOrT, dAndV, dOrV, dNotV, dIf, dNeg, dAdd, dSub, dMul, dFdiv, dMod, dPow, dI, dLt, dLe, dGt, dGe, dEq, dNe, dIsO, dNotO, dIx, dPar, dFor, iL, iT, iR1, dNew, bLen, bAbs, bInt, bGcd, bTuple, bList, bAll, dType, dNType, dIs, dIs2, startE, List.map_cons, List.map_nil, List.length_cons, List.length_nil, List.cons_append, List.nil_append, List.getElem?_cons_zero, List.getElem?_cons_succ, List.set_cons_zero, List.set_cons_succ, Option.some.injEq, Sl.p.injEq, exists_eq_left', exists_eq_left, Nat.reduceAdd, Nat.reduceSub, List.replicate, forall_const, true_and, and_true, if_true, if_false, Bool.false_eq_true, eq_self, ite_true, ite_false, reduceCtorEq, shaped_int, eqv_int]
  by_cases c0 : way = 0
  · rw [if_pos (decide_eq_true c0)]
    refine drop_ok (by decide) (by decide) fun r r0 r1 => ?_
    refine ⟨two_le, ?_⟩
    have e := q (Rat.divInt (r - 1000) 1) (num_sz (by decide) (N := 2000001) (by omega) (by decide) big)
    rw [← fr_eq (by decide) (by simp)] at e
    exact e
  · rw [if_neg (by simpa using c0)]
    by_cases c1 : way < 3
    · rw [if_pos (decide_eq_true c1)]
      refine drop_ok (by decide) (by decide) fun r r0 r1 => ⟨by decide, drop_ok (by decide) (by decide) fun k k0 k1 => ?_⟩
      obtain ⟨x, hx, e⟩ := atI_of (l := [PyData.int 100, .int 1000, .int 8, .int 20]) k0 (by simpa using k1)
      refine ⟨x, e, ?_⟩
      simp only [List.mem_cons, List.not_mem_nil, or_false] at hx
      rcases hx with rfl | rfl | rfl | rfl <;> exact low_of (by decide) (by omega) (by decide) q
    · rw [if_neg (by simpa using c1)]
      by_cases c2 : way < 5
      · rw [if_pos (decide_eq_true c2)]
        refine drop_ok (by decide) (by decide) fun r r0 r1 => drop_ok (by decide) (by decide) fun k k0 k1 => ?_
        exact low_of (by omega) (by omega) (by omega) q
      · rw [if_neg (by simpa using c2)]
        refine drop_ok (by decide) (by decide) fun r r0 r1 => drop_ok (by decide) (by decide) fun k k0 k1 => ?_
        exact low_of (by omega) (by omega) (by omega) q
theorem vc__law_minus : ∀ ds Q X, p__law_minus ds Q X → ms__law_minus { nx := fun _ => Q .none, rt := Q, xx := fun x _ => X x } (startE N__law_minus ds) := by
  rintro ds Q X ⟨a, b, rfl, ha, hb, q⟩
  have e1 : fr b = .tuple [.int b.num, .int b.den] := rfl
  simp only [dSeq, dAsg, dRet, dRaise, dRetN, dDrop, dIfS, dSkip, dVar, dC, dOp, dTup, dLst, dCons, dNil, dCB, dCall, dCallS, dCallK, gP, gT, gL, gN, gsNil, gsCons, dTest, dTruth, truD, dNotT, dAndT, dOrT, dAndV, dOrV, dNotV, dIf, dNeg, dAdd, dSub, dMul, dFdiv, dMod, dPow, dI, dLt, dLe, dGt, dGe, dEq, dNe, dIsO, dNotO, dIx, dPar, dFor, iL, iT, iR1, dNew, bLen, bAbs, bInt, bGcd, bTuple, bList, bAll, dType, dNType, dIs, dIs2, startE, List.map_cons, List.map_nil, List.length_cons, List.length_nil, List.cons_append, List.nil_append, List.getElem?_cons_zero, List.getElem?_cons_succ, List.set_cons_zero, List.set_cons_succ, Option.some.injEq, Sl.p.injEq, exists_eq_left', exists_eq_left, Nat.reduceAdd, Nat.reduceSub, List.replicate, forall_const, true_and, and_true, if_true, if_false, Bool.false_eq_true, eq_self, ite_true, ite_false, reduceCtorEq, ms__law_minus, e1, at0, at1]
  refine ⟨two_le, a, -b, by rw [fr_neg], ha, sz_neg hb, ?_⟩
  rw [← Rat.sub_eq_add_neg]
  exact q
theorem vc__law_times : ∀ ds Q X, p__law_times ds Q X → ms__law_times { nx := fun _ => Q .none, rt := Q, xx := fun x _ => X x } (startE N__law_times ds) := by
  rintro ds Q X ⟨a, b, rfl, ha, hb, q⟩
  simp only [dSeq, dAsg, dRet, dRaise, dRetN, dDrop, dIfS, dSkip, dVar, dC, dOp, dTup, dLst, dCons, dNil, dCB, dCall, dCallS, dCallK, gP, gT, gL, gN, gsNil, gsCons, dTest, dTruth, truD, dNotT, dAndT, dOrT, dAndV, dOrV, dNotV, dIf, dNeg, dAdd, dSub, dMul, dFdiv, dMod, dPow, dI, dLt, dLe, dGt, dGe, dEq, dNe, dIsO, dNotO, dIx, dPar, dFor, iL, iT, iR1, dNew, bLen, bAbs, bInt, bGcd, bTuple, bList, bAll, dType, dNType, dIs, dIs2, startE, List.map_cons, List.map_nil, List.length_cons, List.length_nil, List.cons_append, List.nil_append, List.getElem?_cons_zero, List.getElem?_cons_succ, List.set_cons_zero, List.set_cons_succ, Option.some.injEq, Sl.p.injEq, exists_eq_left', exists_eq_left, Nat.reduceAdd, Nat.reduceSub, List.replicate, forall_const, true_and, and_true, if_true, if_false, Bool.false_eq_true, eq_self, ite_true, ite_false, reduceCtorEq, ms__law_times, fr, at0, at1]
  have w0 : (0:Nat) < 4400 := by decide
  have w1 : 4400 + 4400 ≤ 1000000 := by decide
  have da := den_pos a
  have db := den_pos b
  have ad : (a.den : Int).natAbs < 2 ^ 4400 := by simpa using ha.2
  have bd : (b.den : Int).natAbs < 2 ^ 4400 := by simpa using hb.2
  refine ⟨MulOk.w ha.1 hb.1 w0 w0 w1, MulOk.w ad bd w0 w0 w1, _, _, rfl, ?_, ?_, ?_⟩
  · have := Int.mul_pos da db
    omega
  · exact Nat.lt_of_lt_of_le (wide_lt (a := 4400) (b := 4400) ad bd) (Nat.pow_le_pow_right (by decide) (by decide))
  · have : Rat.divInt (a.num * b.num) (a.den * b.den) = a * b := by
      rw [Rat.mul_def', ← Rat.divInt_ofNat]; simp
    rw [this]; exact q
theorem vc__law_below : ∀ ds Q X, p__law_below ds Q X → ms__law_below { nx := fun _ => Q .none, rt := Q, xx := fun x _ => X x } (startE N__law_below ds) := by
  rintro ds Q X ⟨a, b, rfl, ha, hb, q⟩
  simp only [dSeq, dAsg, dRet, dRaise, dRetN, dDrop, dIfS, dSkip, dVar, dC, dOp, dTup, dLst, dCons, dNil, dCB, dCall, dCallS, dCallK, gP, gT, gL, gN, gsNil, gsCons, dTest, dTruth, truD, dNotT, dAndT, dOrT, dAndV, dOrV, dNotV, dIf, dNeg, dAdd, dSub, dMul, dFdiv, dMod, dPow, dI, dLt, dLe, dGt, dGe, dEq, dNe, dIsO, dNotO, dIx, dPar, dFor, iL, iT, iR1, dNew, bLen, bAbs, bInt, bGcd, bTuple, bList, bAll, dType, dNType, dIs, dIs2, startE, List.map_cons, List.map_nil, List.length_cons, List.length_nil, List.cons_append, List.nil_append, List.getElem?_cons_zero, List.getElem?_cons_succ, List.set_cons_zero, List.set_cons_succ, Option.some.injEq, Sl.p.injEq, exists_eq_left', exists_eq_left, Nat.reduceAdd, Nat.reduceSub, List.replicate, forall_const, true_and, and_true, if_true, if_false, Bool.false_eq_true, eq_self, ite_true, ite_false, reduceCtorEq, ms__law_below, fr, at0, at1]
  have w0 : (0:Nat) < 4400 := by decide
  have w1 : 4400 + 4400 ≤ 1000000 := by decide
  refine ⟨MulOk.w ha.1 (by simpa using hb.2) w0 w0 w1, MulOk.w hb.1 (by simpa using ha.2) w0 w0 w1, ?_⟩
  have : decide (a.num * (b.den : Int) < b.num * a.den) = decide (a < b) := decide_eq_decide.mpr (Rat.lt_iff a b).symm
  rw [this]; exact q
theorem vc__law_above : ∀ ds Q X, p__law_above ds Q X → ms__law_above { nx := fun _ => Q .none, rt := Q, xx := fun x _ => X x } (startS N__law_above ds) := by
  rintro ds Q X ⟨rfl, q⟩
  simp only [dSeq, dAsg, dRet, dRaise, dRetN, dDrop, dIfS, dSkip, dVar, dC, dOp, dTup, dLst, dCons, dNil, dCB, dCall, dCallS, dCallK, gP, gT, gL, gN, gsNil, gsCons, dTest, dTruth, truD, dNotT, dAndT, dOrT, dAndV, dOrV, dNotV, dIf, dNeg, dAdd, dSub, dMul, dFdiv, dMod, dPow, dI, dLt, dLe, dGt, dGe, dEq, dNe, dIsO, dNotO, dIx, dPar, dFor, iL, iT, iR1, dNew, bLen, bAbs, bInt, bGcd, bTuple, bList, bAll, dType, dNType, dIs, dIs2, startE, List.map_cons, List.map_nil, List.length_cons, List.length_nil, List.cons_append, List.nil_append, List.getElem?_cons_zero, List.getElem?_cons_succ, List.set_cons_zero, List.set_cons_succ, Option.some.injEq, Sl.p.injEq, exists_eq_left', exists_eq_left, Nat.reduceAdd, Nat.reduceSub, List.replicate, forall_const, true_and, and_true, if_true, if_false, Bool.false_eq_true, eq_self, ite_true, ite_false, reduceCtorEq, ms__law_above, startS]
  refine ⟨rfl, fun p hp => ?_⟩
  simp only [fr, dSeq, dAsg, dRet, dRaise, dRetN, dDrop, dIfS, dSkip, dVar, dC, dOp, dTup, dLst, dCons, dNil, dCB, dCall, dCallS, dCallK, gP, gT, gL, gN, gsNil, gsCons, dTest, dTruth, truD, dNotT, dAndT, dOrT, dAndV, dOrV, dNotV, dIf, dNeg, dAdd, dSub, dMul, dFdiv, dMod, dPow, dI, dLt, dLe, dGt, dGe, dEq, dNe, dIsO, dNotO, dIx, dPar, dFor, iL, iT, iR1, dNew, bLen, bAbs, bInt, bGcd, bTuple, bList, bAll, dType, dNType, dIs, dIs2, startE, List.map_cons, List.map_nil, List.length_cons, List.length_nil, List.cons_append, List.nil_append, List.getElem?_cons_zero, List.getElem?_cons_succ, List.set_cons_zero, List.set_cons_succ, Option.some.injEq, Sl.p.injEq, exists_eq_left', exists_eq_left, Nat.reduceAdd, Nat.reduceSub, List.replicate, forall_const, true_and, and_true, if_true, if_false, Bool.false_eq_true, eq_self, ite_true, ite_false, reduceCtorEq]
  refine ⟨shaped_int _, shaped_int _, ?_⟩
  rw [eqv_int]
  have dp := den_pos p
  by_cases c : p.num = 0
  · rw [if_neg (by simp [c])]
    refine ⟨by decide, ?_⟩
    have := q (Rat.divInt 1 100) (num_sz (by decide) (N := 2000001) (by decide) (by decide) big)
    rw [← fr_eq (by decide) (by decide)] at this
    refine this ?_
    decide +kernel
  · rw [if_pos (by simp [c])]
    have ab : (if p.num < 0 then -p.num else p.num) = ((p.num.natAbs : Nat) : Int) := by split <;> omega
    refine ⟨by decide, ?_⟩
    rw [ab]
    have cp : Nat.gcd (((p.num.natAbs : Nat) : Int)).natAbs ((p.den : Int)).natAbs = 1 := by simpa using p.reduced
    have e := fr_eq dp cp
    have e2 := q (Rat.divInt ((p.num.natAbs : Nat) : Int) p.den) (divInt_sz (by omega) (by simpa using hp.1) (by simpa using hp.2))
    rw [← e] at e2
    refine e2 ?_
    have e3 : (Rat.divInt ((p.num.natAbs : Nat) : Int) p.den).num = ((p.num.natAbs : Nat) : Int) := by
      unfold fr at e
      injection e with e
      injection e with e _
      injection e with e
      exact e.symm
    rw [e3]
    omega
theorem lcGo_map {mg : DG} {me : DE} {es0 : En} {f : D → D} {P : List D → Prop} : ∀ (ds acc : List D), (∀ d ∈ ds, ∀ R : D → Prop, R (f d) → mg d es0 (fun es1 => me es1 R (fun _ => False))) → acc.length + ds.length ≤ 1000000 → P (acc ++ ds.map f) → lcGo mg mYes me es0 ds acc P
  | [], acc, _, _, q => by
    show P acc
    simpa using q
  | d :: r, acc, h, l, q => by
    unfold lcGo mYes
    simp only [if_true]
    refine h d List.mem_cons_self _ ⟨?_, ?_⟩
    · simp at l; omega
    · refine lcGo_map r _ (fun x m => h x (List.mem_cons_of_mem _ m)) (by simp at l ⊢; omega) ?_
      simpa using q
theorem vc__law_kinds : ∀ ds Q X, p__law_kinds ds Q X → ms__law_kinds { nx := fun _ => Q .none, rt := Q, xx := fun x _ => X x } (startE N__law_kinds ds) := by
  rintro ds Q X ⟨d, rfl, q⟩
  simp only [dSeq, dAsg, dRet, dRaise, dRetN, dDrop, dIfS, dSkip, dVar, dC, dOp, dTup, dLst, dCons, dNil, dCB, dCall, dCallS, dCallK, gP, gT, gL, gN, gsNil, gsCons, dTest, dTruth, truD, dNotT, dAndT, dOrT, dAndV, dOrV, dNotV, dIf, dNeg, dAdd, dSub, dMul, dFdiv, dMod, dPow, dI, dLt, dLe, dGt, dGe, dEq, dNe, dIsO, dNotO, dIx, dPar, dFor, iL, iT, iR1, dNew, bLen, bAbs, bInt, bGcd, bTuple, bList, bAll, dType, dNType, dIs, dIs2, startE, List.map_cons, List.map_nil, List.length_cons, List.length_nil, List.cons_append, List.nil_append, List.getElem?_cons_zero, List.getElem?_cons_succ, List.set_cons_zero, List.set_cons_succ, Option.some.injEq, Sl.p.injEq, exists_eq_left', exists_eq_left, Nat.reduceAdd, Nat.reduceSub, List.replicate, forall_const, true_and, and_true, if_true, if_false, Bool.false_eq_true, eq_self, ite_true, ite_false, reduceCtorEq, ms__law_kinds]
  refine ⟨by decide, by decide, ?_⟩
  first | exact q | exact ⟨by decide, q⟩ | exact ⟨by simp, q⟩
theorem kinds_shaped (d : D) : SeqAt.shaped (.list (kinds d)) = true := by
  unfold SeqAt.shaped kinds
  simp [PyData.canLay0, PyData.canLayAll0, PyData.depth, PyData.depthAll]
theorem kinds_eqv (d : D) : PyData.eqv (.list (kinds d)) (.list (kinds d)) = true := by
  unfold kinds
  simp [PyData.eqv, PyData.eqvAll]
theorem flat_get : ∀ {xs : List D} {n : Nat} {x : D}, flatAll n xs → x ∈ xs → flat n x
  | [], _, _, _, m => by cases m
  | y :: ys, n, x, h, m => by
    unfold flatAll at h
    rcases List.mem_cons.mp m with rfl | m
    · exact h.1
    · exact flat_get h.2 m
theorem intsFrom_mem {n : Nat} {d : D} (h : d ∈ Fw.intsFrom 0 n) : ∃ k : Nat, k < n ∧ d = .int k := by
  unfold Fw.intsFrom at h
  obtain ⟨k, hk, e⟩ := List.mem_map.mp h
  exact ⟨k, List.mem_range.mp hk, by rw [← e]; simp⟩
theorem map_true (n : Nat) : (Fw.intsFrom 0 n).map (fun _ => PyData.bool true) = (List.replicate n true).map PyData.bool := by
  unfold Fw.intsFrom
  rw [List.map_map]
  apply List.ext_getElem <;> simp
theorem vc__law_alike (pr : Spc) (n : Nat) (hpr : ∀ d (Q : D → Prop) X, n = n → (∃ m, n = m + 1 ∧ flat m d) → Q (.bool true) → pr [d, d] Q X) : ∀ ds Q X, pa n ds Q X → ms__law_alike pr { nx := fun _ => Q .none, rt := Q, xx := fun x _ => X x } (startE N__law_alike ds) := by
  rintro ds Q X ⟨d, rfl, hf, q⟩
  simp only [dSeq, dAsg, dRet, dRaise, dRetN, dDrop, dIfS, dSkip, dVar, dC, dOp, dTup, dLst, dCons, dNil, dCB, dCall, dCallS, dCallK, gP, gT, gL, gN, gsNil, gsCons, dTest, dTruth, truD, dNotT, dAndT, dOrT, dAndV, dOrV, dNotV, dIf, dNeg, dAdd, dSub, dMul, dFdiv, dMod, dPow, dI, dLt, dLe, dGt, dGe, dEq, dNe, dIsO, dNotO, dIx, dPar, dFor, iL, iT, iR1, dNew, bLen, bAbs, bInt, bGcd, bTuple, bList, bAll, dType, dNType, dIs, dIs2, startE, List.map_cons, List.map_nil, List.length_cons, List.length_nil, List.cons_append, List.nil_append, List.getElem?_cons_zero, List.getElem?_cons_succ, List.set_cons_zero, List.set_cons_succ, Option.some.injEq, Sl.p.injEq, exists_eq_left', exists_eq_left, Nat.reduceAdd, Nat.reduceSub, List.replicate, forall_const, true_and, and_true, if_true, if_false, Bool.false_eq_true, eq_self, ite_true, ite_false, reduceCtorEq, ms__law_alike, dLc, wipeE, p__law_kinds]
  refine ⟨_, rfl, _, rfl, kinds_shaped d, kinds_shaped d, ?_⟩
  rw [kinds_eqv]
  simp only [Bool.not_true, Bool.false_eq_true, if_false]
  cases d with
  | none => exact ⟨by decide, by decide, by simpa [PyData.eqv] using q⟩
  | bool b => exact ⟨by cases b <;> decide, by cases b <;> decide, by simpa [PyData.eqv] using q⟩
  | int i => exact ⟨shaped_int i, shaped_int i, by simpa [PyData.eqv] using q⟩
  | str s => cases n <;> exact (show False from hf).elim
  | dict kv => cases n <;> exact (show False from hf).elim
  | list xs =>
    cases n with
    | zero => exact (show False from hf).elim
    | succ m =>
      obtain ⟨hl, hx⟩ : xs.length ≤ 1000 ∧ flatAll m xs := hf
      simp only [tyD, isB, decide_true, Bool.true_or, Bool.or_true, if_true, dSeq, dAsg, dRet, dRaise, dRetN, dDrop, dIfS, dSkip, dVar, dC, dOp, dTup, dLst, dCons, dNil, dCB, dCall, dCallS, dCallK, gP, gT, gL, gN, gsNil, gsCons, dTest, dTruth, truD, dNotT, dAndT, dOrT, dAndV, dOrV, dNotV, dIf, dNeg, dAdd, dSub, dMul, dFdiv, dMod, dPow, dI, dLt, dLe, dGt, dGe, dEq, dNe, dIsO, dNotO, dIx, dPar, dFor, iL, iT, iR1, dNew, bLen, bAbs, bInt, bGcd, bTuple, bList, bAll, dType, dNType, dIs, dIs2, startE, List.map_cons, List.map_nil, List.length_cons, List.length_nil, List.cons_append, List.nil_append, List.getElem?_cons_zero, List.getElem?_cons_succ, List.set_cons_zero, List.set_cons_succ, Option.some.injEq, Sl.p.injEq, exists_eq_left', exists_eq_left, Nat.reduceAdd, Nat.reduceSub, List.replicate, forall_const, true_and, and_true, if_true, if_false, Bool.false_eq_true, eq_self, ite_true, ite_false, reduceCtorEq, shaped_int, eqv_int]
      refine ⟨by omega, by omega, ?_⟩
      refine lcGo_map (f := fun _ => .bool true) _ [] (fun x mx R r => ?_) (by simp [Fw.intsFrom]; omega) ?_
      · obtain ⟨k, hk, rfl⟩ := intsFrom_mem mx
        have hk' : k < xs.length := by simpa using hk
        simp only [dSeq, dAsg, dRet, dRaise, dRetN, dDrop, dIfS, dSkip, dVar, dC, dOp, dTup, dLst, dCons, dNil, dCB, dCall, dCallS, dCallK, gP, gT, gL, gN, gsNil, gsCons, dTest, dTruth, truD, dNotT, dAndT, dOrT, dAndV, dOrV, dNotV, dIf, dNeg, dAdd, dSub, dMul, dFdiv, dMod, dPow, dI, dLt, dLe, dGt, dGe, dEq, dNe, dIsO, dNotO, dIx, dPar, dFor, iL, iT, iR1, dNew, bLen, bAbs, bInt, bGcd, bTuple, bList, bAll, dType, dNType, dIs, dIs2, startE, List.map_cons, List.map_nil, List.length_cons, List.length_nil, List.cons_append, List.nil_append, List.getElem?_cons_zero, List.getElem?_cons_succ, List.set_cons_zero, List.set_cons_succ, Option.some.injEq, Sl.p.injEq, exists_eq_left', exists_eq_left, Nat.reduceAdd, Nat.reduceSub, List.replicate, forall_const, true_and, and_true, if_true, if_false, Bool.false_eq_true, eq_self, ite_true, ite_false, reduceCtorEq]
        have e : atI xs (k : Int) = some xs[k] := atI_nat (List.getElem?_eq_getElem hk')
        exact ⟨_, e, _, e, hpr _ _ _ rfl ⟨m, rfl, flat_get hx (List.getElem_mem hk')⟩ r⟩
      · refine ⟨List.replicate xs.length true, by simpa using map_true xs.length, ?_⟩
        simpa using q
  | tuple xs =>
    cases n with
    | zero => exact (show False from hf).elim
    | succ m =>
      obtain ⟨hl, hx⟩ : xs.length ≤ 1000 ∧ flatAll m xs := hf
      simp only [tyD, isB, decide_true, Bool.true_or, Bool.or_true, if_true, dSeq, dAsg, dRet, dRaise, dRetN, dDrop, dIfS, dSkip, dVar, dC, dOp, dTup, dLst, dCons, dNil, dCB, dCall, dCallS, dCallK, gP, gT, gL, gN, gsNil, gsCons, dTest, dTruth, truD, dNotT, dAndT, dOrT, dAndV, dOrV, dNotV, dIf, dNeg, dAdd, dSub, dMul, dFdiv, dMod, dPow, dI, dLt, dLe, dGt, dGe, dEq, dNe, dIsO, dNotO, dIx, dPar, dFor, iL, iT, iR1, dNew, bLen, bAbs, bInt, bGcd, bTuple, bList, bAll, dType, dNType, dIs, dIs2, startE, List.map_cons, List.map_nil, List.length_cons, List.length_nil, List.cons_append, List.nil_append, List.getElem?_cons_zero, List.getElem?_cons_succ, List.set_cons_zero, List.set_cons_succ, Option.some.injEq, Sl.p.injEq, exists_eq_left', exists_eq_left, Nat.reduceAdd, Nat.reduceSub, List.replicate, forall_const, true_and, and_true, if_true, if_false, Bool.false_eq_true, eq_self, ite_true, ite_false, reduceCtorEq, shaped_int, eqv_int]
      refine ⟨by omega, by omega, ?_⟩
      refine lcGo_map (f := fun _ => .bool true) _ [] (fun x mx R r => ?_) (by simp [Fw.intsFrom]; omega) ?_
      · obtain ⟨k, hk, rfl⟩ := intsFrom_mem mx
        have hk' : k < xs.length := by simpa using hk
        simp only [dSeq, dAsg, dRet, dRaise, dRetN, dDrop, dIfS, dSkip, dVar, dC, dOp, dTup, dLst, dCons, dNil, dCB, dCall, dCallS, dCallK, gP, gT, gL, gN, gsNil, gsCons, dTest, dTruth, truD, dNotT, dAndT, dOrT, dAndV, dOrV, dNotV, dIf, dNeg, dAdd, dSub, dMul, dFdiv, dMod, dPow, dI, dLt, dLe, dGt, dGe, dEq, dNe, dIsO, dNotO, dIx, dPar, dFor, iL, iT, iR1, dNew, bLen, bAbs, bInt, bGcd, bTuple, bList, bAll, dType, dNType, dIs, dIs2, startE, List.map_cons, List.map_nil, List.length_cons, List.length_nil, List.cons_append, List.nil_append, List.getElem?_cons_zero, List.getElem?_cons_succ, List.set_cons_zero, List.set_cons_succ, Option.some.injEq, Sl.p.injEq, exists_eq_left', exists_eq_left, Nat.reduceAdd, Nat.reduceSub, List.replicate, forall_const, true_and, and_true, if_true, if_false, Bool.false_eq_true, eq_self, ite_true, ite_false, reduceCtorEq]
        have e : atI xs (k : Int) = some xs[k] := atI_nat (List.getElem?_eq_getElem hk')
        exact ⟨_, e, _, e, hpr _ _ _ rfl ⟨m, rfl, flat_get hx (List.getElem_mem hk')⟩ r⟩
      · refine ⟨List.replicate xs.length true, by simpa using map_true xs.length, ?_⟩
        simpa using q
end K01
namespace K01
open PySem PySem.Spec L2 Fw
theorem perm10 (x y : D) : permL [1, 0] [x, y] = [y, x] := rfl
theorem s_up {a : Rat} {n : Nat} (ha : Sz a n) (h : n ≤ 4400 := by decide) : Sz a 4400 := sz_mono ha h
theorem outc_cases {k : Int} {d e : D} {n : Str} (h : outc k d e = some n) : n = "InvalidFraction" ∨ n = "InvalidCount" := by
  unfold outc at h
  repeat' split at h
  all_goals first
    | exact .inl (Option.some.inj h).symm
    | exact .inr (Option.some.inj h).symm
    | cases h
theorem outc_two {k : Int} {d e : D} (h : k = 0 ∨ k = 1 ∨ k = 2 ∨ k = 4 ∨ k = 5) : outc k d e = if (isFr d && isFr e) = true then none else some (Str.ofString "InvalidFraction") := by
  unfold outc
  rcases h with rfl | rfl | rfl | rfl | rfl <;> rfl
theorem both_call {Q : D → Prop} {X : XP} {k : Int} {d e : D} {f : Rat → Rat → D} (h : k = 0 ∨ k = 1 ∨ k = 2 ∨ k = 4 ∨ k = 5) (s : SzC k d e) (hn : outc k d e = none → ∀ v, Q v) (hx : ∀ n, outc k d e = some n → X (n, none)) : pB f [d, e] Q X := by
  rw [outc_two h] at hn hx
  refine ⟨d, e, rfl, fun a b ha hb => ⟨s_up (s.d1 a ha), s_up (s.e1 b hb), hn ?_ _⟩, fun c => hx _ ?_⟩
  · subst ha hb
    rw [isFr_fr, isFr_fr]; rfl
  · rw [c]; rfl
theorem outc_over {d e : D} : outc 3 d e = if (isFr d && isFr e) = true then (match e with
    | .tuple [.int t, _] => if t = 0 then some (Str.ofString "InvalidFraction") else none
    | _ => none) else some (Str.ofString "InvalidFraction") := by
  unfold outc
  rfl
theorem over_call {Q : D → Prop} {X : XP} {d e : D} (s : SzC 3 d e) (hn : outc 3 d e = none → ∀ v, Q v) (hx : ∀ n, outc 3 d e = some n → X (n, none)) : p_over [d, e] Q X := by
  rw [outc_over] at hn hx
  refine ⟨d, e, rfl, fun a b ha hb => ⟨s_up (s.d1 a ha), s_up (s.e1 b hb), fun b0 => hn ?_ _, fun b0 => hx _ ?_⟩, fun c => hx _ ?_⟩
  · subst ha hb
    rw [isFr_fr, isFr_fr]
    have : b.num ≠ 0 := fun z => b0 (Rat.num_eq_zero.mp z)
    simp [fr, this]
  · subst ha hb
    rw [isFr_fr, isFr_fr]
    have : b.num = 0 := Rat.num_eq_zero.mpr b0
    simp [fr, this]
  · rw [c]; rfl
theorem outc_root {k : Int} {d e : D} (h : k = 9 ∨ k = 10) : outc k d e = if isFr d = true then (match d with
    | .tuple [.int t, _] => if t < 0 then some (Str.ofString "InvalidFraction") else if cntOk e 0 30 = true then none else some (Str.ofString "InvalidCount")
    | _ => none) else some (Str.ofString "InvalidFraction") := by
  unfold outc
  rcases h with rfl | rfl <;> rfl
theorem root_call {Q : D → Prop} {X : XP} {k : Int} {d e : D} (h : k = 9 ∨ k = 10) (s : SzC k d e) (hn : outc k d e = none → ∀ v, Q v) (hx : ∀ n, outc k d e = some n → X (n, none)) : p_root [d, e] Q X := by
  rw [outc_root h] at hn hx
  refine ⟨d, e, rfl, fun c => hx _ ?_, fun q hq => ⟨sz_mono (s.d1 q hq) (by decide), fun c => hx _ ?_, fun c => ⟨fun c2 => hx _ ?_, fun n he hl => hn ?_ _⟩⟩⟩
  · rw [c]; rfl
  · subst hq
    rw [isFr_fr]
    simp [fr, c]
  · subst hq
    rw [isFr_fr]
    have : ¬ q.num < 0 := by omega
    simp [fr, this, c2]
  · subst hq he
    rw [isFr_fr]
    have c1 : ¬ q.num < 0 := by omega
    have c2 : cntOk (.int n) 0 30 = true := by simp [cntOk]; omega
    simp [fr, c1, c2]
theorem vc__law_call : ∀ ds Q X, p__law_call ds Q X → ms__law_call { nx := fun _ => Q .none, rt := Q, xx := fun x _ => X x } (startE N__law_call ds) := by
  rintro ds Q X ⟨k, d, e, rfl, k0, k10, s, hn, hx⟩
  simp only [dSeq, dAsg, dRet, dRaise, dRetN, dDrop, dIfS, dSkip, dVar, dC, dOp, dTup, dLst, dCons, dNil, dCB, dCall, dCallS, dCallK, gP, gT, gL, gN, gsNil, gsCons, dTest, dTruth, truD, dNotT, dAndT, dOrT, dAndV, dOrV, dNotV, dIf, dNeg, dAdd, dSub, dMul, dFdiv, dMod, dPow, dI, dLt, dLe, dGt, dGe, dEq, dNe, dIsO, dNotO, dIx, dPar, dFor, iL, iT, iR1, dNew, bLen, bAbs, bInt, bGcd, bTuple, bList, bAll, dType, dNType, dIs, dIs2, startE, List.map_cons, List.map_nil, List.length_cons, List.length_nil, List.cons_append, List.nil_append, List.getElem?_cons_zero, List.getElem?_cons_succ, List.set_cons_zero, List.set_cons_succ, Option.some.injEq, Sl.p.injEq, exists_eq_left', exists_eq_left, Nat.reduceAdd, Nat.reduceSub, List.replicate, forall_const, true_and, and_true, if_true, if_false, Bool.false_eq_true, eq_self, ite_true, ite_false, reduceCtorEq, ms__law_call, shaped_int, eqv_int, perm10]
  have hk : k = 0 ∨ k = 1 ∨ k = 2 ∨ k = 3 ∨ k = 4 ∨ k = 5 ∨ k = 6 ∨ k = 7 ∨ k = 8 ∨ k = 9 ∨ k = 10 := by omega
  rcases hk with rfl | rfl | rfl | rfl | rfl | rfl | rfl | rfl | rfl | rfl | rfl
  · exact both_call (.inl rfl) s hn hx
  · exact both_call (.inr (.inl rfl)) s hn hx
  · exact both_call (.inr (.inr (.inl rfl))) s hn hx
  · exact over_call s hn hx
  · exact both_call (.inr (.inr (.inr (.inl rfl)))) s hn hx
  · have o := outc_two (k := 5) (d := d) (e := e) (.inr (.inr (.inr (.inr rfl))))
    rw [o] at hn hx
    have ft : frTup (.tuple [d, e, d]) = (isFr d && isFr e) := by
      simp only [frTup, List.all_cons, List.all_nil, Bool.and_true]
      cases isFr d <;> cases isFr e <;> rfl
    refine ⟨by decide, _, rfl, fun xs hxs => ?_, fun c v => hn ?_ v, fun c => hx _ ?_⟩
    · cases hxs
      refine ⟨by simp, fun x m q hq => ?_⟩
      simp only [List.mem_cons, List.not_mem_nil, or_false] at m
      rcases m with rfl | rfl | rfl
      · exact s.d1 q hq
      · exact s.e1 q hq
      · exact s.d1 q hq
    · rw [ft] at c; rw [c]; rfl
    · rw [ft] at c; rw [c]; rfl
  · refine ⟨d, rfl, s.d1, fun c v => hn ?_ v, fun c => hx _ ?_⟩
    · simp [outc, c]
    · simp [outc, c]
  · refine ⟨d, e, rfl, fun t b hd he b0 => ⟨Nat.lt_of_lt_of_le (s.e2 b he) (Nat.pow_le_pow_right (by decide) (by decide)), hn ?_ _⟩, fun c => hx _ ?_⟩
    · subst hd he
      simp [outc, fracOk, b0]
    · simp [outc, c]
  · refine ⟨d, rfl, s.d2 rfl, fun c v => hn ?_ v, fun c => hx _ ?_⟩
    · simp [outc, c]
    · simp [outc, c]
  · exact root_call (.inl rfl) s hn hx
  · exact root_call (.inr rfl) s hn hx
theorem vc__law_tried : ∀ ds Q X, p__law_tried ds Q X → ms__law_tried { nx := fun _ => Q .none, rt := Q, xx := fun x _ => X x } (startE N__law_tried ds) := by
  rintro ds Q X ⟨k, d, e, rfl, k0, k10, s, q⟩
  simp only [dSeq, dAsg, dRet, dRaise, dRetN, dDrop, dIfS, dSkip, dVar, dC, dOp, dTup, dLst, dCons, dNil, dCB, dCall, dCallS, dCallK, gP, gT, gL, gN, gsNil, gsCons, dTest, dTruth, truD, dNotT, dAndT, dOrT, dAndV, dOrV, dNotV, dIf, dNeg, dAdd, dSub, dMul, dFdiv, dMod, dPow, dI, dLt, dLe, dGt, dGe, dEq, dNe, dIsO, dNotO, dIx, dPar, dFor, iL, iT, iR1, dNew, bLen, bAbs, bInt, bGcd, bTuple, bList, bAll, dType, dNType, dIs, dIs2, startE, List.map_cons, List.map_nil, List.length_cons, List.length_nil, List.cons_append, List.nil_append, List.getElem?_cons_zero, List.getElem?_cons_succ, List.set_cons_zero, List.set_cons_succ, Option.some.injEq, Sl.p.injEq, exists_eq_left', exists_eq_left, Nat.reduceAdd, Nat.reduceSub, List.replicate, forall_const, true_and, and_true, if_true, if_false, Bool.false_eq_true, eq_self, ite_true, ite_false, reduceCtorEq, ms__law_tried, dTry, hPick]
  refine ⟨k, d, e, rfl, k0, k10, s, fun c v => ?_, fun n c => ?_⟩
  · rw [c] at q
    exact q
  · rw [c] at q
    rcases outc_cases c with rfl | rfl
    · exact ⟨true, by decide +kernel, by simpa [word] using q⟩
    · rw [show word (some (Str.ofString "InvalidCount")) = "count" from by decide +kernel] at q
      exact ⟨false, by decide +kernel, true, by decide +kernel, q⟩
end K01
namespace K01
open PySem PySem.Spec L2 Fw
theorem isFr_pair {t b : Int} (h : ¬ (1 ≤ b ∧ Nat.gcd t.natAbs b.natAbs = 1)) : isFr (.tuple [.int t, .int b]) = false := by
  unfold isFr
  by_cases c : 1 ≤ b
  · have : ¬ Nat.gcd t.natAbs b.natAbs = 1 := fun z => h ⟨c, z⟩
    simp [this]
  · simp [c]
theorem vc__law_none : ∀ ds Q X, p__law_none ds Q X → ms__law_none { nx := fun _ => Q .none, rt := Q, xx := fun x _ => X x } (startS N__law_none ds) := by
  rintro ds Q X ⟨q, rfl, hq, h⟩
  have dq := den_pos q
  have gz : Nat.gcd q.num.natAbs ((q.den : Int)).natAbs = 1 := by simpa using q.reduced
  have lt : q.num.natAbs.log2 < 1920 := Nat.lt_trans (log_lt hq.1 (by decide)) (by decide)
  simp only [dSeq, dAsg, dRet, dRaise, dRetN, dDrop, dIfS, dSkip, dVar, dC, dOp, dTup, dLst, dCons, dNil, dCB, dCall, dCallS, dCallK, gP, gT, gL, gN, gsNil, gsCons, dTest, dTruth, truD, dNotT, dAndT, dOrT, dAndV, dOrV, dNotV, dIf, dNeg, dAdd, dSub, dMul, dFdiv, dMod, dPow, dI, dLt, dLe, dGt, dGe, dEq, dNe, dIsO, dNotO, dIx, dPar, dFor, iL, iT, iR1, dNew, bLen, bAbs, bInt, bGcd, bTuple, bList, bAll, dType, dNType, dIs, dIs2, startE, List.map_cons, List.map_nil, List.length_cons, List.length_nil, List.cons_append, List.nil_append, List.getElem?_cons_zero, List.getElem?_cons_succ, List.set_cons_zero, List.set_cons_succ, Option.some.injEq, Sl.p.injEq, exists_eq_left', exists_eq_left, Nat.reduceAdd, Nat.reduceSub, List.replicate, forall_const, true_and, and_true, if_true, if_false, Bool.false_eq_true, eq_self, ite_true, ite_false, reduceCtorEq, ms__law_none, startS, fr, at0, at1, dSl, dNoPart, dPart, slD, bStrInt]
  refine ⟨MulOk.r ⟨by decide, by decide⟩, MulOk.r ⟨by decide, by decide⟩, ?_⟩
  repeat first | refine ⟨lt, ?_⟩ | refine ⟨by decide, ?_⟩
  refine ⟨16, rfl, by decide, Nat.lt_of_lt_of_le (by decide : 16 < 2 ^ 64) (Nat.pow_le_pow_right (by decide) (by decide)), fun r r0 r1 => ?_⟩
  dsimp only
  obtain ⟨x, hx, e⟩ := atI_of (l := [PyData.tuple [.int (q.num * 3), .int (q.den * 3)], .tuple [.int q.num, .int (-q.den)], .tuple [.int q.num, .int 0], .list [.int q.num, .int q.den], .tuple [.int q.num, .int q.den, .int 1], .tuple (cutD [.int q.num, .int q.den] none (some 1)), .int q.num, .none, .str "1/2",
    .bool true, .tuple [.bool true, .int 1], .tuple [.int 1, .bool true], .tuple [.str (Str.ofString (toString q.num)), .int q.den], .tuple [.tuple [.int q.num, .int q.den], .tuple [.int q.num, .int q.den]], .tuple [], .tuple [.int 0, .int 2]]) r0 (by simpa using r1)
  refine ⟨x, e, h x ?_⟩
  have nt : ∀ xs, isFr (.tuple xs) = false → BadD (.tuple xs) := fun xs z => ⟨z, fun i z => by cases z⟩
  simp only [List.mem_cons, List.not_mem_nil, or_false] at hx
  rcases hx with rfl | rfl | rfl | rfl | rfl | rfl | rfl | rfl | rfl | rfl | rfl | rfl | rfl | rfl | rfl | rfl
  · refine nt _ (isFr_pair fun z => ?_)
    have z2 := z.2
    rw [Int.natAbs_mul, Int.natAbs_mul, Nat.gcd_mul_right, gz] at z2
    exact absurd z2 (by decide)
  · exact nt _ (isFr_pair fun z => by omega)
  · exact nt _ (isFr_pair fun z => by omega)
  · exact ⟨rfl, fun i z => by cases z⟩
  · exact nt _ rfl
  · exact nt _ rfl
  · exact ⟨rfl, fun i z => by cases z; exact hq.1⟩
  · exact ⟨rfl, fun i z => by cases z⟩
  · exact ⟨rfl, fun i z => by cases z⟩
  · exact ⟨rfl, fun i z => by cases z⟩
  · exact nt _ rfl
  · exact nt _ rfl
  · exact nt _ rfl
  · exact nt _ rfl
  · exact nt _ rfl
  · exact nt _ (isFr_pair fun z => absurd z.2 (by decide))
end K01
namespace K01
open PySem PySem.Spec L2 Fw
theorem row_of {q : Rat} {n d : Int} (hd : d ≠ 0) (e : q = Rat.divInt n d) : q.num * d = n * q.den := by
  have h := Rat.num_divInt_den q
  have z : Rat.divInt q.num q.den = Rat.divInt n d := h.trans e
  have dq := den_pos q
  exact (Rat.divInt_eq_divInt_iff (by omega) hd).mp z
theorem divInt_lt {a b c d : Int} (hb : 0 < b) (hd : 0 < d) : Rat.divInt a b < Rat.divInt c d ↔ a * d < c * b := by
  generalize h1 : Rat.divInt a b = p
  generalize h2 : Rat.divInt c d = q
  have e1 := row_of (q := p) (by omega) h1.symm
  have e2 := row_of (q := q) (by omega) h2.symm
  have dp := den_pos p
  have dq := den_pos q
  rw [Rat.lt_iff]
  have bd := Int.mul_pos hb hd
  have pq := Int.mul_pos dp dq
  constructor
  · intro h
    have := Int.mul_lt_mul_of_pos_right h bd
    have l1 : p.num * q.den * (b * d) = a * d * (p.den * q.den) := by
      have : p.num * q.den * (b * d) = p.num * b * (q.den * d) := by grind
      rw [this, e1]; grind
    have l2 : q.num * p.den * (b * d) = c * b * (p.den * q.den) := by
      have : q.num * p.den * (b * d) = q.num * d * (p.den * b) := by grind
      rw [this, e2]; grind
    rw [l1, l2] at this
    exact Int.lt_of_mul_lt_mul_right this (Int.le_of_lt pq)
  · intro h
    have := Int.mul_lt_mul_of_pos_right h pq
    have l1 : a * d * (p.den * q.den) = p.num * q.den * (b * d) := by
      have : p.num * q.den * (b * d) = p.num * b * (q.den * d) := by grind
      rw [this, e1]; grind
    have l2 : c * b * (p.den * q.den) = q.num * p.den * (b * d) := by
      have : q.num * p.den * (b * d) = q.num * d * (p.den * b) := by grind
      rw [this, e2]; grind
    rw [l1, l2] at this
    exact Int.lt_of_mul_lt_mul_right this (Int.le_of_lt bd)
def uN (n : Nat) : Rat := Rat.divInt 1 (10 ^ n)
theorem ten_pos (n : Nat) : (0 : Int) < 10 ^ n := Int.pow_pos (by decide)
theorem fr_uN (n : Nat) : fr (uN n) = .tuple [.int 1, .int (10 ^ n)] := (fr_eq (ten_pos n) (by simp)).symm
theorem uN_succ (n : Nat) : uN n * Rat.divInt 1 10 = uN (n + 1) := by
  unfold uN
  rw [Rat.divInt_mul_divInt, Int.pow_succ, Int.mul_one]
theorem uN_sz {n : Nat} (h : n ≤ 31) : Sz (uN n) 134 := divInt_sz (by have := ten_pos n; omega) (by decide) (Nat.lt_of_lt_of_le (pow_bits (b := 10) (by decide) n) (Nat.pow_le_pow_right (by decide) (by omega)))
theorem rootN_sq {m : Rat} {n : Nat} (h0 : 0 ≤ m.num) : (rootN m n : Int) * rootN m n * m.den ≤ m.num * (10 ^ n * 10 ^ n) ∧ m.num * (10 ^ n * 10 ^ n) < ((rootN m n : Int) + 1) * (rootN m n + 1) * m.den := by
  unfold rootN
  have dm := den_pos m
  have tp := ten_pos n
  generalize hN : m.num * 10 ^ n * 10 ^ n / (m.den : Int) = N
  have n0 : 0 ≤ N := by rw [← hN]; exact Int.ediv_nonneg (Int.mul_nonneg (Int.mul_nonneg h0 (by omega)) (by omega)) (by omega)
  obtain ⟨a, b⟩ := isqrt_ok N.toNat
  generalize Float64.isqrt N.toNat = r at a b
  have a' : (r : Int) * r ≤ N := by
    have : ((r * r : Nat) : Int) ≤ (N.toNat : Int) := by exact_mod_cast a
    rw [Int.toNat_of_nonneg n0] at this
    exact_mod_cast this
  have b' : N < ((r : Int) + 1) * (r + 1) := by
    have : (N.toNat : Int) < (((r + 1) * (r + 1) : Nat) : Int) := by exact_mod_cast b
    rw [Int.toNat_of_nonneg n0] at this
    exact_mod_cast this
  have e : m.num * (10 ^ n * 10 ^ n) = m.num * 10 ^ n * 10 ^ n := by grind
  have lo : N * m.den ≤ m.num * (10 ^ n * 10 ^ n) := by rw [e, ← hN]; exact Int.ediv_mul_le _ (by omega)
  have hi : m.num * (10 ^ n * 10 ^ n) < (N + 1) * m.den := by rw [e, ← hN]; exact Int.lt_ediv_add_one_mul_self _ dm
  refine ⟨Int.le_trans (Int.mul_le_mul_of_nonneg_right a' (by omega)) lo, Int.lt_of_lt_of_le hi (Int.mul_le_mul_of_nonneg_right (by omega) (by omega))⟩
theorem root_low {m : Rat} {n : Nat} (h0 : 0 ≤ m.num) : ¬ m < rootQ m n * rootQ m n := by
  unfold rootQ
  rw [Rat.divInt_mul_divInt]
  have tp := ten_pos n
  have e : m = Rat.divInt m.num m.den := (Rat.num_divInt_den m).symm
  intro h
  rw [e, divInt_lt (den_pos m) (Int.mul_pos tp tp), Rat.num_divInt_den] at h
  have := (rootN_sq (m := m) (n := n) h0).1
  omega
theorem root_high {m : Rat} {n : Nat} (h0 : 0 ≤ m.num) : m < (rootQ m n + uN n) * (rootQ m n + uN n) := by
  unfold rootQ uN
  have tp := ten_pos n
  have e : m = Rat.divInt m.num m.den := (Rat.num_divInt_den m).symm
  have s : Rat.divInt (rootN m n) (10 ^ n) + Rat.divInt 1 (10 ^ n) = Rat.divInt (rootN m n + 1) (10 ^ n) := by
    rw [Rat.divInt_add_divInt _ _ (by omega) (by omega), ← Int.add_mul, Rat.divInt_mul_right (by omega)]
  rw [s, Rat.divInt_mul_divInt]
  have g := (rootN_sq (m := m) (n := n) h0).2
  conv => lhs; rw [e]
  rw [divInt_lt (den_pos m) (Int.mul_pos tp tp)]
  exact g
theorem rootN_small {m : Rat} {n : Nat} (h0 : 0 ≤ m.num) (hm : Sz m 1000) (hn : n ≤ 30) : rootN m n < 2 ^ 1260 := by
  have r1 := rootN_le hm hn
  unfold rootN
  have dm := den_pos m
  have tp := ten_pos n
  obtain ⟨a, _⟩ := isqrt_ok (m.num * 10 ^ n * 10 ^ n / (m.den : Int)).toNat
  have z : (m.num * 10 ^ n * 10 ^ n / (m.den : Int)).toNat ≤ (m.num * 10 ^ n * 10 ^ n).natAbs := by
    have := Int.natAbs_ediv_le_natAbs (m.num * 10 ^ n * 10 ^ n) (m.den : Int)
    omega
  have z2 : Float64.isqrt (m.num * 10 ^ n * 10 ^ n / (m.den : Int)).toNat ≤ (m.num * 10 ^ n * 10 ^ n / (m.den : Int)).toNat := Nat.le_trans (Nat.le_mul_self _) a
  omega
theorem rootQ_sz {m : Rat} {n : Nat} (h0 : 0 ≤ m.num) (hm : Sz m 1000) (hn : n ≤ 30) : Sz (rootQ m n) 1260 :=
  divInt_sz (by have := ten_pos n; omega) (by simpa using rootN_small h0 hm hn) (Nat.lt_of_lt_of_le (pow10_bits hn) (Nat.pow_le_pow_right (by decide) (by decide)))
theorem rootQ_num {m : Rat} {n : Nat} : 0 ≤ (rootQ m n).num := by
  have e := row_of (q := rootQ m n) (by have := ten_pos n; omega) rfl
  have tp := ten_pos n
  have dq := den_pos (rootQ m n)
  have : 0 ≤ (rootQ m n).num * 10 ^ n := by rw [e]; exact Int.mul_nonneg (by omega) (by omega)
  rcases Int.lt_or_le (rootQ m n).num 0 with h | h
  · have := Int.mul_neg_of_neg_of_pos h tp
    omega
  · exact h
theorem rootQ_whole {m : Rat} {n : Nat} : (Rat.divInt ((rootQ m n).num * 10 ^ n) (rootQ m n).den).den = 1 := by
  have e := row_of (q := rootQ m n) (by have := ten_pos n; omega) rfl
  have dq := den_pos (rootQ m n)
  rw [e]
  have : Rat.divInt ((rootN m n : Int) * (rootQ m n).den) (rootQ m n).den = Rat.divInt (rootN m n) 1 := by
    have z := Rat.divInt_mul_right (n := (rootN m n : Int)) (d := 1) (a := ((rootQ m n).den : Int)) (by omega)
    rw [Int.one_mul] at z
    exact z
  rw [this, Rat.den_divInt]
  simp
theorem rootQ_zero (n : Nat) : rootQ 0 n = 0 := by
  unfold rootQ rootN
  have : ((0 : Rat).num * 10 ^ n * 10 ^ n / ((0 : Rat).den : Int)).toNat = 0 := by
    show (0 * 10 ^ n * 10 ^ n / ((1 : Nat) : Int)).toNat = 0
    simp
  rw [this]
  have z : Float64.isqrt 0 = 0 := by decide
  rw [z]
  exact Rat.zero_divInt _
theorem root_ok {Q : D → Prop} {X : XP} {m : Rat} {n : Nat} (hm : Sz m 1000) (h0 : 0 ≤ m.num) (hn : n ≤ 30) (h : Q (fr (rootQ m n))) : p_root [fr m, .int n] Q X := by
  refine ⟨_, _, rfl, fun c => ?_, fun q hq => ?_⟩
  · rw [isFr_fr] at c; cases c
  · obtain rfl := fr_inj hq
    refine ⟨hm, fun c => absurd c (by omega), fun _ => ⟨fun c => ?_, fun k e hk => ?_⟩⟩
    · simp [cntOk] at c
      omega
    · injection e with e
      obtain rfl : k = n := by omega
      exact h
def st__law_roots_right_0 : DS := (dAsg (dTup (dCons (dC (.int 1)) (dCons (dOp dPow (dC (.int 10)) (dC (.int 40))) dNil))) (gP 2))
def st__law_roots_right_1 : DS := (dAsg (dOp dIx (dLst (dCons (dVar 1) (dCons (dCall p__law_times (dCons (dVar 1) (dCons (dVar 1) dNil))) (dCons (dCall p__law_plus (dCons (dCall p__law_times (dCons (dVar 1) (dCons (dVar 1) dNil))) (dCons (dVar 2) dNil))) (dCons (dCall p__law_minus (dCons (dCall p__law_times (dCons (dVar 1) (dCons (dVar 1) dNil))) (dCons (dVar 2) dNil))) dNil))))) (dCallS 0 p__law_drop (dCons (dC (.int 4)) dNil))) (gP 1))
def st__law_roots_right_2 : DS := (dIfS (dTest (dOp dEq (dCallS 0 p__law_drop (dCons (dC (.int 4)) dNil)) (dC (.int 0)))) (dSeq (dAsg (dOp dMul (dOp dPow (dC (.int 10)) (dC (.int 50))) (dOp dPow (dC (.int 10)) (dC (.int 49)))) (gP 3)) (dAsg (dCall p__law_low (dCons (dOp dAdd (dC (.int 1)) (dCallS 0 p__law_drop (dCons (dVar 3) dNil))) (dCons (dOp dAdd (dC (.int 1)) (dCallS 0 p__law_drop (dCons (dVar 3) dNil))) dNil))) (gP 1))) dSkip)
def st__law_roots_right_3 : DS := (dIfS (dTest (dOp dLt (dOp dIx (dVar 1) (dC (.int 0))) (dC (.int 0)))) (dRet (dC (.bool true))) dSkip)
def st__law_roots_right_4 : DS := (dPar 4 5 (dCons (dCallS 0 p__law_drop (dCons (dC (.int 31)) dNil)) (dCons (dTup (dCons (dC (.int 1)) (dCons (dC (.int 1)) dNil))) dNil)))
def st__law_roots_right_5 : DS := (dFor (iR1 (dCons (dVar 4) dNil)) (gP 6) (dAsg (dCall p__law_times (dCons (dVar 5) (dCons (dTup (dCons (dC (.int 1)) (dCons (dC (.int 10)) dNil))) dNil))) (gP 5)))
def st__law_roots_right_6 : DS := (dAsg (dCall p_root (dCons (dVar 1) (dCons (dVar 4) dNil))) (gP 7))
def st__law_roots_right_7 : DS := (dIfS (dNotT (dTruth (dCall p__law_alike (dCons (dLst (dCons (dVar 7) (dCons (dCallK 2 (permL [1, 0]) p_root (dCons (dVar 4) (dCons (dVar 1) dNil))) (dCons (dCall p_root (dCons (dTup (dCons (dC (.int 0)) (dCons (dC (.int 1)) dNil))) (dCons (dVar 4) dNil))) dNil)))) (dCons (dLst (dCons (dVar 7) (dCons (dVar 7) (dCons (dTup (dCons (dC (.int 0)) (dCons (dC (.int 1)) dNil))) dNil)))) dNil))))) (dRet (dC (.bool false))) dSkip)
def st__law_roots_right_8 : DS := (dAsg (dCall p__law_plus (dCons (dVar 7) (dCons (dVar 5) dNil))) (gP 8))
def st__law_roots_right_9 : DS := (dIfS (dOrT (dTest (dOp dNe (dCall p__law_low (dCons (dOp dIx (dVar 7) (dC (.int 0))) (dCons (dOp dIx (dVar 7) (dC (.int 1))) dNil))) (dVar 7))) (dOrT (dTest (dOp dLt (dOp dIx (dVar 7) (dC (.int 0))) (dC (.int 0)))) (dTest (dOp dNe (dOp dIx (dCall p__law_low (dCons (dOp dMul (dOp dIx (dVar 7) (dC (.int 0))) (dOp dIx (dVar 5) (dC (.int 1)))) (dCons (dOp dIx (dVar 7) (dC (.int 1))) dNil))) (dC (.int 1))) (dC (.int 1)))))) (dRet (dC (.bool false))) dSkip)
def st__law_roots_right_10 : DS := (dRet (dAndV (dNotV (dCall p__law_below (dCons (dVar 1) (dCons (dCall p__law_times (dCons (dVar 7) (dCons (dVar 7) dNil))) dNil)))) (dCall p__law_below (dCons (dVar 1) (dCons (dCall p__law_times (dCons (dVar 8) (dCons (dVar 8) dNil))) dNil)))))
theorem split__law_roots_right : ms__law_roots_right = dSeq st__law_roots_right_0 (dSeq st__law_roots_right_1 (dSeq st__law_roots_right_2 (dSeq st__law_roots_right_3 (dSeq st__law_roots_right_4 (dSeq st__law_roots_right_5 (dSeq st__law_roots_right_6 (dSeq st__law_roots_right_7 (dSeq st__law_roots_right_8 (dSeq st__law_roots_right_9 (st__law_roots_right_10)))))))))) := rfl
def bd__law_roots_right_5_0 : DS := (dAsg (dCall p__law_times (dCons (dVar 5) (dCons (dTup (dCons (dC (.int 1)) (dCons (dC (.int 10)) dNil))) dNil))) (gP 5))
theorem split__law_roots_right_5 : st__law_roots_right_5 = dFor (iR1 (dCons (dVar 4) dNil)) (gP 6) (bd__law_roots_right_5_0) := rfl
end K01
namespace K01
open PySem PySem.Spec L2 Fw
theorem dIx_fr0 (q : Rat) (P : D → Prop) : dIx (fr q) (.int 0) P = P (.int q.num) := by
  unfold fr dIx
  simp only [at0, Option.some.injEq, exists_eq_left']
theorem dIx_fr1 (q : Rat) (P : D → Prop) : dIx (fr q) (.int 1) P = P (.int q.den) := by
  unfold fr dIx
  simp only [at1, Option.some.injEq, exists_eq_left']
theorem alike_ok {Q : D → Prop} {X : XP} {d e : D} (z : d = e) (h : flat 4 d) (q : Q (.bool true)) : p__law_alike [d, e] Q X := ⟨d, by rw [z], h, q⟩
theorem plus_ok {Q : D → Prop} {X : XP} {a b : Rat} (ha : Sz a 4400) (hb : Sz b 4400) (q : Q (fr (a + b))) : p__law_plus [fr a, fr b] Q X := ⟨a, b, rfl, ha, hb, q⟩
theorem minus_ok {Q : D → Prop} {X : XP} {a b : Rat} (ha : Sz a 4400) (hb : Sz b 4400) (q : Q (fr (a - b))) : p__law_minus [fr a, fr b] Q X := ⟨a, b, rfl, ha, hb, q⟩
theorem times_ok {Q : D → Prop} {X : XP} {a b : Rat} (ha : Sz a 4400) (hb : Sz b 4400) (q : Q (fr (a * b))) : p__law_times [fr a, fr b] Q X := ⟨a, b, rfl, ha, hb, q⟩
theorem below_ok {Q : D → Prop} {X : XP} {a b : Rat} (ha : Sz a 4400) (hb : Sz b 4400) (q : Q (.bool (decide (a < b)))) : p__law_below [fr a, fr b] Q X := ⟨a, b, rfl, ha, hb, q⟩
theorem low_ok {Q : D → Prop} {X : XP} {t b : Int} (h : b ≠ 0) (hb : b.natAbs < 2 ^ 9000) (q : Q (fr (Rat.divInt t b))) : p__law_low [.int t, .int b] Q X := ⟨t, b, rfl, h, hb, q⟩
theorem unit_go (E : Eo) (n : Nat) (hn : n ≤ 30) (s0 s1 s2 s3 s4 s7 s8 : Sl) : ∀ (r k : Nat) (lo : Int) (x : Sl), k + r = n → (∀ x, E.nx [s0, s1, s2, s3, s4, .p (fr (uN n)), x, s7, s8]) →
    forGo (gP 6) bd__law_roots_right_5_0 E (Fw.intsFrom lo r) [s0, s1, s2, s3, s4, .p (fr (uN k)), x, s7, s8]
  | 0, k, lo, x, e, h => by
    obtain rfl : k = n := by omega
    exact h x
  | r + 1, k, lo, x, e, h => by
    rw [intsFrom_cons, forGo_cons]
    simp only [dSeq, dAsg, dRet, dRaise, dRetN, dDrop, dIfS, dSkip, dVar, dC, dOp, dTup, dLst, dCons, dNil, dCB, dCall, dCallS, dCallK, gP, gT, gL, gN, gsNil, gsCons, dTest, dTruth, truD, dNotT, dAndT, dOrT, dAndV, dOrV, dNotV, dIf, dNeg, dAdd, dSub, dMul, dFdiv, dMod, dPow, dI, dLt, dLe, dGt, dGe, dEq, dNe, dIsO, dPar, dFor, iL, iT, iR1, dNew, bLen, bAbs, bInt, bGcd, bTuple, bList, bAll, dType, dNType, dIs, dIs2, startE, List.map_cons, List.map_nil, List.length_cons, List.length_nil, List.cons_append, List.nil_append, List.getElem?_cons_zero, List.getElem?_cons_succ, List.set_cons_zero, List.set_cons_succ, Option.some.injEq, Sl.p.injEq, exists_eq_left', exists_eq_left, Nat.reduceAdd, Nat.reduceSub, List.replicate, forall_const, true_and, and_true, if_true, if_false, Bool.false_eq_true, eq_self, ite_true, ite_false, reduceCtorEq, bd__law_roots_right_5_0]
    have e10 : PyData.tuple [.int 1, .int 10] = fr (Rat.divInt 1 10) := fr_eq (by decide) (by decide)
    refine ⟨by decide, ?_⟩
    rw [e10]
    refine times_ok (s_up (uN_sz (by omega))) (s_up (divInt_sz (k := 134) (by decide) (by decide) (by decide))) ?_
    rw [uN_succ]
    exact unit_go E n hn s0 s1 s2 s3 s4 s7 s8 r (k + 1) _ _ (by omega) h
theorem tail_ok {Q : D → Prop} {X : XP} {m : Rat} {n : Nat} {x0 x2 x3 x4 x6 : Sl} (hm : Sz m 403) (h0 : 0 ≤ m.num) (hn : n ≤ 30) (q : Q (.bool true)) :
    dSeq st__law_roots_right_8 (dSeq st__law_roots_right_9 st__law_roots_right_10) { nx := fun _ => Q .none, rt := Q, xx := fun x _ => X x } [x0, .p (fr m), x2, x3, x4, .p (fr (uN n)), x6, .p (fr (rootQ m n)), .un] := by
  have fz := rootQ_sz h0 (sz_mono hm (by decide)) hn
  have uz := uN_sz (n := n) (by omega)
  have fz' := sz_mono fz (by decide : 1260 ≤ 4400)
  simp only [dSeq, dAsg, dRet, dRaise, dRetN, dDrop, dIfS, dSkip, dVar, dC, dOp, dTup, dLst, dCons, dNil, dCB, dCall, dCallS, dCallK, gP, gT, gL, gN, gsNil, gsCons, dTest, dTruth, truD, dNotT, dAndT, dOrT, dAndV, dOrV, dNotV, dIf, dNeg, dAdd, dSub, dMul, dFdiv, dMod, dPow, dI, dLt, dLe, dGt, dGe, dEq, dNe, dIsO, dPar, dFor, iL, iT, iR1, dNew, bLen, bAbs, bInt, bGcd, bTuple, bList, bAll, dType, dNType, dIs, dIs2, startE, List.map_cons, List.map_nil, List.length_cons, List.length_nil, List.cons_append, List.nil_append, List.getElem?_cons_zero, List.getElem?_cons_succ, List.set_cons_zero, List.set_cons_succ, Option.some.injEq, Sl.p.injEq, exists_eq_left', exists_eq_left, Nat.reduceAdd, Nat.reduceSub, List.replicate, forall_const, true_and, and_true, if_true, if_false, Bool.false_eq_true, eq_self, ite_true, ite_false, reduceCtorEq, st__law_roots_right_8, st__law_roots_right_9, st__law_roots_right_10, dIx_fr0, dIx_fr1]
  refine plus_ok fz' (s_up uz) ?_
  have dq := den_pos (rootQ m n)
  have dz : ((rootQ m n).den : Int).natAbs < 2 ^ 9000 := Nat.lt_of_lt_of_le (by simpa using fz.2) (Nat.pow_le_pow_right (by decide) (by decide : 1260 ≤ 9000))
  refine low_ok (by omega) dz ?_
  rw [Rat.num_divInt_den]
  refine ⟨fr_shaped _, fr_shaped _, ?_⟩
  rw [fr_eqv]
  simp only [decide_true, Bool.not_true, Bool.false_eq_true, if_false]
  rw [if_neg (by simpa using rootQ_num)]
  have ed : ((uN n).den : Int) = 10 ^ n := by
    have e := fr_uN n
    unfold fr at e
    injection e with e
    injection e with _ e
    injection e with e _
    injection e with e
  rw [ed]
  have p1 := pow10_bits hn
  refine ⟨MulOk.w fz.1 p1 (by decide) (by decide) (by decide), low_ok (by omega) dz ?_⟩
  simp only [dSeq, dAsg, dRet, dRaise, dRetN, dDrop, dIfS, dSkip, dVar, dC, dOp, dTup, dLst, dCons, dNil, dCB, dCall, dCallS, dCallK, gP, gT, gL, gN, gsNil, gsCons, dTest, dTruth, truD, dNotT, dAndT, dOrT, dAndV, dOrV, dNotV, dIf, dNeg, dAdd, dSub, dMul, dFdiv, dMod, dPow, dI, dLt, dLe, dGt, dGe, dEq, dNe, dIsO, dPar, dFor, iL, iT, iR1, dNew, bLen, bAbs, bInt, bGcd, bTuple, bList, bAll, dType, dNType, dIs, dIs2, startE, List.map_cons, List.map_nil, List.length_cons, List.length_nil, List.cons_append, List.nil_append, List.getElem?_cons_zero, List.getElem?_cons_succ, List.set_cons_zero, List.set_cons_succ, Option.some.injEq, Sl.p.injEq, exists_eq_left', exists_eq_left, Nat.reduceAdd, Nat.reduceSub, List.replicate, forall_const, true_and, and_true, if_true, if_false, Bool.false_eq_true, eq_self, ite_true, ite_false, reduceCtorEq, dIx_fr1, rootQ_whole]
  refine ⟨shaped_int _, shaped_int _, ?_⟩
  rw [eqv_int]
  simp only [Int.natCast_one, Int.cast_ofNat_Int, decide_true, Bool.not_true, Bool.false_eq_true, if_false]
  have mz := sz_mono hm (by decide : 403 ≤ 4400)
  refine times_ok fz' fz' (below_ok mz (sz_mono (sz_mul fz fz) (by decide)) ?_)
  rw [decide_eq_false (root_low h0)]
  simp only [dSeq, dAsg, dRet, dRaise, dRetN, dDrop, dIfS, dSkip, dVar, dC, dOp, dTup, dLst, dCons, dNil, dCB, dCall, dCallS, dCallK, gP, gT, gL, gN, gsNil, gsCons, dTest, dTruth, truD, dNotT, dAndT, dOrT, dAndV, dOrV, dNotV, dIf, dNeg, dAdd, dSub, dMul, dFdiv, dMod, dPow, dI, dLt, dLe, dGt, dGe, dEq, dNe, dIsO, dPar, dFor, iL, iT, iR1, dNew, bLen, bAbs, bInt, bGcd, bTuple, bList, bAll, dType, dNType, dIs, dIs2, startE, List.map_cons, List.map_nil, List.length_cons, List.length_nil, List.cons_append, List.nil_append, List.getElem?_cons_zero, List.getElem?_cons_succ, List.set_cons_zero, List.set_cons_succ, Option.some.injEq, Sl.p.injEq, exists_eq_left', exists_eq_left, Nat.reduceAdd, Nat.reduceSub, List.replicate, forall_const, true_and, and_true, if_true, if_false, Bool.false_eq_true, eq_self, ite_true, ite_false, reduceCtorEq]
  have gz := sz_add fz uz
  refine times_ok (s_up gz) (s_up gz) (below_ok mz (sz_mono (sz_mul gz gz) (by decide)) ?_)
  rw [decide_eq_true (root_high h0)]
  exact q
theorem rest_ok {Q : D → Prop} {X : XP} {m : Rat} {x2 x3 : Sl} (hm : Sz m 403) (q : Q (.bool true)) :
    dSeq st__law_roots_right_3 (dSeq st__law_roots_right_4 (dSeq st__law_roots_right_5 (dSeq st__law_roots_right_6 (dSeq st__law_roots_right_7 (dSeq st__law_roots_right_8 (dSeq st__law_roots_right_9 st__law_roots_right_10)))))) { nx := fun _ => Q .none, rt := Q, xx := fun x _ => X x } [.s, .p (fr m), x2, x3, .un, .un, .un, .un, .un] := by
  have m1 := sz_mono hm (by decide : 403 ≤ 1000)
  have tl := fun (n : Nat) (x0 x2 x3 x4 x6 : Sl) (h0 : 0 ≤ m.num) (hn : n ≤ 30) => tail_ok (X := X) (x0 := x0) (x2 := x2) (x3 := x3) (x4 := x4) (x6 := x6) hm h0 hn q
  generalize hT : dSeq st__law_roots_right_8 (dSeq st__law_roots_right_9 st__law_roots_right_10) = T at tl
  simp only [dSeq, dAsg, dRet, dRaise, dRetN, dDrop, dIfS, dSkip, dVar, dC, dOp, dTup, dLst, dCons, dNil, dCB, dCall, dCallS, dCallK, gP, gT, gL, gN, gsNil, gsCons, dTest, dTruth, truD, dNotT, dAndT, dOrT, dAndV, dOrV, dNotV, dIf, dNeg, dAdd, dSub, dMul, dFdiv, dMod, dPow, dI, dLt, dLe, dGt, dGe, dEq, dNe, dIsO, dPar, dFor, iL, iT, iR1, dNew, bLen, bAbs, bInt, bGcd, bTuple, bList, bAll, dType, dNType, dIs, dIs2, startE, List.map_cons, List.map_nil, List.length_cons, List.length_nil, List.cons_append, List.nil_append, List.getElem?_cons_zero, List.getElem?_cons_succ, List.set_cons_zero, List.set_cons_succ, Option.some.injEq, Sl.p.injEq, exists_eq_left', exists_eq_left, Nat.reduceAdd, Nat.reduceSub, List.replicate, forall_const, true_and, and_true, if_true, if_false, Bool.false_eq_true, eq_self, ite_true, ite_false, reduceCtorEq, st__law_roots_right_3, dIx_fr0]
  by_cases c : m.num < 0
  · rw [if_pos (decide_eq_true c)]
    exact q
  rw [if_neg (by simpa using c)]
  simp only [dSeq, dAsg, dRet, dRaise, dRetN, dDrop, dIfS, dSkip, dVar, dC, dOp, dTup, dLst, dCons, dNil, dCB, dCall, dCallS, dCallK, gP, gT, gL, gN, gsNil, gsCons, dTest, dTruth, truD, dNotT, dAndT, dOrT, dAndV, dOrV, dNotV, dIf, dNeg, dAdd, dSub, dMul, dFdiv, dMod, dPow, dI, dLt, dLe, dGt, dGe, dEq, dNe, dIsO, dPar, dFor, iL, iT, iR1, dNew, bLen, bAbs, bInt, bGcd, bTuple, bList, bAll, dType, dNType, dIs, dIs2, startE, List.map_cons, List.map_nil, List.length_cons, List.length_nil, List.cons_append, List.nil_append, List.getElem?_cons_zero, List.getElem?_cons_succ, List.set_cons_zero, List.set_cons_succ, Option.some.injEq, Sl.p.injEq, exists_eq_left', exists_eq_left, Nat.reduceAdd, Nat.reduceSub, List.replicate, forall_const, true_and, and_true, if_true, if_false, Bool.false_eq_true, eq_self, ite_true, ite_false, reduceCtorEq, st__law_roots_right_4]
  refine drop_ok (by decide) (by decide) fun r r0 r1 => ?_
  obtain ⟨n, rfl⟩ := Int.eq_ofNat_of_zero_le r0
  have hn : n ≤ 30 := by omega
  refine ⟨by decide, ?_⟩
  rw [split__law_roots_right_5]
  simp only [dSeq, dAsg, dRet, dRaise, dRetN, dDrop, dIfS, dSkip, dVar, dC, dOp, dTup, dLst, dCons, dNil, dCB, dCall, dCallS, dCallK, gP, gT, gL, gN, gsNil, gsCons, dTest, dTruth, truD, dNotT, dAndT, dOrT, dAndV, dOrV, dNotV, dIf, dNeg, dAdd, dSub, dMul, dFdiv, dMod, dPow, dI, dLt, dLe, dGt, dGe, dEq, dNe, dIsO, dPar, dFor, iL, iT, iR1, dNew, bLen, bAbs, bInt, bGcd, bTuple, bList, bAll, dType, dNType, dIs, dIs2, startE, List.map_cons, List.map_nil, List.length_cons, List.length_nil, List.cons_append, List.nil_append, List.getElem?_cons_zero, List.getElem?_cons_succ, List.set_cons_zero, List.set_cons_succ, Option.some.injEq, Sl.p.injEq, exists_eq_left', exists_eq_left, Nat.reduceAdd, Nat.reduceSub, List.replicate, forall_const, true_and, and_true, if_true, if_false, Bool.false_eq_true, eq_self, ite_true, ite_false, reduceCtorEq, Int.toNat_natCast]
  refine ⟨by omega, by omega, ?_⟩
  have u0 : PyData.tuple [.int 1, .int 1] = fr (uN 0) := by rw [fr_uN]; rfl
  rw [u0]
  refine unit_go _ n hn _ _ _ _ _ _ _ n 0 0 _ (by omega) fun x => ?_
  simp only [dSeq, dAsg, dRet, dRaise, dRetN, dDrop, dIfS, dSkip, dVar, dC, dOp, dTup, dLst, dCons, dNil, dCB, dCall, dCallS, dCallK, gP, gT, gL, gN, gsNil, gsCons, dTest, dTruth, truD, dNotT, dAndT, dOrT, dAndV, dOrV, dNotV, dIf, dNeg, dAdd, dSub, dMul, dFdiv, dMod, dPow, dI, dLt, dLe, dGt, dGe, dEq, dNe, dIsO, dPar, dFor, iL, iT, iR1, dNew, bLen, bAbs, bInt, bGcd, bTuple, bList, bAll, dType, dNType, dIs, dIs2, startE, List.map_cons, List.map_nil, List.length_cons, List.length_nil, List.cons_append, List.nil_append, List.getElem?_cons_zero, List.getElem?_cons_succ, List.set_cons_zero, List.set_cons_succ, Option.some.injEq, Sl.p.injEq, exists_eq_left', exists_eq_left, Nat.reduceAdd, Nat.reduceSub, List.replicate, forall_const, true_and, and_true, if_true, if_false, Bool.false_eq_true, eq_self, ite_true, ite_false, reduceCtorEq, st__law_roots_right_6]
  refine root_ok m1 (by omega) hn ?_
  simp only [dSeq, dAsg, dRet, dRaise, dRetN, dDrop, dIfS, dSkip, dVar, dC, dOp, dTup, dLst, dCons, dNil, dCB, dCall, dCallS, dCallK, gP, gT, gL, gN, gsNil, gsCons, dTest, dTruth, truD, dNotT, dAndT, dOrT, dAndV, dOrV, dNotV, dIf, dNeg, dAdd, dSub, dMul, dFdiv, dMod, dPow, dI, dLt, dLe, dGt, dGe, dEq, dNe, dIsO, dPar, dFor, iL, iT, iR1, dNew, bLen, bAbs, bInt, bGcd, bTuple, bList, bAll, dType, dNType, dIs, dIs2, startE, List.map_cons, List.map_nil, List.length_cons, List.length_nil, List.cons_append, List.nil_append, List.getElem?_cons_zero, List.getElem?_cons_succ, List.set_cons_zero, List.set_cons_succ, Option.some.injEq, Sl.p.injEq, exists_eq_left', exists_eq_left, Nat.reduceAdd, Nat.reduceSub, List.replicate, forall_const, true_and, and_true, if_true, if_false, Bool.false_eq_true, eq_self, ite_true, ite_false, reduceCtorEq, st__law_roots_right_7, perm10]
  refine root_ok m1 (by omega) hn ⟨by decide, ?_⟩
  refine root_ok (m := 0) (sz_mono sz_zero (by decide)) (by decide) hn ⟨by decide, by decide, by decide, ?_⟩
  rw [rootQ_zero]
  refine alike_ok rfl ?_ ?_
  · simp [flat, flatAll, fr]
  · simp only [Bool.not_true, Bool.false_eq_true, if_false]
    exact tl n _ _ _ _ _ (by omega) hn
theorem pow40i : ((10 : Int) ^ (40 : Int).toNat) = 10 ^ 40 := rfl
theorem vc__law_roots_right : ∀ ds Q X, p__law_roots_right ds Q X → ms__law_roots_right { nx := fun _ => Q .none, rt := Q, xx := fun x _ => X x } (startS N__law_roots_right ds) := by
  rintro ds Q X ⟨a, rfl, ha, a0, q⟩
  have rs := fun (m : Rat) (hm : Sz m 403) (x2 x3 : Sl) => rest_ok (X := X) (x2 := x2) (x3 := x3) hm q
  rw [split__law_roots_right]
  generalize hT : dSeq st__law_roots_right_3 _ = T at rs
  simp only [dSeq, dAsg, dRet, dRaise, dRetN, dDrop, dIfS, dSkip, dVar, dC, dOp, dTup, dLst, dCons, dNil, dCB, dCall, dCallS, dCallK, gP, gT, gL, gN, gsNil, gsCons, dTest, dTruth, truD, dNotT, dAndT, dOrT, dAndV, dOrV, dNotV, dIf, dNeg, dAdd, dSub, dMul, dFdiv, dMod, dPow, dI, dLt, dLe, dGt, dGe, dEq, dNe, dIsO, dPar, dFor, iL, iT, iR1, dNew, bLen, bAbs, bInt, bGcd, bTuple, bList, bAll, dType, dNType, dIs, dIs2, startE, List.map_cons, List.map_nil, List.length_cons, List.length_nil, List.cons_append, List.nil_append, List.getElem?_cons_zero, List.getElem?_cons_succ, List.set_cons_zero, List.set_cons_succ, Option.some.injEq, Sl.p.injEq, exists_eq_left', exists_eq_left, Nat.reduceAdd, Nat.reduceSub, List.replicate, forall_const, true_and, and_true, if_true, if_false, Bool.false_eq_true, eq_self, ite_true, ite_false, reduceCtorEq, st__law_roots_right_0, st__law_roots_right_1, startS, pow40i]
  refine ⟨⟨by decide, by decide, by decide⟩, by decide, ?_⟩
  rw [← fr_uN]
  have tz := uN_sz (n := 40 - 10) (by decide)
  have tz : Sz (uN 40) 134 := divInt_sz (by decide) (by decide) (by decide)
  have z2 := sz_mul ha ha
  have a4 := s_up ha
  refine times_ok a4 a4 (times_ok a4 a4 (plus_ok (s_up z2) (s_up tz) (times_ok a4 a4 (minus_ok (s_up z2) (s_up tz) ⟨by decide, ?_⟩))))
  refine drop_ok (by decide) (by decide) fun r r0 r1 => ?_
  obtain ⟨x, hx, e⟩ := atI_of (l := [fr a, fr (a * a), fr (a * a + uN 40), fr (a * a - uN 40)]) r0 (by simpa using r1)
  show dIx (.list [fr a, fr (a * a), fr (a * a + uN 40), fr (a * a - uN 40)]) (.int r) _
  simp only [dIx]
  refine ⟨x, e, ?_⟩
  have hx2 : ∃ m, x = fr m ∧ Sz m 403 := by
    simp only [List.mem_cons, List.not_mem_nil, or_false] at hx
    rcases hx with rfl | rfl | rfl | rfl
    · exact ⟨_, rfl, sz_mono ha (by decide)⟩
    · exact ⟨_, rfl, sz_mono z2 (by decide)⟩
    · exact ⟨_, rfl, sz_mono (sz_add z2 tz) (by decide)⟩
    · exact ⟨_, rfl, sz_mono (sz_sub z2 tz) (by decide)⟩
  obtain ⟨m, rfl, hm⟩ := hx2
  simp only [dSeq, dAsg, dRet, dRaise, dRetN, dDrop, dIfS, dSkip, dVar, dC, dOp, dTup, dLst, dCons, dNil, dCB, dCall, dCallS, dCallK, gP, gT, gL, gN, gsNil, gsCons, dTest, dTruth, truD, dNotT, dAndT, dOrT, dAndV, dOrV, dNotV, dIf, dNeg, dAdd, dSub, dMul, dFdiv, dMod, dPow, dI, dLt, dLe, dGt, dGe, dEq, dNe, dIsO, dPar, dFor, iL, iT, iR1, dNew, bLen, bAbs, bInt, bGcd, bTuple, bList, bAll, dType, dNType, dIs, dIs2, startE, List.map_cons, List.map_nil, List.length_cons, List.length_nil, List.cons_append, List.nil_append, List.getElem?_cons_zero, List.getElem?_cons_succ, List.set_cons_zero, List.set_cons_succ, Option.some.injEq, Sl.p.injEq, exists_eq_left', exists_eq_left, Nat.reduceAdd, Nat.reduceSub, List.replicate, forall_const, true_and, and_true, if_true, if_false, Bool.false_eq_true, eq_self, ite_true, ite_false, reduceCtorEq, st__law_roots_right_2]
  refine drop_ok (by decide) (by decide) fun r r0 r1 => ⟨shaped_int _, shaped_int _, ?_⟩
  rw [eqv_int]
  split
  · have bnd : (10 : Int) ^ (50 : Int).toNat * 10 ^ (49 : Int).toNat = 10 ^ 99 := by decide +kernel
    refine ⟨⟨by decide, by decide, by decide⟩, ⟨by decide, by decide, by decide⟩, MulOk.w (a := 200) (b := 200) (by decide) (by decide) (by decide) (by decide) (by decide), ?_⟩
    rw [bnd]
    have b1 : ((10 : Int) ^ 99).natAbs < 2 ^ 9000 := Nat.lt_of_lt_of_le (by decide : ((10 : Int) ^ 99).natAbs < 2 ^ 330) (Nat.pow_le_pow_right (by decide) (by decide))
    have b2 : (10 : Int) ^ 99 < 2 ^ 330 := by decide
    refine ⟨_, rfl, by decide, b1, fun t t0 t1 => ⟨_, rfl, by decide, b1, fun u u0 u1 => ?_⟩⟩
    have b3 : (2 : Int) ^ 330 + 2 ^ 330 = ((2 ^ 331 : Nat) : Int) := by decide
    refine low_ok (by omega) (Nat.lt_of_lt_of_le (by omega : (1 + u).natAbs < 2 ^ 331) (Nat.pow_le_pow_right (by decide) (by decide))) ?_
    exact rs _ (sz_mono (divInt_sz (k := 331) (by omega) (by omega) (by omega)) (by decide)) _ _
  · exact rs m hm _ _
end K01
namespace K01
open PySem PySem.Spec L2 Fw
theorem forGo_inv {mg : DG} {mb : DS} {E : Eo} (I : En → Prop) : ∀ (ds : List D) (es : En), I es → (∀ d ∈ ds, ∀ (es : En) (nx bk : En → Prop), I es → (∀ es', I es' → nx es') → mg d es (fun es' => mb { E with nx := nx, ct := nx, bk := bk } es')) → (∀ es, I es → E.nx es) → forGo mg mb E ds es
  | [], es, h, _, q => q es h
  | d :: r, es, h, s, q => s d List.mem_cons_self es _ _ h fun es' h' => forGo_inv I r es' h' (fun e m => s e (List.mem_cons_of_mem _ m)) q
structure Fine (d : D) : Prop where
  f : ∀ q, d = fr q → Sz q 134
  i : ∀ i : Int, d = .int i → i.natAbs < 2 ^ 134
theorem fine_fr {q : Rat} (h : Sz q 134) : Fine (fr q) := ⟨fun p e => (fr_inj e) ▸ h, fun i e => by cases e⟩
theorem fine_bad {d : D} (h : BadD d) : Fine d := ⟨fun q e => (by
  have := h.1
  rw [e, isFr_fr] at this
  exact absurd this (by decide)), h.2⟩
theorem fine_int {i : Int} (h : i.natAbs < 2 ^ 134) : Fine (.int i) := ⟨fun q e => (nomatch e), fun j e => by
  cases e
  exact h⟩
theorem szc {k : Int} {d e : D} (hk : k ≠ 8) (hd : Fine d) (he : Fine e) : SzC k d e := ⟨hd.f, he.f, he.i, fun z => absurd z hk⟩
theorem szc8 {d : D} (hd : Fine d) (ht : SzT d) : SzC 8 d .none := ⟨hd.f, fun q e => (nomatch e), fun i e => (nomatch e), fun _ => ht⟩
def okS (s : Str) : Prop := SeqAt.shaped (.str s) = true
theorem ok0 : okS "" := by unfold okS; decide +kernel
theorem okF : okS "fraction" := by unfold okS; decide +kernel
theorem okC : okS "count" := by unfold okS; decide +kernel
theorem str_eqv (s : Str) : PyData.eqv (.str s) (.str s) = true := by simp [PyData.eqv]
theorem ne_no {k : Int} {d e : D} {w : Str} {A B : Prop} {X : XP} (k0 : 0 ≤ k) (k10 : k ≤ 10) (s : SzC k d e) (hw : word (outc k d e) = w) (os : okS w) (b : B) :
    p__law_tried [.int k, d, e] (fun r => SeqAt.shaped r = true ∧ SeqAt.shaped (.str w) = true ∧ if (!PyData.eqv r (.str w)) = true then A else B) X := by
  refine ⟨k, d, e, rfl, k0, k10, s, ?_⟩
  rw [hw]
  dsimp only
  rw [str_eqv]
  exact ⟨os, os, by simpa using b⟩
theorem tried_ok {k : Int} {d e : D} {w : Str} {Q : D → Prop} {X : XP} (k0 : 0 ≤ k) (k10 : k ≤ 10) (s : SzC k d e) (hw : word (outc k d e) = w) (q : Q (.str w)) : p__law_tried [.int k, d, e] Q X :=
  ⟨k, d, e, rfl, k0, k10, s, by rw [hw]; exact q⟩
theorem w_f : word (some (Str.ofString "InvalidFraction")) = "fraction" := by decide +kernel
theorem w_c : word (some (Str.ofString "InvalidCount")) = "count" := by decide +kernel
theorem w_bad1 {k : Int} {d e : D} (hk : k ≤ 6 ∨ 9 ≤ k) (h : isFr d = false) : word (outc k d e) = "fraction" := by
  have : outc k d e = some (Str.ofString "InvalidFraction") := by
    unfold outc
    rw [h]
    have h7 : k ≠ 7 := by omega
    have h8 : k ≠ 8 := by omega
    simp [h7, h8]
  rw [this, w_f]
theorem w_bad2 {k : Int} {d e : D} (hk : k < 6) (h : isFr e = false) : word (outc k d e) = "fraction" := by
  have : outc k d e = some (Str.ofString "InvalidFraction") := by
    unfold outc
    rw [h]
    by_cases c : k < 5
    · simp [c]
    · have : k = 5 := by omega
      simp [c, this]
  rw [this, w_f]
theorem w_good {k : Int} {a b : Rat} (k0 : 0 ≤ k) (hk : k ≤ 6) (h : k = 3 → b.num ≠ 0) : word (outc k (fr a) (fr b)) = "" := by
  have : outc k (fr a) (fr b) = none := by
    unfold outc
    rw [isFr_fr, isFr_fr]
    by_cases c : k < 5
    · by_cases c3 : k = 3
      · have := h c3
        simp [c, c3, fr, this]
      · simp [c, c3]
    · have : k = 5 ∨ k = 6 := by omega
      rcases this with rfl | rfl <;> simp
  rw [this]; rfl
theorem w_nought {a : Rat} : word (outc 3 (fr a) (fr 0)) = "fraction" := by
  have : outc 3 (fr a) (fr 0) = some (Str.ofString "InvalidFraction") := by
    unfold outc
    rw [isFr_fr, isFr_fr]
    simp [fr]
  rw [this, w_f]
theorem w_frac {d e : D} (h : fracOk d e = false) : word (outc 7 d e) = "fraction" := by
  have : outc 7 d e = some (Str.ofString "InvalidFraction") := by
    unfold outc
    simp [h]
  rw [this, w_f]
theorem w_fracG {t b : Int} (h : b ≠ 0) : word (outc 7 (.int t) (.int b)) = "" := by
  have : outc 7 (.int t) (.int b) = none := by
    unfold outc
    simp [fracOk, h]
  rw [this]; rfl
theorem w_tupB {d : D} (h : frTup d = false) : word (outc 8 d .none) = "fraction" := by
  have : outc 8 d .none = some (Str.ofString "InvalidFraction") := by
    unfold outc
    simp [h]
  rw [this, w_f]
theorem w_tupG {d : D} (h : frTup d = true) : word (outc 8 d .none) = "" := by
  have : outc 8 d .none = none := by
    unfold outc
    simp [h]
  rw [this]; rfl
theorem w_rootG {k : Int} {q : Rat} {e : D} (hk : k = 9 ∨ k = 10) (h : 0 ≤ q.num) (c : cntOk e 0 30 = true) : word (outc k (fr q) e) = "" := by
  have : outc k (fr q) e = none := by
    rw [outc_root hk, isFr_fr]
    have n : ¬ q.num < 0 := by omega
    simp [fr, n, c]
  rw [this]; rfl
theorem w_rootC {k : Int} {q : Rat} {e : D} (hk : k = 9 ∨ k = 10) (h : 0 ≤ q.num) (c : cntOk e 0 30 = false) : word (outc k (fr q) e) = "count" := by
  have : outc k (fr q) e = some (Str.ofString "InvalidCount") := by
    rw [outc_root hk, isFr_fr]
    have n : ¬ q.num < 0 := by omega
    simp [fr, n, c]
  rw [this, w_c]
theorem w_rootN {k : Int} {q : Rat} {e : D} (hk : k = 9 ∨ k = 10) (h : q.num < 0) : word (outc k (fr q) e) = "fraction" := by
  have : outc k (fr q) e = some (Str.ofString "InvalidFraction") := by
    rw [outc_root hk, isFr_fr]
    simp [fr, h]
  rw [this, w_f]
def st_law_0 : DS := (dFor (iR1 (dCons (dC (.int 6)) dNil)) (gP 2) (dSeq (dPar 3 4 (dCons (dCallS 1 p__law_number dNil) (dCons (dCallS 1 p__law_above dNil) dNil))) (dSeq (dPar 5 6 (dCons (dCallS 1 p__law_none (dCons (dVar 3) dNil)) (dCons (dCallS 1 p__law_none (dCons (dVar 4) dNil)) dNil))) (dSeq (dIfS (dNotT (dTruth (dCallS 1 p__law_roots_right (dCons (dVar 4) dNil)))) (dRet (dC (.bool false))) dSkip) (dSeq (dFor (iR1 (dCons (dC (.int 7)) dNil)) (gP 7) (dSeq (dIfS (dOrT (dTest (dOp dNe (dCall p__law_tried (dCons (dVar 7) (dCons (dVar 3) (dCons (dVar 4) dNil)))) (dC (.str "")))) (dTest (dOp dNe (dCall p__law_tried (dCons (dVar 7) (dCons (dVar 5) (dCons (dOp dIx (dLst (dCons (dVar 4) (dCons (dVar 6) dNil))) (dCallS 1 p__law_drop (dCons (dC (.int 2)) dNil))) dNil)))) (dC (.str "fraction"))))) (dRet (dC (.bool false))) dSkip) (dIfS (dOrT (dAndT (dTest (dOp dLt (dVar 7) (dC (.int 6)))) (dTest (dOp dNe (dCall p__law_tried (dCons (dVar 7) (dCons (dVar 3) (dCons (dVar 6) dNil)))) (dC (.str "fraction"))))) (dTest (dOp dNe (dCall p__law_tried (dCons (dVar 7) (dCons (dVar 3) (dCons (dTup (dCons (dC (.int 0)) (dCons (dC (.int 1)) dNil))) dNil)))) (dOp dIx (dLst (dCons (dC (.str "")) (dCons (dC (.str "fraction")) dNil))) (dCB bInt (dCons (dOp dEq (dVar 7) (dC (.int 3))) dNil)))))) (dRet (dC (.bool false))) dSkip))) (dSeq (dAsg (dOp dIx (dLst (dCons (dC .none) (dCons (dC (.bool true)) (dCons (dC (.str "1")) (dCons (dTup (dCons (dC (.int 1)) (dCons (dC (.int 1)) dNil))) (dCons (dLst (dCons (dC (.int 1)) dNil)) (dCons (dC (.bool false)) (dCons (dTup dNil) (dCons (dC (.str "")) dNil))))))))) (dCallS 1 p__law_drop (dCons (dC (.int 8)) dNil))) (gP 8)) (dSeq (dFor (iL (dLst (dCons (dTup (dCons (dOp dIx (dVar 3) (dC (.int 0))) (dCons (dC (.int 0)) dNil))) (dCons (dTup (dCons (dVar 8) (dCons (dOp dIx (dVar 3) (dC (.int 1))) dNil))) (dCons (dTup (dCons (dOp dIx (dVar 3) (dC (.int 0))) (dCons (dVar 8) dNil))) (dCons (dTup (dCons (dVar 8) (dCons (dVar 8) dNil))) (dCons (dTup (dCons (dVar 8) (dCons (dC (.int 0)) dNil))) dNil))))))) (gP 9) (dIfS (dTest (dOp dNe (dCall p__law_tried (dCons (dC (.int 7)) (dCons (dOp dIx (dVar 9) (dC (.int 0))) (dCons (dOp dIx (dVar 9) (dC (.int 1))) dNil)))) (dC (.str "fraction")))) (dRet (dC (.bool false))) dSkip)) (dSeq (dIfS (dTest (dOp dNe (dLst (dCons (dCall p__law_tried (dCons (dC (.int 7)) (dCons (dOp dIx (dVar 3) (dC (.int 0))) (dCons (dNeg (dOp dIx (dVar 3) (dC (.int 1)))) dNil)))) (dCons (dCall p__law_tried (dCons (dC (.int 8)) (dCons (dTup (dCons (dVar 3) (dCons (dVar 4) dNil))) (dCons (dC .none) dNil)))) (dCons (dCall p__law_tried (dCons (dC (.int 8)) (dCons (dTup dNil) (dCons (dC .none) dNil)))) dNil)))) (dRepL (mLst (dCons (dC (.str "")) dNil)) (dC (.int 3))))) (dRet (dC (.bool false))) dSkip) (dSeq (dIfS (dTest (dOp dNe (dNew (dLc (iL (dLst (dCons (dLst (dCons (dVar 3) dNil)) (dCons (dC .none) (dCons (dOp dIx (dVar 3) (dC (.int 0))) (dCons (dC (.str "1")) (dCons (dTup (dCons (dVar 3) (dCons (dVar 6) dNil))) (dCons (dTup (dCons (dVar 5) dNil)) (dCons (dC (.bool true)) dNil))))))))) (gP 10) mYes (dCall p__law_tried (dCons (dC (.int 8)) (dCons (dVar 10) (dCons (dC .none) dNil)))) [10])) (dRepL (mLst (dCons (dC (.str "fraction")) dNil)) (dC (.int 7))))) (dRet (dC (.bool false))) dSkip) (dSeq (dAsg (dOp dIx (dLst (dCons (dNeg (dC (.int 1))) (dCons (dC (.int 31)) (dCons (dC .none) (dCons (dC (.bool true)) (dCons (dC (.str "3")) (dCons (dTup (dCons (dC (.int 3)) (dCons (dC (.int 1)) dNil))) (dCons (dOp dPow (dC (.int 10)) (dC (.int 20))) dNil)))))))) (dCallS 1 p__law_drop (dCons (dC (.int 7)) dNil))) (gP 11)) (dFor (iL (dLst (dCons (dC (.int 9)) (dCons (dC (.int 10)) dNil)))) (gP 7) (dSeq (dAsg (dLst (dCons (dCall p__law_tried (dCons (dVar 7) (dCons (dVar 4) (dCons (dC (.int 30)) dNil)))) (dCons (dCall p__law_tried (dCons (dVar 7) (dCons (dVar 4) (dCons (dVar 11) dNil)))) (dCons (dCall p__law_tried (dCons (dVar 7) (dCons (dVar 5) (dCons (dVar 11) dNil)))) (dCons (dCall p__law_tried (dCons (dVar 7) (dCons (dTup (dCons (dNeg (dOp dIx (dVar 4) (dC (.int 0)))) (dCons (dOp dIx (dVar 4) (dC (.int 1))) dNil))) (dCons (dC (.int 3)) dNil)))) dNil))))) (gP 12)) (dIfS (dTest (dOp dNe (dVar 12) (dLst (dCons (dC (.str "")) (dCons (dC (.str "count")) (dCons (dC (.str "fraction")) (dCons (dC (.str "fraction")) dNil))))))) (dRet (dC (.bool false))) dSkip)))))))))))))
def st_law_1 : DS := (dRet (dC (.bool true)))
theorem split_law : ms_law = dSeq st_law_0 (st_law_1) := rfl
def bd_law_0_0 : DS := (dPar 3 4 (dCons (dCallS 1 p__law_number dNil) (dCons (dCallS 1 p__law_above dNil) dNil)))
def bd_law_0_1 : DS := (dPar 5 6 (dCons (dCallS 1 p__law_none (dCons (dVar 3) dNil)) (dCons (dCallS 1 p__law_none (dCons (dVar 4) dNil)) dNil)))
def bd_law_0_2 : DS := (dIfS (dNotT (dTruth (dCallS 1 p__law_roots_right (dCons (dVar 4) dNil)))) (dRet (dC (.bool false))) dSkip)
def bd_law_0_3 : DS := (dFor (iR1 (dCons (dC (.int 7)) dNil)) (gP 7) (dSeq (dIfS (dOrT (dTest (dOp dNe (dCall p__law_tried (dCons (dVar 7) (dCons (dVar 3) (dCons (dVar 4) dNil)))) (dC (.str "")))) (dTest (dOp dNe (dCall p__law_tried (dCons (dVar 7) (dCons (dVar 5) (dCons (dOp dIx (dLst (dCons (dVar 4) (dCons (dVar 6) dNil))) (dCallS 1 p__law_drop (dCons (dC (.int 2)) dNil))) dNil)))) (dC (.str "fraction"))))) (dRet (dC (.bool false))) dSkip) (dIfS (dOrT (dAndT (dTest (dOp dLt (dVar 7) (dC (.int 6)))) (dTest (dOp dNe (dCall p__law_tried (dCons (dVar 7) (dCons (dVar 3) (dCons (dVar 6) dNil)))) (dC (.str "fraction"))))) (dTest (dOp dNe (dCall p__law_tried (dCons (dVar 7) (dCons (dVar 3) (dCons (dTup (dCons (dC (.int 0)) (dCons (dC (.int 1)) dNil))) dNil)))) (dOp dIx (dLst (dCons (dC (.str "")) (dCons (dC (.str "fraction")) dNil))) (dCB bInt (dCons (dOp dEq (dVar 7) (dC (.int 3))) dNil)))))) (dRet (dC (.bool false))) dSkip)))
def bd_law_0_4 : DS := (dAsg (dOp dIx (dLst (dCons (dC .none) (dCons (dC (.bool true)) (dCons (dC (.str "1")) (dCons (dTup (dCons (dC (.int 1)) (dCons (dC (.int 1)) dNil))) (dCons (dLst (dCons (dC (.int 1)) dNil)) (dCons (dC (.bool false)) (dCons (dTup dNil) (dCons (dC (.str "")) dNil))))))))) (dCallS 1 p__law_drop (dCons (dC (.int 8)) dNil))) (gP 8))
def bd_law_0_5 : DS := (dFor (iL (dLst (dCons (dTup (dCons (dOp dIx (dVar 3) (dC (.int 0))) (dCons (dC (.int 0)) dNil))) (dCons (dTup (dCons (dVar 8) (dCons (dOp dIx (dVar 3) (dC (.int 1))) dNil))) (dCons (dTup (dCons (dOp dIx (dVar 3) (dC (.int 0))) (dCons (dVar 8) dNil))) (dCons (dTup (dCons (dVar 8) (dCons (dVar 8) dNil))) (dCons (dTup (dCons (dVar 8) (dCons (dC (.int 0)) dNil))) dNil))))))) (gP 9) (dIfS (dTest (dOp dNe (dCall p__law_tried (dCons (dC (.int 7)) (dCons (dOp dIx (dVar 9) (dC (.int 0))) (dCons (dOp dIx (dVar 9) (dC (.int 1))) dNil)))) (dC (.str "fraction")))) (dRet (dC (.bool false))) dSkip))
def bd_law_0_6 : DS := (dIfS (dTest (dOp dNe (dLst (dCons (dCall p__law_tried (dCons (dC (.int 7)) (dCons (dOp dIx (dVar 3) (dC (.int 0))) (dCons (dNeg (dOp dIx (dVar 3) (dC (.int 1)))) dNil)))) (dCons (dCall p__law_tried (dCons (dC (.int 8)) (dCons (dTup (dCons (dVar 3) (dCons (dVar 4) dNil))) (dCons (dC .none) dNil)))) (dCons (dCall p__law_tried (dCons (dC (.int 8)) (dCons (dTup dNil) (dCons (dC .none) dNil)))) dNil)))) (dRepL (mLst (dCons (dC (.str "")) dNil)) (dC (.int 3))))) (dRet (dC (.bool false))) dSkip)
def bd_law_0_7 : DS := (dIfS (dTest (dOp dNe (dNew (dLc (iL (dLst (dCons (dLst (dCons (dVar 3) dNil)) (dCons (dC .none) (dCons (dOp dIx (dVar 3) (dC (.int 0))) (dCons (dC (.str "1")) (dCons (dTup (dCons (dVar 3) (dCons (dVar 6) dNil))) (dCons (dTup (dCons (dVar 5) dNil)) (dCons (dC (.bool true)) dNil))))))))) (gP 10) mYes (dCall p__law_tried (dCons (dC (.int 8)) (dCons (dVar 10) (dCons (dC .none) dNil)))) [10])) (dRepL (mLst (dCons (dC (.str "fraction")) dNil)) (dC (.int 7))))) (dRet (dC (.bool false))) dSkip)
def bd_law_0_8 : DS := (dAsg (dOp dIx (dLst (dCons (dNeg (dC (.int 1))) (dCons (dC (.int 31)) (dCons (dC .none) (dCons (dC (.bool true)) (dCons (dC (.str "3")) (dCons (dTup (dCons (dC (.int 3)) (dCons (dC (.int 1)) dNil))) (dCons (dOp dPow (dC (.int 10)) (dC (.int 20))) dNil)))))))) (dCallS 1 p__law_drop (dCons (dC (.int 7)) dNil))) (gP 11))
def bd_law_0_9 : DS := (dFor (iL (dLst (dCons (dC (.int 9)) (dCons (dC (.int 10)) dNil)))) (gP 7) (dSeq (dAsg (dLst (dCons (dCall p__law_tried (dCons (dVar 7) (dCons (dVar 4) (dCons (dC (.int 30)) dNil)))) (dCons (dCall p__law_tried (dCons (dVar 7) (dCons (dVar 4) (dCons (dVar 11) dNil)))) (dCons (dCall p__law_tried (dCons (dVar 7) (dCons (dVar 5) (dCons (dVar 11) dNil)))) (dCons (dCall p__law_tried (dCons (dVar 7) (dCons (dTup (dCons (dNeg (dOp dIx (dVar 4) (dC (.int 0)))) (dCons (dOp dIx (dVar 4) (dC (.int 1))) dNil))) (dCons (dC (.int 3)) dNil)))) dNil))))) (gP 12)) (dIfS (dTest (dOp dNe (dVar 12) (dLst (dCons (dC (.str "")) (dCons (dC (.str "count")) (dCons (dC (.str "fraction")) (dCons (dC (.str "fraction")) dNil))))))) (dRet (dC (.bool false))) dSkip)))
theorem split_law_0 : st_law_0 = dFor (iR1 (dCons (dC (.int 6)) dNil)) (gP 2) (dSeq bd_law_0_0 (dSeq bd_law_0_1 (dSeq bd_law_0_2 (dSeq bd_law_0_3 (dSeq bd_law_0_4 (dSeq bd_law_0_5 (dSeq bd_law_0_6 (dSeq bd_law_0_7 (dSeq bd_law_0_8 (bd_law_0_9)))))))))) := rfl
/-- the slots of the law while it looks at four things -/
def J (scr : Sl) (one other : Rat) (bad worse : D) (es : En) : Prop := ∃ tn x7 x8 x9 x10 x11 x12, es = [scr, .s, tn, .p (fr one), .p (fr other), .p bad, .p worse, x7, x8, x9, x10, x11, x12]
structure Given (one other : Rat) (bad worse : D) : Prop where
  h1 : Sz one 134
  h2 : Sz other 134
  pos : 0 < other.num
  b : BadD bad
  w : BadD worse
theorem bd3 {scr : Sl} {one other : Rat} {bad worse : D} (G : Given one other bad worse) {E : Eo} {es : En} (h : J scr one other bad worse es) (q : ∀ es, J scr one other bad worse es → E.nx es) : bd_law_0_3 E es := by
  unfold bd_law_0_3
  simp only [dSeq, dAsg, dRet, dRaise, dRetN, dDrop, dIfS, dSkip, dVar, dC, dOp, dTup, dLst, dCons, dNil, dCB, dCall, dCallS, dCallK, gP, gT, gL, gN, gsNil, gsCons, dTest, dTruth, truD, dNotT, dAndT, dOrT, dAndV, dOrV, dNotV, dIf, dNeg, dAdd, dSub, dMul, dFdiv, dMod, dPow, dI, dLt, dLe, dGt, dGe, dEq, dNe, dIsO, dPar, dFor, iL, iT, iR1, dNew, bLen, bAbs, bInt, bGcd, bTuple, bList, bAll, dType, dNType, dIs, dIs2, startE, List.map_cons, List.map_nil, List.length_cons, List.length_nil, List.cons_append, List.nil_append, List.getElem?_cons_zero, List.getElem?_cons_succ, List.set_cons_zero, List.set_cons_succ, Option.some.injEq, Sl.p.injEq, exists_eq_left', exists_eq_left, Nat.reduceAdd, Nat.reduceSub, List.replicate, forall_const, true_and, and_true, if_true, if_false, Bool.false_eq_true, eq_self, ite_true, ite_false, reduceCtorEq]
  refine ⟨by decide, by decide, ?_⟩
  refine forGo_inv (J scr one other bad worse) _ _ h ?_ q
  rintro d hd es nx bk ⟨tn, x7, x8, x9, x10, x11, x12, rfl⟩ hnx
  have hi : ∃ t : Nat, t < 7 ∧ d = .int t := by
    simp only [Fw.intsFrom, List.mem_map, List.mem_range] at hd
    obtain ⟨k, hk, rfl⟩ := hd
    exact ⟨k, by simpa using hk, by simp⟩
  obtain ⟨t, ht, rfl⟩ := hi
  simp only [dSeq, dAsg, dRet, dRaise, dRetN, dDrop, dIfS, dSkip, dVar, dC, dOp, dTup, dLst, dCons, dNil, dCB, dCall, dCallS, dCallK, gP, gT, gL, gN, gsNil, gsCons, dTest, dTruth, truD, dNotT, dAndT, dOrT, dAndV, dOrV, dNotV, dIf, dNeg, dAdd, dSub, dMul, dFdiv, dMod, dPow, dI, dLt, dLe, dGt, dGe, dEq, dNe, dIsO, dPar, dFor, iL, iT, iR1, dNew, bLen, bAbs, bInt, bGcd, bTuple, bList, bAll, dType, dNType, dIs, dIs2, startE, List.map_cons, List.map_nil, List.length_cons, List.length_nil, List.cons_append, List.nil_append, List.getElem?_cons_zero, List.getElem?_cons_succ, List.set_cons_zero, List.set_cons_succ, Option.some.injEq, Sl.p.injEq, exists_eq_left', exists_eq_left, Nat.reduceAdd, Nat.reduceSub, List.replicate, forall_const, true_and, and_true, if_true, if_false, Bool.false_eq_true, eq_self, ite_true, ite_false, reduceCtorEq]
  have f1 := fine_fr G.h1
  have f2 := fine_fr G.h2
  have fb := fine_bad G.b
  have fw := fine_bad G.w
  have t8 : (t : Int) ≠ 8 := by omega
  refine ne_no (by omega) (by omega) (szc t8 f1 f2) (w_good (by omega) (by omega) fun _ => by have := G.pos; omega) ok0 ⟨by decide, ?_⟩
  refine drop_ok (by decide) (by decide) fun r r0 r1 => ?_
  obtain ⟨x, hx, e⟩ := atI_of (l := [fr other, worse]) r0 (by simpa using r1)
  show dIx (.list [fr other, worse]) (.int r) _
  simp only [dIx]
  refine ⟨x, e, ?_⟩
  have fx : Fine x := by
    simp only [List.mem_cons, List.not_mem_nil, or_false] at hx
    rcases hx with rfl | rfl
    · exact f2
    · exact fw
  refine ne_no (by omega) (by omega) (szc t8 fb fx) (w_bad1 (.inl (by omega)) G.b.1) okF ?_
  have last : 2 ≤ 16777216 ∧ p__law_tried [.int t, fr one, .tuple [.int 0, .int 1]] (fun a => 2 ≤ 16777216 ∧ SeqAt.shaped (.int t) = true ∧ SeqAt.shaped (.int 3) = true ∧ ∃ d, atI [PyData.str "", .str "fraction"] (if (PyData.int t).eqv (.int 3) = true then 1 else 0) = some d ∧ SeqAt.shaped a = true ∧ SeqAt.shaped d = true ∧ if (!PyData.eqv a d) = true then E.rt (.bool false) else nx [scr, .s, tn, .p (fr one), .p (fr other), .p bad, .p worse, .p (.int t), x8, x9, x10, x11, x12]) (fun x => E.xx x [scr, .s, tn, .p (fr one), .p (fr other), .p bad, .p worse, .p (.int t), x8, x9, x10, x11, x12]) := by
    refine ⟨by decide, ?_⟩
    rw [eqv_int]
    rw [show PyData.tuple [.int 0, .int 1] = fr 0 from rfl]
    by_cases c : (t : Int) = 3
    · rw [decide_eq_true c, if_pos rfl]
      have hw : word (outc t (fr one) (fr 0)) = "fraction" := by rw [c]; exact w_nought
      refine tried_ok (by omega) (by omega) (szc t8 f1 (fine_fr (sz_mono sz_zero (by decide)))) hw ?_
      refine ⟨by decide, shaped_int _, shaped_int _, _, at1 _ _ _, okF, okF, ?_⟩
      rw [str_eqv]
      exact hnx _ ⟨_, _, _, _, _, _, _, rfl⟩
    · rw [decide_eq_false c, if_neg (by decide)]
      have hw : word (outc t (fr one) (fr 0)) = "" := w_good (by omega) (by omega) fun z => absurd z c
      refine tried_ok (by omega) (by omega) (szc t8 f1 (fine_fr (sz_mono sz_zero (by decide)))) hw ?_
      refine ⟨by decide, shaped_int _, shaped_int _, _, at0 _ _, ok0, ok0, ?_⟩
      rw [str_eqv]
      exact hnx _ ⟨_, _, _, _, _, _, _, rfl⟩
  by_cases c6 : (t : Int) < 6
  · rw [if_pos (decide_eq_true c6)]
    refine ne_no (by omega) (by omega) (szc t8 f1 fw) (w_bad2 c6 G.w.1) okF ?_
    exact last
  · rw [if_neg (by simpa using c6)]
    exact last
end K01
namespace K01
open PySem PySem.Spec L2 Fw
section
variable {scr : Sl} {one other : Rat} {bad worse : D} {E : Eo} {es : En}
theorem dIx_list {ds : List D} {i : Int} {d : D} {P : D → Prop} (h : atI ds i = some d) (q : P d) : dIx (.list ds) (.int i) P := ⟨d, h, q⟩
structure Odd (d : D) : Prop where
  n : ∀ i : Int, d ≠ .int i
  f : ∀ q, d = fr q → Sz q 134
theorem Odd.fine {d : D} (h : Odd d) : Fine d := ⟨h.f, fun i e => absurd e (h.n i)⟩
theorem frac_odd1 {d e : D} (h : Odd d) : fracOk d e = false := by
  cases d <;> first | rfl | exact absurd rfl (h.n _)
theorem frac_odd2 {d e : D} (h : Odd e) : fracOk d e = false := by
  cases d <;> first | rfl | (cases e <;> first | rfl | exact absurd rfl (h.n _))
theorem bd45 (G : Given one other bad worse) (h : J scr one other bad worse es) (q : ∀ es, J scr one other bad worse es → E.nx es) : dSeq bd_law_0_4 bd_law_0_5 E es := by
  obtain ⟨tn, x7, x8, x9, x10, x11, x12, rfl⟩ := h
  unfold bd_law_0_4 bd_law_0_5
  simp only [dSeq, dAsg, dRet, dRaise, dRetN, dDrop, dIfS, dSkip, dVar, dC, dOp, dTup, dLst, dCons, dNil, dCB, dCall, dCallS, dCallK, gP, gT, gL, gN, gsNil, gsCons, dTest, dTruth, truD, dNotT, dAndT, dOrT, dAndV, dOrV, dNotV, dIf, dNeg, dAdd, dSub, dMul, dFdiv, dMod, dPow, dI, dLt, dLe, dGt, dGe, dEq, dNe, dIsO, dPar, dFor, iL, iT, iR1, dNew, bLen, bAbs, bInt, bGcd, bTuple, bList, bAll, dType, dNType, dIs, dIs2, startE, List.map_cons, List.map_nil, List.length_cons, List.length_nil, List.cons_append, List.nil_append, List.getElem?_cons_zero, List.getElem?_cons_succ, List.set_cons_zero, List.set_cons_succ, Option.some.injEq, Sl.p.injEq, exists_eq_left', exists_eq_left, Nat.reduceAdd, Nat.reduceSub, List.replicate, forall_const, true_and, and_true, if_true, if_false, Bool.false_eq_true, eq_self, ite_true, ite_false, reduceCtorEq]
  refine ⟨by decide, by decide, by decide, by decide, drop_ok (by decide) (by decide) fun r r0 r1 => ?_⟩
  obtain ⟨x, hx, e⟩ := atI_of (l := [PyData.none, .bool true, .str "1", .tuple [.int 1, .int 1], .list [.int 1], .bool false, .tuple [], .str ""]) r0 (by simpa using r1)
  refine dIx_list e ?_
  have ox : Odd x := by
    simp only [List.mem_cons, List.not_mem_nil, or_false] at hx
    rcases hx with rfl | rfl | rfl | rfl | rfl | rfl | rfl | rfl
    · exact ⟨fun i z => (nomatch z), fun q z => (nomatch z)⟩
    · exact ⟨fun i z => (nomatch z), fun q z => (nomatch z)⟩
    · exact ⟨fun i z => (nomatch z), fun q z => (nomatch z)⟩
    · refine ⟨fun i z => (nomatch z), fun q z => ?_⟩
      unfold fr at z
      simp at z
      have e1 := z.1
      have e2 : q.den = 1 := by omega
      exact ⟨by rw [← e1]; decide, by rw [e2]; decide⟩
    · exact ⟨fun i z => (nomatch z), fun q z => (nomatch z)⟩
    · exact ⟨fun i z => (nomatch z), fun q z => (nomatch z)⟩
    · refine ⟨fun i z => (nomatch z), fun q z => ?_⟩
      unfold fr at z
      simp at z
    · exact ⟨fun i z => (nomatch z), fun q z => (nomatch z)⟩
  simp only [dIx_fr0, dIx_fr1]
  refine ⟨by decide, by decide, by decide, by decide, by decide, by decide, ?_⟩
  refine forGo_inv (fun es => ∃ tn x7 x9 x10 x11 x12, es = [scr, .s, tn, .p (fr one), .p (fr other), .p bad, .p worse, x7, .p x, x9, x10, x11, x12]) _ _ ⟨_, _, _, _, _, _, rfl⟩ ?_ ?_
  · rintro d hd es nx bk ⟨tn, x7, x9, x10, x11, x12, rfl⟩ hnx
    have hp : ∃ a b, d = .tuple [a, b] ∧ Fine a ∧ Fine b ∧ fracOk a b = false := by
      have fo := fine_int (i := one.num) G.h1.1
      have fd := fine_int (i := (one.den : Int)) (by simpa using G.h1.2)
      have f0 := fine_int (i := 0) (by decide)
      simp only [List.mem_cons, List.not_mem_nil, or_false] at hd
      rcases hd with rfl | rfl | rfl | rfl | rfl
      · exact ⟨_, _, rfl, fo, f0, by simp [fracOk]⟩
      · exact ⟨_, _, rfl, ox.fine, fd, frac_odd1 ox⟩
      · exact ⟨_, _, rfl, fo, ox.fine, frac_odd2 ox⟩
      · exact ⟨_, _, rfl, ox.fine, ox.fine, frac_odd1 ox⟩
      · exact ⟨_, _, rfl, ox.fine, f0, frac_odd1 ox⟩
    obtain ⟨a, b, rfl, fa, fb, fk⟩ := hp
    simp only [dSeq, dAsg, dRet, dRaise, dRetN, dDrop, dIfS, dSkip, dVar, dC, dOp, dTup, dLst, dCons, dNil, dCB, dCall, dCallS, dCallK, gP, gT, gL, gN, gsNil, gsCons, dTest, dTruth, truD, dNotT, dAndT, dOrT, dAndV, dOrV, dNotV, dIf, dNeg, dAdd, dSub, dMul, dFdiv, dMod, dPow, dI, dLt, dLe, dGt, dGe, dEq, dNe, dIsO, dPar, dFor, iL, iT, iR1, dNew, bLen, bAbs, bInt, bGcd, bTuple, bList, bAll, dType, dNType, dIs, dIs2, startE, List.map_cons, List.map_nil, List.length_cons, List.length_nil, List.cons_append, List.nil_append, List.getElem?_cons_zero, List.getElem?_cons_succ, List.set_cons_zero, List.set_cons_succ, Option.some.injEq, Sl.p.injEq, exists_eq_left', exists_eq_left, Nat.reduceAdd, Nat.reduceSub, List.replicate, forall_const, true_and, and_true, if_true, if_false, Bool.false_eq_true, eq_self, ite_true, ite_false, reduceCtorEq, dIx, at0, at1]
    refine ne_no (by decide) (by decide) (szc (by decide) fa fb) (w_frac fk) okF ?_
    exact hnx _ ⟨_, _, _, _, _, _, rfl⟩
  · rintro es ⟨tn, x7, x9, x10, x11, x12, rfl⟩
    exact q _ ⟨_, _, _, _, _, _, _, rfl⟩
theorem strs_eqv (l : List Str) : PyData.eqv (.list (l.map PyData.str)) (.list (l.map PyData.str)) = true := by
  simp only [PyData.eqv]
  induction l with
  | nil => rfl
  | cons a r ih => simp [PyData.eqvAll, PyData.eqv, ih]
theorem szT_frs {d : D} (h : ∀ xs, d = .tuple xs → xs.length ≤ 31 ∧ ∀ x ∈ xs, Fine x) : SzT d := fun xs e => ⟨(h xs e).1, fun x m q z => ((h xs e).2 x m).f q z⟩
theorem ok3 : SeqAt.shaped (.list [.str "", .str "", .str ""]) = true := by decide +kernel
theorem bd6 (G : Given one other bad worse) (h : J scr one other bad worse es) (q : E.nx es) : bd_law_0_6 E es := by
  obtain ⟨tn, x7, x8, x9, x10, x11, x12, rfl⟩ := h
  unfold bd_law_0_6
  simp only [dSeq, dAsg, dRet, dRaise, dRetN, dDrop, dIfS, dSkip, dVar, dC, dOp, dTup, dLst, dCons, dNil, dCB, dCall, dCallS, dCallK, gP, gT, gL, gN, gsNil, gsCons, dTest, dTruth, truD, dNotT, dAndT, dOrT, dAndV, dOrV, dNotV, dIf, dNeg, dAdd, dSub, dMul, dFdiv, dMod, dPow, dI, dLt, dLe, dGt, dGe, dEq, dNe, dIsO, dPar, dFor, iL, iT, iR1, dNew, bLen, bAbs, bInt, bGcd, bTuple, bList, bAll, dType, dNType, dIs, dIs2, startE, List.map_cons, List.map_nil, List.length_cons, List.length_nil, List.cons_append, List.nil_append, List.getElem?_cons_zero, List.getElem?_cons_succ, List.set_cons_zero, List.set_cons_succ, Option.some.injEq, Sl.p.injEq, exists_eq_left', exists_eq_left, Nat.reduceAdd, Nat.reduceSub, List.replicate, forall_const, true_and, and_true, if_true, if_false, Bool.false_eq_true, eq_self, ite_true, ite_false, reduceCtorEq, dIx_fr0, dIx_fr1, dRepL, mLst]
  have f1 := fine_fr G.h1
  have f2 := fine_fr G.h2
  have fn := fine_int (i := one.num) G.h1.1
  have fd := fine_int (i := -(one.den : Int)) (by simpa using G.h1.2)
  have dp := den_pos one
  refine tried_ok (by decide) (by decide) (szc (by decide) fn fd) (w_fracG (by omega)) ⟨by decide, ?_⟩
  refine tried_ok (by decide) (by decide) (szc8 ⟨fun q e => ?_, fun i e => (nomatch e)⟩ (szT_frs fun xs e => ?_)) (w_tupG (by simp [frTup, isFr_fr])) ⟨by decide, ?_⟩
  · simp [fr] at e
  · cases e
    refine ⟨by simp, fun x m => ?_⟩
    simp only [List.mem_cons, List.not_mem_nil, or_false] at m
    rcases m with rfl | rfl
    · exact f1
    · exact f2
  refine tried_ok (by decide) (by decide) (szc8 ⟨fun q e => (nomatch e), fun i e => (nomatch e)⟩ (szT_frs fun xs e => ?_)) (w_tupG rfl) ?_
  · cases e
    exact ⟨by simp, fun x m => by cases m⟩
  refine ⟨by decide, by decide, by decide, by decide, by decide, ok3, ok3, ?_⟩
  rw [show (List.replicate (Int.toNat 3) [PyData.str (Str.ofString "")]).flatten = [PyData.str "", .str "", .str ""] from rfl, show PyData.eqv (.list [PyData.str "", .str "", .str ""]) (.list [.str "", .str "", .str ""]) = true from strs_eqv ["", "", ""]]
  exact q
end
end K01
namespace K01
open PySem PySem.Spec L2 Fw
section
variable {scr : Sl} {one other : Rat} {bad worse : D} {E : Eo} {es : En}
theorem ok7 : SeqAt.shaped (.list [.str "fraction", .str "fraction", .str "fraction", .str "fraction", .str "fraction", .str "fraction", .str "fraction"]) = true := by decide +kernel
theorem fine_tup {xs : List D} (h : isFr (.tuple xs) = false) : Fine (.tuple xs) := fine_bad ⟨h, fun i e => (nomatch e)⟩
theorem bd7 (G : Given one other bad worse) (h : J scr one other bad worse es) (q : E.nx es) : bd_law_0_7 E es := by
  obtain ⟨tn, x7, x8, x9, x10, x11, x12, rfl⟩ := h
  have f1 := fine_fr G.h1
  have fw := fine_bad G.w
  have fb := fine_bad G.b
  have fn := fine_int (i := one.num) G.h1.1
  unfold bd_law_0_7
  simp only [dSeq, dAsg, dRet, dRaise, dRetN, dDrop, dIfS, dSkip, dVar, dC, dOp, dTup, dLst, dCons, dNil, dCB, dCall, dCallS, dCallK, gP, gT, gL, gN, gsNil, gsCons, dTest, dTruth, truD, dNotT, dAndT, dOrT, dAndV, dOrV, dNotV, dIf, dNeg, dAdd, dSub, dMul, dFdiv, dMod, dPow, dI, dLt, dLe, dGt, dGe, dEq, dNe, dIsO, dPar, dFor, iL, iT, iR1, dNew, bLen, bAbs, bInt, bGcd, bTuple, bList, bAll, dType, dNType, dIs, dIs2, startE, List.map_cons, List.map_nil, List.length_cons, List.length_nil, List.cons_append, List.nil_append, List.getElem?_cons_zero, List.getElem?_cons_succ, List.set_cons_zero, List.set_cons_succ, Option.some.injEq, Sl.p.injEq, exists_eq_left', exists_eq_left, Nat.reduceAdd, Nat.reduceSub, List.replicate, forall_const, true_and, and_true, if_true, if_false, Bool.false_eq_true, eq_self, ite_true, ite_false, reduceCtorEq, dIx_fr0, dIx_fr1, dRepL, mLst, dLc, wipeE]
  refine ⟨by decide, by decide, by decide, by decide, ?_⟩
  refine lcGo_map (f := fun _ => .str "fraction") _ [] (fun d m R r => ?_) (by simp) ?_
  · simp only [dSeq, dAsg, dRet, dRaise, dRetN, dDrop, dIfS, dSkip, dVar, dC, dOp, dTup, dLst, dCons, dNil, dCB, dCall, dCallS, dCallK, gP, gT, gL, gN, gsNil, gsCons, dTest, dTruth, truD, dNotT, dAndT, dOrT, dAndV, dOrV, dNotV, dIf, dNeg, dAdd, dSub, dMul, dFdiv, dMod, dPow, dI, dLt, dLe, dGt, dGe, dEq, dNe, dIsO, dPar, dFor, iL, iT, iR1, dNew, bLen, bAbs, bInt, bGcd, bTuple, bList, bAll, dType, dNType, dIs, dIs2, startE, List.map_cons, List.map_nil, List.length_cons, List.length_nil, List.cons_append, List.nil_append, List.getElem?_cons_zero, List.getElem?_cons_succ, List.set_cons_zero, List.set_cons_succ, Option.some.injEq, Sl.p.injEq, exists_eq_left', exists_eq_left, Nat.reduceAdd, Nat.reduceSub, List.replicate, forall_const, true_and, and_true, if_true, if_false, Bool.false_eq_true, eq_self, ite_true, ite_false, reduceCtorEq]
    have hp : Fine d ∧ SzT d ∧ frTup d = false := by
      simp only [List.mem_cons, List.not_mem_nil, or_false] at m
      rcases m with rfl | rfl | rfl | rfl | rfl | rfl | rfl
      · exact ⟨⟨fun q e => (nomatch e), fun i e => (nomatch e)⟩, fun xs e => (nomatch e), rfl⟩
      · exact ⟨⟨fun q e => (nomatch e), fun i e => (nomatch e)⟩, fun xs e => (nomatch e), rfl⟩
      · exact ⟨fn, fun xs e => (nomatch e), rfl⟩
      · exact ⟨⟨fun q e => (nomatch e), fun i e => (nomatch e)⟩, fun xs e => (nomatch e), rfl⟩
      · refine ⟨fine_tup ?_, szT_frs fun xs e => ?_, ?_⟩
        · unfold isFr fr
          rfl
        · cases e
          refine ⟨by simp, fun x m => ?_⟩
          simp only [List.mem_cons, List.not_mem_nil, or_false] at m
          rcases m with rfl | rfl
          · exact f1
          · exact fw
        · simp [frTup, G.w.1]
      · refine ⟨fine_tup (by cases bad <;> rfl), szT_frs fun xs e => ?_, ?_⟩
        · cases e
          refine ⟨by simp, fun x m => ?_⟩
          simp only [List.mem_cons, List.not_mem_nil, or_false] at m
          rcases m with rfl
          exact fb
        · simp [frTup, G.b.1]
      · exact ⟨⟨fun q e => (nomatch e), fun i e => (nomatch e)⟩, fun xs e => (nomatch e), rfl⟩
    exact tried_ok (by decide) (by decide) (szc8 hp.1 hp.2.1) (w_tupB hp.2.2) r
  · simp only [dSeq, dAsg, dRet, dRaise, dRetN, dDrop, dIfS, dSkip, dVar, dC, dOp, dTup, dLst, dCons, dNil, dCB, dCall, dCallS, dCallK, gP, gT, gL, gN, gsNil, gsCons, dTest, dTruth, truD, dNotT, dAndT, dOrT, dAndV, dOrV, dNotV, dIf, dNeg, dAdd, dSub, dMul, dFdiv, dMod, dPow, dI, dLt, dLe, dGt, dGe, dEq, dNe, dIsO, dPar, dFor, iL, iT, iR1, dNew, bLen, bAbs, bInt, bGcd, bTuple, bList, bAll, dType, dNType, dIs, dIs2, startE, List.map_cons, List.map_nil, List.length_cons, List.length_nil, List.cons_append, List.nil_append, List.getElem?_cons_zero, List.getElem?_cons_succ, List.set_cons_zero, List.set_cons_succ, Option.some.injEq, Sl.p.injEq, exists_eq_left', exists_eq_left, Nat.reduceAdd, Nat.reduceSub, List.replicate, forall_const, true_and, and_true, if_true, if_false, Bool.false_eq_true, eq_self, ite_true, ite_false, reduceCtorEq]
    refine ⟨by decide, by decide, by decide, by decide, ok7, ok7, ?_⟩
    rw [show (List.replicate (Int.toNat 7) [PyData.str (Str.ofString "fraction")]).flatten = [PyData.str "fraction", .str "fraction", .str "fraction", .str "fraction", .str "fraction", .str "fraction", .str "fraction"] from rfl,
      show PyData.eqv (.list [PyData.str "fraction", .str "fraction", .str "fraction", .str "fraction", .str "fraction", .str "fraction", .str "fraction"]) (.list [.str "fraction", .str "fraction", .str "fraction", .str "fraction", .str "fraction", .str "fraction", .str "fraction"]) = true from strs_eqv ["fraction", "fraction", "fraction", "fraction", "fraction", "fraction", "fraction"]]
    exact q
theorem ok4 : SeqAt.shaped (.list [.str "", .str "count", .str "fraction", .str "fraction"]) = true := by decide +kernel
theorem bd89 (G : Given one other bad worse) (h : J scr one other bad worse es) (q : ∀ es, J scr one other bad worse es → E.nx es) : dSeq bd_law_0_8 bd_law_0_9 E es := by
  obtain ⟨tn, x7, x8, x9, x10, x11, x12, rfl⟩ := h
  have f1 := fine_fr G.h1
  have f2 := fine_fr G.h2
  have fb := fine_bad G.b
  unfold bd_law_0_8 bd_law_0_9
  simp only [dSeq, dAsg, dRet, dRaise, dRetN, dDrop, dIfS, dSkip, dVar, dC, dOp, dTup, dLst, dCons, dNil, dCB, dCall, dCallS, dCallK, gP, gT, gL, gN, gsNil, gsCons, dTest, dTruth, truD, dNotT, dAndT, dOrT, dAndV, dOrV, dNotV, dIf, dNeg, dAdd, dSub, dMul, dFdiv, dMod, dPow, dI, dLt, dLe, dGt, dGe, dEq, dNe, dIsO, dPar, dFor, iL, iT, iR1, dNew, bLen, bAbs, bInt, bGcd, bTuple, bList, bAll, dType, dNType, dIs, dIs2, startE, List.map_cons, List.map_nil, List.length_cons, List.length_nil, List.cons_append, List.nil_append, List.getElem?_cons_zero, List.getElem?_cons_succ, List.set_cons_zero, List.set_cons_succ, Option.some.injEq, Sl.p.injEq, exists_eq_left', exists_eq_left, Nat.reduceAdd, Nat.reduceSub, List.replicate, forall_const, true_and, and_true, if_true, if_false, Bool.false_eq_true, eq_self, ite_true, ite_false, reduceCtorEq]
  refine ⟨by decide, ⟨by decide, by decide, by decide⟩, by decide, drop_ok (by decide) (by decide) fun r r0 r1 => ?_⟩
  obtain ⟨x, hx, e⟩ := atI_of (l := [PyData.int (-1), .int 31, .none, .bool true, .str "3", .tuple [.int 3, .int 1], .int (10 ^ Int.toNat 20)]) r0 (by simpa using r1)
  refine dIx_list e ?_
  have ox : Fine x ∧ cntOk x 0 30 = false := by
    simp only [List.mem_cons, List.not_mem_nil, or_false] at hx
    rcases hx with rfl | rfl | rfl | rfl | rfl | rfl | rfl
    · exact ⟨fine_int (by decide), by decide⟩
    · exact ⟨fine_int (by decide), by decide⟩
    · exact ⟨⟨fun q e => (nomatch e), fun i e => (nomatch e)⟩, rfl⟩
    · exact ⟨⟨fun q e => (nomatch e), fun i e => (nomatch e)⟩, rfl⟩
    · exact ⟨⟨fun q e => (nomatch e), fun i e => (nomatch e)⟩, rfl⟩
    · refine ⟨⟨fun q z => ?_, fun i e => (nomatch e)⟩, rfl⟩
      unfold fr at z
      simp at z
      have e1 := z.1
      have e2 : q.den = 1 := by omega
      exact ⟨by rw [← e1]; decide, by rw [e2]; decide⟩
    · exact ⟨fine_int (by decide), by decide⟩
  refine ⟨by decide, ?_⟩
  refine forGo_inv (fun es => ∃ tn x7 x8 x9 x10 x12, es = [scr, .s, tn, .p (fr one), .p (fr other), .p bad, .p worse, x7, x8, x9, x10, .p x, x12]) _ _ ⟨_, _, _, _, _, _, rfl⟩ ?_ ?_
  · rintro d hd es nx bk ⟨tn, x7, x8, x9, x10, x12, rfl⟩ hnx
    obtain ⟨k, rfl, hk⟩ : ∃ k : Int, d = .int k ∧ (k = 9 ∨ k = 10) := by
      simp only [List.mem_cons, List.not_mem_nil, or_false] at hd
      rcases hd with rfl | rfl
      · exact ⟨_, rfl, .inl rfl⟩
      · exact ⟨_, rfl, .inr rfl⟩
    have k0 : 0 ≤ k := by omega
    have k10 : k ≤ 10 := by omega
    have k8 : k ≠ 8 := by omega
    have pos := G.pos
    simp only [dSeq, dAsg, dRet, dRaise, dRetN, dDrop, dIfS, dSkip, dVar, dC, dOp, dTup, dLst, dCons, dNil, dCB, dCall, dCallS, dCallK, gP, gT, gL, gN, gsNil, gsCons, dTest, dTruth, truD, dNotT, dAndT, dOrT, dAndV, dOrV, dNotV, dIf, dNeg, dAdd, dSub, dMul, dFdiv, dMod, dPow, dI, dLt, dLe, dGt, dGe, dEq, dNe, dIsO, dPar, dFor, iL, iT, iR1, dNew, bLen, bAbs, bInt, bGcd, bTuple, bList, bAll, dType, dNType, dIs, dIs2, startE, List.map_cons, List.map_nil, List.length_cons, List.length_nil, List.cons_append, List.nil_append, List.getElem?_cons_zero, List.getElem?_cons_succ, List.set_cons_zero, List.set_cons_succ, Option.some.injEq, Sl.p.injEq, exists_eq_left', exists_eq_left, Nat.reduceAdd, Nat.reduceSub, List.replicate, forall_const, true_and, and_true, if_true, if_false, Bool.false_eq_true, eq_self, ite_true, ite_false, reduceCtorEq, dIx_fr0, dIx_fr1]
    refine tried_ok k0 k10 (szc k8 f2 (fine_int (by decide))) (w_rootG hk (by omega) (by decide)) ?_
    refine tried_ok k0 k10 (szc k8 f2 ox.1) (w_rootC hk (by omega) ox.2) ?_
    refine tried_ok k0 k10 (szc k8 fb ox.1) (w_bad1 (.inr (by omega)) G.b.1) ⟨by decide, ?_⟩
    rw [show PyData.tuple [.int (-other.num), .int other.den] = fr (-other) from rfl]
    have sneg : Sz (-other) 134 := sz_neg G.h2
    refine tried_ok k0 k10 (szc k8 (fine_fr sneg) (fine_int (by decide))) (w_rootN hk (by rw [Rat.neg_num]; omega)) ⟨by decide, by decide, ok4, ok4, ?_⟩
    rw [show PyData.eqv (.list [PyData.str "", .str "count", .str "fraction", .str "fraction"]) (.list [.str "", .str "count", .str "fraction", .str "fraction"]) = true from strs_eqv ["", "count", "fraction", "fraction"]]
    exact hnx _ ⟨_, _, _, _, _, _, rfl⟩
  · rintro es ⟨tn, x7, x8, x9, x10, x12, rfl⟩
    exact q _ ⟨_, _, _, _, _, _, _, rfl⟩
end
theorem vc_law (script : Sl) (Q : D → Prop) (X : XP) (q : Q (.bool true)) : ms_law { nx := fun _ => Q .none, rt := Q, xx := fun x _ => X x } [script, .s, .un, .un, .un, .un, .un, .un, .un, .un, .un, .un, .un] := by
  rw [split_law, split_law_0]
  simp only [dSeq, dFor, iR1, dCons, dC, dNil]
  refine ⟨by decide, by decide, ?_⟩
  refine forGo_inv (fun es => ∃ x2 x3 x4 x5 x6 x7 x8 x9 x10 x11 x12, es = [script, .s, x2, x3, x4, x5, x6, x7, x8, x9, x10, x11, x12]) _ _ ⟨_, _, _, _, _, _, _, _, _, _, _, rfl⟩ ?_ ?_
  · rintro d hd _ nx bk ⟨x2, x3, x4, x5, x6, x7, x8, x9, x10, x11, x12, rfl⟩ hnx
    simp only [dSeq, dAsg, dRet, dRaise, dRetN, dDrop, dIfS, dSkip, dVar, dC, dOp, dTup, dLst, dCons, dNil, dCB, dCall, dCallS, dCallK, gP, gT, gL, gN, gsNil, gsCons, dTest, dTruth, truD, dNotT, dAndT, dOrT, dAndV, dOrV, dNotV, dIf, dNeg, dAdd, dSub, dMul, dFdiv, dMod, dPow, dI, dLt, dLe, dGt, dGe, dEq, dNe, dIsO, dPar, dFor, iL, iT, iR1, dNew, bLen, bAbs, bInt, bGcd, bTuple, bList, bAll, dType, dNType, dIs, dIs2, startE, List.map_cons, List.map_nil, List.length_cons, List.length_nil, List.cons_append, List.nil_append, List.getElem?_cons_zero, List.getElem?_cons_succ, List.set_cons_zero, List.set_cons_succ, Option.some.injEq, Sl.p.injEq, exists_eq_left', exists_eq_left, Nat.reduceAdd, Nat.reduceSub, List.replicate, forall_const, true_and, and_true, if_true, if_false, Bool.false_eq_true, eq_self, ite_true, ite_false, reduceCtorEq, bd_law_0_0, bd_law_0_1, bd_law_0_2]
    refine ⟨rfl, fun one h1 => ⟨rfl, fun other h2 pos => ?_⟩⟩
    simp only [dSeq, dAsg, dRet, dRaise, dRetN, dDrop, dIfS, dSkip, dVar, dC, dOp, dTup, dLst, dCons, dNil, dCB, dCall, dCallS, dCallK, gP, gT, gL, gN, gsNil, gsCons, dTest, dTruth, truD, dNotT, dAndT, dOrT, dAndV, dOrV, dNotV, dIf, dNeg, dAdd, dSub, dMul, dFdiv, dMod, dPow, dI, dLt, dLe, dGt, dGe, dEq, dNe, dIsO, dPar, dFor, iL, iT, iR1, dNew, bLen, bAbs, bInt, bGcd, bTuple, bList, bAll, dType, dNType, dIs, dIs2, startE, List.map_cons, List.map_nil, List.length_cons, List.length_nil, List.cons_append, List.nil_append, List.getElem?_cons_zero, List.getElem?_cons_succ, List.set_cons_zero, List.set_cons_succ, Option.some.injEq, Sl.p.injEq, exists_eq_left', exists_eq_left, Nat.reduceAdd, Nat.reduceSub, List.replicate, forall_const, true_and, and_true, if_true, if_false, Bool.false_eq_true, eq_self, ite_true, ite_false, reduceCtorEq]
    refine ⟨one, rfl, h1, fun bad hb => ⟨other, rfl, h2, fun worse hw => ?_⟩⟩
    simp only [dSeq, dAsg, dRet, dRaise, dRetN, dDrop, dIfS, dSkip, dVar, dC, dOp, dTup, dLst, dCons, dNil, dCB, dCall, dCallS, dCallK, gP, gT, gL, gN, gsNil, gsCons, dTest, dTruth, truD, dNotT, dAndT, dOrT, dAndV, dOrV, dNotV, dIf, dNeg, dAdd, dSub, dMul, dFdiv, dMod, dPow, dI, dLt, dLe, dGt, dGe, dEq, dNe, dIsO, dPar, dFor, iL, iT, iR1, dNew, bLen, bAbs, bInt, bGcd, bTuple, bList, bAll, dType, dNType, dIs, dIs2, startE, List.map_cons, List.map_nil, List.length_cons, List.length_nil, List.cons_append, List.nil_append, List.getElem?_cons_zero, List.getElem?_cons_succ, List.set_cons_zero, List.set_cons_succ, Option.some.injEq, Sl.p.injEq, exists_eq_left', exists_eq_left, Nat.reduceAdd, Nat.reduceSub, List.replicate, forall_const, true_and, and_true, if_true, if_false, Bool.false_eq_true, eq_self, ite_true, ite_false, reduceCtorEq]
    have G : Given one other bad worse := ⟨h1, h2, pos, hb, hw⟩
    refine ⟨other, rfl, h2, pos, ?_⟩
    simp only [dSeq, dAsg, dRet, dRaise, dRetN, dDrop, dIfS, dSkip, dVar, dC, dOp, dTup, dLst, dCons, dNil, dCB, dCall, dCallS, dCallK, gP, gT, gL, gN, gsNil, gsCons, dTest, dTruth, truD, dNotT, dAndT, dOrT, dAndV, dOrV, dNotV, dIf, dNeg, dAdd, dSub, dMul, dFdiv, dMod, dPow, dI, dLt, dLe, dGt, dGe, dEq, dNe, dIsO, dPar, dFor, iL, iT, iR1, dNew, bLen, bAbs, bInt, bGcd, bTuple, bList, bAll, dType, dNType, dIs, dIs2, startE, List.map_cons, List.map_nil, List.length_cons, List.length_nil, List.cons_append, List.nil_append, List.getElem?_cons_zero, List.getElem?_cons_succ, List.set_cons_zero, List.set_cons_succ, Option.some.injEq, Sl.p.injEq, exists_eq_left', exists_eq_left, Nat.reduceAdd, Nat.reduceSub, List.replicate, forall_const, true_and, and_true, if_true, if_false, Bool.false_eq_true, eq_self, ite_true, ite_false, reduceCtorEq, Bool.not_true]
    refine bd3 G ⟨_, _, _, _, _, _, _, rfl⟩ fun es h => ?_
    refine bd45 G h fun es h => ?_
    refine bd6 G h ?_
    refine bd7 G h ?_
    refine bd89 G h fun es h => ?_
    obtain ⟨tn, x7, x8, x9, x10, x11, x12, rfl⟩ := h
    exact hnx _ ⟨_, _, _, _, _, _, _, _, _, _, _, rfl⟩
  · rintro es ⟨x2, x3, x4, x5, x6, x7, x8, x9, x10, x11, x12, rfl⟩
    exact q
end K01
namespace K01
open PySem PySem.Spec L2 Fw
/-- what the names of the module hold -/
structure Tx (K : Fg) (mg : Str → Option Value) : Prop where
  len : mg "len" = none
  abs : mg "abs" = none
  isinstance : mg "isinstance" = none
  all : mg "all" = none
  max : mg "max" = none
  range : mg "range" = none
  type : mg "type" = none
  int : mg "int" = none
  bool : mg "bool" = none
  str : mg "str" = none
  tuple : mg "tuple" = none
  list : mg "list" = none
  gcd : mg "gcd" = some (.builtin "math.gcd")
  isqrt : mg "isqrt" = some (.builtin "math.isqrt")
  c_NOUGHT : KConst K mg "NOUGHT" c_NOUGHT
  c_MOST_DIGITS : KConst K mg "MOST_DIGITS" c_MOST_DIGITS
  x_InvalidCount : ExcC K mg "InvalidCount"
  x_InvalidFraction : ExcC K mg "InvalidFraction"
  n_CourseError : ClsN K mg "CourseError"
  n_InvalidCount : ClsN K mg "InvalidCount"
  n_InvalidFraction : ClsN K mg "InvalidFraction"
  sub : SubF K subT
section
variable {P : Program} {w : World} {K : Fg} {mg : Str → Option Value} {base : Heap}
theorem body_reduced {f : Addr} (T : Tx K mg)  (cdv : Value) (A : Around) (outer : List PySem.Env) (s : Shared) (H : Hp) (E : XK) (C : Ctx (bodyX P w K mg base N_reduced "reduced" s_reduced f cdv A outer s H E) K (WD E) 0) : ∃ ts, XB (bodyX P w K mg base N_reduced "reduced" s_reduced f cdv A outer s H E) K (WD E) (defBody s_reduced) ts ms_reduced := ⟨_, (xb_cons (xs_set 2 C.nd (xe_cfun cr_gcd rc_gcd T.gcd (xa_cons (xe_var 0) (xa_cons (xe_var 1) xa_nil))))
  (xb_cons (xs_if (xt_cmp op_lt rs_lt (xe_var 1) xe_int)
  (xb_one (xs_set 2 C.nd (xe_neg (xe_var 2))))
  xb_nil)
  (xb_one (xs_ret (xe_tup (xa_cons (xe_fdiv (xe_var 0) (xe_var 2)) (xa_cons (xe_fdiv (xe_var 1) (xe_var 2)) xa_nil)))))))⟩
theorem body_added {f : Addr} (T : Tx K mg)  (cdv : Value) (A : Around) (outer : List PySem.Env) (s : Shared) (H : Hp) (E : XK) (C : Ctx (bodyX P w K mg base N_added "added" s_added f cdv A outer s H E) K (WD E) 0) : ∃ ts, XB (bodyX P w K mg base N_added "added" s_added f cdv A outer s H E) K (WD E) (defBody s_added) ts ms_added := ⟨_, (xb_cons (xs_asg (xe_var 0) (xg_tup (n := 2) C (xgs_cons (xg_name 2 C.nd) (xgs_cons (xg_name 3 C.nd) xgs_nil (fun q1 q2 => pgs_cons q1 q2)) (fun q1 q2 => pgs_cons q1 q2))) (fun p1 p2 => ps_asg p1 p2))
  (xb_cons (xs_asg (xe_var 1) (xg_tup (n := 2) C (xgs_cons (xg_name 4 C.nd) (xgs_cons (xg_name 5 C.nd) xgs_nil (fun q1 q2 => pgs_cons q1 q2)) (fun q1 q2 => pgs_cons q1 q2))) (fun p1 p2 => ps_asg p1 p2))
  (xb_cons (xs_set 6 C.nd (xe_cfun cr_gcd rc_gcd T.gcd (xa_cons (xe_var 3) (xa_cons (xe_var 5) xa_nil))))
  (xb_cons (xs_set 7 C.nd (xe_fdiv (xe_var 3) (xe_var 6)))
  (xb_cons (xs_set 8 C.nd (xe_add C (xe_mul (xe_var 2) (xe_fdiv (xe_var 5) (xe_var 6))) (xe_mul (xe_var 4) (xe_var 7))))
  (xb_cons (xs_set 9 C.nd (xe_cfun cr_gcd rc_gcd T.gcd (xa_cons (xe_var 8) (xa_cons (xe_var 6) xa_nil))))
  (xb_one (xs_ret (xe_tup (xa_cons (xe_fdiv (xe_var 8) (xe_var 9)) (xa_cons (xe_mul (xe_var 7) (xe_fdiv (xe_var 5) (xe_var 9))) xa_nil)))))))))))⟩
theorem body_subtracted {f : Addr} (T : Tx K mg) (D_added : Def P w K mg base 1 "added" ["one", "other"] (spD K p_added)) (D_opposite : Def P w K mg base 1 "opposite" ["number"] (spD K p_opposite)) (cdv : Value) (A : Around) (outer : List PySem.Env) (s : Shared) (H : Hp) (E : XK) (C : Ctx (bodyX P w K mg base N_subtracted "subtracted" s_subtracted f cdv A outer s H E) K (WD E) 1) : ∃ ts, XB (bodyX P w K mg base N_subtracted "subtracted" s_subtracted f cdv A outer s H E) K (WD E) (defBody s_subtracted) ts ms_subtracted := ⟨_, (xb_one (xs_ret (xe_call C D_added (by decide) (xa_cons (xe_var 0) (xa_cons (xe_call C D_opposite (by decide) (xa_cons (xe_var 1) xa_nil)) xa_nil)))))⟩
theorem body_multiplied {f : Addr} (T : Tx K mg)  (cdv : Value) (A : Around) (outer : List PySem.Env) (s : Shared) (H : Hp) (E : XK) (C : Ctx (bodyX P w K mg base N_multiplied "multiplied" s_multiplied f cdv A outer s H E) K (WD E) 0) : ∃ ts, XB (bodyX P w K mg base N_multiplied "multiplied" s_multiplied f cdv A outer s H E) K (WD E) (defBody s_multiplied) ts ms_multiplied := ⟨_, (xb_cons (xs_asg (xe_var 0) (xg_tup (n := 2) C (xgs_cons (xg_name 2 C.nd) (xgs_cons (xg_name 3 C.nd) xgs_nil (fun q1 q2 => pgs_cons q1 q2)) (fun q1 q2 => pgs_cons q1 q2))) (fun p1 p2 => ps_asg p1 p2))
  (xb_cons (xs_asg (xe_var 1) (xg_tup (n := 2) C (xgs_cons (xg_name 4 C.nd) (xgs_cons (xg_name 5 C.nd) xgs_nil (fun q1 q2 => pgs_cons q1 q2)) (fun q1 q2 => pgs_cons q1 q2))) (fun p1 p2 => ps_asg p1 p2))
  (xb_cons (xs_set 6 C.nd (xe_cfun cr_gcd rc_gcd T.gcd (xa_cons (xe_var 2) (xa_cons (xe_var 5) xa_nil))))
  (xb_cons (xs_set 7 C.nd (xe_cfun cr_gcd rc_gcd T.gcd (xa_cons (xe_var 4) (xa_cons (xe_var 3) xa_nil))))
  (xb_one (xs_ret (xe_tup (xa_cons (xe_mul (xe_fdiv (xe_var 2) (xe_var 6)) (xe_fdiv (xe_var 4) (xe_var 7))) (xa_cons (xe_mul (xe_fdiv (xe_var 3) (xe_var 7)) (xe_fdiv (xe_var 5) (xe_var 6))) xa_nil)))))))))⟩
theorem body_inverse {f : Addr} (T : Tx K mg)  (cdv : Value) (A : Around) (outer : List PySem.Env) (s : Shared) (H : Hp) (E : XK) (C : Ctx (bodyX P w K mg base N_inverse "inverse" s_inverse f cdv A outer s H E) K (WD E) 0) : ∃ ts, XB (bodyX P w K mg base N_inverse "inverse" s_inverse f cdv A outer s H E) K (WD E) (defBody s_inverse) ts ms_inverse := ⟨_, (xb_cons (xs_asg (xe_var 0) (xg_tup (n := 2) C (xgs_cons (xg_name 1 C.nd) (xgs_cons (xg_name 2 C.nd) xgs_nil (fun q1 q2 => pgs_cons q1 q2)) (fun q1 q2 => pgs_cons q1 q2))) (fun p1 p2 => ps_asg p1 p2))
  (xb_one (xs_ret (xe_if (xt_cmp op_gt rs_gt (xe_var 1) xe_int) (xe_tup (xa_cons (xe_var 2) (xa_cons (xe_var 1) xa_nil))) (xe_tup (xa_cons (xe_neg (xe_var 2)) (xa_cons (xe_neg (xe_var 1)) xa_nil)))))))⟩
theorem body_divided {f : Addr} (T : Tx K mg) (D_inverse : Def P w K mg base 1 "inverse" ["number"] (spD K p_inverse)) (D_multiplied : Def P w K mg base 1 "multiplied" ["one", "other"] (spD K p_multiplied)) (cdv : Value) (A : Around) (outer : List PySem.Env) (s : Shared) (H : Hp) (E : XK) (C : Ctx (bodyX P w K mg base N_divided "divided" s_divided f cdv A outer s H E) K (WD E) 1) : ∃ ts, XB (bodyX P w K mg base N_divided "divided" s_divided f cdv A outer s H E) K (WD E) (defBody s_divided) ts ms_divided := ⟨_, (xb_one (xs_ret (xe_call C D_multiplied (by decide) (xa_cons (xe_var 0) (xa_cons (xe_call C D_inverse (by decide) (xa_cons (xe_var 1) xa_nil)) xa_nil)))))⟩
theorem body_opposite {f : Addr} (T : Tx K mg)  (cdv : Value) (A : Around) (outer : List PySem.Env) (s : Shared) (H : Hp) (E : XK) (C : Ctx (bodyX P w K mg base N_opposite "opposite" s_opposite f cdv A outer s H E) K (WD E) 0) : ∃ ts, XB (bodyX P w K mg base N_opposite "opposite" s_opposite f cdv A outer s H E) K (WD E) (defBody s_opposite) ts ms_opposite := ⟨_, (xb_one (xs_ret (xe_tup (xa_cons (xe_neg (xe_ix C (xe_var 0) xe_int)) (xa_cons (xe_ix C (xe_var 0) xe_int) xa_nil)))))⟩
theorem body_is_less {f : Addr} (T : Tx K mg)  (cdv : Value) (A : Around) (outer : List PySem.Env) (s : Shared) (H : Hp) (E : XK) (C : Ctx (bodyX P w K mg base N_is_less "is_less" s_is_less f cdv A outer s H E) K (WD E) 0) : ∃ ts, XB (bodyX P w K mg base N_is_less "is_less" s_is_less f cdv A outer s H E) K (WD E) (defBody s_is_less) ts ms_is_less := ⟨_, (xb_one (xs_ret (xe_cmp op_lt rs_lt (xe_mul (xe_ix C (xe_var 0) xe_int) (xe_ix C (xe_var 1) xe_int)) (xe_mul (xe_ix C (xe_var 1) xe_int) (xe_ix C (xe_var 0) xe_int)))))⟩
theorem body_power {f : Addr} (T : Tx K mg)  (cdv : Value) (A : Around) (outer : List PySem.Env) (s : Shared) (H : Hp) (E : XK) (C : Ctx (bodyX P w K mg base N_power "power" s_power f cdv A outer s H E) K (WD E) 0) : ∃ ts, XB (bodyX P w K mg base N_power "power" s_power f cdv A outer s H E) K (WD E) (defBody s_power) ts ms_power := ⟨_, (xb_cons (xs_set 2 C.nd xe_int)
  (xb_cons (xs_for C (xi_range1 T.range (xa_cons (xe_var 1) xa_nil)) (xg_name 3 C.nd)
  (xb_one (xs_set 2 C.nd (xe_mul (xe_var 2) (xe_var 0)))))
  (xb_one (xs_ret (xe_var 2)))))⟩
theorem body_divisions {f : Addr} (T : Tx K mg)  (cdv : Value) (A : Around) (outer : List PySem.Env) (s : Shared) (H : Hp) (E : XK) (C : Ctx (bodyX P w K mg base N_divisions "divisions" s_divisions f cdv A outer s H E) K (WD E) 0) : ∃ ts, XB (bodyX P w K mg base N_divisions "divisions" s_divisions f cdv A outer s H E) K (WD E) (defBody s_divisions) ts ms_divisions := ⟨_, (xb_cons (xs_set 2 C.nd xe_int)
  (xb_cons (xs_while C (xt_eqD C (xe_mod (xe_var 0) (xe_var 1)) xe_int)
  (xb_cons (xs_set 0 C.nd (xe_fdiv (xe_var 0) (xe_var 1)))
  (xb_one (xs_aug_add 2 C.nd xe_int))))
  (xb_one (xs_ret (xe_var 2)))))⟩
theorem body_decimal_places {f : Addr} (T : Tx K mg) (D_divisions : Def P w K mg base 1 "divisions" ["number", "divisor"] (spD K p_divisions)) (D_power : Def P w K mg base 1 "power" ["base", "exponent"] (spD K p_power)) (cdv : Value) (A : Around) (outer : List PySem.Env) (s : Shared) (H : Hp) (E : XK) (C : Ctx (bodyX P w K mg base N_decimal_places "decimal_places" s_decimal_places f cdv A outer s H E) K (WD E) 1) : ∃ ts, XB (bodyX P w K mg base N_decimal_places "decimal_places" s_decimal_places f cdv A outer s H E) K (WD E) (defBody s_decimal_places) ts ms_decimal_places := ⟨_, (xb_cons (xs_set 1 C.nd (xe_call C D_divisions (by decide) (xa_cons (xe_var 0) (xa_cons xe_int xa_nil))))
  (xb_cons (xs_set 2 C.nd (xe_call C D_divisions (by decide) (xa_cons (xe_var 0) (xa_cons xe_int xa_nil))))
  (xb_cons (xs_if (xt_neD C (xe_mul (xe_call C D_power (by decide) (xa_cons xe_int (xa_cons (xe_var 1) xa_nil))) (xe_call C D_power (by decide) (xa_cons xe_int (xa_cons (xe_var 2) xa_nil)))) (xe_var 0))
  (xb_one (xs_ret xe_non))
  xb_nil)
  (xb_one (xs_ret (xe_cb (call_max2 C.calm) rc_max T.max (by decide +kernel) (xa_cons (xe_var 1) (xa_cons (xe_var 2) xa_nil))))))))⟩
theorem body_whole_text {f : Addr} (T : Tx K mg)  (cdv : Value) (A : Around) (outer : List PySem.Env) (s : Shared) (H : Hp) (E : XK) (C : Ctx (bodyX P w K mg base N_whole_text "whole_text" s_whole_text f cdv A outer s H E) K (WD E) 0) : ∃ ts, XB (bodyX P w K mg base N_whole_text "whole_text" s_whole_text f cdv A outer s H E) K (WD E) (defBody s_whole_text) ts ms_whole_text := ⟨_, (xb_cons (xs_setO 1 C.nd (xn_lst xa_nil))
  (xb_cons (xs_while C (xt_cmp op_ge rs_ge (xe_var 0) (xe_pow xe_int xe_int))
  (xb_cons (xs_app C 1 (xe_bmS rm_zfill (xe_cty call_str_int rc_strInt T.str bt_str (xa_cons (xe_mod (xe_var 0) (xe_pow xe_int xe_int)) xa_nil)) (xa_cons xe_int xa_nil) (fun p1 p2 => pe_bm PySem.F.plainAttrs_str PySem.F.slot_str_zfill PySem.F.type_str_zfill mt_zfill p1 p2)) (fun pe => ps_expr (pe_bm PySem.F.plainAttrs_list PySem.F.slot_list_append PySem.F.type_list_append mt_append (pv 1) (pa_cons pe pa_nil))))
  (xb_one (xs_set 0 C.nd (xe_fdiv (xe_var 0) (xe_pow xe_int xe_int))))))
  (xb_cons (xs_app C 1 (xe_cty call_str_int rc_strInt T.str bt_str (xa_cons (xe_var 0) xa_nil)) (fun pe => ps_expr (pe_bm PySem.F.plainAttrs_list PySem.F.slot_list_append PySem.F.type_list_append mt_append (pv 1) (pa_cons pe pa_nil))))
  (xb_one (xs_frz 1 (xs_ret (xe_join C xe_str (xa_cons (xe_back C (xe_var 1)) xa_nil) (fun p1 p2 => pe_bm PySem.F.plainAttrs_str PySem.F.slot_str_join PySem.F.type_str_join mt_join p1 p2))))))))⟩
theorem body_number_text {f : Addr} (T : Tx K mg) (D_decimal_places : Def P w K mg base 2 "decimal_places" ["bottom"] (spD K p_decimal_places)) (D_power : Def P w K mg base 1 "power" ["base", "exponent"] (spD K p_power)) (D_whole_text : Def P w K mg base 1 "whole_text" ["number"] (spD K p_whole_text)) (cdv : Value) (A : Around) (outer : List PySem.Env) (s : Shared) (H : Hp) (E : XK) (C : Ctx (bodyX P w K mg base N_number_text "number_text" s_number_text f cdv A outer s H E) K (WD E) 2) : ∃ ts, XB (bodyX P w K mg base N_number_text "number_text" s_number_text f cdv A outer s H E) K (WD E) (defBody s_number_text) ts ms_number_text := ⟨_, (xb_cons (xs_asg (xe_var 0) (xg_tup (n := 2) C (xgs_cons (xg_name 1 C.nd) (xgs_cons (xg_name 2 C.nd) xgs_nil (fun q1 q2 => pgs_cons q1 q2)) (fun q1 q2 => pgs_cons q1 q2))) (fun p1 p2 => ps_asg p1 p2))
  (xb_cons (xs_set 3 C.nd (xe_if (xt_cmp op_lt rs_lt (xe_var 1) xe_int) xe_str xe_str))
  (xb_cons (xs_set 4 C.nd (xe_call C D_decimal_places (by decide) (xa_cons (xe_var 2) xa_nil)))
  (xb_cons (xs_if (xt_cmp op_isA rs_is (xe_var 4) xe_non)
  (xb_one (xs_ret (xe_joined (XJ.cons (xe_fmt (xe_var 3)) (XJ.cons (xe_fmt (xe_call C D_whole_text (by decide) (xa_cons (xe_cb call_abs rc_abs T.abs bt_abs (xa_cons (xe_var 1) xa_nil)) xa_nil))) (XJ.cons xe_str (XJ.cons (xe_fmt (xe_call C D_whole_text (by decide) (xa_cons (xe_var 2) xa_nil))) XJ.nil)))))))
  xb_nil)
  (xb_cons (xs_set 5 C.nd (xe_call C D_whole_text (by decide) (xa_cons (xe_fdiv (xe_mul (xe_cb call_abs rc_abs T.abs bt_abs (xa_cons (xe_var 1) xa_nil)) (xe_call C D_power (by decide) (xa_cons xe_int (xa_cons (xe_var 4) xa_nil)))) (xe_var 2)) xa_nil)))
  (xb_cons (xs_if (xt_eqD C (xe_var 4) xe_int)
  (xb_one (xs_ret (xe_add C (xe_var 3) (xe_var 5))))
  xb_nil)
  (xb_cons (xs_set 5 C.nd (xe_bmS rm_zfill (xe_var 5) (xa_cons (xe_add C (xe_var 4) xe_int) xa_nil) (fun p1 p2 => pe_bm PySem.F.plainAttrs_str PySem.F.slot_str_zfill PySem.F.type_str_zfill mt_zfill p1 p2)))
  (xb_one (xs_ret (xe_joined (XJ.cons (xe_fmt (xe_var 3)) (XJ.cons (xe_fmt (xe_sl C (xe_var 5) xo_none (xo_some (xe_neg (xe_var 4))))) (XJ.cons xe_str (XJ.cons (xe_fmt (xe_sl C (xe_var 5) (xo_some (xe_neg (xe_var 4))) xo_none)) XJ.nil))))))))))))))⟩
theorem body_is_integer {f : Addr} (T : Tx K mg)  (cdv : Value) (A : Around) (outer : List PySem.Env) (s : Shared) (H : Hp) (E : XK) (C : Ctx (bodyX P w K mg base N_is_integer "is_integer" s_is_integer f cdv A outer s H E) K (WD E) 0) : ∃ ts, XB (bodyX P w K mg base N_is_integer "is_integer" s_is_integer f cdv A outer s H E) K (WD E) (defBody s_is_integer) ts ms_is_integer := ⟨_, (xb_one (xs_ret (xe_typeIs (T := "int") C T.type T.int bt_int (xe_var 0))))⟩
theorem body_is_fraction {f : Addr} (T : Tx K mg) (D_is_integer : Def P w K mg base 1 "is_integer" ["value"] (spD K p_is_integer)) (cdv : Value) (A : Around) (outer : List PySem.Env) (s : Shared) (H : Hp) (E : XK) (C : Ctx (bodyX P w K mg base N_is_fraction "is_fraction" s_is_fraction f cdv A outer s H E) K (WD E) 1) : ∃ ts, XB (bodyX P w K mg base N_is_fraction "is_fraction" s_is_fraction f cdv A outer s H E) K (WD E) (defBody s_is_fraction) ts ms_is_fraction := ⟨_, (xb_cons (xs_if (xt_w (xw_or (xt_typeNot (T := "tuple") C T.type T.tuple bt_tuple (xe_var 0)) (xw_or1 (xt_neD C (xe_len C T.len (xa_cons (xe_var 0) xa_nil)) xe_int))))
  (xb_one (xs_ret xe_bl))
  xb_nil)
  (xb_cons (xs_asg (xe_var 0) (xg_tup (n := 2) C (xgs_cons (xg_name 1 C.nd) (xgs_cons (xg_name 2 C.nd) xgs_nil (fun q1 q2 => pgs_cons q1 q2)) (fun q1 q2 => pgs_cons q1 q2))) (fun p1 p2 => ps_asg p1 p2))
  (xb_cons (xs_if (xt_w (xw_or (xt_not (xt_truth C (xe_call C D_is_integer (by decide) (xa_cons (xe_var 1) xa_nil)))) (xw_or1 (xt_not (xt_truth C (xe_call C D_is_integer (by decide) (xa_cons (xe_var 2) xa_nil)))))))
  (xb_one (xs_ret xe_bl))
  xb_nil)
  (xb_one (xs_ret (xe_and (xe_cmp op_ge rs_ge (xe_var 2) xe_int) (xe_one (xe_eqD C (xe_cfun cr_gcd rc_gcd T.gcd (xa_cons (xe_var 1) (xa_cons (xe_var 2) xa_nil))) xe_int))))))))⟩
theorem body_check_fraction {f : Addr} (T : Tx K mg) (D_is_fraction : Def P w K mg base 2 "is_fraction" ["value"] (spD K p_is_fraction)) (cdv : Value) (A : Around) (outer : List PySem.Env) (s : Shared) (H : Hp) (E : XK) (C : Ctx (bodyX P w K mg base N_check_fraction "check_fraction" s_check_fraction f cdv A outer s H E) K (WD E) 2) : ∃ ts, XB (bodyX P w K mg base N_check_fraction "check_fraction" s_check_fraction f cdv A outer s H E) K (WD E) (defBody s_check_fraction) ts ms_check_fraction := ⟨_, (xb_one (xs_if (xt_not (xt_truth C (xe_call C D_is_fraction (by decide) (xa_cons (xe_var 0) xa_nil))))
  (xb_one (xs_raise C T.x_InvalidFraction))
  xb_nil))⟩
theorem body_check_both {f : Addr} (T : Tx K mg) (D_check_fraction : Def P w K mg base 3 "check_fraction" ["value"] (spD K p_check_fraction)) (cdv : Value) (A : Around) (outer : List PySem.Env) (s : Shared) (H : Hp) (E : XK) (C : Ctx (bodyX P w K mg base N_check_both "check_both" s_check_both f cdv A outer s H E) K (WD E) 3) : ∃ ts, XB (bodyX P w K mg base N_check_both "check_both" s_check_both f cdv A outer s H E) K (WD E) (defBody s_check_both) ts ms_check_both := ⟨_, (xb_cons (xs_expr (xe_call C D_check_fraction (by decide) (xa_cons (xe_var 0) xa_nil)))
  (xb_one (xs_expr (xe_call C D_check_fraction (by decide) (xa_cons (xe_var 1) xa_nil)))))⟩
theorem body_check_count {f : Addr} (T : Tx K mg) (D_is_integer : Def P w K mg base 1 "is_integer" ["value"] (spD K p_is_integer)) (cdv : Value) (A : Around) (outer : List PySem.Env) (s : Shared) (H : Hp) (E : XK) (C : Ctx (bodyX P w K mg base N_check_count "check_count" s_check_count f cdv A outer s H E) K (WD E) 1) : ∃ ts, XB (bodyX P w K mg base N_check_count "check_count" s_check_count f cdv A outer s H E) K (WD E) (defBody s_check_count) ts ms_check_count := ⟨_, (xb_one (xs_if (xt_w (xw_or (xt_not (xt_truth C (xe_call C D_is_integer (by decide) (xa_cons (xe_var 0) xa_nil)))) (xw_or1 (xt_not (xt_chain op_le rs_le op_le rs_le (xe_var 1) (xe_var 0) (xe_var 2))))))
  (xb_one (xs_raise C T.x_InvalidCount))
  xb_nil))⟩
theorem body_fraction {f : Addr} (T : Tx K mg) (D_is_integer : Def P w K mg base 1 "is_integer" ["value"] (spD K p_is_integer)) (D_reduced : Def P w K mg base 1 "reduced" ["top", "bottom"] (spD K p_reduced)) (cdv : Value) (A : Around) (outer : List PySem.Env) (s : Shared) (H : Hp) (E : XK) (C : Ctx (bodyX P w K mg base N_fraction "fraction" s_fraction f cdv A outer s H E) K (WD E) 1) : ∃ ts, XB (bodyX P w K mg base N_fraction "fraction" s_fraction f cdv A outer s H E) K (WD E) (defBody s_fraction) ts ms_fraction := ⟨_, (xb_cons (xs_if (xt_w (xw_or (xt_not (xt_truth C (xe_call C D_is_integer (by decide) (xa_cons (xe_var 0) xa_nil)))) (xw_or1 (xt_not (xt_truth C (xe_call C D_is_integer (by decide) (xa_cons (xe_var 1) xa_nil)))))))
  (xb_one (xs_raise C T.x_InvalidFraction))
  xb_nil)
  (xb_cons (xs_if (xt_eqD C (xe_var 1) xe_int)
  (xb_one (xs_raise C T.x_InvalidFraction))
  xb_nil)
  (xb_one (xs_ret (xe_call C D_reduced (by decide) (xa_cons (xe_var 0) (xa_cons (xe_var 1) xa_nil)))))))⟩
theorem body_plus {f : Addr} (T : Tx K mg) (D_added : Def P w K mg base 1 "added" ["one", "other"] (spD K p_added)) (D_check_both : Def P w K mg base 4 "check_both" ["one", "other"] (spD K p_check_both)) (cdv : Value) (A : Around) (outer : List PySem.Env) (s : Shared) (H : Hp) (E : XK) (C : Ctx (bodyX P w K mg base N_plus "plus" s_plus f cdv A outer s H E) K (WD E) 4) : ∃ ts, XB (bodyX P w K mg base N_plus "plus" s_plus f cdv A outer s H E) K (WD E) (defBody s_plus) ts ms_plus := ⟨_, (xb_cons (xs_expr (xe_call C D_check_both (by decide) (xa_cons (xe_var 0) (xa_cons (xe_var 1) xa_nil))))
  (xb_one (xs_ret (xe_call C D_added (by decide) (xa_cons (xe_var 0) (xa_cons (xe_var 1) xa_nil))))))⟩
theorem body_minus {f : Addr} (T : Tx K mg) (D_check_both : Def P w K mg base 4 "check_both" ["one", "other"] (spD K p_check_both)) (D_subtracted : Def P w K mg base 2 "subtracted" ["one", "other"] (spD K p_subtracted)) (cdv : Value) (A : Around) (outer : List PySem.Env) (s : Shared) (H : Hp) (E : XK) (C : Ctx (bodyX P w K mg base N_minus "minus" s_minus f cdv A outer s H E) K (WD E) 4) : ∃ ts, XB (bodyX P w K mg base N_minus "minus" s_minus f cdv A outer s H E) K (WD E) (defBody s_minus) ts ms_minus := ⟨_, (xb_cons (xs_expr (xe_call C D_check_both (by decide) (xa_cons (xe_var 0) (xa_cons (xe_var 1) xa_nil))))
  (xb_one (xs_ret (xe_call C D_subtracted (by decide) (xa_cons (xe_var 0) (xa_cons (xe_var 1) xa_nil))))))⟩
theorem body_times {f : Addr} (T : Tx K mg) (D_check_both : Def P w K mg base 4 "check_both" ["one", "other"] (spD K p_check_both)) (D_multiplied : Def P w K mg base 1 "multiplied" ["one", "other"] (spD K p_multiplied)) (cdv : Value) (A : Around) (outer : List PySem.Env) (s : Shared) (H : Hp) (E : XK) (C : Ctx (bodyX P w K mg base N_times "times" s_times f cdv A outer s H E) K (WD E) 4) : ∃ ts, XB (bodyX P w K mg base N_times "times" s_times f cdv A outer s H E) K (WD E) (defBody s_times) ts ms_times := ⟨_, (xb_cons (xs_expr (xe_call C D_check_both (by decide) (xa_cons (xe_var 0) (xa_cons (xe_var 1) xa_nil))))
  (xb_one (xs_ret (xe_call C D_multiplied (by decide) (xa_cons (xe_var 0) (xa_cons (xe_var 1) xa_nil))))))⟩
theorem body_over {f : Addr} (T : Tx K mg) (D_check_both : Def P w K mg base 4 "check_both" ["one", "other"] (spD K p_check_both)) (D_divided : Def P w K mg base 2 "divided" ["one", "other"] (spD K p_divided)) (cdv : Value) (A : Around) (outer : List PySem.Env) (s : Shared) (H : Hp) (E : XK) (C : Ctx (bodyX P w K mg base N_over "over" s_over f cdv A outer s H E) K (WD E) 4) : ∃ ts, XB (bodyX P w K mg base N_over "over" s_over f cdv A outer s H E) K (WD E) (defBody s_over) ts ms_over := ⟨_, (xb_cons (xs_expr (xe_call C D_check_both (by decide) (xa_cons (xe_var 0) (xa_cons (xe_var 1) xa_nil))))
  (xb_cons (xs_if (xt_eqD C (xe_var 1) (xe_const C T.c_NOUGHT))
  (xb_one (xs_raise C T.x_InvalidFraction))
  xb_nil)
  (xb_one (xs_ret (xe_call C D_divided (by decide) (xa_cons (xe_var 0) (xa_cons (xe_var 1) xa_nil)))))))⟩
theorem body_below {f : Addr} (T : Tx K mg) (D_check_both : Def P w K mg base 4 "check_both" ["one", "other"] (spD K p_check_both)) (D_is_less : Def P w K mg base 1 "is_less" ["one", "other"] (spD K p_is_less)) (cdv : Value) (A : Around) (outer : List PySem.Env) (s : Shared) (H : Hp) (E : XK) (C : Ctx (bodyX P w K mg base N_below "below" s_below f cdv A outer s H E) K (WD E) 4) : ∃ ts, XB (bodyX P w K mg base N_below "below" s_below f cdv A outer s H E) K (WD E) (defBody s_below) ts ms_below := ⟨_, (xb_cons (xs_expr (xe_call C D_check_both (by decide) (xa_cons (xe_var 0) (xa_cons (xe_var 1) xa_nil))))
  (xb_one (xs_ret (xe_call C D_is_less (by decide) (xa_cons (xe_var 0) (xa_cons (xe_var 1) xa_nil))))))⟩
theorem body_sum_of {f : Addr} (T : Tx K mg) (D_added : Def P w K mg base 1 "added" ["one", "other"] (spD K p_added)) (D_check_fraction : Def P w K mg base 3 "check_fraction" ["value"] (spD K p_check_fraction)) (cdv : Value) (A : Around) (outer : List PySem.Env) (s : Shared) (H : Hp) (E : XK) (C : Ctx (bodyX P w K mg base N_sum_of "sum_of" s_sum_of f cdv A outer s H E) K (WD E) 3) : ∃ ts, XB (bodyX P w K mg base N_sum_of "sum_of" s_sum_of f cdv A outer s H E) K (WD E) (defBody s_sum_of) ts ms_sum_of := ⟨_, (xb_cons (xs_if (xt_typeNot (T := "tuple") C T.type T.tuple bt_tuple (xe_var 0))
  (xb_one (xs_raise C T.x_InvalidFraction))
  xb_nil)
  (xb_cons (xs_set 1 C.nd (xe_const C T.c_NOUGHT))
  (xb_cons (xs_for C (xi_tup C (xe_var 0)) (xg_name 2 C.nd)
  (xb_cons (xs_expr (xe_call C D_check_fraction (by decide) (xa_cons (xe_var 2) xa_nil)))
  (xb_one (xs_set 1 C.nd (xe_call C D_added (by decide) (xa_cons (xe_var 1) (xa_cons (xe_var 2) xa_nil)))))))
  (xb_one (xs_ret (xe_var 1))))))⟩
theorem body_root {f : Addr} (T : Tx K mg) (D_check_count : Def P w K mg base 2 "check_count" ["value", "low", "high"] (spD K p_check_count)) (D_check_fraction : Def P w K mg base 3 "check_fraction" ["value"] (spD K p_check_fraction)) (D_power : Def P w K mg base 1 "power" ["base", "exponent"] (spD K p_power)) (D_reduced : Def P w K mg base 1 "reduced" ["top", "bottom"] (spD K p_reduced)) (cdv : Value) (A : Around) (outer : List PySem.Env) (s : Shared) (H : Hp) (E : XK) (C : Ctx (bodyX P w K mg base N_root "root" s_root f cdv A outer s H E) K (WD E) 3) : ∃ ts, XB (bodyX P w K mg base N_root "root" s_root f cdv A outer s H E) K (WD E) (defBody s_root) ts ms_root := ⟨_, (xb_cons (xs_expr (xe_call C D_check_fraction (by decide) (xa_cons (xe_var 0) xa_nil)))
  (xb_cons (xs_asg (xe_var 0) (xg_tup (n := 2) C (xgs_cons (xg_name 2 C.nd) (xgs_cons (xg_name 3 C.nd) xgs_nil (fun q1 q2 => pgs_cons q1 q2)) (fun q1 q2 => pgs_cons q1 q2))) (fun p1 p2 => ps_asg p1 p2))
  (xb_cons (xs_if (xt_cmp op_lt rs_lt (xe_var 2) xe_int)
  (xb_one (xs_raise C T.x_InvalidFraction))
  xb_nil)
  (xb_cons (xs_expr (xe_call C D_check_count (by decide) (xa_cons (xe_var 1) (xa_cons xe_int (xa_cons (xe_const C T.c_MOST_DIGITS) xa_nil)))))
  (xb_cons (xs_set 4 C.nd (xe_call C D_power (by decide) (xa_cons xe_int (xa_cons (xe_var 1) xa_nil))))
  (xb_one (xs_ret (xe_call C D_reduced (by decide) (xa_cons (xe_cfun cr_isqrt rc_isqrt T.isqrt (xa_cons (xe_fdiv (xe_mul (xe_mul (xe_var 2) (xe_var 4)) (xe_var 4)) (xe_var 3)) xa_nil)) (xa_cons (xe_var 4) xa_nil))))))))))⟩
theorem body_fraction_text {f : Addr} (T : Tx K mg) (D_check_fraction : Def P w K mg base 3 "check_fraction" ["value"] (spD K p_check_fraction)) (D_number_text : Def P w K mg base 3 "number_text" ["number"] (spD K p_number_text)) (cdv : Value) (A : Around) (outer : List PySem.Env) (s : Shared) (H : Hp) (E : XK) (C : Ctx (bodyX P w K mg base N_fraction_text "fraction_text" s_fraction_text f cdv A outer s H E) K (WD E) 3) : ∃ ts, XB (bodyX P w K mg base N_fraction_text "fraction_text" s_fraction_text f cdv A outer s H E) K (WD E) (defBody s_fraction_text) ts ms_fraction_text := ⟨_, (xb_cons (xs_expr (xe_call C D_check_fraction (by decide) (xa_cons (xe_var 0) xa_nil)))
  (xb_one (xs_ret (xe_call C D_number_text (by decide) (xa_cons (xe_var 0) xa_nil)))))⟩
theorem body__law_kinds {f : Addr} (T : Tx K mg)  (cdv : Value) (A : Around) (outer : List PySem.Env) (s : Shared) (H : Hp) (E : XK) (C : Ctx (bodyX P w K mg base N__law_kinds "_law_kinds" s__law_kinds f cdv A outer s H E) K (WD E) 0) : ∃ ts, XB (bodyX P w K mg base N__law_kinds "_law_kinds" s__law_kinds f cdv A outer s H E) K (WD E) (defBody s__law_kinds) ts ms__law_kinds := ⟨_, (xb_cons (xs_set 1 C.nd (xe_lst (xa_cons (xe_isi (T := "bool") C (by decide) T.isinstance T.bool bt_bool (xe_var 0)) (xa_cons (xe_isi (T := "int") C (by decide) T.isinstance T.int bt_int (xe_var 0)) (xa_cons (xe_isi (T := "str") C (by decide) T.isinstance T.str bt_str (xe_var 0)) xa_nil)))))
  (xb_one (xs_ret (xe_add C (xe_var 1) (xe_lst (xa_cons (xe_isi (T := "tuple") C (by decide) T.isinstance T.tuple bt_tuple (xe_var 0)) (xa_cons (xe_isi (T := "list") C (by decide) T.isinstance T.list bt_list (xe_var 0)) (xa_cons (xe_cmp op_isA rs_is (xe_var 0) xe_non) xa_nil))))))))⟩
theorem body__law_alike {f : Addr} {lv k : Nat} {pr : Spc} (hk : 1 ≤ k) (hrec : lv ≤ k) (T : Tx K mg) (D_rec : Def P w K mg base lv "_law_alike" ["found", "due"] (spD K pr)) (D__law_kinds : Def P w K mg base 1 "_law_kinds" ["thing"] (spD K p__law_kinds)) (cdv : Value) (A : Around) (outer : List PySem.Env) (s : Shared) (H : Hp) (E : XK) (C : Ctx (bodyX P w K mg base N__law_alike "_law_alike" s__law_alike f cdv A outer s H E) K (WD E) k) : ∃ ts, XB (bodyX P w K mg base N__law_alike "_law_alike" s__law_alike f cdv A outer s H E) K (WD E) (defBody s__law_alike) ts (ms__law_alike pr) := ⟨_, (xb_cons (xs_if (xt_neD C (xe_call C D__law_kinds (Nat.le_trans (by decide) hk) (xa_cons (xe_var 0) xa_nil)) (xe_call C D__law_kinds (Nat.le_trans (by decide) hk) (xa_cons (xe_var 1) xa_nil)))
  (xb_one (xs_ret xe_bl))
  xb_nil)
  (xb_cons (xs_if (xt_truth C (xe_isi2 (T := "tuple") (U := "list") C (by decide) (by decide) T.isinstance T.tuple T.list bt_tuple bt_list (xe_var 1)))
  (xb_one (xs_ret (xe_and (xe_eqD C (xe_len C T.len (xa_cons (xe_var 0) xa_nil)) (xe_len C T.len (xa_cons (xe_var 1) xa_nil))) (xe_one (xe_all C T.all (xa_cons (xe_new (by (refine xn_lc (te := ?te) (tt := ?tt) (g := ?g) (vs0 := ?vs) C (xi_range1 T.range (xa_cons (xe_len C T.len (xa_cons (xe_var 1) xa_nil)) xa_nil)) (blkOk_by (own := [("k", 2)]) (N := N__law_alike) (sc := defScope s__law_alike) (by decide +kernel)) ?hg ?ht ?he rfl ?hv (by intro _; rfl)); (case hg => (intro s2 H2 c2 cl2 fp2 C; exact (xg_name 2 C.nd))); (case ht => (intro s2 H2 c2 cl2 fp2 C; exact xts_nil)); (case he => (intro s2 H2 c2 cl2 fp2 C; exact (xe_call C D_rec hrec (xa_cons (xe_ix C (xe_var 0) (xe_var 2)) (xa_cons (xe_ix C (xe_var 1) (xe_var 2)) xa_nil))))); (case hv => decide))) xa_nil))))))
  xb_nil)
  (xb_one (xs_ret (xe_eqD C (xe_var 0) (xe_var 1))))))⟩
theorem body__law_low {f : Addr} (T : Tx K mg)  (cdv : Value) (A : Around) (outer : List PySem.Env) (s : Shared) (H : Hp) (E : XK) (C : Ctx (bodyX P w K mg base N__law_low "_law_low" s__law_low f cdv A outer s H E) K (WD E) 0) : ∃ ts, XB (bodyX P w K mg base N__law_low "_law_low" s__law_low f cdv A outer s H E) K (WD E) (defBody s__law_low) ts ms__law_low := ⟨_, (xb_cons (xs_par 2 3 (xa_cons (xe_cb call_abs rc_abs T.abs bt_abs (xa_cons (xe_var 0) xa_nil)) (xa_cons (xe_cb call_abs rc_abs T.abs bt_abs (xa_cons (xe_var 1) xa_nil)) xa_nil)) (fun pa => ps_par (by rfl) C.nd rfl rfl (by decide) rfl rfl pa (by rfl)))
  (xb_cons (xs_while C (xt_cmp op_gt rs_gt (xe_var 3) xe_int)
  (xb_one (xs_par 2 3 (xa_cons (xe_var 3) (xa_cons (xe_mod (xe_cty call_int1 rc_int T.int bt_int (xa_cons (xe_var 2) xa_nil)) (xe_var 3)) xa_nil)) (fun pa => ps_par (by rfl) C.nd rfl rfl (by decide) rfl rfl pa (by rfl)))))
  (xb_cons (xs_set 2 C.nd (xe_if (xt_cmp op_gt rs_gt (xe_var 1) xe_int) (xe_var 2) (xe_neg (xe_var 2))))
  (xb_one (xs_ret (xe_tup (xa_cons (xe_fdiv (xe_var 0) (xe_var 2)) (xa_cons (xe_fdiv (xe_var 1) (xe_var 2)) xa_nil))))))))⟩
theorem body__law_plus {f : Addr} (T : Tx K mg) (D__law_low : Def P w K mg base 1 "_law_low" ["top", "bottom"] (spD K p__law_low)) (cdv : Value) (A : Around) (outer : List PySem.Env) (s : Shared) (H : Hp) (E : XK) (C : Ctx (bodyX P w K mg base N__law_plus "_law_plus" s__law_plus f cdv A outer s H E) K (WD E) 1) : ∃ ts, XB (bodyX P w K mg base N__law_plus "_law_plus" s__law_plus f cdv A outer s H E) K (WD E) (defBody s__law_plus) ts ms__law_plus := ⟨_, (xb_one (xs_ret (xe_call C D__law_low (by decide) (xa_cons (xe_add C (xe_mul (xe_ix C (xe_var 0) xe_int) (xe_ix C (xe_var 1) xe_int)) (xe_mul (xe_ix C (xe_var 1) xe_int) (xe_ix C (xe_var 0) xe_int))) (xa_cons (xe_mul (xe_ix C (xe_var 0) xe_int) (xe_ix C (xe_var 1) xe_int)) xa_nil)))))⟩
theorem body__law_minus {f : Addr} (T : Tx K mg) (D__law_plus : Def P w K mg base 2 "_law_plus" ["one", "other"] (spD K p__law_plus)) (cdv : Value) (A : Around) (outer : List PySem.Env) (s : Shared) (H : Hp) (E : XK) (C : Ctx (bodyX P w K mg base N__law_minus "_law_minus" s__law_minus f cdv A outer s H E) K (WD E) 2) : ∃ ts, XB (bodyX P w K mg base N__law_minus "_law_minus" s__law_minus f cdv A outer s H E) K (WD E) (defBody s__law_minus) ts ms__law_minus := ⟨_, (xb_one (xs_ret (xe_call C D__law_plus (by decide) (xa_cons (xe_var 0) (xa_cons (xe_tup (xa_cons (xe_neg (xe_ix C (xe_var 1) xe_int)) (xa_cons (xe_ix C (xe_var 1) xe_int) xa_nil))) xa_nil)))))⟩
theorem body__law_times {f : Addr} (T : Tx K mg) (D__law_low : Def P w K mg base 1 "_law_low" ["top", "bottom"] (spD K p__law_low)) (cdv : Value) (A : Around) (outer : List PySem.Env) (s : Shared) (H : Hp) (E : XK) (C : Ctx (bodyX P w K mg base N__law_times "_law_times" s__law_times f cdv A outer s H E) K (WD E) 1) : ∃ ts, XB (bodyX P w K mg base N__law_times "_law_times" s__law_times f cdv A outer s H E) K (WD E) (defBody s__law_times) ts ms__law_times := ⟨_, (xb_one (xs_ret (xe_call C D__law_low (by decide) (xa_cons (xe_mul (xe_ix C (xe_var 0) xe_int) (xe_ix C (xe_var 1) xe_int)) (xa_cons (xe_mul (xe_ix C (xe_var 0) xe_int) (xe_ix C (xe_var 1) xe_int)) xa_nil)))))⟩
theorem body__law_below {f : Addr} (T : Tx K mg)  (cdv : Value) (A : Around) (outer : List PySem.Env) (s : Shared) (H : Hp) (E : XK) (C : Ctx (bodyX P w K mg base N__law_below "_law_below" s__law_below f cdv A outer s H E) K (WD E) 0) : ∃ ts, XB (bodyX P w K mg base N__law_below "_law_below" s__law_below f cdv A outer s H E) K (WD E) (defBody s__law_below) ts ms__law_below := ⟨_, (xb_one (xs_ret (xe_cmp op_lt rs_lt (xe_mul (xe_ix C (xe_var 0) xe_int) (xe_ix C (xe_var 1) xe_int)) (xe_mul (xe_ix C (xe_var 1) xe_int) (xe_ix C (xe_var 0) xe_int)))))⟩
theorem body__law_number {f : Addr} (T : Tx K mg) (D__law_drop : Def P w K mg base 1 "_law_drop" ["spring", "many"] (spS K p__law_drop)) (D__law_low : Def P w K mg base 1 "_law_low" ["top", "bottom"] (spD K p__law_low)) (cdv : Value) (A : Around) (outer : List PySem.Env) (s : Shared) (H : Hp) (E : XK) (C : Ctx (bodyX P w K mg base N__law_number "_law_number" s__law_number f cdv A outer s H E) K (WD E) 1) : ∃ ts, XB (bodyX P w K mg base N__law_number "_law_number" s__law_number f cdv A outer s H E) K (WD E) (defBody s__law_number) ts ms__law_number := ⟨_, (xb_cons (xs_set 1 C.nd (xe_callS C D__law_drop (by decide) 0 (xa_cons xe_int xa_nil)))
  (xb_cons (xs_if (xt_eqD C (xe_var 1) xe_int)
  (xb_one (xs_ret (xe_tup (xa_cons (xe_sub (xe_callS C D__law_drop (by decide) 0 (xa_cons xe_int xa_nil)) xe_int) (xa_cons xe_int xa_nil)))))
  xb_nil)
  (xb_cons (xs_if (xt_cmp op_lt rs_lt (xe_var 1) xe_int)
  (xb_one (xs_ret (xe_call C D__law_low (by decide) (xa_cons (xe_sub (xe_callS C D__law_drop (by decide) 0 (xa_cons xe_int xa_nil)) xe_int) (xa_cons (xe_ix C (xe_lst (xa_cons xe_int (xa_cons xe_int (xa_cons xe_int (xa_cons xe_int xa_nil))))) (xe_callS C D__law_drop (by decide) 0 (xa_cons xe_int xa_nil))) xa_nil)))))
  xb_nil)
  (xb_cons (xs_if (xt_cmp op_lt rs_lt (xe_var 1) xe_int)
  (xb_one (xs_ret (xe_call C D__law_low (by decide) (xa_cons (xe_sub (xe_callS C D__law_drop (by decide) 0 (xa_cons xe_int xa_nil)) xe_int) (xa_cons (xe_add C xe_int (xe_callS C D__law_drop (by decide) 0 (xa_cons xe_int xa_nil))) xa_nil)))))
  xb_nil)
  (xb_one (xs_ret (xe_call C D__law_low (by decide) (xa_cons (xe_sub (xe_callS C D__law_drop (by decide) 0 (xa_cons xe_int xa_nil)) xe_int) (xa_cons (xe_add C xe_int (xe_callS C D__law_drop (by decide) 0 (xa_cons xe_int xa_nil))) xa_nil)))))))))⟩
theorem body__law_above {f : Addr} (T : Tx K mg) (D__law_number : Def P w K mg base 2 "_law_number" ["spring"] (spS K p__law_number)) (cdv : Value) (A : Around) (outer : List PySem.Env) (s : Shared) (H : Hp) (E : XK) (C : Ctx (bodyX P w K mg base N__law_above "_law_above" s__law_above f cdv A outer s H E) K (WD E) 2) : ∃ ts, XB (bodyX P w K mg base N__law_above "_law_above" s__law_above f cdv A outer s H E) K (WD E) (defBody s__law_above) ts ms__law_above := ⟨_, (xb_cons (xs_asg (xe_callS C D__law_number (by decide) 0 xa_nil) (xg_tup (n := 2) C (xgs_cons (xg_name 1 C.nd) (xgs_cons (xg_name 2 C.nd) xgs_nil (fun q1 q2 => pgs_cons q1 q2)) (fun q1 q2 => pgs_cons q1 q2))) (fun p1 p2 => ps_asg p1 p2))
  (xb_one (xs_ret (xe_if (xt_neD C (xe_var 1) xe_int) (xe_tup (xa_cons (xe_cb call_abs rc_abs T.abs bt_abs (xa_cons (xe_var 1) xa_nil)) (xa_cons (xe_var 2) xa_nil))) (xe_tup (xa_cons xe_int (xa_cons xe_int xa_nil)))))))⟩
theorem body__law_call {f : Addr} (T : Tx K mg) (D_below : Def P w K mg base 5 "below" ["one", "other"] (spD K p_below)) (D_fraction : Def P w K mg base 2 "fraction" ["top", "bottom"] (spD K p_fraction)) (D_fraction_text : Def P w K mg base 4 "fraction_text" ["number"] (spD K p_fraction_text)) (D_plus : Def P w K mg base 5 "plus" ["one", "other"] (spD K p_plus)) (D_root : Def P w K mg base 4 "root" ["number", "digits"] (spD K p_root)) (D_sum_of : Def P w K mg base 4 "sum_of" ["numbers"] (spD K p_sum_of)) (D_times : Def P w K mg base 5 "times" ["one", "other"] (spD K p_times)) (K_minus_other_one : DefK P w K mg base 5 "minus" ["one", "other"] ["other", "one"] (permL [1, 0]) (spD K p_minus)) (K_over_other_one : DefK P w K mg base 5 "over" ["one", "other"] ["other", "one"] (permL [1, 0]) (spD K p_over)) (K_root_digits_number : DefK P w K mg base 4 "root" ["number", "digits"] ["digits", "number"] (permL [1, 0]) (spD K p_root)) (cdv : Value) (A : Around) (outer : List PySem.Env) (s : Shared) (H : Hp) (E : XK) (C : Ctx (bodyX P w K mg base N__law_call "_law_call" s__law_call f cdv A outer s H E) K (WD E) 5) : ∃ ts, XB (bodyX P w K mg base N__law_call "_law_call" s__law_call f cdv A outer s H E) K (WD E) (defBody s__law_call) ts ms__law_call := ⟨_, (xb_cons (xs_if (xt_eqD C (xe_var 0) xe_int)
  (xb_one (xs_ret (xe_call C D_plus (by decide) (xa_cons (xe_var 1) (xa_cons (xe_var 2) xa_nil)))))
  xb_nil)
  (xb_cons (xs_if (xt_eqD C (xe_var 0) xe_int)
  (xb_one (xs_ret (xe_callK C K_minus_other_one (by decide) (xk_cons (xe_var 2) (xk_cons (xe_var 1) xk_nil)))))
  xb_nil)
  (xb_cons (xs_if (xt_eqD C (xe_var 0) xe_int)
  (xb_one (xs_ret (xe_call C D_times (by decide) (xa_cons (xe_var 1) (xa_cons (xe_var 2) xa_nil)))))
  xb_nil)
  (xb_cons (xs_if (xt_eqD C (xe_var 0) xe_int)
  (xb_one (xs_ret (xe_callK C K_over_other_one (by decide) (xk_cons (xe_var 2) (xk_cons (xe_var 1) xk_nil)))))
  xb_nil)
  (xb_cons (xs_if (xt_eqD C (xe_var 0) xe_int)
  (xb_one (xs_ret (xe_call C D_below (by decide) (xa_cons (xe_var 1) (xa_cons (xe_var 2) xa_nil)))))
  xb_nil)
  (xb_cons (xs_if (xt_eqD C (xe_var 0) xe_int)
  (xb_one (xs_ret (xe_call C D_sum_of (by decide) (xa_cons (xe_tup (xa_cons (xe_var 1) (xa_cons (xe_var 2) (xa_cons (xe_var 1) xa_nil)))) xa_nil))))
  xb_nil)
  (xb_cons (xs_if (xt_eqD C (xe_var 0) xe_int)
  (xb_one (xs_ret (xe_call C D_fraction_text (by decide) (xa_cons (xe_var 1) xa_nil))))
  xb_nil)
  (xb_cons (xs_if (xt_eqD C (xe_var 0) xe_int)
  (xb_one (xs_ret (xe_call C D_fraction (by decide) (xa_cons (xe_var 1) (xa_cons (xe_var 2) xa_nil)))))
  xb_nil)
  (xb_cons (xs_if (xt_eqD C (xe_var 0) xe_int)
  (xb_one (xs_ret (xe_call C D_sum_of (by decide) (xa_cons (xe_var 1) xa_nil))))
  xb_nil)
  (xb_one (xs_ret (xe_if (xt_eqD C (xe_var 0) xe_int) (xe_call C D_root (by decide) (xa_cons (xe_var 1) (xa_cons (xe_var 2) xa_nil))) (xe_callK C K_root_digits_number (by decide) (xk_cons (xe_var 2) (xk_cons (xe_var 1) xk_nil)))))))))))))))⟩
theorem body__law_tried {f : Addr} (T : Tx K mg) (D__law_call : Def P w K mg base 6 "_law_call" ["kind", "one", "other"] (spD K p__law_call)) (cdv : Value) (A : Around) (outer : List PySem.Env) (s : Shared) (H : Hp) (E : XK) (C : Ctx (bodyX P w K mg base N__law_tried "_law_tried" s__law_tried f cdv A outer s H E) K (WD E) 6) : ∃ ts, XB (bodyX P w K mg base N__law_tried "_law_tried" s__law_tried f cdv A outer s H E) K (WD E) (defBody s__law_tried) ts ms__law_tried := ⟨_, (xb_cons (xs_set 3 C.nd xe_str)
  (xb_cons (xs_try C T.sub (fun W2 pn2 xe2 C => (xb_one (xs_expr (xe_call C D__law_call (by decide) (xa_cons (xe_var 0) (xa_cons (xe_var 1) (xa_cons (xe_var 2) xa_nil))))))) (XHs.cons T.n_InvalidFraction rfl (by decide) (fun a2 pn2 => (xb_one (xs_set 3 C.nd xe_str))) (XHs.cons T.n_InvalidCount rfl (by decide) (fun a2 pn2 => (xb_one (xs_set 3 C.nd xe_str))) (XHs.cons T.n_CourseError rfl (by decide) (fun a2 pn2 => (xb_one (xs_set 3 C.nd xe_str))) XHs.nil))))
  (xb_one (xs_ret (xe_var 3)))))⟩
theorem body__law_none {f : Addr} (T : Tx K mg) (D__law_drop : Def P w K mg base 1 "_law_drop" ["spring", "many"] (spS K p__law_drop)) (cdv : Value) (A : Around) (outer : List PySem.Env) (s : Shared) (H : Hp) (E : XK) (C : Ctx (bodyX P w K mg base N__law_none "_law_none" s__law_none f cdv A outer s H E) K (WD E) 1) : ∃ ts, XB (bodyX P w K mg base N__law_none "_law_none" s__law_none f cdv A outer s H E) K (WD E) (defBody s__law_none) ts ms__law_none := ⟨_, (xb_cons (xs_set 2 C.nd (xe_lst (xa_cons (xe_tup (xa_cons (xe_mul (xe_ix C (xe_var 1) xe_int) xe_int) (xa_cons (xe_mul (xe_ix C (xe_var 1) xe_int) xe_int) xa_nil))) (xa_cons (xe_tup (xa_cons (xe_ix C (xe_var 1) xe_int) (xa_cons (xe_neg (xe_ix C (xe_var 1) xe_int)) xa_nil))) (xa_cons (xe_tup (xa_cons (xe_ix C (xe_var 1) xe_int) (xa_cons xe_int xa_nil))) (xa_cons (xe_listC C T.list (xa_cons (xe_var 1) xa_nil)) (xa_cons (xe_add C (xe_var 1) (xe_tup (xa_cons xe_int xa_nil))) (xa_cons (xe_sl C (xe_var 1) xo_none (xo_some xe_int)) (xa_cons (xe_ix C (xe_var 1) xe_int) (xa_cons xe_non (xa_cons xe_str xa_nil)))))))))))
  (xb_cons (xs_set 2 C.nd (xe_add C (xe_var 2) (xe_lst (xa_cons xe_bl (xa_cons (xe_tup (xa_cons xe_bl (xa_cons xe_int xa_nil))) (xa_cons (xe_tup (xa_cons xe_int (xa_cons xe_bl xa_nil))) (xa_cons (xe_tup (xa_cons (xe_cty call_str_int rc_strInt T.str bt_str (xa_cons (xe_ix C (xe_var 1) xe_int) xa_nil)) (xa_cons (xe_ix C (xe_var 1) xe_int) xa_nil))) (xa_cons (xe_tup (xa_cons (xe_var 1) (xa_cons (xe_var 1) xa_nil))) (xa_cons (xe_tup xa_nil) (xa_cons (xe_tup (xa_cons xe_int (xa_cons xe_int xa_nil))) xa_nil))))))))))
  (xb_one (xs_ret (xe_ix C (xe_var 2) (xe_callS C D__law_drop (by decide) 0 (xa_cons xe_int xa_nil)))))))⟩
theorem body__law_roots_right {f : Addr} (T : Tx K mg) (D__law_alike : Def P w K mg base 6 "_law_alike" ["found", "due"] (spD K p__law_alike)) (D__law_below : Def P w K mg base 1 "_law_below" ["one", "other"] (spD K p__law_below)) (D__law_drop : Def P w K mg base 1 "_law_drop" ["spring", "many"] (spS K p__law_drop)) (D__law_low : Def P w K mg base 1 "_law_low" ["top", "bottom"] (spD K p__law_low)) (D__law_minus : Def P w K mg base 3 "_law_minus" ["one", "other"] (spD K p__law_minus)) (D__law_plus : Def P w K mg base 2 "_law_plus" ["one", "other"] (spD K p__law_plus)) (D__law_times : Def P w K mg base 2 "_law_times" ["one", "other"] (spD K p__law_times)) (D_root : Def P w K mg base 4 "root" ["number", "digits"] (spD K p_root)) (K_root_digits_number : DefK P w K mg base 4 "root" ["number", "digits"] ["digits", "number"] (permL [1, 0]) (spD K p_root)) (cdv : Value) (A : Around) (outer : List PySem.Env) (s : Shared) (H : Hp) (E : XK) (C : Ctx (bodyX P w K mg base N__law_roots_right "_law_roots_right" s__law_roots_right f cdv A outer s H E) K (WD E) 6) : ∃ ts, XB (bodyX P w K mg base N__law_roots_right "_law_roots_right" s__law_roots_right f cdv A outer s H E) K (WD E) (defBody s__law_roots_right) ts ms__law_roots_right := ⟨_, (xb_cons (xs_set 2 C.nd (xe_tup (xa_cons xe_int (xa_cons (xe_pow xe_int xe_int) xa_nil))))
  (xb_cons (xs_set 1 C.nd (xe_ix C (xe_lst (xa_cons (xe_var 1) (xa_cons (xe_call C D__law_times (by decide) (xa_cons (xe_var 1) (xa_cons (xe_var 1) xa_nil))) (xa_cons (xe_call C D__law_plus (by decide) (xa_cons (xe_call C D__law_times (by decide) (xa_cons (xe_var 1) (xa_cons (xe_var 1) xa_nil))) (xa_cons (xe_var 2) xa_nil))) (xa_cons (xe_call C D__law_minus (by decide) (xa_cons (xe_call C D__law_times (by decide) (xa_cons (xe_var 1) (xa_cons (xe_var 1) xa_nil))) (xa_cons (xe_var 2) xa_nil))) xa_nil))))) (xe_callS C D__law_drop (by decide) 0 (xa_cons xe_int xa_nil))))
  (xb_cons (xs_if (xt_eqD C (xe_callS C D__law_drop (by decide) 0 (xa_cons xe_int xa_nil)) xe_int)
  (xb_cons (xs_set 3 C.nd (xe_mul (xe_pow xe_int xe_int) (xe_pow xe_int xe_int)))
  (xb_one (xs_set 1 C.nd (xe_call C D__law_low (by decide) (xa_cons (xe_add C xe_int (xe_callS C D__law_drop (by decide) 0 (xa_cons (xe_var 3) xa_nil))) (xa_cons (xe_add C xe_int (xe_callS C D__law_drop (by decide) 0 (xa_cons (xe_var 3) xa_nil))) xa_nil))))))
  xb_nil)
  (xb_cons (xs_if (xt_cmp op_lt rs_lt (xe_ix C (xe_var 1) xe_int) xe_int)
  (xb_one (xs_ret xe_bl))
  xb_nil)
  (xb_cons (xs_par 4 5 (xa_cons (xe_callS C D__law_drop (by decide) 0 (xa_cons xe_int xa_nil)) (xa_cons (xe_tup (xa_cons xe_int (xa_cons xe_int xa_nil))) xa_nil)) (fun pa => ps_par (by rfl) C.nd rfl rfl (by decide) rfl rfl pa (by rfl)))
  (xb_cons (xs_for C (xi_range1 T.range (xa_cons (xe_var 4) xa_nil)) (xg_name 6 C.nd)
  (xb_one (xs_set 5 C.nd (xe_call C D__law_times (by decide) (xa_cons (xe_var 5) (xa_cons (xe_tup (xa_cons xe_int (xa_cons xe_int xa_nil))) xa_nil))))))
  (xb_cons (xs_set 7 C.nd (xe_call C D_root (by decide) (xa_cons (xe_var 1) (xa_cons (xe_var 4) xa_nil))))
  (xb_cons (xs_if (xt_not (xt_truth C (xe_call C D__law_alike (by decide) (xa_cons (xe_lst (xa_cons (xe_var 7) (xa_cons (xe_callK C K_root_digits_number (by decide) (xk_cons (xe_var 4) (xk_cons (xe_var 1) xk_nil))) (xa_cons (xe_call C D_root (by decide) (xa_cons (xe_tup (xa_cons xe_int (xa_cons xe_int xa_nil))) (xa_cons (xe_var 4) xa_nil))) xa_nil)))) (xa_cons (xe_lst (xa_cons (xe_var 7) (xa_cons (xe_var 7) (xa_cons (xe_tup (xa_cons xe_int (xa_cons xe_int xa_nil))) xa_nil)))) xa_nil)))))
  (xb_one (xs_ret xe_bl))
  xb_nil)
  (xb_cons (xs_set 8 C.nd (xe_call C D__law_plus (by decide) (xa_cons (xe_var 7) (xa_cons (xe_var 5) xa_nil))))
  (xb_cons (xs_if (xt_w (xw_or (xt_neD C (xe_call C D__law_low (by decide) (xa_cons (xe_ix C (xe_var 7) xe_int) (xa_cons (xe_ix C (xe_var 7) xe_int) xa_nil))) (xe_var 7)) (xw_or (xt_cmp op_lt rs_lt (xe_ix C (xe_var 7) xe_int) xe_int) (xw_or1 (xt_neD C (xe_ix C (xe_call C D__law_low (by decide) (xa_cons (xe_mul (xe_ix C (xe_var 7) xe_int) (xe_ix C (xe_var 5) xe_int)) (xa_cons (xe_ix C (xe_var 7) xe_int) xa_nil))) xe_int) xe_int)))))
  (xb_one (xs_ret xe_bl))
  xb_nil)
  (xb_one (xs_ret (xe_and (xe_not (xe_call C D__law_below (by decide) (xa_cons (xe_var 1) (xa_cons (xe_call C D__law_times (by decide) (xa_cons (xe_var 7) (xa_cons (xe_var 7) xa_nil))) xa_nil)))) (xe_one (xe_call C D__law_below (by decide) (xa_cons (xe_var 1) (xa_cons (xe_call C D__law_times (by decide) (xa_cons (xe_var 8) (xa_cons (xe_var 8) xa_nil))) xa_nil)))))))))))))))))⟩
theorem body_law {f : Addr} (T : Tx K mg) (D__law_above : Def P w K mg base 3 "_law_above" ["spring"] (spS K p__law_above)) (D__law_drop : Def P w K mg base 1 "_law_drop" ["spring", "many"] (spS K p__law_drop)) (D__law_none : Def P w K mg base 2 "_law_none" ["spring", "good"] (spS K p__law_none)) (D__law_number : Def P w K mg base 2 "_law_number" ["spring"] (spS K p__law_number)) (D__law_roots_right : Def P w K mg base 7 "_law_roots_right" ["spring", "number"] (spS K p__law_roots_right)) (D__law_tried : Def P w K mg base 7 "_law_tried" ["kind", "one", "other"] (spD K p__law_tried)) (cdv : Value) (A : Around) (outer : List PySem.Env) (s : Shared) (H : Hp) (E : XK) (C : Ctx (bodyX P w K mg base N_law "law" s_law f cdv A outer s H E) K (WD E) 7) : ∃ ts, XB (bodyX P w K mg base N_law "law" s_law f cdv A outer s H E) K (WD E) ((defBody s_law).tail) ts ms_law := ⟨_, (xb_cons (xs_for C (xi_range1 T.range (xa_cons xe_int xa_nil)) (xg_name 2 C.nd)
  (xb_cons (xs_par 3 4 (xa_cons (xe_callS C D__law_number (by decide) 1 xa_nil) (xa_cons (xe_callS C D__law_above (by decide) 1 xa_nil) xa_nil)) (fun pa => ps_par (by rfl) C.nd rfl rfl (by decide) rfl rfl pa (by rfl)))
  (xb_cons (xs_par 5 6 (xa_cons (xe_callS C D__law_none (by decide) 1 (xa_cons (xe_var 3) xa_nil)) (xa_cons (xe_callS C D__law_none (by decide) 1 (xa_cons (xe_var 4) xa_nil)) xa_nil)) (fun pa => ps_par (by rfl) C.nd rfl rfl (by decide) rfl rfl pa (by rfl)))
  (xb_cons (xs_if (xt_not (xt_truth C (xe_callS C D__law_roots_right (by decide) 1 (xa_cons (xe_var 4) xa_nil))))
  (xb_one (xs_ret xe_bl))
  xb_nil)
  (xb_cons (xs_for C (xi_range1 T.range (xa_cons xe_int xa_nil)) (xg_name 7 C.nd)
  (xb_cons (xs_if (xt_w (xw_or (xt_neD C (xe_call C D__law_tried (by decide) (xa_cons (xe_var 7) (xa_cons (xe_var 3) (xa_cons (xe_var 4) xa_nil)))) xe_str) (xw_or1 (xt_neD C (xe_call C D__law_tried (by decide) (xa_cons (xe_var 7) (xa_cons (xe_var 5) (xa_cons (xe_ix C (xe_lst (xa_cons (xe_var 4) (xa_cons (xe_var 6) xa_nil))) (xe_callS C D__law_drop (by decide) 1 (xa_cons xe_int xa_nil))) xa_nil)))) xe_str))))
  (xb_one (xs_ret xe_bl))
  xb_nil)
  (xb_one (xs_if (xt_w (xw_or (xt_w (xw_and (xt_cmp op_lt rs_lt (xe_var 7) xe_int) (xw_and1 (xt_neD C (xe_call C D__law_tried (by decide) (xa_cons (xe_var 7) (xa_cons (xe_var 3) (xa_cons (xe_var 6) xa_nil)))) xe_str)))) (xw_or1 (xt_neD C (xe_call C D__law_tried (by decide) (xa_cons (xe_var 7) (xa_cons (xe_var 3) (xa_cons (xe_tup (xa_cons xe_int (xa_cons xe_int xa_nil))) xa_nil)))) (xe_ix C (xe_lst (xa_cons xe_str (xa_cons xe_str xa_nil))) (xe_cty call_int1 rc_int T.int bt_int (xa_cons (xe_eqD C (xe_var 7) xe_int) xa_nil)))))))
  (xb_one (xs_ret xe_bl))
  xb_nil))))
  (xb_cons (xs_set 8 C.nd (xe_ix C (xe_lst (xa_cons xe_non (xa_cons xe_bl (xa_cons xe_str (xa_cons (xe_tup (xa_cons xe_int (xa_cons xe_int xa_nil))) (xa_cons (xe_lst (xa_cons xe_int xa_nil)) (xa_cons xe_bl (xa_cons (xe_tup xa_nil) (xa_cons xe_str xa_nil))))))))) (xe_callS C D__law_drop (by decide) 1 (xa_cons xe_int xa_nil))))
  (xb_cons (xs_for C (xi_list C (xe_lst (xa_cons (xe_tup (xa_cons (xe_ix C (xe_var 3) xe_int) (xa_cons xe_int xa_nil))) (xa_cons (xe_tup (xa_cons (xe_var 8) (xa_cons (xe_ix C (xe_var 3) xe_int) xa_nil))) (xa_cons (xe_tup (xa_cons (xe_ix C (xe_var 3) xe_int) (xa_cons (xe_var 8) xa_nil))) (xa_cons (xe_tup (xa_cons (xe_var 8) (xa_cons (xe_var 8) xa_nil))) (xa_cons (xe_tup (xa_cons (xe_var 8) (xa_cons xe_int xa_nil))) xa_nil))))))) (xg_name 9 C.nd)
  (xb_one (xs_if (xt_neD C (xe_call C D__law_tried (by decide) (xa_cons xe_int (xa_cons (xe_ix C (xe_var 9) xe_int) (xa_cons (xe_ix C (xe_var 9) xe_int) xa_nil)))) xe_str)
  (xb_one (xs_ret xe_bl))
  xb_nil)))
  (xb_cons (xs_if (xt_neD C (xe_lst (xa_cons (xe_call C D__law_tried (by decide) (xa_cons xe_int (xa_cons (xe_ix C (xe_var 3) xe_int) (xa_cons (xe_neg (xe_ix C (xe_var 3) xe_int)) xa_nil)))) (xa_cons (xe_call C D__law_tried (by decide) (xa_cons xe_int (xa_cons (xe_tup (xa_cons (xe_var 3) (xa_cons (xe_var 4) xa_nil))) (xa_cons xe_non xa_nil)))) (xa_cons (xe_call C D__law_tried (by decide) (xa_cons xe_int (xa_cons (xe_tup xa_nil) (xa_cons xe_non xa_nil)))) xa_nil)))) (xe_repL (xn_lst (xa_cons xe_str xa_nil)) xe_int))
  (xb_one (xs_ret xe_bl))
  xb_nil)
  (xb_cons (xs_if (xt_neD C (xe_new (by (refine xn_lc (te := ?te) (tt := ?tt) (g := ?g) (vs0 := ?vs) C (xi_list C (xe_lst (xa_cons (xe_lst (xa_cons (xe_var 3) xa_nil)) (xa_cons xe_non (xa_cons (xe_ix C (xe_var 3) xe_int) (xa_cons xe_str (xa_cons (xe_tup (xa_cons (xe_var 3) (xa_cons (xe_var 6) xa_nil))) (xa_cons (xe_tup (xa_cons (xe_var 5) xa_nil)) (xa_cons xe_bl xa_nil))))))))) (blkOk_by (own := [("value", 10)]) (N := N_law) (sc := defScope s_law) (by decide +kernel)) ?hg ?ht ?he rfl ?hv (by intro _; rfl)); (case hg => (intro s2 H2 c2 cl2 fp2 C; exact (xg_name 10 C.nd))); (case ht => (intro s2 H2 c2 cl2 fp2 C; exact xts_nil)); (case he => (intro s2 H2 c2 cl2 fp2 C; exact (xe_call C D__law_tried (by decide) (xa_cons xe_int (xa_cons (xe_var 10) (xa_cons xe_non xa_nil)))))); (case hv => decide))) (xe_repL (xn_lst (xa_cons xe_str xa_nil)) xe_int))
  (xb_one (xs_ret xe_bl))
  xb_nil)
  (xb_cons (xs_set 11 C.nd (xe_ix C (xe_lst (xa_cons (xe_neg xe_int) (xa_cons xe_int (xa_cons xe_non (xa_cons xe_bl (xa_cons xe_str (xa_cons (xe_tup (xa_cons xe_int (xa_cons xe_int xa_nil))) (xa_cons (xe_pow xe_int xe_int) xa_nil)))))))) (xe_callS C D__law_drop (by decide) 1 (xa_cons xe_int xa_nil))))
  (xb_one (xs_for C (xi_list C (xe_lst (xa_cons xe_int (xa_cons xe_int xa_nil)))) (xg_name 7 C.nd)
  (xb_cons (xs_set 12 C.nd (xe_lst (xa_cons (xe_call C D__law_tried (by decide) (xa_cons (xe_var 7) (xa_cons (xe_var 4) (xa_cons xe_int xa_nil)))) (xa_cons (xe_call C D__law_tried (by decide) (xa_cons (xe_var 7) (xa_cons (xe_var 4) (xa_cons (xe_var 11) xa_nil)))) (xa_cons (xe_call C D__law_tried (by decide) (xa_cons (xe_var 7) (xa_cons (xe_var 5) (xa_cons (xe_var 11) xa_nil)))) (xa_cons (xe_call C D__law_tried (by decide) (xa_cons (xe_var 7) (xa_cons (xe_tup (xa_cons (xe_neg (xe_ix C (xe_var 4) xe_int)) (xa_cons (xe_ix C (xe_var 4) xe_int) xa_nil))) (xa_cons xe_int xa_nil)))) xa_nil))))))
  (xb_one (xs_if (xt_neD C (xe_var 12) (xe_lst (xa_cons xe_str (xa_cons xe_str (xa_cons xe_str (xa_cons xe_str xa_nil))))))
  (xb_one (xs_ret xe_bl))
  xb_nil)))))))))))))))
  (xb_one (xs_ret xe_bl)))⟩
end
end K01
namespace K01
open PySem PySem.Spec L2 Fw
/-- a def of the text stands there -/
structure Md (K : Fg) (mg : Str → Option Value) (x : Str) (st : Stmt) : Prop where
  ex : ∃ f fd, Fun K x x st f fd ∧ mg x = some (.ref f) ∧ PySem.W.keepIn K (.ref f) = true
section
variable {P : Program} {w : World} {K : Fg} {mg : Str → Option Value} {base : Heap}
theorem def_reduced (T : Tx K mg) (M : Md K mg "reduced" s_reduced)  : Def P w K mg base 1 "reduced" ["top", "bottom"] (spD K p_reduced) := by
  obtain ⟨f, fd, F, hm, hk⟩ := M
  exact ⟨f, fd, fn_D (N := N_reduced) F sc_reduced (by intro ds P X h; first | (obtain ⟨rfl, _⟩ := h; rfl) | (obtain ⟨_, rfl, _⟩ := h; rfl) | (obtain ⟨_, _, rfl, _⟩ := h; rfl) | (obtain ⟨_, _, _, rfl, _⟩ := h; rfl) | (obtain ⟨_, _, _, _, rfl, _⟩ := h; rfl)) (fun cdv A outer s H E C => body_reduced T  cdv A outer s H E C) vc_reduced, hm, hk, F.binds (ps := ["top", "bottom"]) fun _ _ _ _ _ _ us hl => match us, hl with | [_, _], _ => rfl⟩
theorem def_added (T : Tx K mg) (M : Md K mg "added" s_added)  : Def P w K mg base 1 "added" ["one", "other"] (spD K p_added) := by
  obtain ⟨f, fd, F, hm, hk⟩ := M
  exact ⟨f, fd, fn_D (N := N_added) F sc_added (by intro ds P X h; first | (obtain ⟨rfl, _⟩ := h; rfl) | (obtain ⟨_, rfl, _⟩ := h; rfl) | (obtain ⟨_, _, rfl, _⟩ := h; rfl) | (obtain ⟨_, _, _, rfl, _⟩ := h; rfl) | (obtain ⟨_, _, _, _, rfl, _⟩ := h; rfl)) (fun cdv A outer s H E C => body_added T  cdv A outer s H E C) vc_added, hm, hk, F.binds (ps := ["one", "other"]) fun _ _ _ _ _ _ us hl => match us, hl with | [_, _], _ => rfl⟩
theorem def_subtracted (T : Tx K mg) (M : Md K mg "subtracted" s_subtracted) (D_added : Def P w K mg base 1 "added" ["one", "other"] (spD K p_added)) (D_opposite : Def P w K mg base 1 "opposite" ["number"] (spD K p_opposite)) : Def P w K mg base 2 "subtracted" ["one", "other"] (spD K p_subtracted) := by
  obtain ⟨f, fd, F, hm, hk⟩ := M
  exact ⟨f, fd, fn_D (N := N_subtracted) F sc_subtracted (by intro ds P X h; first | (obtain ⟨rfl, _⟩ := h; rfl) | (obtain ⟨_, rfl, _⟩ := h; rfl) | (obtain ⟨_, _, rfl, _⟩ := h; rfl) | (obtain ⟨_, _, _, rfl, _⟩ := h; rfl) | (obtain ⟨_, _, _, _, rfl, _⟩ := h; rfl)) (fun cdv A outer s H E C => body_subtracted T D_added D_opposite cdv A outer s H E C) vc_subtracted, hm, hk, F.binds (ps := ["one", "other"]) fun _ _ _ _ _ _ us hl => match us, hl with | [_, _], _ => rfl⟩
theorem def_multiplied (T : Tx K mg) (M : Md K mg "multiplied" s_multiplied)  : Def P w K mg base 1 "multiplied" ["one", "other"] (spD K p_multiplied) := by
  obtain ⟨f, fd, F, hm, hk⟩ := M
  exact ⟨f, fd, fn_D (N := N_multiplied) F sc_multiplied (by intro ds P X h; first | (obtain ⟨rfl, _⟩ := h; rfl) | (obtain ⟨_, rfl, _⟩ := h; rfl) | (obtain ⟨_, _, rfl, _⟩ := h; rfl) | (obtain ⟨_, _, _, rfl, _⟩ := h; rfl) | (obtain ⟨_, _, _, _, rfl, _⟩ := h; rfl)) (fun cdv A outer s H E C => body_multiplied T  cdv A outer s H E C) vc_multiplied, hm, hk, F.binds (ps := ["one", "other"]) fun _ _ _ _ _ _ us hl => match us, hl with | [_, _], _ => rfl⟩
theorem def_inverse (T : Tx K mg) (M : Md K mg "inverse" s_inverse)  : Def P w K mg base 1 "inverse" ["number"] (spD K p_inverse) := by
  obtain ⟨f, fd, F, hm, hk⟩ := M
  exact ⟨f, fd, fn_D (N := N_inverse) F sc_inverse (by intro ds P X h; first | (obtain ⟨rfl, _⟩ := h; rfl) | (obtain ⟨_, rfl, _⟩ := h; rfl) | (obtain ⟨_, _, rfl, _⟩ := h; rfl) | (obtain ⟨_, _, _, rfl, _⟩ := h; rfl) | (obtain ⟨_, _, _, _, rfl, _⟩ := h; rfl)) (fun cdv A outer s H E C => body_inverse T  cdv A outer s H E C) vc_inverse, hm, hk, F.binds (ps := ["number"]) fun _ _ _ _ _ _ us hl => match us, hl with | [_], _ => rfl⟩
theorem def_divided (T : Tx K mg) (M : Md K mg "divided" s_divided) (D_inverse : Def P w K mg base 1 "inverse" ["number"] (spD K p_inverse)) (D_multiplied : Def P w K mg base 1 "multiplied" ["one", "other"] (spD K p_multiplied)) : Def P w K mg base 2 "divided" ["one", "other"] (spD K p_divided) := by
  obtain ⟨f, fd, F, hm, hk⟩ := M
  exact ⟨f, fd, fn_D (N := N_divided) F sc_divided (by intro ds P X h; first | (obtain ⟨rfl, _⟩ := h; rfl) | (obtain ⟨_, rfl, _⟩ := h; rfl) | (obtain ⟨_, _, rfl, _⟩ := h; rfl) | (obtain ⟨_, _, _, rfl, _⟩ := h; rfl) | (obtain ⟨_, _, _, _, rfl, _⟩ := h; rfl)) (fun cdv A outer s H E C => body_divided T D_inverse D_multiplied cdv A outer s H E C) vc_divided, hm, hk, F.binds (ps := ["one", "other"]) fun _ _ _ _ _ _ us hl => match us, hl with | [_, _], _ => rfl⟩
theorem def_opposite (T : Tx K mg) (M : Md K mg "opposite" s_opposite)  : Def P w K mg base 1 "opposite" ["number"] (spD K p_opposite) := by
  obtain ⟨f, fd, F, hm, hk⟩ := M
  exact ⟨f, fd, fn_D (N := N_opposite) F sc_opposite (by intro ds P X h; first | (obtain ⟨rfl, _⟩ := h; rfl) | (obtain ⟨_, rfl, _⟩ := h; rfl) | (obtain ⟨_, _, rfl, _⟩ := h; rfl) | (obtain ⟨_, _, _, rfl, _⟩ := h; rfl) | (obtain ⟨_, _, _, _, rfl, _⟩ := h; rfl)) (fun cdv A outer s H E C => body_opposite T  cdv A outer s H E C) vc_opposite, hm, hk, F.binds (ps := ["number"]) fun _ _ _ _ _ _ us hl => match us, hl with | [_], _ => rfl⟩
theorem def_is_less (T : Tx K mg) (M : Md K mg "is_less" s_is_less)  : Def P w K mg base 1 "is_less" ["one", "other"] (spD K p_is_less) := by
  obtain ⟨f, fd, F, hm, hk⟩ := M
  exact ⟨f, fd, fn_D (N := N_is_less) F sc_is_less (by intro ds P X h; first | (obtain ⟨rfl, _⟩ := h; rfl) | (obtain ⟨_, rfl, _⟩ := h; rfl) | (obtain ⟨_, _, rfl, _⟩ := h; rfl) | (obtain ⟨_, _, _, rfl, _⟩ := h; rfl) | (obtain ⟨_, _, _, _, rfl, _⟩ := h; rfl)) (fun cdv A outer s H E C => body_is_less T  cdv A outer s H E C) vc_is_less, hm, hk, F.binds (ps := ["one", "other"]) fun _ _ _ _ _ _ us hl => match us, hl with | [_, _], _ => rfl⟩
theorem def_power (T : Tx K mg) (M : Md K mg "power" s_power)  : Def P w K mg base 1 "power" ["base", "exponent"] (spD K p_power) := by
  obtain ⟨f, fd, F, hm, hk⟩ := M
  exact ⟨f, fd, fn_D (N := N_power) F sc_power (by intro ds P X h; first | (obtain ⟨rfl, _⟩ := h; rfl) | (obtain ⟨_, rfl, _⟩ := h; rfl) | (obtain ⟨_, _, rfl, _⟩ := h; rfl) | (obtain ⟨_, _, _, rfl, _⟩ := h; rfl) | (obtain ⟨_, _, _, _, rfl, _⟩ := h; rfl)) (fun cdv A outer s H E C => body_power T  cdv A outer s H E C) vc_power, hm, hk, F.binds (ps := ["base", "exponent"]) fun _ _ _ _ _ _ us hl => match us, hl with | [_, _], _ => rfl⟩
theorem def_divisions (T : Tx K mg) (M : Md K mg "divisions" s_divisions)  : Def P w K mg base 1 "divisions" ["number", "divisor"] (spD K p_divisions) := by
  obtain ⟨f, fd, F, hm, hk⟩ := M
  exact ⟨f, fd, fn_D (N := N_divisions) F sc_divisions (by intro ds P X h; first | (obtain ⟨rfl, _⟩ := h; rfl) | (obtain ⟨_, rfl, _⟩ := h; rfl) | (obtain ⟨_, _, rfl, _⟩ := h; rfl) | (obtain ⟨_, _, _, rfl, _⟩ := h; rfl) | (obtain ⟨_, _, _, _, rfl, _⟩ := h; rfl)) (fun cdv A outer s H E C => body_divisions T  cdv A outer s H E C) vc_divisions, hm, hk, F.binds (ps := ["number", "divisor"]) fun _ _ _ _ _ _ us hl => match us, hl with | [_, _], _ => rfl⟩
theorem def_decimal_places (T : Tx K mg) (M : Md K mg "decimal_places" s_decimal_places) (D_divisions : Def P w K mg base 1 "divisions" ["number", "divisor"] (spD K p_divisions)) (D_power : Def P w K mg base 1 "power" ["base", "exponent"] (spD K p_power)) : Def P w K mg base 2 "decimal_places" ["bottom"] (spD K p_decimal_places) := by
  obtain ⟨f, fd, F, hm, hk⟩ := M
  exact ⟨f, fd, fn_D (N := N_decimal_places) F sc_decimal_places (by intro ds P X h; first | (obtain ⟨rfl, _⟩ := h; rfl) | (obtain ⟨_, rfl, _⟩ := h; rfl) | (obtain ⟨_, _, rfl, _⟩ := h; rfl) | (obtain ⟨_, _, _, rfl, _⟩ := h; rfl) | (obtain ⟨_, _, _, _, rfl, _⟩ := h; rfl)) (fun cdv A outer s H E C => body_decimal_places T D_divisions D_power cdv A outer s H E C) vc_decimal_places, hm, hk, F.binds (ps := ["bottom"]) fun _ _ _ _ _ _ us hl => match us, hl with | [_], _ => rfl⟩
theorem def_whole_text (T : Tx K mg) (M : Md K mg "whole_text" s_whole_text)  : Def P w K mg base 1 "whole_text" ["number"] (spD K p_whole_text) := by
  obtain ⟨f, fd, F, hm, hk⟩ := M
  exact ⟨f, fd, fn_D (N := N_whole_text) F sc_whole_text (by intro ds P X h; first | (obtain ⟨rfl, _⟩ := h; rfl) | (obtain ⟨_, rfl, _⟩ := h; rfl) | (obtain ⟨_, _, rfl, _⟩ := h; rfl) | (obtain ⟨_, _, _, rfl, _⟩ := h; rfl) | (obtain ⟨_, _, _, _, rfl, _⟩ := h; rfl)) (fun cdv A outer s H E C => body_whole_text T  cdv A outer s H E C) vc_whole_text, hm, hk, F.binds (ps := ["number"]) fun _ _ _ _ _ _ us hl => match us, hl with | [_], _ => rfl⟩
theorem def_number_text (T : Tx K mg) (M : Md K mg "number_text" s_number_text) (D_decimal_places : Def P w K mg base 2 "decimal_places" ["bottom"] (spD K p_decimal_places)) (D_power : Def P w K mg base 1 "power" ["base", "exponent"] (spD K p_power)) (D_whole_text : Def P w K mg base 1 "whole_text" ["number"] (spD K p_whole_text)) : Def P w K mg base 3 "number_text" ["number"] (spD K p_number_text) := by
  obtain ⟨f, fd, F, hm, hk⟩ := M
  exact ⟨f, fd, fn_D (N := N_number_text) F sc_number_text (by intro ds P X h; first | (obtain ⟨rfl, _⟩ := h; rfl) | (obtain ⟨_, rfl, _⟩ := h; rfl) | (obtain ⟨_, _, rfl, _⟩ := h; rfl) | (obtain ⟨_, _, _, rfl, _⟩ := h; rfl) | (obtain ⟨_, _, _, _, rfl, _⟩ := h; rfl)) (fun cdv A outer s H E C => body_number_text T D_decimal_places D_power D_whole_text cdv A outer s H E C) vc_number_text, hm, hk, F.binds (ps := ["number"]) fun _ _ _ _ _ _ us hl => match us, hl with | [_], _ => rfl⟩
theorem def_is_integer (T : Tx K mg) (M : Md K mg "is_integer" s_is_integer)  : Def P w K mg base 1 "is_integer" ["value"] (spD K p_is_integer) := by
  obtain ⟨f, fd, F, hm, hk⟩ := M
  exact ⟨f, fd, fn_D (N := N_is_integer) F sc_is_integer (by intro ds P X h; first | (obtain ⟨rfl, _⟩ := h; rfl) | (obtain ⟨_, rfl, _⟩ := h; rfl) | (obtain ⟨_, _, rfl, _⟩ := h; rfl) | (obtain ⟨_, _, _, rfl, _⟩ := h; rfl) | (obtain ⟨_, _, _, _, rfl, _⟩ := h; rfl)) (fun cdv A outer s H E C => body_is_integer T  cdv A outer s H E C) vc_is_integer, hm, hk, F.binds (ps := ["value"]) fun _ _ _ _ _ _ us hl => match us, hl with | [_], _ => rfl⟩
theorem def_is_fraction (T : Tx K mg) (M : Md K mg "is_fraction" s_is_fraction) (D_is_integer : Def P w K mg base 1 "is_integer" ["value"] (spD K p_is_integer)) : Def P w K mg base 2 "is_fraction" ["value"] (spD K p_is_fraction) := by
  obtain ⟨f, fd, F, hm, hk⟩ := M
  exact ⟨f, fd, fn_D (N := N_is_fraction) F sc_is_fraction (by intro ds P X h; first | (obtain ⟨rfl, _⟩ := h; rfl) | (obtain ⟨_, rfl, _⟩ := h; rfl) | (obtain ⟨_, _, rfl, _⟩ := h; rfl) | (obtain ⟨_, _, _, rfl, _⟩ := h; rfl) | (obtain ⟨_, _, _, _, rfl, _⟩ := h; rfl)) (fun cdv A outer s H E C => body_is_fraction T D_is_integer cdv A outer s H E C) vc_is_fraction, hm, hk, F.binds (ps := ["value"]) fun _ _ _ _ _ _ us hl => match us, hl with | [_], _ => rfl⟩
theorem def_check_fraction (T : Tx K mg) (M : Md K mg "check_fraction" s_check_fraction) (D_is_fraction : Def P w K mg base 2 "is_fraction" ["value"] (spD K p_is_fraction)) : Def P w K mg base 3 "check_fraction" ["value"] (spD K p_check_fraction) := by
  obtain ⟨f, fd, F, hm, hk⟩ := M
  exact ⟨f, fd, fn_D (N := N_check_fraction) F sc_check_fraction (by intro ds P X h; first | (obtain ⟨rfl, _⟩ := h; rfl) | (obtain ⟨_, rfl, _⟩ := h; rfl) | (obtain ⟨_, _, rfl, _⟩ := h; rfl) | (obtain ⟨_, _, _, rfl, _⟩ := h; rfl) | (obtain ⟨_, _, _, _, rfl, _⟩ := h; rfl)) (fun cdv A outer s H E C => body_check_fraction T D_is_fraction cdv A outer s H E C) vc_check_fraction, hm, hk, F.binds (ps := ["value"]) fun _ _ _ _ _ _ us hl => match us, hl with | [_], _ => rfl⟩
theorem def_check_both (T : Tx K mg) (M : Md K mg "check_both" s_check_both) (D_check_fraction : Def P w K mg base 3 "check_fraction" ["value"] (spD K p_check_fraction)) : Def P w K mg base 4 "check_both" ["one", "other"] (spD K p_check_both) := by
  obtain ⟨f, fd, F, hm, hk⟩ := M
  exact ⟨f, fd, fn_D (N := N_check_both) F sc_check_both (by intro ds P X h; first | (obtain ⟨rfl, _⟩ := h; rfl) | (obtain ⟨_, rfl, _⟩ := h; rfl) | (obtain ⟨_, _, rfl, _⟩ := h; rfl) | (obtain ⟨_, _, _, rfl, _⟩ := h; rfl) | (obtain ⟨_, _, _, _, rfl, _⟩ := h; rfl)) (fun cdv A outer s H E C => body_check_both T D_check_fraction cdv A outer s H E C) vc_check_both, hm, hk, F.binds (ps := ["one", "other"]) fun _ _ _ _ _ _ us hl => match us, hl with | [_, _], _ => rfl⟩
theorem def_check_count (T : Tx K mg) (M : Md K mg "check_count" s_check_count) (D_is_integer : Def P w K mg base 1 "is_integer" ["value"] (spD K p_is_integer)) : Def P w K mg base 2 "check_count" ["value", "low", "high"] (spD K p_check_count) := by
  obtain ⟨f, fd, F, hm, hk⟩ := M
  exact ⟨f, fd, fn_D (N := N_check_count) F sc_check_count (by intro ds P X h; first | (obtain ⟨rfl, _⟩ := h; rfl) | (obtain ⟨_, rfl, _⟩ := h; rfl) | (obtain ⟨_, _, rfl, _⟩ := h; rfl) | (obtain ⟨_, _, _, rfl, _⟩ := h; rfl) | (obtain ⟨_, _, _, _, rfl, _⟩ := h; rfl)) (fun cdv A outer s H E C => body_check_count T D_is_integer cdv A outer s H E C) vc_check_count, hm, hk, F.binds (ps := ["value", "low", "high"]) fun _ _ _ _ _ _ us hl => match us, hl with | [_, _, _], _ => rfl⟩
theorem def_fraction (T : Tx K mg) (M : Md K mg "fraction" s_fraction) (D_is_integer : Def P w K mg base 1 "is_integer" ["value"] (spD K p_is_integer)) (D_reduced : Def P w K mg base 1 "reduced" ["top", "bottom"] (spD K p_reduced)) : Def P w K mg base 2 "fraction" ["top", "bottom"] (spD K p_fraction) := by
  obtain ⟨f, fd, F, hm, hk⟩ := M
  exact ⟨f, fd, fn_D (N := N_fraction) F sc_fraction (by intro ds P X h; first | (obtain ⟨rfl, _⟩ := h; rfl) | (obtain ⟨_, rfl, _⟩ := h; rfl) | (obtain ⟨_, _, rfl, _⟩ := h; rfl) | (obtain ⟨_, _, _, rfl, _⟩ := h; rfl) | (obtain ⟨_, _, _, _, rfl, _⟩ := h; rfl)) (fun cdv A outer s H E C => body_fraction T D_is_integer D_reduced cdv A outer s H E C) vc_fraction, hm, hk, F.binds (ps := ["top", "bottom"]) fun _ _ _ _ _ _ us hl => match us, hl with | [_, _], _ => rfl⟩
theorem def_plus (T : Tx K mg) (M : Md K mg "plus" s_plus) (D_added : Def P w K mg base 1 "added" ["one", "other"] (spD K p_added)) (D_check_both : Def P w K mg base 4 "check_both" ["one", "other"] (spD K p_check_both)) : Def P w K mg base 5 "plus" ["one", "other"] (spD K p_plus) := by
  obtain ⟨f, fd, F, hm, hk⟩ := M
  exact ⟨f, fd, fn_D (N := N_plus) F sc_plus (by intro ds P X h; first | (obtain ⟨rfl, _⟩ := h; rfl) | (obtain ⟨_, rfl, _⟩ := h; rfl) | (obtain ⟨_, _, rfl, _⟩ := h; rfl) | (obtain ⟨_, _, _, rfl, _⟩ := h; rfl) | (obtain ⟨_, _, _, _, rfl, _⟩ := h; rfl)) (fun cdv A outer s H E C => body_plus T D_added D_check_both cdv A outer s H E C) vc_plus, hm, hk, F.binds (ps := ["one", "other"]) fun _ _ _ _ _ _ us hl => match us, hl with | [_, _], _ => rfl⟩
theorem def_minus (T : Tx K mg) (M : Md K mg "minus" s_minus) (D_check_both : Def P w K mg base 4 "check_both" ["one", "other"] (spD K p_check_both)) (D_subtracted : Def P w K mg base 2 "subtracted" ["one", "other"] (spD K p_subtracted)) : Def P w K mg base 5 "minus" ["one", "other"] (spD K p_minus) := by
  obtain ⟨f, fd, F, hm, hk⟩ := M
  exact ⟨f, fd, fn_D (N := N_minus) F sc_minus (by intro ds P X h; first | (obtain ⟨rfl, _⟩ := h; rfl) | (obtain ⟨_, rfl, _⟩ := h; rfl) | (obtain ⟨_, _, rfl, _⟩ := h; rfl) | (obtain ⟨_, _, _, rfl, _⟩ := h; rfl) | (obtain ⟨_, _, _, _, rfl, _⟩ := h; rfl)) (fun cdv A outer s H E C => body_minus T D_check_both D_subtracted cdv A outer s H E C) vc_minus, hm, hk, F.binds (ps := ["one", "other"]) fun _ _ _ _ _ _ us hl => match us, hl with | [_, _], _ => rfl⟩
theorem def_times (T : Tx K mg) (M : Md K mg "times" s_times) (D_check_both : Def P w K mg base 4 "check_both" ["one", "other"] (spD K p_check_both)) (D_multiplied : Def P w K mg base 1 "multiplied" ["one", "other"] (spD K p_multiplied)) : Def P w K mg base 5 "times" ["one", "other"] (spD K p_times) := by
  obtain ⟨f, fd, F, hm, hk⟩ := M
  exact ⟨f, fd, fn_D (N := N_times) F sc_times (by intro ds P X h; first | (obtain ⟨rfl, _⟩ := h; rfl) | (obtain ⟨_, rfl, _⟩ := h; rfl) | (obtain ⟨_, _, rfl, _⟩ := h; rfl) | (obtain ⟨_, _, _, rfl, _⟩ := h; rfl) | (obtain ⟨_, _, _, _, rfl, _⟩ := h; rfl)) (fun cdv A outer s H E C => body_times T D_check_both D_multiplied cdv A outer s H E C) vc_times, hm, hk, F.binds (ps := ["one", "other"]) fun _ _ _ _ _ _ us hl => match us, hl with | [_, _], _ => rfl⟩
theorem def_over (T : Tx K mg) (M : Md K mg "over" s_over) (D_check_both : Def P w K mg base 4 "check_both" ["one", "other"] (spD K p_check_both)) (D_divided : Def P w K mg base 2 "divided" ["one", "other"] (spD K p_divided)) : Def P w K mg base 5 "over" ["one", "other"] (spD K p_over) := by
  obtain ⟨f, fd, F, hm, hk⟩ := M
  exact ⟨f, fd, fn_D (N := N_over) F sc_over (by intro ds P X h; first | (obtain ⟨rfl, _⟩ := h; rfl) | (obtain ⟨_, rfl, _⟩ := h; rfl) | (obtain ⟨_, _, rfl, _⟩ := h; rfl) | (obtain ⟨_, _, _, rfl, _⟩ := h; rfl) | (obtain ⟨_, _, _, _, rfl, _⟩ := h; rfl)) (fun cdv A outer s H E C => body_over T D_check_both D_divided cdv A outer s H E C) vc_over, hm, hk, F.binds (ps := ["one", "other"]) fun _ _ _ _ _ _ us hl => match us, hl with | [_, _], _ => rfl⟩
theorem def_below (T : Tx K mg) (M : Md K mg "below" s_below) (D_check_both : Def P w K mg base 4 "check_both" ["one", "other"] (spD K p_check_both)) (D_is_less : Def P w K mg base 1 "is_less" ["one", "other"] (spD K p_is_less)) : Def P w K mg base 5 "below" ["one", "other"] (spD K p_below) := by
  obtain ⟨f, fd, F, hm, hk⟩ := M
  exact ⟨f, fd, fn_D (N := N_below) F sc_below (by intro ds P X h; first | (obtain ⟨rfl, _⟩ := h; rfl) | (obtain ⟨_, rfl, _⟩ := h; rfl) | (obtain ⟨_, _, rfl, _⟩ := h; rfl) | (obtain ⟨_, _, _, rfl, _⟩ := h; rfl) | (obtain ⟨_, _, _, _, rfl, _⟩ := h; rfl)) (fun cdv A outer s H E C => body_below T D_check_both D_is_less cdv A outer s H E C) vc_below, hm, hk, F.binds (ps := ["one", "other"]) fun _ _ _ _ _ _ us hl => match us, hl with | [_, _], _ => rfl⟩
theorem def_sum_of (T : Tx K mg) (M : Md K mg "sum_of" s_sum_of) (D_added : Def P w K mg base 1 "added" ["one", "other"] (spD K p_added)) (D_check_fraction : Def P w K mg base 3 "check_fraction" ["value"] (spD K p_check_fraction)) : Def P w K mg base 4 "sum_of" ["numbers"] (spD K p_sum_of) := by
  obtain ⟨f, fd, F, hm, hk⟩ := M
  exact ⟨f, fd, fn_D (N := N_sum_of) F sc_sum_of (by intro ds P X h; first | (obtain ⟨rfl, _⟩ := h; rfl) | (obtain ⟨_, rfl, _⟩ := h; rfl) | (obtain ⟨_, _, rfl, _⟩ := h; rfl) | (obtain ⟨_, _, _, rfl, _⟩ := h; rfl) | (obtain ⟨_, _, _, _, rfl, _⟩ := h; rfl)) (fun cdv A outer s H E C => body_sum_of T D_added D_check_fraction cdv A outer s H E C) vc_sum_of, hm, hk, F.binds (ps := ["numbers"]) fun _ _ _ _ _ _ us hl => match us, hl with | [_], _ => rfl⟩
theorem def_root (T : Tx K mg) (M : Md K mg "root" s_root) (D_check_count : Def P w K mg base 2 "check_count" ["value", "low", "high"] (spD K p_check_count)) (D_check_fraction : Def P w K mg base 3 "check_fraction" ["value"] (spD K p_check_fraction)) (D_power : Def P w K mg base 1 "power" ["base", "exponent"] (spD K p_power)) (D_reduced : Def P w K mg base 1 "reduced" ["top", "bottom"] (spD K p_reduced)) : Def P w K mg base 4 "root" ["number", "digits"] (spD K p_root) := by
  obtain ⟨f, fd, F, hm, hk⟩ := M
  exact ⟨f, fd, fn_D (N := N_root) F sc_root (by intro ds P X h; first | (obtain ⟨rfl, _⟩ := h; rfl) | (obtain ⟨_, rfl, _⟩ := h; rfl) | (obtain ⟨_, _, rfl, _⟩ := h; rfl) | (obtain ⟨_, _, _, rfl, _⟩ := h; rfl) | (obtain ⟨_, _, _, _, rfl, _⟩ := h; rfl)) (fun cdv A outer s H E C => body_root T D_check_count D_check_fraction D_power D_reduced cdv A outer s H E C) vc_root, hm, hk, F.binds (ps := ["number", "digits"]) fun _ _ _ _ _ _ us hl => match us, hl with | [_, _], _ => rfl⟩
theorem def_fraction_text (T : Tx K mg) (M : Md K mg "fraction_text" s_fraction_text) (D_check_fraction : Def P w K mg base 3 "check_fraction" ["value"] (spD K p_check_fraction)) (D_number_text : Def P w K mg base 3 "number_text" ["number"] (spD K p_number_text)) : Def P w K mg base 4 "fraction_text" ["number"] (spD K p_fraction_text) := by
  obtain ⟨f, fd, F, hm, hk⟩ := M
  exact ⟨f, fd, fn_D (N := N_fraction_text) F sc_fraction_text (by intro ds P X h; first | (obtain ⟨rfl, _⟩ := h; rfl) | (obtain ⟨_, rfl, _⟩ := h; rfl) | (obtain ⟨_, _, rfl, _⟩ := h; rfl) | (obtain ⟨_, _, _, rfl, _⟩ := h; rfl) | (obtain ⟨_, _, _, _, rfl, _⟩ := h; rfl)) (fun cdv A outer s H E C => body_fraction_text T D_check_fraction D_number_text cdv A outer s H E C) vc_fraction_text, hm, hk, F.binds (ps := ["number"]) fun _ _ _ _ _ _ us hl => match us, hl with | [_], _ => rfl⟩
theorem def__law_kinds (T : Tx K mg) (M : Md K mg "_law_kinds" s__law_kinds)  : Def P w K mg base 1 "_law_kinds" ["thing"] (spD K p__law_kinds) := by
  obtain ⟨f, fd, F, hm, hk⟩ := M
  exact ⟨f, fd, fn_D (N := N__law_kinds) F sc__law_kinds (by intro ds P X h; first | (obtain ⟨rfl, _⟩ := h; rfl) | (obtain ⟨_, rfl, _⟩ := h; rfl) | (obtain ⟨_, _, rfl, _⟩ := h; rfl) | (obtain ⟨_, _, _, rfl, _⟩ := h; rfl) | (obtain ⟨_, _, _, _, rfl, _⟩ := h; rfl)) (fun cdv A outer s H E C => body__law_kinds T  cdv A outer s H E C) vc__law_kinds, hm, hk, F.binds (ps := ["thing"]) fun _ _ _ _ _ _ us hl => match us, hl with | [_], _ => rfl⟩
theorem def__law_low (T : Tx K mg) (M : Md K mg "_law_low" s__law_low)  : Def P w K mg base 1 "_law_low" ["top", "bottom"] (spD K p__law_low) := by
  obtain ⟨f, fd, F, hm, hk⟩ := M
  exact ⟨f, fd, fn_D (N := N__law_low) F sc__law_low (by intro ds P X h; first | (obtain ⟨rfl, _⟩ := h; rfl) | (obtain ⟨_, rfl, _⟩ := h; rfl) | (obtain ⟨_, _, rfl, _⟩ := h; rfl) | (obtain ⟨_, _, _, rfl, _⟩ := h; rfl) | (obtain ⟨_, _, _, _, rfl, _⟩ := h; rfl)) (fun cdv A outer s H E C => body__law_low T  cdv A outer s H E C) vc__law_low, hm, hk, F.binds (ps := ["top", "bottom"]) fun _ _ _ _ _ _ us hl => match us, hl with | [_, _], _ => rfl⟩
theorem def__law_plus (T : Tx K mg) (M : Md K mg "_law_plus" s__law_plus) (D__law_low : Def P w K mg base 1 "_law_low" ["top", "bottom"] (spD K p__law_low)) : Def P w K mg base 2 "_law_plus" ["one", "other"] (spD K p__law_plus) := by
  obtain ⟨f, fd, F, hm, hk⟩ := M
  exact ⟨f, fd, fn_D (N := N__law_plus) F sc__law_plus (by intro ds P X h; first | (obtain ⟨rfl, _⟩ := h; rfl) | (obtain ⟨_, rfl, _⟩ := h; rfl) | (obtain ⟨_, _, rfl, _⟩ := h; rfl) | (obtain ⟨_, _, _, rfl, _⟩ := h; rfl) | (obtain ⟨_, _, _, _, rfl, _⟩ := h; rfl)) (fun cdv A outer s H E C => body__law_plus T D__law_low cdv A outer s H E C) vc__law_plus, hm, hk, F.binds (ps := ["one", "other"]) fun _ _ _ _ _ _ us hl => match us, hl with | [_, _], _ => rfl⟩
theorem def__law_minus (T : Tx K mg) (M : Md K mg "_law_minus" s__law_minus) (D__law_plus : Def P w K mg base 2 "_law_plus" ["one", "other"] (spD K p__law_plus)) : Def P w K mg base 3 "_law_minus" ["one", "other"] (spD K p__law_minus) := by
  obtain ⟨f, fd, F, hm, hk⟩ := M
  exact ⟨f, fd, fn_D (N := N__law_minus) F sc__law_minus (by intro ds P X h; first | (obtain ⟨rfl, _⟩ := h; rfl) | (obtain ⟨_, rfl, _⟩ := h; rfl) | (obtain ⟨_, _, rfl, _⟩ := h; rfl) | (obtain ⟨_, _, _, rfl, _⟩ := h; rfl) | (obtain ⟨_, _, _, _, rfl, _⟩ := h; rfl)) (fun cdv A outer s H E C => body__law_minus T D__law_plus cdv A outer s H E C) vc__law_minus, hm, hk, F.binds (ps := ["one", "other"]) fun _ _ _ _ _ _ us hl => match us, hl with | [_, _], _ => rfl⟩
theorem def__law_times (T : Tx K mg) (M : Md K mg "_law_times" s__law_times) (D__law_low : Def P w K mg base 1 "_law_low" ["top", "bottom"] (spD K p__law_low)) : Def P w K mg base 2 "_law_times" ["one", "other"] (spD K p__law_times) := by
  obtain ⟨f, fd, F, hm, hk⟩ := M
  exact ⟨f, fd, fn_D (N := N__law_times) F sc__law_times (by intro ds P X h; first | (obtain ⟨rfl, _⟩ := h; rfl) | (obtain ⟨_, rfl, _⟩ := h; rfl) | (obtain ⟨_, _, rfl, _⟩ := h; rfl) | (obtain ⟨_, _, _, rfl, _⟩ := h; rfl) | (obtain ⟨_, _, _, _, rfl, _⟩ := h; rfl)) (fun cdv A outer s H E C => body__law_times T D__law_low cdv A outer s H E C) vc__law_times, hm, hk, F.binds (ps := ["one", "other"]) fun _ _ _ _ _ _ us hl => match us, hl with | [_, _], _ => rfl⟩
theorem def__law_below (T : Tx K mg) (M : Md K mg "_law_below" s__law_below)  : Def P w K mg base 1 "_law_below" ["one", "other"] (spD K p__law_below) := by
  obtain ⟨f, fd, F, hm, hk⟩ := M
  exact ⟨f, fd, fn_D (N := N__law_below) F sc__law_below (by intro ds P X h; first | (obtain ⟨rfl, _⟩ := h; rfl) | (obtain ⟨_, rfl, _⟩ := h; rfl) | (obtain ⟨_, _, rfl, _⟩ := h; rfl) | (obtain ⟨_, _, _, rfl, _⟩ := h; rfl) | (obtain ⟨_, _, _, _, rfl, _⟩ := h; rfl)) (fun cdv A outer s H E C => body__law_below T  cdv A outer s H E C) vc__law_below, hm, hk, F.binds (ps := ["one", "other"]) fun _ _ _ _ _ _ us hl => match us, hl with | [_, _], _ => rfl⟩
theorem def__law_number (T : Tx K mg) (M : Md K mg "_law_number" s__law_number) (D__law_drop : Def P w K mg base 1 "_law_drop" ["spring", "many"] (spS K p__law_drop)) (D__law_low : Def P w K mg base 1 "_law_low" ["top", "bottom"] (spD K p__law_low)) : Def P w K mg base 2 "_law_number" ["spring"] (spS K p__law_number) := by
  obtain ⟨f, fd, F, hm, hk⟩ := M
  exact ⟨f, fd, fn_S (N := N__law_number) F sc__law_number (by intro ds P X h; first | (obtain ⟨rfl, _⟩ := h; rfl) | (obtain ⟨_, rfl, _⟩ := h; rfl) | (obtain ⟨_, _, rfl, _⟩ := h; rfl) | (obtain ⟨_, _, _, rfl, _⟩ := h; rfl) | (obtain ⟨_, _, _, _, rfl, _⟩ := h; rfl)) (fun cdv A outer s H E C => body__law_number T D__law_drop D__law_low cdv A outer s H E C) vc__law_number, hm, hk, F.binds (ps := ["spring"]) fun _ _ _ _ _ _ us hl => match us, hl with | [_], _ => rfl⟩
theorem def__law_above (T : Tx K mg) (M : Md K mg "_law_above" s__law_above) (D__law_number : Def P w K mg base 2 "_law_number" ["spring"] (spS K p__law_number)) : Def P w K mg base 3 "_law_above" ["spring"] (spS K p__law_above) := by
  obtain ⟨f, fd, F, hm, hk⟩ := M
  exact ⟨f, fd, fn_S (N := N__law_above) F sc__law_above (by intro ds P X h; first | (obtain ⟨rfl, _⟩ := h; rfl) | (obtain ⟨_, rfl, _⟩ := h; rfl) | (obtain ⟨_, _, rfl, _⟩ := h; rfl) | (obtain ⟨_, _, _, rfl, _⟩ := h; rfl) | (obtain ⟨_, _, _, _, rfl, _⟩ := h; rfl)) (fun cdv A outer s H E C => body__law_above T D__law_number cdv A outer s H E C) vc__law_above, hm, hk, F.binds (ps := ["spring"]) fun _ _ _ _ _ _ us hl => match us, hl with | [_], _ => rfl⟩
theorem def__law_call (T : Tx K mg) (M : Md K mg "_law_call" s__law_call) (D_below : Def P w K mg base 5 "below" ["one", "other"] (spD K p_below)) (D_fraction : Def P w K mg base 2 "fraction" ["top", "bottom"] (spD K p_fraction)) (D_fraction_text : Def P w K mg base 4 "fraction_text" ["number"] (spD K p_fraction_text)) (D_plus : Def P w K mg base 5 "plus" ["one", "other"] (spD K p_plus)) (D_root : Def P w K mg base 4 "root" ["number", "digits"] (spD K p_root)) (D_sum_of : Def P w K mg base 4 "sum_of" ["numbers"] (spD K p_sum_of)) (D_times : Def P w K mg base 5 "times" ["one", "other"] (spD K p_times)) (K_minus_other_one : DefK P w K mg base 5 "minus" ["one", "other"] ["other", "one"] (permL [1, 0]) (spD K p_minus)) (K_over_other_one : DefK P w K mg base 5 "over" ["one", "other"] ["other", "one"] (permL [1, 0]) (spD K p_over)) (K_root_digits_number : DefK P w K mg base 4 "root" ["number", "digits"] ["digits", "number"] (permL [1, 0]) (spD K p_root)) : Def P w K mg base 6 "_law_call" ["kind", "one", "other"] (spD K p__law_call) := by
  obtain ⟨f, fd, F, hm, hk⟩ := M
  exact ⟨f, fd, fn_D (N := N__law_call) F sc__law_call (by intro ds P X h; first | (obtain ⟨rfl, _⟩ := h; rfl) | (obtain ⟨_, rfl, _⟩ := h; rfl) | (obtain ⟨_, _, rfl, _⟩ := h; rfl) | (obtain ⟨_, _, _, rfl, _⟩ := h; rfl) | (obtain ⟨_, _, _, _, rfl, _⟩ := h; rfl)) (fun cdv A outer s H E C => body__law_call T D_below D_fraction D_fraction_text D_plus D_root D_sum_of D_times K_minus_other_one K_over_other_one K_root_digits_number cdv A outer s H E C) vc__law_call, hm, hk, F.binds (ps := ["kind", "one", "other"]) fun _ _ _ _ _ _ us hl => match us, hl with | [_, _, _], _ => rfl⟩
theorem def__law_tried (T : Tx K mg) (M : Md K mg "_law_tried" s__law_tried) (D__law_call : Def P w K mg base 6 "_law_call" ["kind", "one", "other"] (spD K p__law_call)) : Def P w K mg base 7 "_law_tried" ["kind", "one", "other"] (spD K p__law_tried) := by
  obtain ⟨f, fd, F, hm, hk⟩ := M
  exact ⟨f, fd, fn_D (N := N__law_tried) F sc__law_tried (by intro ds P X h; first | (obtain ⟨rfl, _⟩ := h; rfl) | (obtain ⟨_, rfl, _⟩ := h; rfl) | (obtain ⟨_, _, rfl, _⟩ := h; rfl) | (obtain ⟨_, _, _, rfl, _⟩ := h; rfl) | (obtain ⟨_, _, _, _, rfl, _⟩ := h; rfl)) (fun cdv A outer s H E C => body__law_tried T D__law_call cdv A outer s H E C) vc__law_tried, hm, hk, F.binds (ps := ["kind", "one", "other"]) fun _ _ _ _ _ _ us hl => match us, hl with | [_, _, _], _ => rfl⟩
theorem def__law_none (T : Tx K mg) (M : Md K mg "_law_none" s__law_none) (D__law_drop : Def P w K mg base 1 "_law_drop" ["spring", "many"] (spS K p__law_drop)) : Def P w K mg base 2 "_law_none" ["spring", "good"] (spS K p__law_none) := by
  obtain ⟨f, fd, F, hm, hk⟩ := M
  exact ⟨f, fd, fn_S (N := N__law_none) F sc__law_none (by intro ds P X h; first | (obtain ⟨rfl, _⟩ := h; rfl) | (obtain ⟨_, rfl, _⟩ := h; rfl) | (obtain ⟨_, _, rfl, _⟩ := h; rfl) | (obtain ⟨_, _, _, rfl, _⟩ := h; rfl) | (obtain ⟨_, _, _, _, rfl, _⟩ := h; rfl)) (fun cdv A outer s H E C => body__law_none T D__law_drop cdv A outer s H E C) vc__law_none, hm, hk, F.binds (ps := ["spring", "good"]) fun _ _ _ _ _ _ us hl => match us, hl with | [_, _], _ => rfl⟩
theorem def__law_roots_right (T : Tx K mg) (M : Md K mg "_law_roots_right" s__law_roots_right) (D__law_alike : Def P w K mg base 6 "_law_alike" ["found", "due"] (spD K p__law_alike)) (D__law_below : Def P w K mg base 1 "_law_below" ["one", "other"] (spD K p__law_below)) (D__law_drop : Def P w K mg base 1 "_law_drop" ["spring", "many"] (spS K p__law_drop)) (D__law_low : Def P w K mg base 1 "_law_low" ["top", "bottom"] (spD K p__law_low)) (D__law_minus : Def P w K mg base 3 "_law_minus" ["one", "other"] (spD K p__law_minus)) (D__law_plus : Def P w K mg base 2 "_law_plus" ["one", "other"] (spD K p__law_plus)) (D__law_times : Def P w K mg base 2 "_law_times" ["one", "other"] (spD K p__law_times)) (D_root : Def P w K mg base 4 "root" ["number", "digits"] (spD K p_root)) (K_root_digits_number : DefK P w K mg base 4 "root" ["number", "digits"] ["digits", "number"] (permL [1, 0]) (spD K p_root)) : Def P w K mg base 7 "_law_roots_right" ["spring", "number"] (spS K p__law_roots_right) := by
  obtain ⟨f, fd, F, hm, hk⟩ := M
  exact ⟨f, fd, fn_S (N := N__law_roots_right) F sc__law_roots_right (by intro ds P X h; first | (obtain ⟨rfl, _⟩ := h; rfl) | (obtain ⟨_, rfl, _⟩ := h; rfl) | (obtain ⟨_, _, rfl, _⟩ := h; rfl) | (obtain ⟨_, _, _, rfl, _⟩ := h; rfl) | (obtain ⟨_, _, _, _, rfl, _⟩ := h; rfl)) (fun cdv A outer s H E C => body__law_roots_right T D__law_alike D__law_below D__law_drop D__law_low D__law_minus D__law_plus D__law_times D_root K_root_digits_number cdv A outer s H E C) vc__law_roots_right, hm, hk, F.binds (ps := ["spring", "number"]) fun _ _ _ _ _ _ us hl => match us, hl with | [_, _], _ => rfl⟩
theorem defk_minus_other_one (T : Tx K mg) (M : Md K mg "minus" s_minus) (D_check_both : Def P w K mg base 4 "check_both" ["one", "other"] (spD K p_check_both)) (D_subtracted : Def P w K mg base 2 "subtracted" ["one", "other"] (spD K p_subtracted)) : DefK P w K mg base 5 "minus" ["one", "other"] ["other", "one"] (permL [1, 0]) (spD K p_minus) := by
  obtain ⟨f, fd, F, hm, hk⟩ := M
  exact ⟨f, fd, fn_D (N := N_minus) F sc_minus (by intro ds P X h; first | (obtain ⟨rfl, _⟩ := h; rfl) | (obtain ⟨_, rfl, _⟩ := h; rfl) | (obtain ⟨_, _, rfl, _⟩ := h; rfl) | (obtain ⟨_, _, _, rfl, _⟩ := h; rfl) | (obtain ⟨_, _, _, _, rfl, _⟩ := h; rfl)) (fun cdv A outer s H E C => body_minus T D_check_both D_subtracted cdv A outer s H E C) vc_minus, hm, hk, kb_of (is := [1, 0]) F (fun ws hl => match ws, hl with | [_, _], _ => rfl) fun _ _ _ _ _ _ ws hl => match ws, hl with | [_, _], _ => rfl⟩
theorem defk_over_other_one (T : Tx K mg) (M : Md K mg "over" s_over) (D_check_both : Def P w K mg base 4 "check_both" ["one", "other"] (spD K p_check_both)) (D_divided : Def P w K mg base 2 "divided" ["one", "other"] (spD K p_divided)) : DefK P w K mg base 5 "over" ["one", "other"] ["other", "one"] (permL [1, 0]) (spD K p_over) := by
  obtain ⟨f, fd, F, hm, hk⟩ := M
  exact ⟨f, fd, fn_D (N := N_over) F sc_over (by intro ds P X h; first | (obtain ⟨rfl, _⟩ := h; rfl) | (obtain ⟨_, rfl, _⟩ := h; rfl) | (obtain ⟨_, _, rfl, _⟩ := h; rfl) | (obtain ⟨_, _, _, rfl, _⟩ := h; rfl) | (obtain ⟨_, _, _, _, rfl, _⟩ := h; rfl)) (fun cdv A outer s H E C => body_over T D_check_both D_divided cdv A outer s H E C) vc_over, hm, hk, kb_of (is := [1, 0]) F (fun ws hl => match ws, hl with | [_, _], _ => rfl) fun _ _ _ _ _ _ ws hl => match ws, hl with | [_, _], _ => rfl⟩
theorem defk_root_digits_number (T : Tx K mg) (M : Md K mg "root" s_root) (D_check_count : Def P w K mg base 2 "check_count" ["value", "low", "high"] (spD K p_check_count)) (D_check_fraction : Def P w K mg base 3 "check_fraction" ["value"] (spD K p_check_fraction)) (D_power : Def P w K mg base 1 "power" ["base", "exponent"] (spD K p_power)) (D_reduced : Def P w K mg base 1 "reduced" ["top", "bottom"] (spD K p_reduced)) : DefK P w K mg base 4 "root" ["number", "digits"] ["digits", "number"] (permL [1, 0]) (spD K p_root) := by
  obtain ⟨f, fd, F, hm, hk⟩ := M
  exact ⟨f, fd, fn_D (N := N_root) F sc_root (by intro ds P X h; first | (obtain ⟨rfl, _⟩ := h; rfl) | (obtain ⟨_, rfl, _⟩ := h; rfl) | (obtain ⟨_, _, rfl, _⟩ := h; rfl) | (obtain ⟨_, _, _, rfl, _⟩ := h; rfl) | (obtain ⟨_, _, _, _, rfl, _⟩ := h; rfl)) (fun cdv A outer s H E C => body_root T D_check_count D_check_fraction D_power D_reduced cdv A outer s H E C) vc_root, hm, hk, kb_of (is := [1, 0]) F (fun ws hl => match ws, hl with | [_, _], _ => rfl) fun _ _ _ _ _ _ ws hl => match ws, hl with | [_, _], _ => rfl⟩
end
end K01
namespace K01
open PySem PySem.Spec L2 Fw
section
variable {P : Program} {w : World} {K : Fg} {mg : Str → Option Value} {base : Heap}
theorem ints_dp {B : Hp} : ∀ gs : List Int, DpAll K B (gs.map V.int) (gs.map PyData.int)
  | [] => .nil
  | _ :: r => .cons (.int _) (ints_dp r)
theorem grs_own {q g : Addr} {B H B' H' : Hp} {l : Addr} {o : HO} (x : GrS (some (q, g)) B H B' H') (hl : H' l = none) : GrS (some (q, g)) B H B' (upd H' l o) := x.trans ((Gr.own x.bh hl).s x.sp)
theorem grs_set {q g p : Addr} {B H B' H' : Hp} {o : HO} (x : GrS (some (q, g)) B H B' H') (hp : p = q ∨ p = g) (hb : B' p = none) (sp : Spr (upd H' p o) q g) : GrS (some (q, g)) B H B' (upd H' p o) :=
  ⟨x.bb, fun a o2 z n => by
    have c : a ≠ p := fun c => n (show a = q ∨ a = g by rw [c]; exact hp)
    rw [upd_ne c]
    exact x.hh a o2 z n, fun a o2 z => by
    have c : a ≠ p := fun c => by rw [c, hb] at z; cases z
    rw [upd_ne c]
    exact x.bh a o2 z, x.ne, sp⟩
theorem ints_lay : ∀ gs : List Int, PyData.canLayAll0 (gs.map PyData.int) = true
  | [] => by simp [PyData.canLayAll0]
  | _ :: r => by simp [PyData.canLayAll0, PyData.canLay0, ints_lay r]
theorem ints_depth : ∀ gs : List Int, PyData.depthAll (gs.map PyData.int) = 0
  | [] => by simp [PyData.depthAll]
  | _ :: r => by simp [PyData.depthAll, PyData.depth, ints_depth r]
theorem ints_shaped (gs : List Int) : SeqAt.shaped (.list (gs.map PyData.int)) = true := by
  unfold SeqAt.shaped
  simp [PyData.canLay0, ints_lay, PyData.depth, ints_depth]
theorem modM (x : Int) : 0 ≤ x % 2305843009213693951 ∧ x % 2305843009213693951 < 2 ^ 61 := by omega
theorem ints_nil (gs : List Int) : PyData.eqv (.list (gs.map PyData.int)) (.list []) = gs.isEmpty := by
  cases gs <;> rfl
/-- the spring while its great numbers are drawn from -/
structure In (B H : Hp) (q g : Addr) (m0 c0 : Int) (H' : Hp) (gs : List Int) : Prop where
  gr : GrS (some (q, g)) B H B H'
  hq : H' q = some (.lst [.ref g, .int m0, .int c0])
  hg : H' g = some (.lst (gs.map V.int))
  nn : ∀ x ∈ gs, 0 ≤ x
  l : gs.length ≤ 1000
theorem In.own {B H : Hp} {q g : Addr} {m0 c0 : Int} {H' : Hp} {gs : List Int} (I : In B H q g m0 c0 H' gs) {l : Addr} {o : HO} (hl : H' l = none) : In B H q g m0 c0 (upd H' l o) gs :=
  ⟨grs_own I.gr hl, by rw [upd_ne (ne_of_none I.hq hl)]; exact I.hq, by rw [upd_ne (ne_of_none I.hg hl)]; exact I.hg, I.nn, I.l⟩
theorem In.setG {B H : Hp} {q g : Addr} {m0 c0 : Int} {H' : Hp} {gs : List Int} (I : In B H q g m0 c0 H' gs) (ne : q ≠ g) (hb : B g = none) (h0 : 0 ≤ m0) (h1 : m0 < 2 ^ 61) {hs : List Int} (nn : ∀ x ∈ hs, 0 ≤ x) (l : hs.length ≤ 1000) : In B H q g m0 c0 (upd H' g (.lst (hs.map V.int))) hs := by
  have e : upd H' g (.lst (hs.map V.int)) q = some (.lst [.ref g, .int m0, .int c0]) := by rw [upd_ne ne]; exact I.hq
  exact ⟨grs_set I.gr (.inr rfl) hb ⟨ne, ⟨m0, c0, e, h0, h1⟩, hs, upd_same, nn, l⟩, e, upd_same, nn, l⟩
theorem In.spr {B H : Hp} {q g : Addr} {m0 c0 : Int} {H' : Hp} {gs : List Int} (I : In B H q g m0 c0 H' gs) (ne : q ≠ g) (hb : B q = none) {m c : Int} (h0 : 0 ≤ m) (h1 : m < 2 ^ 61) : In B H q g m c (upd H' q (.lst [.ref g, .int m, .int c])) gs := by
  have e : upd H' q (.lst [.ref g, .int m, .int c]) g = some (.lst (gs.map V.int)) := by rw [upd_ne (Ne.symm ne)]; exact I.hg
  exact ⟨grs_set I.gr (.inl rfl) hb ⟨ne, ⟨m, c, upd_same, h0, h1⟩, gs, e, I.nn, I.l⟩, upd_same, e, I.nn, I.l⟩
theorem fn_drop {f : Addr} {fd : FuncData} (T : Tx K mg) (F : Fun K "_law_drop" "_law_drop" s__law_drop f fd) : FnOk P w K mg base (L2.CX P w) 1 f fd ["spring", "many"] (spS K p__law_drop) := by
  refine F.okX (N := N__law_drop) sc__law_drop (fun vs H Q E h => ?_) (fun cdv A outer s H vs Q E hr h => ?_)
  · obtain ⟨B, q, g, vr, ds, P', X, rfl, _, hd, _, _, ⟨n, rfl, _⟩, _⟩ := h
    rw [List.length_cons, dps_len hd]
    rfl
  obtain ⟨B, q, g, vr, ds, P', X, rfl, e, hd, sp, sf, ⟨n, rfl, n0, n9, pq⟩, k1, _⟩ := h
  have C := ctx_of (P := P) (w := w) (K := K) (mg := mg) (base := base) (cdv := cdv) (outer := outer) (H := H) (E := E) (s := s) (A := A) (f := f) (qual := "_law_drop") (st := s__law_drop) (k := 0) sc__law_drop hr
  have nd := sc__law_drop.nd
  obtain rfl : vr = [.int n] := by
    cases hd with
    | cons h t => cases t; cases h; rfl
  have s0 := sp.1
  obtain ⟨m0, c0, hq, m0a, m0b⟩ := sp.2
  obtain ⟨gs0, hg, gs0a, gs0l⟩ := sp.3
  have spo : SprO H (some (q, g)) := sp
  refine ⟨_, pss_cons (ps_set (i := 2) nd rfl (Or.inl rfl) (pe_ix ix_list (pv 0) pe_int (fun _ _ => rfl)))
    (pss_cons (ps_while C.po (PW.pt (pw_and (pt_cmpR (op_neD C.hr.units) (pv 2) (pe_lst pa_nil) (nomark _)) (pw_and1 (pt_cmpR op_eq (pe_ix ix_list (pv 2) pe_int (fun _ _ => rfl)) pe_int (nomark _)))))
      (pss_one (ps_expr (pe_bm PySem.F.plainAttrs_list PySem.F.slot_list_pop PySem.F.type_list_pop mt_popAt (pv 2) (pa_cons pe_int pa_nil)))))
    (pss_cons (ps_if (pt_cmpR (op_neD C.hr.units) (pv 2) (pe_lst pa_nil) (nomark _))
      (pss_cons (ps_set (i := 3) nd rfl (Or.inl rfl) (pe_op op_modN (pe_callTy call_int1 (by rfl) T.int (by decide +kernel) (pa_cons (pe_ix ix_list (pv 2) pe_int (fun _ _ => rfl)) pa_nil)) (pv 1)))
      (pss_cons (ps_asg (pe_op op_fdivG (pe_ix ix_list (pv 2) pe_int (fun _ _ => rfl)) (pv 1)) (pg_sub (pv 2) pe_int set_list))
      (pss_one (ps_ret (pv 3))))) pss_nil)
    (pss_cons (ps_asg (pe_op op_add (pe_ix ix_list (pv 0) pe_int (fun _ _ => rfl)) pe_int) (pg_sub (pv 0) pe_int set_list))
    (pss_cons (ps_asg (pe_op op_mod (pe_callTy call_int1 (by rfl) T.int (by decide +kernel) (pa_cons (pe_op op_add (pe_op op_mulG (pe_ix ix_list (pv 0) pe_int (fun _ _ => rfl)) pe_int) (pe_op op_mulG (pe_ix ix_list (pv 0) pe_int (fun _ _ => rfl)) pe_int)) pa_nil)) pe_int) (pg_sub (pv 0) pe_int set_list))
    (pss_one (ps_ret (pe_op op_modN (pe_op op_fdiv (pe_op op_mod (pe_callTy call_int1 (by rfl) T.int (by decide +kernel) (pa_cons (pe_op op_mulG (pe_ix ix_list (pv 0) pe_int (fun _ _ => rfl)) (pe_ix ix_list (pv 0) pe_int (fun _ _ => rfl))) pa_nil)) pe_int) pe_int) (pv 1)))))))), ?_⟩
  refine ⟨_, rfl, _, _, _, _, rfl, rfl, SqL.of hq, atI_nat (j := 0) rfl, ?_⟩
  have I0 : In B H q g m0 c0 H gs0 := ⟨(Gr.rfl e).s spo, hq, hg, gs0a, gs0l⟩
  refine ⟨fun m σ H' => ∃ gs, m = gs.length ∧ σ = [some (.ref q), some (.int n), some (.ref g), none] ∧ In B H q g m0 c0 H' gs, ⟨_, gs0, rfl, rfl, I0⟩, ?_⟩
  rintro m σ H1 ⟨gs, rfl, rfl, I1⟩
  have fm : ∀ x : Int, 0 ≤ x.fmod n ∧ x.fmod n < n := fun x => ⟨Int.fmod_nonneg_of_pos _ n0, Int.fmod_lt_of_pos _ n0⟩
  refine ⟨_, rfl, (by show 0 ≤ sizeLine; decide), fun l hl => ⟨_, _, .lst (SqL.of ((I1.own hl).hg)) (ints_dp gs), .lst (SqL.of upd_same) .nil, ints_shaped gs, by decide, _, rfl, ?_⟩⟩
  rw [ints_nil]
  have I2 := I1.own (o := .lst []) hl
  generalize upd H1 l (.lst []) = H2 at I2
  cases gs with
  | nil =>
    refine ⟨_, rfl, (by show 0 ≤ sizeLine; decide), fun l2 hl2 => ⟨_, _, .lst (SqL.of ((I2.own hl2).hg)) (ints_dp []), .lst (SqL.of upd_same) .nil, by decide, by decide, _, rfl, ?_⟩⟩
    have I3 := I2.own (o := .lst []) hl2
    generalize upd H2 l2 (.lst []) = H3 at I3
    have d1 : (0:Int) ≤ m0 := m0a
    refine ⟨_, rfl, _, _, _, _, rfl, rfl, SqL.of I3.hq, atI_nat (j := 2) rfl, _, _, rfl, rfl, ?_⟩
    refine ⟨_, rfl, _, _, _, 2, rfl, rfl, I3.hq, rfl, ?_⟩
    have I4 := I3.spr (m := m0) (c := c0 + 1) s0 sf.1 m0a m0b
    refine ⟨_, rfl, _, _, _, _, rfl, rfl, SqL.of I4.hq, atI_nat (j := 1) rfl, _, _, rfl, rfl, MulOk.r ⟨by decide, by decide⟩, ?_⟩
    refine ⟨_, rfl, _, _, _, _, rfl, rfl, SqL.of I4.hq, atI_nat (j := 2) rfl, _, _, rfl, rfl, MulOk.r ⟨by decide, by decide⟩, _, _, rfl, rfl, .inl ⟨_, rfl, _, _, rfl, rfl, (by show (0:Int) < 2305843009213693951; decide), ?_⟩⟩
    refine ⟨_, rfl, _, _, _, 1, rfl, rfl, I4.hq, rfl, ?_⟩
    have z := modM (m0 * 6364136223846793005 + (c0 + 1) * 1442695040888963407)
    have I5 := I4.spr (m := (m0 * 6364136223846793005 + (c0 + 1) * 1442695040888963407) % 2305843009213693951) (c := c0 + 1) s0 sf.1 z.1 z.2
    refine ⟨_, rfl, _, _, _, _, rfl, rfl, SqL.of I5.hq, atI_nat (j := 1) rfl, _, rfl, _, _, _, _, rfl, rfl, SqL.of I5.hq, atI_nat (j := 1) rfl, _, _, rfl, rfl, MulOk.l ⟨by omega, by omega⟩, .inl ⟨_, rfl, _, _, rfl, rfl, (by show (0:Int) < 2305843009213693921; decide), ?_⟩⟩
    refine ⟨_, _, rfl, rfl, ⟨by decide, by decide⟩, _, rfl, _, _, rfl, rfl, (by show n ≠ 0; omega), ?_⟩
    exact k1 _ _ _ _ (pq _ (fm _).1 (fm _).2) I5.gr (.int _)
  | cons x r =>
    refine ⟨_, rfl, _, _, _, _, rfl, rfl, SqL.of I2.hg, atI_nat (j := 0) rfl, rfl, _, rfl, ?_⟩
    by_cases x0 : x = 0
    · have ex : decide (V.int x = V.int 0) = true := decide_eq_true (by rw [x0])
      rw [ex]
      refine iteT ?_
      refine ⟨fun σ' H' => σ' = [some (.ref q), some (.int n), some (.ref g), none] ∧ In B H q g m0 c0 H' r, fun σ' H' z => ⟨r.length, Nat.lt_succ_self _, r, rfl, z.1, z.2⟩, ?_⟩
      refine ⟨_, rfl, .inl ⟨rfl, _, SqL.of I2.hg⟩, _, _, _, 0, _, rfl, rfl, I2.hg, by decide, by decide, by simp [seqIndex?], rfl, ?_⟩
      exact ⟨rfl, I2.setG s0 sf.2 m0a m0b (fun y m => I2.nn y (List.mem_cons_of_mem _ m)) (by have := I2.l; rw [List.length_cons] at this; omega)⟩
    · have ex : decide (V.int x = V.int 0) = false := decide_eq_false (fun z => x0 (V.int.inj z))
      rw [ex]
      refine iteF ?_
      refine ⟨_, rfl, (by show 0 ≤ sizeLine; decide), fun l2 hl2 => ⟨_, _, .lst (SqL.of ((I2.own hl2).hg)) (ints_dp (x :: r)), .lst (SqL.of upd_same) .nil, ints_shaped _, by decide, _, rfl, ?_⟩⟩
      have I3 := I2.own (o := .lst []) hl2
      generalize upd H2 l2 (.lst []) = H3 at I3
      rw [ints_nil]
      refine ⟨_, rfl, _, _, _, _, rfl, rfl, SqL.of I3.hg, atI_nat (j := 0) rfl, .inl ⟨_, rfl, _, rfl, _, _, rfl, rfl, (by show n ≠ 0; omega), ?_⟩⟩
      refine ⟨_, rfl, _, _, _, _, rfl, rfl, SqL.of I3.hg, atI_nat (j := 0) rfl, _, rfl, _, _, rfl, rfl, DivOk.w (by omega) n9 (by decide) (by decide), ?_⟩
      refine ⟨_, rfl, _, _, _, 0, rfl, rfl, I3.hg, by simp [ixN], ?_⟩
      have I4 := I3.setG s0 sf.2 m0a m0b (hs := x.fdiv n :: r) (fun y m => by
        rcases List.mem_cons.mp m with rfl | m
        · exact Int.fdiv_nonneg (I3.nn x List.mem_cons_self) (by omega)
        · exact I3.nn y (List.mem_cons_of_mem _ m)) I3.l
      refine ⟨_, rfl, ?_⟩
      exact k1 _ _ _ _ (pq _ (fm _).1 (fm _).2) I4.gr (.int _)
end
end K01
namespace K01
open PySem PySem.Spec L2 Fw
/-- what the making of the spring promises -/
def spMk (K : Fg) : Sp := fun vs H Q E => ∃ (a : Addr) (ns : List Int), vs = [.ref a] ∧ SqL K H a (ns.map V.int) ∧ ns.length ≤ 63 ∧ ∀ H' q g, Ex H H' → Spr H' q g → H q = none → H g = none → Q (.ref q) H'
section
variable {P : Program} {w : World} {K : Fg} {mg : Str → Option Value} {base : Heap}
theorem fn_spring {f : Addr} {fd : FuncData} (T : Tx K mg) (F : Fun K "_law_spring" "_law_spring" s__law_spring f fd) : FnOk P w K mg base (L2.CX P w) 1 f fd ["script"] (spMk K) := by
  refine F.okX (N := N__law_spring) sc__law_spring (fun vs H Q E h => ?_) (fun cdv A outer s H vs Q E hr h => ?_)
  · obtain ⟨a, ns, rfl, _⟩ := h
    rfl
  obtain ⟨a, ns, rfl, hs, hl, k1⟩ := h
  have C := ctx_of (P := P) (w := w) (K := K) (mg := mg) (base := base) (cdv := cdv) (outer := outer) (H := H) (E := E) (s := s) (A := A) (f := f) (qual := "_law_spring") (st := s__law_spring) (k := 0) sc__law_spring hr
  have nd := sc__law_spring.nd
  refine ⟨_, pss_cons (ps_setLc (i := 1) (own := [("cell", 2)]) (g := gName 2) C.calm nd rfl rfl (sw_true rfl rfl rfl (by decide +kernel)) (pi_list (pv 0)) (blkOk_by (own := [("cell", 2)]) (N := N__law_spring) (sc := defScope s__law_spring) (by decide +kernel)) (fun _ _ _ _ _ => pg_name (i := 2) nd rfl (Or.inl rfl)) (fun _ _ _ _ _ => pts_one (pt_cmpR op_ge (pv 2) (pe_op op_pow pe_int pe_int) (nomark _))) (fun _ _ _ _ _ => pe_op op_sub (pv 2) (pe_op op_pow pe_int pe_int)))
    (pss_cons (ps_set (i := 3) nd rfl (Or.inl rfl) (pe_op op_add pe_int (pe_op op_mulG pe_int (pe_callB call_len_seq (by rfl) T.len PySem.boot_len (pa_cons (pv 0) pa_nil)))))
    (pss_cons (ps_for C.po rfl (pi_list (pv 0)) (pg_name (i := 2) nd rfl (Or.inl rfl)) (pss_one (ps_set (i := 3) nd rfl (Or.inl rfl) (pe_op op_mod (pe_callTy call_int1 (by rfl) T.int (by decide +kernel) (pa_cons (pe_op op_add (pe_op op_add (pe_op op_mulG (pv 3) pe_int) (pe_op op_mulG (pv 2) pe_int)) pe_int) pa_nil)) pe_int))))
    (pss_one (ps_ret (pe_lst (pa_cons (pv 1) (pa_cons (pv 3) (pa_cons pe_int pa_nil)))))))), ?_⟩
  have hsl : ∀ H', Ex H H' → SqL K H' a (ns.map V.int) := fun H' e => e.sqL hs
  refine ⟨_, rfl, a, rfl, ⟨_, hs⟩, fun D hD => ?_⟩
  refine lc_list (K := K) (a := a) (xs := ns.map V.int) (fun i H' => ∃ gs : List Int, H' D = some (.lst (gs.map V.int)) ∧ (∀ x ∈ gs, 0 ≤ x) ∧ gs.length ≤ i ∧ Ex H H') ⟨[], upd_same, by simp, by simp, Ex.new hD⟩ (fun i H' _ p => by obtain ⟨_, _, _, _, p⟩ := p; exact hsl H' p) ?_ ?_
  · rintro i x H1 hx ⟨gs, e1, e2, e3, e4⟩
    obtain ⟨y, rfl⟩ : ∃ y : Int, x = .int y := by
      have m := List.mem_of_getElem? hx
      obtain ⟨y, _, rfl⟩ := List.mem_map.mp m
      exact ⟨y, rfl⟩
    have hi : i < 63 := by
      have := (List.getElem?_eq_some_iff.mp hx).1
      rw [List.length_map] at this
      omega
    refine ⟨rfl, _, rfl, _, _, rfl, rfl, ⟨by decide, by decide, by decide⟩, _, _, rfl, rfl, _, rfl, ?_⟩
    by_cases c : (1000000000000000000 : Int) ≤ y
    · have c1 : decide ((10 : Int) ^ Int.toNat 18 ≤ y) = true := decide_eq_true c
      rw [c1]
      refine iteT ?_
      refine ⟨_, rfl, _, _, rfl, rfl, ⟨by decide, by decide, by decide⟩, _, _, rfl, rfl, gs.map V.int, e1, by rw [List.length_map]; show _ < 16777216; omega, gs ++ [y - 1000000000000000000], ?_, ?_, ?_, ?_⟩
      · rw [upd_same, List.map_append]
        rfl
      · intro z m
        rcases List.mem_append.mp m with m | m
        · exact e2 z m
        · rw [List.mem_singleton.mp m]
          omega
      · simp
        omega
      · intro a2 o z
        by_cases c2 : a2 = D
        · rw [c2, hD] at z
          cases z
        · rw [upd_ne c2]
          exact e4 a2 o z
    · have c1 : decide ((10 : Int) ^ Int.toNat 18 ≤ y) = false := decide_eq_false c
      rw [c1]
      refine iteF ?_
      exact ⟨gs, e1, e2, by omega, e4⟩
  · rintro H1 ⟨gs, e1, e2, e3, e4⟩
    refine ⟨_, rfl, _, _, rfl, .inl (hsl H1 e4), _, _, rfl, rfl, MulOk.l ⟨by decide, by decide⟩, _, _, rfl, rfl, ?_⟩
    refine ⟨_, rfl, a, rfl, ⟨_, hsl H1 e4⟩, ?_⟩
    refine for_list (xs := ns.map V.int) (fun _ σ H' => ∃ (y : Option V) (m : Int), σ = [some (.ref a), some (.ref D), y, some (.int m)] ∧ 0 ≤ m ∧ m < 2 ^ 61 ∧ H' = H1) ⟨none, _, rfl, ?_, ?_, rfl⟩ (fun i σ H' _ p => ?_) ?_ ?_
    · omega
    · rw [List.length_map]
      omega
    · obtain ⟨_, _, _, _, _, rfl⟩ := p
      exact hsl H' e4
    · rintro i x σ H2 hx ⟨y, m, rfl, m0, m1, rfl⟩
      obtain ⟨c, rfl⟩ : ∃ c : Int, x = .int c := by
        obtain ⟨y, _, rfl⟩ := List.mem_map.mp (List.mem_of_getElem? hx)
        exact ⟨y, rfl⟩
      refine ⟨_, rfl, _, _, rfl, rfl, MulOk.r ⟨by decide, by decide⟩, _, rfl, _, _, rfl, rfl, MulOk.r ⟨by decide, by decide⟩, _, _, rfl, rfl, _, _, rfl, rfl, .inl ⟨_, rfl, _, _, rfl, rfl, (by show (0:Int) < 2305843009213693951; decide), ?_⟩⟩
      exact ⟨_, _, rfl, (modM _).1, (modM _).2, rfl⟩
    · rintro σ H2 ⟨y, m, rfl, m0, m1, rfl⟩
      refine ⟨_, rfl, _, rfl, (by show 3 ≤ sizeLine; decide), fun l hl2 => ?_⟩
      have lD : l ≠ D := fun z => by rw [z, e1] at hl2; cases hl2
      refine k1 _ _ _ (e4.trans (Ex.new hl2)) ⟨lD, ⟨m, 0, upd_same, m0, m1⟩, gs, ?_, e2, ?_⟩ (e4.back hl2) hD
      · rw [upd_ne (Ne.symm lD)]
        exact e1
      · rw [List.length_map] at e3
        omega
end
end K01
namespace K01
open PySem PySem.Spec L2 Fw
def spLaw (K : PySem.W.Frag) : Sp := fun vs H Q _ => ∃ (a : Addr) (ns : List Int), vs = [.ref a] ∧ SqL K H a (ns.map V.int) ∧ ns.length ≤ 63 ∧ ∀ H', Q (.bl true) H'
section
variable {P : Program} {w : World} {K : Fg} {mg : Str → Option Value} {base : Heap}
theorem fn_law {f fs : Addr} {fd fds : FuncData} (F : Fun K "law" "law" s_law f fd) (GS : FnOk P w K mg base (L2.CX P w) 1 fs fds ["script"] (spMk K)) (mS : mg "_law_spring" = some (.ref fs)) (kS : PySem.W.keepIn K (.ref fs) = true) (bS : Binds K fds ["script"] [])
    (T : Tx K mg) (D__law_above : Def P w K mg base 3 "_law_above" ["spring"] (spS K p__law_above)) (D__law_drop : Def P w K mg base 1 "_law_drop" ["spring", "many"] (spS K p__law_drop)) (D__law_none : Def P w K mg base 2 "_law_none" ["spring", "good"] (spS K p__law_none)) (D__law_number : Def P w K mg base 2 "_law_number" ["spring"] (spS K p__law_number)) (D__law_roots_right : Def P w K mg base 7 "_law_roots_right" ["spring", "number"] (spS K p__law_roots_right)) (D__law_tried : Def P w K mg base 7 "_law_tried" ["kind", "one", "other"] (spD K p__law_tried)) : FnOk P w K mg base (L2.CX P w) 8 f fd ["script"] (spLaw K) := by
  refine F.okX (N := N_law) sc_law (fun vs H Q E h => ?_) (fun cdv A outer s H vs Q E hr h => ?_)
  · obtain ⟨a, ns, rfl, _⟩ := h
    rfl
  obtain ⟨a, ns, rfl, hs, hl, k1⟩ := h
  have C := ctx_of (P := P) (w := w) (K := K) (mg := mg) (base := base) (cdv := cdv) (outer := outer) (H := H) (E := E) (s := s) (A := A) (f := f) (qual := "law") (st := s_law) (k := 7) sc_law hr
  have nd := sc_law.nd
  obtain ⟨ts, b1, b2⟩ := body_law T D__law_above D__law_drop D__law_none D__law_number D__law_roots_right D__law_tried cdv A outer s H E C
  refine ⟨_, pss_cons (ps_set (i := 1) nd rfl (by first | exact Or.inr rfl | exact Or.inl rfl) (pe_callS GS (C.hr.mono (by decide)) rfl mS kS bS (fun σ => passAt C.tk σ) (pa_cons (pv 0) pa_nil))) b1, ?_⟩
  refine ⟨_, rfl, a, ns, rfl, hs, hl, fun H' q g ex sp hq hg => ?_⟩
  have sim : Sim K (some (q, g)) H H' [some (.ref a), some (.ref q), none, none, none, none, none, none, none, none, none, none, none] [.p (.list (ns.map PyData.int)), .s, .un, .un, .un, .un, .un, .un, .un, .un, .un, .un, .un] H H' := by
    refine ⟨(Gr.rfl ex).s sp, ⟨hq, hg⟩, fun a z => SprO.get (S := some (q, g)) sp z, [], .p (.lst hs (ints_dp ns)) (.s rfl (env_un 11)), List.nodup_nil, fun a z => by cases z⟩
  refine b2.run sim _ _ (vc_law _ (fun d => d = .bool true) (fun _ => False) rfl) (fun σ' es' B' H2 q s' _ => ?_) (fun σ' es' d v B' H2 q s' dv => ?_) (fun _ _ _ _ q _ _ => q.elim) (fun _ _ _ _ q _ _ => q.elim) fun x cls dd σ' es' B' H2 hx s' _ r => hx.elim
  · cases q
  · obtain rfl : d = .bool true := q
    cases dv
    exact k1 H2
end
end K01
namespace K01
open PySem PySem.Spec L2 Fw
section
variable {P : Program} {w : World} {K : Fg} {mg : Str → Option Value} {base : Heap}
theorem def_drop (T : Tx K mg) (M : Md K mg "_law_drop" s__law_drop) : Def P w K mg base 1 "_law_drop" ["spring", "many"] (spS K p__law_drop) := by
  obtain ⟨f, fd, F, hm, hk⟩ := M
  exact ⟨f, fd, fn_drop T F, hm, hk, F.binds (ps := ["spring", "many"]) fun _ _ _ _ _ _ us hl => match us, hl with | [_, _], _ => rfl⟩
def paF : Spc := fun _ _ _ => False
theorem def_alike0 (M : Md K mg "_law_alike" s__law_alike) : Def P w K mg base 1 "_law_alike" ["found", "due"] (spD K paF) := by
  obtain ⟨f, fd, F, hm, hk⟩ := M
  refine ⟨f, fd, F.okX (N := N__law_alike) sc__law_alike (fun vs H Q E h => ?_) (fun cdv A outer s H vs Q E hr h => ?_), hm, hk, F.binds (ps := ["found", "due"]) fun _ _ _ _ _ _ us hl => match us, hl with | [_, _], _ => rfl⟩
  · obtain ⟨_, _, _, _, _, _, h, _⟩ := h
    exact h.elim
  · obtain ⟨_, _, _, _, _, _, h, _⟩ := h
    exact h.elim
theorem def_alikeN {lv k : Nat} {pr : Spc} (n : Nat) (hk : 1 ≤ k) (hl : lv ≤ k) (T : Tx K mg) (M : Md K mg "_law_alike" s__law_alike) (DK : Def P w K mg base 1 "_law_kinds" ["thing"] (spD K p__law_kinds)) (DD : Def P w K mg base lv "_law_alike" ["found", "due"] (spD K pr))
    (hpr : ∀ d (Q : D → Prop) X, n = n → (∃ m, n = m + 1 ∧ flat m d) → Q (.bool true) → pr [d, d] Q X) : Def P w K mg base (k + 1) "_law_alike" ["found", "due"] (spD K (pa n)) := by
  obtain ⟨f, fd, F, hm, hk2⟩ := M
  exact ⟨f, fd, fn_D (N := N__law_alike) F sc__law_alike (by intro ds P X h; obtain ⟨_, rfl, _⟩ := h; rfl) (fun cdv A outer s H E C => body__law_alike hk hl T DD DK cdv A outer s H E C) (vc__law_alike pr n hpr), hm, hk2, F.binds (ps := ["found", "due"]) fun _ _ _ _ _ _ us hl => match us, hl with | [_, _], _ => rfl⟩
theorem def__law_alike (T : Tx K mg) (M : Md K mg "_law_alike" s__law_alike) (DK : Def P w K mg base 1 "_law_kinds" ["thing"] (spD K p__law_kinds)) : Def P w K mg base 6 "_law_alike" ["found", "due"] (spD K p__law_alike) := by
  have st : ∀ n d (Q : D → Prop) X, n + 1 = n + 1 → (∃ m, n + 1 = m + 1 ∧ flat m d) → Q (.bool true) → pa n [d, d] Q X := fun n d Q X _ h q => by
    obtain ⟨m, e, hf⟩ := h
    obtain rfl : n = m := by omega
    exact ⟨d, rfl, hf, q⟩
  have D0 : Def P w K mg base 2 "_law_alike" ["found", "due"] (spD K (pa 0)) := def_alikeN (k := 1) 0 (by decide) (by decide) T M DK (def_alike0 M) (fun d Q X _ h _ => by obtain ⟨m, e, _⟩ := h; omega)
  have D1 : Def P w K mg base 3 "_law_alike" ["found", "due"] (spD K (pa 1)) := def_alikeN (k := 2) 1 (by decide) (by decide) T M DK D0 (st 0)
  have D2 : Def P w K mg base 4 "_law_alike" ["found", "due"] (spD K (pa 2)) := def_alikeN (k := 3) 2 (by decide) (by decide) T M DK D1 (st 1)
  have D3 : Def P w K mg base 5 "_law_alike" ["found", "due"] (spD K (pa 3)) := def_alikeN (k := 4) 3 (by decide) (by decide) T M DK D2 (st 2)
  exact def_alikeN (k := 5) 4 (by decide) (by decide) T M DK D3 (st 3)
theorem law_all (T : Tx K mg) (M_reduced : Md K mg "reduced" s_reduced) (M_added : Md K mg "added" s_added) (M_subtracted : Md K mg "subtracted" s_subtracted) (M_multiplied : Md K mg "multiplied" s_multiplied) (M_inverse : Md K mg "inverse" s_inverse) (M_divided : Md K mg "divided" s_divided) (M_opposite : Md K mg "opposite" s_opposite) (M_is_less : Md K mg "is_less" s_is_less) (M_power : Md K mg "power" s_power) (M_divisions : Md K mg "divisions" s_divisions) (M_decimal_places : Md K mg "decimal_places" s_decimal_places) (M_whole_text : Md K mg "whole_text" s_whole_text) (M_number_text : Md K mg "number_text" s_number_text) (M_is_integer : Md K mg "is_integer" s_is_integer) (M_is_fraction : Md K mg "is_fraction" s_is_fraction) (M_check_fraction : Md K mg "check_fraction" s_check_fraction) (M_check_both : Md K mg "check_both" s_check_both) (M_check_count : Md K mg "check_count" s_check_count) (M_fraction : Md K mg "fraction" s_fraction) (M_plus : Md K mg "plus" s_plus) (M_minus : Md K mg "minus" s_minus) (M_times : Md K mg "times" s_times) (M_over : Md K mg "over" s_over) (M_below : Md K mg "below" s_below) (M_sum_of : Md K mg "sum_of" s_sum_of) (M_root : Md K mg "root" s_root) (M_fraction_text : Md K mg "fraction_text" s_fraction_text) (M__law_spring : Md K mg "_law_spring" s__law_spring) (M__law_drop : Md K mg "_law_drop" s__law_drop) (M__law_kinds : Md K mg "_law_kinds" s__law_kinds) (M__law_alike : Md K mg "_law_alike" s__law_alike) (M__law_low : Md K mg "_law_low" s__law_low) (M__law_plus : Md K mg "_law_plus" s__law_plus) (M__law_minus : Md K mg "_law_minus" s__law_minus) (M__law_times : Md K mg "_law_times" s__law_times) (M__law_below : Md K mg "_law_below" s__law_below) (M__law_number : Md K mg "_law_number" s__law_number) (M__law_above : Md K mg "_law_above" s__law_above) (M__law_call : Md K mg "_law_call" s__law_call) (M__law_tried : Md K mg "_law_tried" s__law_tried) (M__law_none : Md K mg "_law_none" s__law_none) (M__law_roots_right : Md K mg "_law_roots_right" s__law_roots_right) (M_law : Md K mg "law" s_law) : ∃ fd : FuncData, (∀ (s : Shared) (v : Value), BindsTo s fd ⟨[v], []⟩ [("script", v)]) ∧ ∀ (bs : Heap) (fa : Addr), mg "law" = some (.ref fa) → FnOk P w K mg bs (L2.CX P w) 8 fa fd ["script"] (spLaw K) := by
  obtain ⟨fs, fds, FS, mS, kS⟩ := M__law_spring
  obtain ⟨fl, fdl, FL, mL, kL⟩ := M_law
  have bS := FS.binds (ps := ["script"]) fun _ _ _ _ _ _ us hl => match us, hl with | [_], _ => rfl
  have FL2 := FL
  obtain ⟨oc, od, kV, doc, pm, an, cdv, ct, osl, rfl, lk, hcd⟩ := FL.ex
  refine ⟨PySem.W.fnOf "law" "law" (defArgs s_law) (defBody s_law) (defScope s_law) .none kV doc pm an cdv ct, fun s v => .of_eq rfl, fun bs fa e => ?_⟩
  cases mL.symm.trans e
  have D_reduced := def_reduced (P := P) (w := w) (base := bs) T M_reduced 
  have D_added := def_added (P := P) (w := w) (base := bs) T M_added 
  have D_opposite := def_opposite (P := P) (w := w) (base := bs) T M_opposite 
  have D_subtracted := def_subtracted (P := P) (w := w) (base := bs) T M_subtracted D_added D_opposite
  have D_multiplied := def_multiplied (P := P) (w := w) (base := bs) T M_multiplied 
  have D_inverse := def_inverse (P := P) (w := w) (base := bs) T M_inverse 
  have D_divided := def_divided (P := P) (w := w) (base := bs) T M_divided D_inverse D_multiplied
  have D_is_less := def_is_less (P := P) (w := w) (base := bs) T M_is_less 
  have D_power := def_power (P := P) (w := w) (base := bs) T M_power 
  have D_divisions := def_divisions (P := P) (w := w) (base := bs) T M_divisions 
  have D_decimal_places := def_decimal_places (P := P) (w := w) (base := bs) T M_decimal_places D_divisions D_power
  have D_whole_text := def_whole_text (P := P) (w := w) (base := bs) T M_whole_text 
  have D_number_text := def_number_text (P := P) (w := w) (base := bs) T M_number_text D_decimal_places D_power D_whole_text
  have D_is_integer := def_is_integer (P := P) (w := w) (base := bs) T M_is_integer 
  have D_is_fraction := def_is_fraction (P := P) (w := w) (base := bs) T M_is_fraction D_is_integer
  have D_check_fraction := def_check_fraction (P := P) (w := w) (base := bs) T M_check_fraction D_is_fraction
  have D_check_both := def_check_both (P := P) (w := w) (base := bs) T M_check_both D_check_fraction
  have D_check_count := def_check_count (P := P) (w := w) (base := bs) T M_check_count D_is_integer
  have D_fraction := def_fraction (P := P) (w := w) (base := bs) T M_fraction D_is_integer D_reduced
  have D_plus := def_plus (P := P) (w := w) (base := bs) T M_plus D_added D_check_both
  have D_minus := def_minus (P := P) (w := w) (base := bs) T M_minus D_check_both D_subtracted
  have D_times := def_times (P := P) (w := w) (base := bs) T M_times D_check_both D_multiplied
  have D_over := def_over (P := P) (w := w) (base := bs) T M_over D_check_both D_divided
  have D_below := def_below (P := P) (w := w) (base := bs) T M_below D_check_both D_is_less
  have D_sum_of := def_sum_of (P := P) (w := w) (base := bs) T M_sum_of D_added D_check_fraction
  have D_root := def_root (P := P) (w := w) (base := bs) T M_root D_check_count D_check_fraction D_power D_reduced
  have D_fraction_text := def_fraction_text (P := P) (w := w) (base := bs) T M_fraction_text D_check_fraction D_number_text
  have D__law_drop := def_drop (P := P) (w := w) (base := bs) T M__law_drop
  have D__law_kinds := def__law_kinds (P := P) (w := w) (base := bs) T M__law_kinds 
  have D__law_alike := def__law_alike (P := P) (w := w) (base := bs) T M__law_alike D__law_kinds
  have D__law_low := def__law_low (P := P) (w := w) (base := bs) T M__law_low 
  have D__law_plus := def__law_plus (P := P) (w := w) (base := bs) T M__law_plus D__law_low
  have D__law_minus := def__law_minus (P := P) (w := w) (base := bs) T M__law_minus D__law_plus
  have D__law_times := def__law_times (P := P) (w := w) (base := bs) T M__law_times D__law_low
  have D__law_below := def__law_below (P := P) (w := w) (base := bs) T M__law_below 
  have D__law_number := def__law_number (P := P) (w := w) (base := bs) T M__law_number D__law_drop D__law_low
  have D__law_above := def__law_above (P := P) (w := w) (base := bs) T M__law_above D__law_number
  have K_minus_other_one := defk_minus_other_one (P := P) (w := w) (base := bs) T M_minus D_check_both D_subtracted
  have K_over_other_one := defk_over_other_one (P := P) (w := w) (base := bs) T M_over D_check_both D_divided
  have K_root_digits_number := defk_root_digits_number (P := P) (w := w) (base := bs) T M_root D_check_count D_check_fraction D_power D_reduced
  have D__law_call := def__law_call (P := P) (w := w) (base := bs) T M__law_call D_below D_fraction D_fraction_text D_plus D_root D_sum_of D_times K_minus_other_one K_over_other_one K_root_digits_number
  have D__law_tried := def__law_tried (P := P) (w := w) (base := bs) T M__law_tried D__law_call
  have D__law_none := def__law_none (P := P) (w := w) (base := bs) T M__law_none D__law_drop
  have D__law_roots_right := def__law_roots_right (P := P) (w := w) (base := bs) T M__law_roots_right D__law_alike D__law_below D__law_drop D__law_low D__law_minus D__law_plus D__law_times D_root K_root_digits_number
  exact fn_law FL2 (fn_spring T FS) mS kS bS T D__law_above D__law_drop D__law_none D__law_number D__law_roots_right D__law_tried
end
end K01
namespace K01
open PySem PySem.Spec L2 Fw
theorem md_mk {K : Fg} {h : Heap} {mg : Str → Option Value} {x : Str} {st : Stmt} {f : Addr} {oc : Value} {od an : Option Addr} {sl : Array (Option Value)} {kV dc pm cd ct : Value} (X : K.In h) (G : h.Ns mainGlobals mg) (a : PySem.W.nsIn K mainGlobals x = some (some (.ref f)))
    (l : K.lookup f = some ⟨oc, od, .func (PySem.W.fnOf x x (defArgs st) (defBody st) (defScope st) .none kV dc pm an cd ct), sl⟩) (c : PySem.W.codeIn K cd x = true) (k : PySem.W.keepIn K (.ref f) = true) : Md K mg x st := ⟨f, _, fun_mk l c k, PySem.W.mg_of X G a, k⟩
theorem nought_mk {K : Fg} {h : Heap} {mg : Str → Option Value} {t : Addr} {dd : Option Addr} {u0 u1 : Tok} {n : Nat} {sl : Array (Option Value)} (X : K.In h) (G : h.Ns mainGlobals mg) (a : PySem.W.nsIn K mainGlobals "NOUGHT" = some (some (.ref t)))
    (l : K.lookup t = some ⟨.type "tuple", dd, .seq #[.int 0 u0, .int 1 u1] n, sl⟩) : KConst K mg "NOUGHT" c_NOUGHT :=
  ⟨.ref t, .ref t, PySem.W.mg_of X G a, rfl, fun B => .tup (xs := [.int 0, .int 1]) (.inr ⟨_, _, _, l, rfl, rfl, (by show 2 ≤ sizeLine; decide), .cons ⟨_, rfl⟩ (.cons ⟨_, rfl⟩ .nil)⟩) (.cons (.int 0) (.cons (.int 1) .nil))⟩
theorem exm_of {K : PySem.W.Frag} {S T : Addr} {b : Bool} (h1 : PySem.W.subIn K (.ref T) (.type "BaseException") = some true) (h2 : PySem.W.isClsIn K T = true) (h3 : PySem.W.typeIn K (.ref T) = some (.type "type")) (h4 : PySem.W.subIn K (.ref S) (.ref T) = some b) : PySem.W.exmOne K (.ref S) (.ref T) = some b := by
  have a1 : (PySem.W.subIn K (.ref T) (.type "BaseException") == some true) = true := by rw [h1] <;> rfl
  have h2a : (PySem.W.clsIn K T).isSome = true := h2
  have a2 : ((PySem.W.clsIn K T).isSome && PySem.W.typeIn K (.ref T) == some (.type "type")) = true := by rw [h2a, h3] <;> rfl
  unfold PySem.W.exmOne
  rw [if_pos a1]
  show (if ((PySem.W.clsIn K T).isSome && PySem.W.typeIn K (.ref T) == some (.type "type")) = true then PySem.W.subIn K (.ref S) (.ref T) else none) = some b
  rw [if_pos a2]
  exact h4
theorem exm_cl {K : PySem.W.Frag} {x c : Str} {A C : Value} {b : Bool} (ea : PySem.W.nsIn K mainGlobals x = some (some A)) (ec : PySem.W.nsIn K mainGlobals c = some (some C)) (h : PySem.W.exmOne K A C = some b) : PySem.W.exmOne K (clsV K x) (clsV K c) = some b := by
  rw [clsV_of ea, clsV_of ec]
  exact h
theorem exc_mk {K : Fg} {h : Heap} {mg : Str → Option Value} {x : Str} {C : Addr} (X : K.In h) (G : h.Ns mainGlobals mg) (e : PySem.W.nsIn K mainGlobals x = some (some (.ref C))) (t : PySem.W.typeIn K (.ref C) = some (.type "type"))
    (q : PySem.W.excIn K C [.type "ValueError", .type "Exception", .type "BaseException", .type "object"] "ValueError.__new__" = true) (k : PySem.W.keepIn K (.ref C) = true) (b : PySem.W.subIn K (.ref C) (.type "BaseException") = some true) : ExcC K mg x :=
  ⟨by rw [clsV_of e]; exact e, by rw [clsV_of e]; exact PySem.W.mg_of X G e, C, _, _, _, _, clsV_of e, PySem.F.excBase_ValueError, q, k, b, t⟩
theorem sub_cases {G : Str → Str → Bool → Prop} (g0 : G "InvalidCount" "CourseError" true) (g1 : G "InvalidCount" "InvalidCount" true) (g2 : G "InvalidCount" "InvalidFraction" false) (g3 : G "InvalidFraction" "CourseError" true) (g4 : G "InvalidFraction" "InvalidCount" false) (g5 : G "InvalidFraction" "InvalidFraction" true) {x c : Str} {b : Bool} (h : subT x c = some b) : G x c b := by
  unfold subT at h
  by_cases h_InvalidCount : (x == "InvalidCount") = true
  · rw [if_pos h_InvalidCount] at h
    obtain rfl := beq_iff_eq.mp h_InvalidCount
    by_cases c_CourseError : (c == "CourseError") = true
    · rw [if_pos c_CourseError] at h
      obtain rfl := beq_iff_eq.mp c_CourseError
      cases h
      exact g0
    rw [if_neg c_CourseError] at h
    by_cases c_InvalidCount : (c == "InvalidCount") = true
    · rw [if_pos c_InvalidCount] at h
      obtain rfl := beq_iff_eq.mp c_InvalidCount
      cases h
      exact g1
    rw [if_neg c_InvalidCount] at h
    by_cases c_InvalidFraction : (c == "InvalidFraction") = true
    · rw [if_pos c_InvalidFraction] at h
      obtain rfl := beq_iff_eq.mp c_InvalidFraction
      cases h
      exact g2
    rw [if_neg c_InvalidFraction] at h
    cases h
  rw [if_neg h_InvalidCount] at h
  by_cases h_InvalidFraction : (x == "InvalidFraction") = true
  · rw [if_pos h_InvalidFraction] at h
    obtain rfl := beq_iff_eq.mp h_InvalidFraction
    by_cases c_CourseError : (c == "CourseError") = true
    · rw [if_pos c_CourseError] at h
      obtain rfl := beq_iff_eq.mp c_CourseError
      cases h
      exact g3
    rw [if_neg c_CourseError] at h
    by_cases c_InvalidCount : (c == "InvalidCount") = true
    · rw [if_pos c_InvalidCount] at h
      obtain rfl := beq_iff_eq.mp c_InvalidCount
      cases h
      exact g4
    rw [if_neg c_InvalidCount] at h
    by_cases c_InvalidFraction : (c == "InvalidFraction") = true
    · rw [if_pos c_InvalidFraction] at h
      obtain rfl := beq_iff_eq.mp c_InvalidFraction
      cases h
      exact g5
    rw [if_neg c_InvalidFraction] at h
    cases h
  rw [if_neg h_InvalidFraction] at h
  cases h
theorem all_mk {l : PySem.W.OpenLaw} {w : World} {K : Fg} {h : Heap} {mg : Str → Option Value} {fa : Addr} (X : K.In h) (G : h.Ns mainGlobals mg) (hfa : mg "law" = some (.ref fa))
    {f0 : Addr} {oc0 : Value} {od0 an0 : Option Addr} {sl0 : Array (Option Value)} {kV0 dc0 pm0 cd0 ct0 : Value}
    {f1 : Addr} {oc1 : Value} {od1 an1 : Option Addr} {sl1 : Array (Option Value)} {kV1 dc1 pm1 cd1 ct1 : Value}
    {f2 : Addr} {oc2 : Value} {od2 an2 : Option Addr} {sl2 : Array (Option Value)} {kV2 dc2 pm2 cd2 ct2 : Value}
    {f3 : Addr} {oc3 : Value} {od3 an3 : Option Addr} {sl3 : Array (Option Value)} {kV3 dc3 pm3 cd3 ct3 : Value}
    {f4 : Addr} {oc4 : Value} {od4 an4 : Option Addr} {sl4 : Array (Option Value)} {kV4 dc4 pm4 cd4 ct4 : Value}
    {f5 : Addr} {oc5 : Value} {od5 an5 : Option Addr} {sl5 : Array (Option Value)} {kV5 dc5 pm5 cd5 ct5 : Value}
    {f6 : Addr} {oc6 : Value} {od6 an6 : Option Addr} {sl6 : Array (Option Value)} {kV6 dc6 pm6 cd6 ct6 : Value}
    {f7 : Addr} {oc7 : Value} {od7 an7 : Option Addr} {sl7 : Array (Option Value)} {kV7 dc7 pm7 cd7 ct7 : Value}
    {f8 : Addr} {oc8 : Value} {od8 an8 : Option Addr} {sl8 : Array (Option Value)} {kV8 dc8 pm8 cd8 ct8 : Value}
    {f9 : Addr} {oc9 : Value} {od9 an9 : Option Addr} {sl9 : Array (Option Value)} {kV9 dc9 pm9 cd9 ct9 : Value}
    {f10 : Addr} {oc10 : Value} {od10 an10 : Option Addr} {sl10 : Array (Option Value)} {kV10 dc10 pm10 cd10 ct10 : Value}
    {f11 : Addr} {oc11 : Value} {od11 an11 : Option Addr} {sl11 : Array (Option Value)} {kV11 dc11 pm11 cd11 ct11 : Value}
    {f12 : Addr} {oc12 : Value} {od12 an12 : Option Addr} {sl12 : Array (Option Value)} {kV12 dc12 pm12 cd12 ct12 : Value}
    {f13 : Addr} {oc13 : Value} {od13 an13 : Option Addr} {sl13 : Array (Option Value)} {kV13 dc13 pm13 cd13 ct13 : Value}
    {f14 : Addr} {oc14 : Value} {od14 an14 : Option Addr} {sl14 : Array (Option Value)} {kV14 dc14 pm14 cd14 ct14 : Value}
    {f15 : Addr} {oc15 : Value} {od15 an15 : Option Addr} {sl15 : Array (Option Value)} {kV15 dc15 pm15 cd15 ct15 : Value}
    {f16 : Addr} {oc16 : Value} {od16 an16 : Option Addr} {sl16 : Array (Option Value)} {kV16 dc16 pm16 cd16 ct16 : Value}
    {f17 : Addr} {oc17 : Value} {od17 an17 : Option Addr} {sl17 : Array (Option Value)} {kV17 dc17 pm17 cd17 ct17 : Value}
    {f18 : Addr} {oc18 : Value} {od18 an18 : Option Addr} {sl18 : Array (Option Value)} {kV18 dc18 pm18 cd18 ct18 : Value}
    {f19 : Addr} {oc19 : Value} {od19 an19 : Option Addr} {sl19 : Array (Option Value)} {kV19 dc19 pm19 cd19 ct19 : Value}
    {f20 : Addr} {oc20 : Value} {od20 an20 : Option Addr} {sl20 : Array (Option Value)} {kV20 dc20 pm20 cd20 ct20 : Value}
    {f21 : Addr} {oc21 : Value} {od21 an21 : Option Addr} {sl21 : Array (Option Value)} {kV21 dc21 pm21 cd21 ct21 : Value}
    {f22 : Addr} {oc22 : Value} {od22 an22 : Option Addr} {sl22 : Array (Option Value)} {kV22 dc22 pm22 cd22 ct22 : Value}
    {f23 : Addr} {oc23 : Value} {od23 an23 : Option Addr} {sl23 : Array (Option Value)} {kV23 dc23 pm23 cd23 ct23 : Value}
    {f24 : Addr} {oc24 : Value} {od24 an24 : Option Addr} {sl24 : Array (Option Value)} {kV24 dc24 pm24 cd24 ct24 : Value}
    {f25 : Addr} {oc25 : Value} {od25 an25 : Option Addr} {sl25 : Array (Option Value)} {kV25 dc25 pm25 cd25 ct25 : Value}
    {f26 : Addr} {oc26 : Value} {od26 an26 : Option Addr} {sl26 : Array (Option Value)} {kV26 dc26 pm26 cd26 ct26 : Value}
    {f27 : Addr} {oc27 : Value} {od27 an27 : Option Addr} {sl27 : Array (Option Value)} {kV27 dc27 pm27 cd27 ct27 : Value}
    {f28 : Addr} {oc28 : Value} {od28 an28 : Option Addr} {sl28 : Array (Option Value)} {kV28 dc28 pm28 cd28 ct28 : Value}
    {f29 : Addr} {oc29 : Value} {od29 an29 : Option Addr} {sl29 : Array (Option Value)} {kV29 dc29 pm29 cd29 ct29 : Value}
    {f30 : Addr} {oc30 : Value} {od30 an30 : Option Addr} {sl30 : Array (Option Value)} {kV30 dc30 pm30 cd30 ct30 : Value}
    {f31 : Addr} {oc31 : Value} {od31 an31 : Option Addr} {sl31 : Array (Option Value)} {kV31 dc31 pm31 cd31 ct31 : Value}
    {f32 : Addr} {oc32 : Value} {od32 an32 : Option Addr} {sl32 : Array (Option Value)} {kV32 dc32 pm32 cd32 ct32 : Value}
    {f33 : Addr} {oc33 : Value} {od33 an33 : Option Addr} {sl33 : Array (Option Value)} {kV33 dc33 pm33 cd33 ct33 : Value}
    {f34 : Addr} {oc34 : Value} {od34 an34 : Option Addr} {sl34 : Array (Option Value)} {kV34 dc34 pm34 cd34 ct34 : Value}
    {f35 : Addr} {oc35 : Value} {od35 an35 : Option Addr} {sl35 : Array (Option Value)} {kV35 dc35 pm35 cd35 ct35 : Value}
    {f36 : Addr} {oc36 : Value} {od36 an36 : Option Addr} {sl36 : Array (Option Value)} {kV36 dc36 pm36 cd36 ct36 : Value}
    {f37 : Addr} {oc37 : Value} {od37 an37 : Option Addr} {sl37 : Array (Option Value)} {kV37 dc37 pm37 cd37 ct37 : Value}
    {f38 : Addr} {oc38 : Value} {od38 an38 : Option Addr} {sl38 : Array (Option Value)} {kV38 dc38 pm38 cd38 ct38 : Value}
    {f39 : Addr} {oc39 : Value} {od39 an39 : Option Addr} {sl39 : Array (Option Value)} {kV39 dc39 pm39 cd39 ct39 : Value}
    {f40 : Addr} {oc40 : Value} {od40 an40 : Option Addr} {sl40 : Array (Option Value)} {kV40 dc40 pm40 cd40 ct40 : Value}
    {f41 : Addr} {oc41 : Value} {od41 an41 : Option Addr} {sl41 : Array (Option Value)} {kV41 dc41 pm41 cd41 ct41 : Value}
    {f42 : Addr} {oc42 : Value} {od42 an42 : Option Addr} {sl42 : Array (Option Value)} {kV42 dc42 pm42 cd42 ct42 : Value}
     {t : Addr} {dd : Option Addr} {u0 u1 : Tok} {n : Nat} {sl : Array (Option Value)} {u_MOST_DIGITS : Tok} {C_CourseError : Addr} {C_InvalidCount : Addr} {C_InvalidFraction : Addr}
    (a0 : PySem.W.nsIn K mainGlobals "reduced" = some (some (.ref f0))) (l0 : K.lookup f0 = some ⟨oc0, od0, .func (PySem.W.fnOf "reduced" "reduced" (defArgs s_reduced) (defBody s_reduced) (defScope s_reduced) .none kV0 dc0 pm0 an0 cd0 ct0), sl0⟩) (c0 : PySem.W.codeIn K cd0 "reduced" = true) (k0 : PySem.W.keepIn K (.ref f0) = true)
    (a1 : PySem.W.nsIn K mainGlobals "added" = some (some (.ref f1))) (l1 : K.lookup f1 = some ⟨oc1, od1, .func (PySem.W.fnOf "added" "added" (defArgs s_added) (defBody s_added) (defScope s_added) .none kV1 dc1 pm1 an1 cd1 ct1), sl1⟩) (c1 : PySem.W.codeIn K cd1 "added" = true) (k1 : PySem.W.keepIn K (.ref f1) = true)
    (a2 : PySem.W.nsIn K mainGlobals "subtracted" = some (some (.ref f2))) (l2 : K.lookup f2 = some ⟨oc2, od2, .func (PySem.W.fnOf "subtracted" "subtracted" (defArgs s_subtracted) (defBody s_subtracted) (defScope s_subtracted) .none kV2 dc2 pm2 an2 cd2 ct2), sl2⟩) (c2 : PySem.W.codeIn K cd2 "subtracted" = true) (k2 : PySem.W.keepIn K (.ref f2) = true)
    (a3 : PySem.W.nsIn K mainGlobals "multiplied" = some (some (.ref f3))) (l3 : K.lookup f3 = some ⟨oc3, od3, .func (PySem.W.fnOf "multiplied" "multiplied" (defArgs s_multiplied) (defBody s_multiplied) (defScope s_multiplied) .none kV3 dc3 pm3 an3 cd3 ct3), sl3⟩) (c3 : PySem.W.codeIn K cd3 "multiplied" = true) (k3 : PySem.W.keepIn K (.ref f3) = true)
    (a4 : PySem.W.nsIn K mainGlobals "inverse" = some (some (.ref f4))) (l4 : K.lookup f4 = some ⟨oc4, od4, .func (PySem.W.fnOf "inverse" "inverse" (defArgs s_inverse) (defBody s_inverse) (defScope s_inverse) .none kV4 dc4 pm4 an4 cd4 ct4), sl4⟩) (c4 : PySem.W.codeIn K cd4 "inverse" = true) (k4 : PySem.W.keepIn K (.ref f4) = true)
    (a5 : PySem.W.nsIn K mainGlobals "divided" = some (some (.ref f5))) (l5 : K.lookup f5 = some ⟨oc5, od5, .func (PySem.W.fnOf "divided" "divided" (defArgs s_divided) (defBody s_divided) (defScope s_divided) .none kV5 dc5 pm5 an5 cd5 ct5), sl5⟩) (c5 : PySem.W.codeIn K cd5 "divided" = true) (k5 : PySem.W.keepIn K (.ref f5) = true)
    (a6 : PySem.W.nsIn K mainGlobals "opposite" = some (some (.ref f6))) (l6 : K.lookup f6 = some ⟨oc6, od6, .func (PySem.W.fnOf "opposite" "opposite" (defArgs s_opposite) (defBody s_opposite) (defScope s_opposite) .none kV6 dc6 pm6 an6 cd6 ct6), sl6⟩) (c6 : PySem.W.codeIn K cd6 "opposite" = true) (k6 : PySem.W.keepIn K (.ref f6) = true)
    (a7 : PySem.W.nsIn K mainGlobals "is_less" = some (some (.ref f7))) (l7 : K.lookup f7 = some ⟨oc7, od7, .func (PySem.W.fnOf "is_less" "is_less" (defArgs s_is_less) (defBody s_is_less) (defScope s_is_less) .none kV7 dc7 pm7 an7 cd7 ct7), sl7⟩) (c7 : PySem.W.codeIn K cd7 "is_less" = true) (k7 : PySem.W.keepIn K (.ref f7) = true)
    (a8 : PySem.W.nsIn K mainGlobals "power" = some (some (.ref f8))) (l8 : K.lookup f8 = some ⟨oc8, od8, .func (PySem.W.fnOf "power" "power" (defArgs s_power) (defBody s_power) (defScope s_power) .none kV8 dc8 pm8 an8 cd8 ct8), sl8⟩) (c8 : PySem.W.codeIn K cd8 "power" = true) (k8 : PySem.W.keepIn K (.ref f8) = true)
    (a9 : PySem.W.nsIn K mainGlobals "divisions" = some (some (.ref f9))) (l9 : K.lookup f9 = some ⟨oc9, od9, .func (PySem.W.fnOf "divisions" "divisions" (defArgs s_divisions) (defBody s_divisions) (defScope s_divisions) .none kV9 dc9 pm9 an9 cd9 ct9), sl9⟩) (c9 : PySem.W.codeIn K cd9 "divisions" = true) (k9 : PySem.W.keepIn K (.ref f9) = true)
    (a10 : PySem.W.nsIn K mainGlobals "decimal_places" = some (some (.ref f10))) (l10 : K.lookup f10 = some ⟨oc10, od10, .func (PySem.W.fnOf "decimal_places" "decimal_places" (defArgs s_decimal_places) (defBody s_decimal_places) (defScope s_decimal_places) .none kV10 dc10 pm10 an10 cd10 ct10), sl10⟩) (c10 : PySem.W.codeIn K cd10 "decimal_places" = true) (k10 : PySem.W.keepIn K (.ref f10) = true)
    (a11 : PySem.W.nsIn K mainGlobals "whole_text" = some (some (.ref f11))) (l11 : K.lookup f11 = some ⟨oc11, od11, .func (PySem.W.fnOf "whole_text" "whole_text" (defArgs s_whole_text) (defBody s_whole_text) (defScope s_whole_text) .none kV11 dc11 pm11 an11 cd11 ct11), sl11⟩) (c11 : PySem.W.codeIn K cd11 "whole_text" = true) (k11 : PySem.W.keepIn K (.ref f11) = true)
    (a12 : PySem.W.nsIn K mainGlobals "number_text" = some (some (.ref f12))) (l12 : K.lookup f12 = some ⟨oc12, od12, .func (PySem.W.fnOf "number_text" "number_text" (defArgs s_number_text) (defBody s_number_text) (defScope s_number_text) .none kV12 dc12 pm12 an12 cd12 ct12), sl12⟩) (c12 : PySem.W.codeIn K cd12 "number_text" = true) (k12 : PySem.W.keepIn K (.ref f12) = true)
    (a13 : PySem.W.nsIn K mainGlobals "is_integer" = some (some (.ref f13))) (l13 : K.lookup f13 = some ⟨oc13, od13, .func (PySem.W.fnOf "is_integer" "is_integer" (defArgs s_is_integer) (defBody s_is_integer) (defScope s_is_integer) .none kV13 dc13 pm13 an13 cd13 ct13), sl13⟩) (c13 : PySem.W.codeIn K cd13 "is_integer" = true) (k13 : PySem.W.keepIn K (.ref f13) = true)
    (a14 : PySem.W.nsIn K mainGlobals "is_fraction" = some (some (.ref f14))) (l14 : K.lookup f14 = some ⟨oc14, od14, .func (PySem.W.fnOf "is_fraction" "is_fraction" (defArgs s_is_fraction) (defBody s_is_fraction) (defScope s_is_fraction) .none kV14 dc14 pm14 an14 cd14 ct14), sl14⟩) (c14 : PySem.W.codeIn K cd14 "is_fraction" = true) (k14 : PySem.W.keepIn K (.ref f14) = true)
    (a15 : PySem.W.nsIn K mainGlobals "check_fraction" = some (some (.ref f15))) (l15 : K.lookup f15 = some ⟨oc15, od15, .func (PySem.W.fnOf "check_fraction" "check_fraction" (defArgs s_check_fraction) (defBody s_check_fraction) (defScope s_check_fraction) .none kV15 dc15 pm15 an15 cd15 ct15), sl15⟩) (c15 : PySem.W.codeIn K cd15 "check_fraction" = true) (k15 : PySem.W.keepIn K (.ref f15) = true)
    (a16 : PySem.W.nsIn K mainGlobals "check_both" = some (some (.ref f16))) (l16 : K.lookup f16 = some ⟨oc16, od16, .func (PySem.W.fnOf "check_both" "check_both" (defArgs s_check_both) (defBody s_check_both) (defScope s_check_both) .none kV16 dc16 pm16 an16 cd16 ct16), sl16⟩) (c16 : PySem.W.codeIn K cd16 "check_both" = true) (k16 : PySem.W.keepIn K (.ref f16) = true)
    (a17 : PySem.W.nsIn K mainGlobals "check_count" = some (some (.ref f17))) (l17 : K.lookup f17 = some ⟨oc17, od17, .func (PySem.W.fnOf "check_count" "check_count" (defArgs s_check_count) (defBody s_check_count) (defScope s_check_count) .none kV17 dc17 pm17 an17 cd17 ct17), sl17⟩) (c17 : PySem.W.codeIn K cd17 "check_count" = true) (k17 : PySem.W.keepIn K (.ref f17) = true)
    (a18 : PySem.W.nsIn K mainGlobals "fraction" = some (some (.ref f18))) (l18 : K.lookup f18 = some ⟨oc18, od18, .func (PySem.W.fnOf "fraction" "fraction" (defArgs s_fraction) (defBody s_fraction) (defScope s_fraction) .none kV18 dc18 pm18 an18 cd18 ct18), sl18⟩) (c18 : PySem.W.codeIn K cd18 "fraction" = true) (k18 : PySem.W.keepIn K (.ref f18) = true)
    (a19 : PySem.W.nsIn K mainGlobals "plus" = some (some (.ref f19))) (l19 : K.lookup f19 = some ⟨oc19, od19, .func (PySem.W.fnOf "plus" "plus" (defArgs s_plus) (defBody s_plus) (defScope s_plus) .none kV19 dc19 pm19 an19 cd19 ct19), sl19⟩) (c19 : PySem.W.codeIn K cd19 "plus" = true) (k19 : PySem.W.keepIn K (.ref f19) = true)
    (a20 : PySem.W.nsIn K mainGlobals "minus" = some (some (.ref f20))) (l20 : K.lookup f20 = some ⟨oc20, od20, .func (PySem.W.fnOf "minus" "minus" (defArgs s_minus) (defBody s_minus) (defScope s_minus) .none kV20 dc20 pm20 an20 cd20 ct20), sl20⟩) (c20 : PySem.W.codeIn K cd20 "minus" = true) (k20 : PySem.W.keepIn K (.ref f20) = true)
    (a21 : PySem.W.nsIn K mainGlobals "times" = some (some (.ref f21))) (l21 : K.lookup f21 = some ⟨oc21, od21, .func (PySem.W.fnOf "times" "times" (defArgs s_times) (defBody s_times) (defScope s_times) .none kV21 dc21 pm21 an21 cd21 ct21), sl21⟩) (c21 : PySem.W.codeIn K cd21 "times" = true) (k21 : PySem.W.keepIn K (.ref f21) = true)
    (a22 : PySem.W.nsIn K mainGlobals "over" = some (some (.ref f22))) (l22 : K.lookup f22 = some ⟨oc22, od22, .func (PySem.W.fnOf "over" "over" (defArgs s_over) (defBody s_over) (defScope s_over) .none kV22 dc22 pm22 an22 cd22 ct22), sl22⟩) (c22 : PySem.W.codeIn K cd22 "over" = true) (k22 : PySem.W.keepIn K (.ref f22) = true)
    (a23 : PySem.W.nsIn K mainGlobals "below" = some (some (.ref f23))) (l23 : K.lookup f23 = some ⟨oc23, od23, .func (PySem.W.fnOf "below" "below" (defArgs s_below) (defBody s_below) (defScope s_below) .none kV23 dc23 pm23 an23 cd23 ct23), sl23⟩) (c23 : PySem.W.codeIn K cd23 "below" = true) (k23 : PySem.W.keepIn K (.ref f23) = true)
    (a24 : PySem.W.nsIn K mainGlobals "sum_of" = some (some (.ref f24))) (l24 : K.lookup f24 = some ⟨oc24, od24, .func (PySem.W.fnOf "sum_of" "sum_of" (defArgs s_sum_of) (defBody s_sum_of) (defScope s_sum_of) .none kV24 dc24 pm24 an24 cd24 ct24), sl24⟩) (c24 : PySem.W.codeIn K cd24 "sum_of" = true) (k24 : PySem.W.keepIn K (.ref f24) = true)
    (a25 : PySem.W.nsIn K mainGlobals "root" = some (some (.ref f25))) (l25 : K.lookup f25 = some ⟨oc25, od25, .func (PySem.W.fnOf "root" "root" (defArgs s_root) (defBody s_root) (defScope s_root) .none kV25 dc25 pm25 an25 cd25 ct25), sl25⟩) (c25 : PySem.W.codeIn K cd25 "root" = true) (k25 : PySem.W.keepIn K (.ref f25) = true)
    (a26 : PySem.W.nsIn K mainGlobals "fraction_text" = some (some (.ref f26))) (l26 : K.lookup f26 = some ⟨oc26, od26, .func (PySem.W.fnOf "fraction_text" "fraction_text" (defArgs s_fraction_text) (defBody s_fraction_text) (defScope s_fraction_text) .none kV26 dc26 pm26 an26 cd26 ct26), sl26⟩) (c26 : PySem.W.codeIn K cd26 "fraction_text" = true) (k26 : PySem.W.keepIn K (.ref f26) = true)
    (a27 : PySem.W.nsIn K mainGlobals "_law_spring" = some (some (.ref f27))) (l27 : K.lookup f27 = some ⟨oc27, od27, .func (PySem.W.fnOf "_law_spring" "_law_spring" (defArgs s__law_spring) (defBody s__law_spring) (defScope s__law_spring) .none kV27 dc27 pm27 an27 cd27 ct27), sl27⟩) (c27 : PySem.W.codeIn K cd27 "_law_spring" = true) (k27 : PySem.W.keepIn K (.ref f27) = true)
    (a28 : PySem.W.nsIn K mainGlobals "_law_drop" = some (some (.ref f28))) (l28 : K.lookup f28 = some ⟨oc28, od28, .func (PySem.W.fnOf "_law_drop" "_law_drop" (defArgs s__law_drop) (defBody s__law_drop) (defScope s__law_drop) .none kV28 dc28 pm28 an28 cd28 ct28), sl28⟩) (c28 : PySem.W.codeIn K cd28 "_law_drop" = true) (k28 : PySem.W.keepIn K (.ref f28) = true)
    (a29 : PySem.W.nsIn K mainGlobals "_law_kinds" = some (some (.ref f29))) (l29 : K.lookup f29 = some ⟨oc29, od29, .func (PySem.W.fnOf "_law_kinds" "_law_kinds" (defArgs s__law_kinds) (defBody s__law_kinds) (defScope s__law_kinds) .none kV29 dc29 pm29 an29 cd29 ct29), sl29⟩) (c29 : PySem.W.codeIn K cd29 "_law_kinds" = true) (k29 : PySem.W.keepIn K (.ref f29) = true)
    (a30 : PySem.W.nsIn K mainGlobals "_law_alike" = some (some (.ref f30))) (l30 : K.lookup f30 = some ⟨oc30, od30, .func (PySem.W.fnOf "_law_alike" "_law_alike" (defArgs s__law_alike) (defBody s__law_alike) (defScope s__law_alike) .none kV30 dc30 pm30 an30 cd30 ct30), sl30⟩) (c30 : PySem.W.codeIn K cd30 "_law_alike" = true) (k30 : PySem.W.keepIn K (.ref f30) = true)
    (a31 : PySem.W.nsIn K mainGlobals "_law_low" = some (some (.ref f31))) (l31 : K.lookup f31 = some ⟨oc31, od31, .func (PySem.W.fnOf "_law_low" "_law_low" (defArgs s__law_low) (defBody s__law_low) (defScope s__law_low) .none kV31 dc31 pm31 an31 cd31 ct31), sl31⟩) (c31 : PySem.W.codeIn K cd31 "_law_low" = true) (k31 : PySem.W.keepIn K (.ref f31) = true)
    (a32 : PySem.W.nsIn K mainGlobals "_law_plus" = some (some (.ref f32))) (l32 : K.lookup f32 = some ⟨oc32, od32, .func (PySem.W.fnOf "_law_plus" "_law_plus" (defArgs s__law_plus) (defBody s__law_plus) (defScope s__law_plus) .none kV32 dc32 pm32 an32 cd32 ct32), sl32⟩) (c32 : PySem.W.codeIn K cd32 "_law_plus" = true) (k32 : PySem.W.keepIn K (.ref f32) = true)
    (a33 : PySem.W.nsIn K mainGlobals "_law_minus" = some (some (.ref f33))) (l33 : K.lookup f33 = some ⟨oc33, od33, .func (PySem.W.fnOf "_law_minus" "_law_minus" (defArgs s__law_minus) (defBody s__law_minus) (defScope s__law_minus) .none kV33 dc33 pm33 an33 cd33 ct33), sl33⟩) (c33 : PySem.W.codeIn K cd33 "_law_minus" = true) (k33 : PySem.W.keepIn K (.ref f33) = true)
    (a34 : PySem.W.nsIn K mainGlobals "_law_times" = some (some (.ref f34))) (l34 : K.lookup f34 = some ⟨oc34, od34, .func (PySem.W.fnOf "_law_times" "_law_times" (defArgs s__law_times) (defBody s__law_times) (defScope s__law_times) .none kV34 dc34 pm34 an34 cd34 ct34), sl34⟩) (c34 : PySem.W.codeIn K cd34 "_law_times" = true) (k34 : PySem.W.keepIn K (.ref f34) = true)
    (a35 : PySem.W.nsIn K mainGlobals "_law_below" = some (some (.ref f35))) (l35 : K.lookup f35 = some ⟨oc35, od35, .func (PySem.W.fnOf "_law_below" "_law_below" (defArgs s__law_below) (defBody s__law_below) (defScope s__law_below) .none kV35 dc35 pm35 an35 cd35 ct35), sl35⟩) (c35 : PySem.W.codeIn K cd35 "_law_below" = true) (k35 : PySem.W.keepIn K (.ref f35) = true)
    (a36 : PySem.W.nsIn K mainGlobals "_law_number" = some (some (.ref f36))) (l36 : K.lookup f36 = some ⟨oc36, od36, .func (PySem.W.fnOf "_law_number" "_law_number" (defArgs s__law_number) (defBody s__law_number) (defScope s__law_number) .none kV36 dc36 pm36 an36 cd36 ct36), sl36⟩) (c36 : PySem.W.codeIn K cd36 "_law_number" = true) (k36 : PySem.W.keepIn K (.ref f36) = true)
    (a37 : PySem.W.nsIn K mainGlobals "_law_above" = some (some (.ref f37))) (l37 : K.lookup f37 = some ⟨oc37, od37, .func (PySem.W.fnOf "_law_above" "_law_above" (defArgs s__law_above) (defBody s__law_above) (defScope s__law_above) .none kV37 dc37 pm37 an37 cd37 ct37), sl37⟩) (c37 : PySem.W.codeIn K cd37 "_law_above" = true) (k37 : PySem.W.keepIn K (.ref f37) = true)
    (a38 : PySem.W.nsIn K mainGlobals "_law_call" = some (some (.ref f38))) (l38 : K.lookup f38 = some ⟨oc38, od38, .func (PySem.W.fnOf "_law_call" "_law_call" (defArgs s__law_call) (defBody s__law_call) (defScope s__law_call) .none kV38 dc38 pm38 an38 cd38 ct38), sl38⟩) (c38 : PySem.W.codeIn K cd38 "_law_call" = true) (k38 : PySem.W.keepIn K (.ref f38) = true)
    (a39 : PySem.W.nsIn K mainGlobals "_law_tried" = some (some (.ref f39))) (l39 : K.lookup f39 = some ⟨oc39, od39, .func (PySem.W.fnOf "_law_tried" "_law_tried" (defArgs s__law_tried) (defBody s__law_tried) (defScope s__law_tried) .none kV39 dc39 pm39 an39 cd39 ct39), sl39⟩) (c39 : PySem.W.codeIn K cd39 "_law_tried" = true) (k39 : PySem.W.keepIn K (.ref f39) = true)
    (a40 : PySem.W.nsIn K mainGlobals "_law_none" = some (some (.ref f40))) (l40 : K.lookup f40 = some ⟨oc40, od40, .func (PySem.W.fnOf "_law_none" "_law_none" (defArgs s__law_none) (defBody s__law_none) (defScope s__law_none) .none kV40 dc40 pm40 an40 cd40 ct40), sl40⟩) (c40 : PySem.W.codeIn K cd40 "_law_none" = true) (k40 : PySem.W.keepIn K (.ref f40) = true)
    (a41 : PySem.W.nsIn K mainGlobals "_law_roots_right" = some (some (.ref f41))) (l41 : K.lookup f41 = some ⟨oc41, od41, .func (PySem.W.fnOf "_law_roots_right" "_law_roots_right" (defArgs s__law_roots_right) (defBody s__law_roots_right) (defScope s__law_roots_right) .none kV41 dc41 pm41 an41 cd41 ct41), sl41⟩) (c41 : PySem.W.codeIn K cd41 "_law_roots_right" = true) (k41 : PySem.W.keepIn K (.ref f41) = true)
    (a42 : PySem.W.nsIn K mainGlobals "law" = some (some (.ref f42))) (l42 : K.lookup f42 = some ⟨oc42, od42, .func (PySem.W.fnOf "law" "law" (defArgs s_law) (defBody s_law) (defScope s_law) .none kV42 dc42 pm42 an42 cd42 ct42), sl42⟩) (c42 : PySem.W.codeIn K cd42 "law" = true) (k42 : PySem.W.keepIn K (.ref f42) = true)
    (z_len : PySem.W.nsIn K mainGlobals "len" = some none)
    (z_abs : PySem.W.nsIn K mainGlobals "abs" = some none)
    (z_isinstance : PySem.W.nsIn K mainGlobals "isinstance" = some none)
    (z_all : PySem.W.nsIn K mainGlobals "all" = some none)
    (z_max : PySem.W.nsIn K mainGlobals "max" = some none)
    (z_range : PySem.W.nsIn K mainGlobals "range" = some none)
    (z_type : PySem.W.nsIn K mainGlobals "type" = some none)
    (z_int : PySem.W.nsIn K mainGlobals "int" = some none)
    (z_bool : PySem.W.nsIn K mainGlobals "bool" = some none)
    (z_str : PySem.W.nsIn K mainGlobals "str" = some none)
    (z_tuple : PySem.W.nsIn K mainGlobals "tuple" = some none)
    (z_list : PySem.W.nsIn K mainGlobals "list" = some none)
    (z_gcd : PySem.W.nsIn K mainGlobals "gcd" = some (some (.builtin "math.gcd")))
    (z_isqrt : PySem.W.nsIn K mainGlobals "isqrt" = some (some (.builtin "math.isqrt")))
    (zc : PySem.W.nsIn K mainGlobals "NOUGHT" = some (some (.ref t))) (zl : K.lookup t = some ⟨.type "tuple", dd, .seq #[.int 0 u0, .int 1 u1] n, sl⟩)
    (zc_MOST_DIGITS : PySem.W.nsIn K mainGlobals "MOST_DIGITS" = some (some (.int 30 u_MOST_DIGITS)))
    (e_CourseError : PySem.W.nsIn K mainGlobals "CourseError" = some (some (.ref C_CourseError))) (t_CourseError : PySem.W.typeIn K (.ref C_CourseError) = some (.type "type"))
    (b_CourseError : PySem.W.subIn K (.ref C_CourseError) (.type "BaseException") = some true)
    (i_CourseError : PySem.W.isClsIn K C_CourseError = true)
    (e_InvalidCount : PySem.W.nsIn K mainGlobals "InvalidCount" = some (some (.ref C_InvalidCount))) (t_InvalidCount : PySem.W.typeIn K (.ref C_InvalidCount) = some (.type "type"))
    (b_InvalidCount : PySem.W.subIn K (.ref C_InvalidCount) (.type "BaseException") = some true)
    (q_InvalidCount : PySem.W.excIn K C_InvalidCount [.type "ValueError", .type "Exception", .type "BaseException", .type "object"] "ValueError.__new__" = true) (k_InvalidCount : PySem.W.keepIn K (.ref C_InvalidCount) = true)
    (i_InvalidCount : PySem.W.isClsIn K C_InvalidCount = true)
    (e_InvalidFraction : PySem.W.nsIn K mainGlobals "InvalidFraction" = some (some (.ref C_InvalidFraction))) (t_InvalidFraction : PySem.W.typeIn K (.ref C_InvalidFraction) = some (.type "type"))
    (b_InvalidFraction : PySem.W.subIn K (.ref C_InvalidFraction) (.type "BaseException") = some true)
    (q_InvalidFraction : PySem.W.excIn K C_InvalidFraction [.type "ValueError", .type "Exception", .type "BaseException", .type "object"] "ValueError.__new__" = true) (k_InvalidFraction : PySem.W.keepIn K (.ref C_InvalidFraction) = true)
    (i_InvalidFraction : PySem.W.isClsIn K C_InvalidFraction = true)
    (s_InvalidCount_CourseError : PySem.W.subIn K (.ref C_InvalidCount) (.ref C_CourseError) = some true)
    (s_InvalidCount_InvalidCount : PySem.W.subIn K (.ref C_InvalidCount) (.ref C_InvalidCount) = some true)
    (s_InvalidCount_InvalidFraction : PySem.W.subIn K (.ref C_InvalidCount) (.ref C_InvalidFraction) = some false)
    (s_InvalidFraction_CourseError : PySem.W.subIn K (.ref C_InvalidFraction) (.ref C_CourseError) = some true)
    (s_InvalidFraction_InvalidCount : PySem.W.subIn K (.ref C_InvalidFraction) (.ref C_InvalidCount) = some false)
    (s_InvalidFraction_InvalidFraction : PySem.W.subIn K (.ref C_InvalidFraction) (.ref C_InvalidFraction) = some true) :
    ∃ fd : FuncData, (∀ (s : Shared) (v : Value), BindsTo s fd ⟨[v], []⟩ [("script", v)]) ∧ ∀ base : Heap, K.In base → base.Ns mainGlobals mg → FnOk l.prog w K mg base (L2.CX l.prog w) 8 fa fd ["script"] (spLaw K) := by
  have T : Tx K mg := { c_NOUGHT := nought_mk X G zc zl, c_MOST_DIGITS := ⟨.int 30, .int 30 u_MOST_DIGITS, PySem.W.mg_of X G zc_MOST_DIGITS, ⟨u_MOST_DIGITS, rfl⟩, fun B => .int 30⟩, n_CourseError := ⟨by rw [clsV_of e_CourseError]; exact e_CourseError, by rw [clsV_of e_CourseError]; exact PySem.W.mg_of X G e_CourseError⟩, x_InvalidCount := exc_mk X G e_InvalidCount t_InvalidCount q_InvalidCount k_InvalidCount b_InvalidCount, n_InvalidCount := ⟨by rw [clsV_of e_InvalidCount]; exact e_InvalidCount, by rw [clsV_of e_InvalidCount]; exact PySem.W.mg_of X G e_InvalidCount⟩, x_InvalidFraction := exc_mk X G e_InvalidFraction t_InvalidFraction q_InvalidFraction k_InvalidFraction b_InvalidFraction, n_InvalidFraction := ⟨by rw [clsV_of e_InvalidFraction]; exact e_InvalidFraction, by rw [clsV_of e_InvalidFraction]; exact PySem.W.mg_of X G e_InvalidFraction⟩, sub := ⟨fun {x c b} h => sub_cases (G := fun x c b => PySem.W.exmOne K (clsV K x) (clsV K c) = some b) (exm_cl e_InvalidCount e_CourseError (exm_of b_CourseError i_CourseError t_CourseError s_InvalidCount_CourseError)) (exm_cl e_InvalidCount e_InvalidCount (exm_of b_InvalidCount i_InvalidCount t_InvalidCount s_InvalidCount_InvalidCount)) (exm_cl e_InvalidCount e_InvalidFraction (exm_of b_InvalidFraction i_InvalidFraction t_InvalidFraction s_InvalidCount_InvalidFraction)) (exm_cl e_InvalidFraction e_CourseError (exm_of b_CourseError i_CourseError t_CourseError s_InvalidFraction_CourseError)) (exm_cl e_InvalidFraction e_InvalidCount (exm_of b_InvalidCount i_InvalidCount t_InvalidCount s_InvalidFraction_InvalidCount)) (exm_cl e_InvalidFraction e_InvalidFraction (exm_of b_InvalidFraction i_InvalidFraction t_InvalidFraction s_InvalidFraction_InvalidFraction)) h⟩, len := PySem.W.mg_none_of X G z_len, abs := PySem.W.mg_none_of X G z_abs, isinstance := PySem.W.mg_none_of X G z_isinstance, all := PySem.W.mg_none_of X G z_all, max := PySem.W.mg_none_of X G z_max, range := PySem.W.mg_none_of X G z_range, type := PySem.W.mg_none_of X G z_type, int := PySem.W.mg_none_of X G z_int, bool := PySem.W.mg_none_of X G z_bool, str := PySem.W.mg_none_of X G z_str, tuple := PySem.W.mg_none_of X G z_tuple, list := PySem.W.mg_none_of X G z_list, gcd := PySem.W.mg_of X G z_gcd, isqrt := PySem.W.mg_of X G z_isqrt }
  obtain ⟨fd, b, q⟩ := law_all (P := l.prog) (w := w) T (md_mk X G a0 l0 c0 k0) (md_mk X G a1 l1 c1 k1) (md_mk X G a2 l2 c2 k2) (md_mk X G a3 l3 c3 k3) (md_mk X G a4 l4 c4 k4) (md_mk X G a5 l5 c5 k5) (md_mk X G a6 l6 c6 k6) (md_mk X G a7 l7 c7 k7) (md_mk X G a8 l8 c8 k8) (md_mk X G a9 l9 c9 k9) (md_mk X G a10 l10 c10 k10) (md_mk X G a11 l11 c11 k11) (md_mk X G a12 l12 c12 k12) (md_mk X G a13 l13 c13 k13) (md_mk X G a14 l14 c14 k14) (md_mk X G a15 l15 c15 k15) (md_mk X G a16 l16 c16 k16) (md_mk X G a17 l17 c17 k17) (md_mk X G a18 l18 c18 k18) (md_mk X G a19 l19 c19 k19) (md_mk X G a20 l20 c20 k20) (md_mk X G a21 l21 c21 k21) (md_mk X G a22 l22 c22 k22) (md_mk X G a23 l23 c23 k23) (md_mk X G a24 l24 c24 k24) (md_mk X G a25 l25 c25 k25) (md_mk X G a26 l26 c26 k26) (md_mk X G a27 l27 c27 k27) (md_mk X G a28 l28 c28 k28) (md_mk X G a29 l29 c29 k29) (md_mk X G a30 l30 c30 k30) (md_mk X G a31 l31 c31 k31) (md_mk X G a32 l32 c32 k32) (md_mk X G a33 l33 c33 k33) (md_mk X G a34 l34 c34 k34) (md_mk X G a35 l35 c35 k35) (md_mk X G a36 l36 c36 k36) (md_mk X G a37 l37 c37 k37) (md_mk X G a38 l38 c38 k38) (md_mk X G a39 l39 c39 k39) (md_mk X G a40 l40 c40 k40) (md_mk X G a41 l41 c41 k41) (md_mk X G a42 l42 c42 k42)
  exact ⟨fd, b, fun base _ _ => q base fa hfa⟩
theorem walk {l : PySem.W.OpenLaw} {q : Program} {loose : List Str} {XP : (Str → Option Value) → Heap → Prop} {YP : World → Heap → Prop} {d : DefRec} {K : Params → PySem.W.Frag} (hn : l.most = some 63) (hdf : d.params.defaults = [])
    (hY : ∀ (w : World) (h : Heap), YP w h → (K w.params).In h)
    (F : ∀ (w : World) (mg : Str → Option Value) (fa : Addr) (h : Heap), (K w.params).In h → h.Ns mainGlobals mg → mg d.name = some (.ref fa) →
      ∃ fd : FuncData, (∀ (s : Shared) (u : Value), BindsTo s fd ⟨[u], []⟩ [("script", u)]) ∧ ∀ base : Heap, (K w.params).In base → base.Ns mainGlobals mg → FnOk l.prog w (K w.params) mg base (L2.CX l.prog w) 8 fa fd ["script"] (spLaw (K w.params))) :
    PySem.W.WalkO q loose XP YP l.row.toRowW d [] (fun f vs => PySem.call f vs) :=
  L2.walk_of (n := 63) (k := 8) (x := "script") (CX := fun w => L2.CX l.prog w) (sp := fun w => spLaw (K w.params)) hn (by decide) hdf ⟨rfl, by decide, by decide⟩ hY F (fun _ _ a ns hl _ hS => ⟨a, ns, rfl, hS, hl, fun _ => rfl⟩) fun _ _ _ _ _ z => by
    obtain ⟨_, _, _, _, _, _, _, _, _, _, _, _, h⟩ := z
    exact h
end K01
open PySem PySem.W PyProof.Rows
set_option maxRecDepth 100000 in
set_option maxHeartbeats 0 in
theorem PySem.Challenge.cw_fastestalong_k04_roots_and_refusals_of_f_holds : PySem.Challenge.rw_fastestalong_k04_roots_and_refusals_of_f.Holds := by
  w_on; o_law; k_head; (case hw => w_witness2)
  k_fill
  refine K01.walk (l := PySem.Challenge.rw_fastestalong_k04_roots_and_refusals_of_f) rfl rfl (fun w h Y => PySem.W.kIn_of Y) ?F
  case F =>
    intro w mg fa h KX G hmg
    refine' K01.all_mk KX G hmg ?a0 ?l0 ?c0 ?k0 ?a1 ?l1 ?c1 ?k1 ?a2 ?l2 ?c2 ?k2 ?a3 ?l3 ?c3 ?k3 ?a4 ?l4 ?c4 ?k4 ?a5 ?l5 ?c5 ?k5 ?a6 ?l6 ?c6 ?k6 ?a7 ?l7 ?c7 ?k7 ?a8 ?l8 ?c8 ?k8 ?a9 ?l9 ?c9 ?k9 ?a10 ?l10 ?c10 ?k10 ?a11 ?l11 ?c11 ?k11 ?a12 ?l12 ?c12 ?k12 ?a13 ?l13 ?c13 ?k13 ?a14 ?l14 ?c14 ?k14 ?a15 ?l15 ?c15 ?k15 ?a16 ?l16 ?c16 ?k16 ?a17 ?l17 ?c17 ?k17 ?a18 ?l18 ?c18 ?k18 ?a19 ?l19 ?c19 ?k19 ?a20 ?l20 ?c20 ?k20 ?a21 ?l21 ?c21 ?k21 ?a22 ?l22 ?c22 ?k22 ?a23 ?l23 ?c23 ?k23 ?a24 ?l24 ?c24 ?k24 ?a25 ?l25 ?c25 ?k25 ?a26 ?l26 ?c26 ?k26 ?a27 ?l27 ?c27 ?k27 ?a28 ?l28 ?c28 ?k28 ?a29 ?l29 ?c29 ?k29 ?a30 ?l30 ?c30 ?k30 ?a31 ?l31 ?c31 ?k31 ?a32 ?l32 ?c32 ?k32 ?a33 ?l33 ?c33 ?k33 ?a34 ?l34 ?c34 ?k34 ?a35 ?l35 ?c35 ?k35 ?a36 ?l36 ?c36 ?k36 ?a37 ?l37 ?c37 ?k37 ?a38 ?l38 ?c38 ?k38 ?a39 ?l39 ?c39 ?k39 ?a40 ?l40 ?c40 ?k40 ?a41 ?l41 ?c41 ?k41 ?a42 ?l42 ?c42 ?k42 ?z_len ?z_abs ?z_isinstance ?z_all ?z_max ?z_range ?z_type ?z_int ?z_bool ?z_str ?z_tuple ?z_list ?z_gcd ?z_isqrt ?zc ?zl ?zc_MOST_DIGITS ?e_CourseError ?t_CourseError ?b_CourseError ?i_CourseError ?e_InvalidCount ?t_InvalidCount ?b_InvalidCount ?q_InvalidCount ?k_InvalidCount ?i_InvalidCount ?e_InvalidFraction ?t_InvalidFraction ?b_InvalidFraction ?q_InvalidFraction ?k_InvalidFraction ?i_InvalidFraction ?s_InvalidCount_CourseError ?s_InvalidCount_InvalidCount ?s_InvalidCount_InvalidFraction ?s_InvalidFraction_CourseError ?s_InvalidFraction_InvalidCount ?s_InvalidFraction_InvalidFraction
    (case a0 => k_is); (case l0 => k_is); (case c0 => k_is); (case k0 => k_is)
    (case a1 => k_is); (case l1 => k_is); (case c1 => k_is); (case k1 => k_is)
    (case a2 => k_is); (case l2 => k_is); (case c2 => k_is); (case k2 => k_is)
    (case a3 => k_is); (case l3 => k_is); (case c3 => k_is); (case k3 => k_is)
    (case a4 => k_is); (case l4 => k_is); (case c4 => k_is); (case k4 => k_is)
    (case a5 => k_is); (case l5 => k_is); (case c5 => k_is); (case k5 => k_is)
    (case a6 => k_is); (case l6 => k_is); (case c6 => k_is); (case k6 => k_is)
    (case a7 => k_is); (case l7 => k_is); (case c7 => k_is); (case k7 => k_is)
    (case a8 => k_is); (case l8 => k_is); (case c8 => k_is); (case k8 => k_is)
    (case a9 => k_is); (case l9 => k_is); (case c9 => k_is); (case k9 => k_is)
    (case a10 => k_is); (case l10 => k_is); (case c10 => k_is); (case k10 => k_is)
    (case a11 => k_is); (case l11 => k_is); (case c11 => k_is); (case k11 => k_is)
    (case a12 => k_is); (case l12 => k_is); (case c12 => k_is); (case k12 => k_is)
    (case a13 => k_is); (case l13 => k_is); (case c13 => k_is); (case k13 => k_is)
    (case a14 => k_is); (case l14 => k_is); (case c14 => k_is); (case k14 => k_is)
    (case a15 => k_is); (case l15 => k_is); (case c15 => k_is); (case k15 => k_is)
    (case a16 => k_is); (case l16 => k_is); (case c16 => k_is); (case k16 => k_is)
    (case a17 => k_is); (case l17 => k_is); (case c17 => k_is); (case k17 => k_is)
    (case a18 => k_is); (case l18 => k_is); (case c18 => k_is); (case k18 => k_is)
    (case a19 => k_is); (case l19 => k_is); (case c19 => k_is); (case k19 => k_is)
    (case a20 => k_is); (case l20 => k_is); (case c20 => k_is); (case k20 => k_is)
    (case a21 => k_is); (case l21 => k_is); (case c21 => k_is); (case k21 => k_is)
    (case a22 => k_is); (case l22 => k_is); (case c22 => k_is); (case k22 => k_is)
    (case a23 => k_is); (case l23 => k_is); (case c23 => k_is); (case k23 => k_is)
    (case a24 => k_is); (case l24 => k_is); (case c24 => k_is); (case k24 => k_is)
    (case a25 => k_is); (case l25 => k_is); (case c25 => k_is); (case k25 => k_is)
    (case a26 => k_is); (case l26 => k_is); (case c26 => k_is); (case k26 => k_is)
    (case a27 => k_is); (case l27 => k_is); (case c27 => k_is); (case k27 => k_is)
    (case a28 => k_is); (case l28 => k_is); (case c28 => k_is); (case k28 => k_is)
    (case a29 => k_is); (case l29 => k_is); (case c29 => k_is); (case k29 => k_is)
    (case a30 => k_is); (case l30 => k_is); (case c30 => k_is); (case k30 => k_is)
    (case a31 => k_is); (case l31 => k_is); (case c31 => k_is); (case k31 => k_is)
    (case a32 => k_is); (case l32 => k_is); (case c32 => k_is); (case k32 => k_is)
    (case a33 => k_is); (case l33 => k_is); (case c33 => k_is); (case k33 => k_is)
    (case a34 => k_is); (case l34 => k_is); (case c34 => k_is); (case k34 => k_is)
    (case a35 => k_is); (case l35 => k_is); (case c35 => k_is); (case k35 => k_is)
    (case a36 => k_is); (case l36 => k_is); (case c36 => k_is); (case k36 => k_is)
    (case a37 => k_is); (case l37 => k_is); (case c37 => k_is); (case k37 => k_is)
    (case a38 => k_is); (case l38 => k_is); (case c38 => k_is); (case k38 => k_is)
    (case a39 => k_is); (case l39 => k_is); (case c39 => k_is); (case k39 => k_is)
    (case a40 => k_is); (case l40 => k_is); (case c40 => k_is); (case k40 => k_is)
    (case a41 => k_is); (case l41 => k_is); (case c41 => k_is); (case k41 => k_is)
    (case a42 => k_is); (case l42 => k_is); (case c42 => k_is); (case k42 => k_is)
    (case z_len => first | k_is | rfl)
    (case z_abs => first | k_is | rfl)
    (case z_isinstance => first | k_is | rfl)
    (case z_all => first | k_is | rfl)
    (case z_max => first | k_is | rfl)
    (case z_range => first | k_is | rfl)
    (case z_type => first | k_is | rfl)
    (case z_int => first | k_is | rfl)
    (case z_bool => first | k_is | rfl)
    (case z_str => first | k_is | rfl)
    (case z_tuple => first | k_is | rfl)
    (case z_list => first | k_is | rfl)
    (case z_gcd => first | k_is | rfl)
    (case z_isqrt => first | k_is | rfl)
    (case zc => first | k_is | rfl)
    (case zl => first | k_is | rfl)
    (case zc_MOST_DIGITS => first | k_is | rfl)
    (case e_CourseError => first | k_is | rfl)
    (case t_CourseError => first | k_is | rfl)
    (case b_CourseError => first | k_is | rfl)
    (case i_CourseError => first | k_is | rfl)
    (case e_InvalidCount => first | k_is | rfl)
    (case t_InvalidCount => first | k_is | rfl)
    (case b_InvalidCount => first | k_is | rfl)
    (case q_InvalidCount => k_exc)
    (case k_InvalidCount => first | k_is | rfl)
    (case i_InvalidCount => first | k_is | rfl)
    (case e_InvalidFraction => first | k_is | rfl)
    (case t_InvalidFraction => first | k_is | rfl)
    (case b_InvalidFraction => first | k_is | rfl)
    (case q_InvalidFraction => k_exc)
    (case k_InvalidFraction => first | k_is | rfl)
    (case i_InvalidFraction => first | k_is | rfl)
    (case s_InvalidCount_CourseError => first | k_is | rfl)
    (case s_InvalidCount_InvalidCount => first | k_is | rfl)
    (case s_InvalidCount_InvalidFraction => first | k_is | rfl)
    (case s_InvalidFraction_CourseError => first | k_is | rfl)
    (case s_InvalidFraction_InvalidCount => first | k_is | rfl)
    (case s_InvalidFraction_InvalidFraction => first | k_is | rfl)

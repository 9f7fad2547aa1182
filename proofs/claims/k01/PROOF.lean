import PyProof.Rows.All
import Wide.All
import OpenK.AllK
import Wide.FinOn
import PySem.Challenge.RW_underwraps_k01_whole_books_made
import HandS.ForMost
import HandS.ForExc
import HandS.IsInst
import HandS.Zip
import HandS.Conv
import HandS.More
import HandS.ExcInit
import HandS.TryMany
import HandS.SortOrd
import KE.KSortTupAny
import HandS.Strs
import HandS.WrittenGet
import HandS.DictComp
import HandS.OwnEq
import HandS.Exc
import HandS.EndTab
import HandS.Lambda
import HandS.Style
import HandS.Defaults
import HandS.MakeKwOnly
import PyProof.ReprRoads
import PyProof.ReprLen
import HandS.ListItems
import HandS.Deep
import HandS.ExcField
import HandS.HeadEnd
import HandS.Head2
import HandS.HeadHook4
import Wide.Once
import KE.KNestM
set_option Elab.async false
section
set_option Elab.async false
set_option linter.all false
set_option maxRecDepth 100000
/-! Uw: readings over trees. S: what stays for ever (a part of the heap H); what is tracked in H alone may change. -/
namespace Uw
open PySem PySem.Spec PyProof.Rows L2

theorem fresh_back {H H' : Hp} {p : Addr} (e : Same H H') (h : H' p = none) : H p = none := e.free h
theorem Same.new {H : Hp} {p : Addr} {o : HO} (h : H p = none) : Same H (upd H p o) := fun a u e => by
  rw [upd_ne (ne_of_none e h)]
  exact e

/-- from (S, H) to (S', H'): nothing that was tracked changes, what is stable stays so, what becomes stable is new, or a tuple -/
structure Grow (S H S' H' : Hp) : Prop where
  h : Same H H'
  s : Same S S'
  sub : Same S' H'
  new : ∀ p o, S' p = some o → S p = some o ∨ H p = none ∨ ∃ vs, o = .tup vs
theorem Grow.refl {S H : Hp} (e : Same S H) : Grow S H S H := ⟨Same.refl _, Same.refl _, e, fun _ _ h => .inl h⟩
theorem Grow.trans {S H S1 H1 S2 H2 : Hp} (a : Grow S H S1 H1) (b : Grow S1 H1 S2 H2) : Grow S H S2 H2 :=
  ⟨a.h.trans b.h, a.s.trans b.s, b.sub, fun p o h => by
    rcases b.new p o h with h | h | h
    · exact a.new p o h
    · exact .inr (.inl (a.h.free h))
    · exact .inr (.inr h)⟩
/-- a new object, stable from now on -/
theorem Grow.alloc {S H : Hp} {p : Addr} {o : HO} (e : Same S H) (h : H p = none) : Grow S H (upd S p o) (upd H p o) :=
  ⟨Same.new h, Same.new (e.free h), fun a u q => by
    by_cases ha : a = p
    · subst ha; rw [upd_same] at q ⊢; exact q
    · rw [upd_ne ha] at q ⊢; exact e a u q, fun a u q => by
    by_cases ha : a = p
    · subst ha; exact .inr (.inl h)
    · rw [upd_ne ha] at q; exact .inl q⟩
/-- a new object that may change -/
theorem Grow.vol {S H : Hp} {p : Addr} {o : HO} (e : Same S H) (h : H p = none) : Grow S H S (upd H p o) :=
  ⟨Same.new h, Same.refl _, e.trans (Same.new h), fun a u q => .inl q⟩
/-- what was new once may change -/
theorem Grow.mut {S0 H0 S H : Hp} {p : Addr} {o : HO} (g : Grow S0 H0 S H) (h0 : H0 p = none) (hs : S p = none) : Grow S0 H0 S (upd H p o) :=
  ⟨fun a u q => by rw [upd_ne (ne_of_none q h0)]; exact g.h a u q, g.s, fun a u q => by rw [upd_ne (ne_of_none q hs)]; exact g.sub a u q, g.new⟩
/-- what was new once stands still from now on -/
theorem Grow.freeze {S0 H0 S H : Hp} {p : Addr} {o : HO} (g : Grow S0 H0 S H) (h0 : H0 p = none) (hs : S p = none) (hp : H p = some o) : Grow S0 H0 (upd S p o) H :=
  ⟨g.h, g.s.trans (Same.new hs), fun a u q => by
    by_cases ha : a = p
    · subst ha; rw [upd_same] at q; cases q; exact hp
    · rw [upd_ne ha] at q; exact g.sub a u q, fun a u q => by
    by_cases ha : a = p
    · subst ha; exact .inr (.inl h0)
    · rw [upd_ne ha] at q; exact g.new a u q⟩

/-- data: flat values, lists, tuples, dicts by texts and ints -/
inductive T where
  | a (v : V)
  | l (xs : List T)
  | t (xs : List T)
  | d (kvs : List (Key × T))

mutual
inductive Rep (K : PySem.W.Frag) (S : Hp) : V → T → Prop
  | a {v : V} : flatV v = true → Rep K S v (.a v)
  | l {p : Addr} {vs : List V} {ts : List T} : S p = some (.lst vs) → Reps K S vs ts → Rep K S (.ref p) (.l ts)
  | t {p : Addr} {vs : List V} {ts : List T} : S p = some (.tup vs) → Reps K S vs ts → Rep K S (.ref p) (.t ts)
  | d {p : Addr} {kvs : List (Key × V)} {ts : List (Key × T)} : S p = some (.dK kvs) → Repk K S kvs ts → Rep K S (.ref p) (.d ts)
inductive Reps (K : PySem.W.Frag) (S : Hp) : List V → List T → Prop
  | nil : Reps K S [] []
  | cons {v : V} {t : T} {vs : List V} {ts : List T} : Rep K S v t → Reps K S vs ts → Reps K S (v :: vs) (t :: ts)
inductive Repk (K : PySem.W.Frag) (S : Hp) : List (Key × V) → List (Key × T) → Prop
  | nil : Repk K S [] []
  | cons {k : Key} {v : V} {t : T} {vs : List (Key × V)} {ts : List (Key × T)} : Rep K S v t → Repk K S vs ts → Repk K S ((k, v) :: vs) ((k, t) :: ts)
end

section
variable {K : PySem.W.Frag} {S S' H H' : Hp}
theorem sqT_same {a : Addr} {xs : List V} (e : Same H H') (h : SqT K H a xs) : SqT K H' a xs := by
  rcases h with (h | ⟨o, h⟩) | h
  · exact .inl (.inl (e _ _ h))
  · exact .inl (.inr ⟨o, e _ _ h⟩)
  · exact .inr h
theorem rd_same {a : Addr} {u : HO} (e : Same H H') (h : Rd H a u) : Rd H' a u := by
  rcases h with h | ⟨o, h⟩
  · exact .inl (e _ _ h)
  · exact .inr ⟨o, e _ _ h⟩
theorem sqL {p : Addr} {vs : List V} (e : Same S H) (h : S p = some (.lst vs)) : SqL K H p vs := .inl (.inl (e _ _ h))
theorem sqT {p : Addr} {vs : List V} (e : Same S H) (h : S p = some (.tup vs)) : SqT K H p vs := .inl (.inl (e _ _ h))
mutual
theorem Rep.same {v : V} {t : T} (e : Same S S') : Rep K S v t → Rep K S' v t
  | .a h => .a h
  | .l h r => .l (e _ _ h) (Reps.same e r)
  | .t h r => .t (e _ _ h) (Reps.same e r)
  | .d h r => .d (e _ _ h) (Repk.same e r)
theorem Reps.same {vs : List V} {ts : List T} (e : Same S S') : Reps K S vs ts → Reps K S' vs ts
  | .nil => .nil
  | .cons r q => .cons (Rep.same e r) (Reps.same e q)
theorem Repk.same {vs : List (Key × V)} {ts : List (Key × T)} (e : Same S S') : Repk K S vs ts → Repk K S' vs ts
  | .nil => .nil
  | .cons r q => .cons (Rep.same e r) (Repk.same e q)
end
theorem Reps.length : ∀ {vs : List V} {ts : List T}, Reps K S vs ts → vs.length = ts.length
  | _, _, .nil => rfl
  | _, _, .cons _ q => congrArg (· + 1) (Reps.length q)
theorem Reps.get : ∀ {vs : List V} {ts : List T} {i : Nat} {t : T}, Reps K S vs ts → ts[i]? = some t → ∃ v, vs[i]? = some v ∧ Rep K S v t
  | _, _, i, t, .nil, e => by simp at e
  | _, _, 0, t, .cons r _, e => by
    have e : _ = t := Option.some.inj e
    subst e
    exact ⟨_, rfl, r⟩
  | _, _, i + 1, t, .cons _ q, e => Reps.get (i := i) q e
theorem Reps.get' : ∀ {vs : List V} {ts : List T} {i : Nat} {v : V}, Reps K S vs ts → vs[i]? = some v → ∃ t, ts[i]? = some t ∧ Rep K S v t
  | _, _, i, t, .nil, e => by simp at e
  | _, _, 0, t, .cons r _, e => by
    have e : _ = t := Option.some.inj e
    subst e
    exact ⟨_, rfl, r⟩
  | _, _, i + 1, t, .cons _ q, e => Reps.get' (i := i) q e
theorem Reps.append : ∀ {vs ws : List V} {ts us : List T}, Reps K S vs ts → Reps K S ws us → Reps K S (vs ++ ws) (ts ++ us)
  | _, _, _, _, .nil, q => q
  | _, _, _, _, .cons r p, q => .cons r (Reps.append p q)
theorem Reps.one {v : V} {t : T} (r : Rep K S v t) : Reps K S [v] [t] := .cons r .nil
theorem Reps.drop : ∀ {vs : List V} {ts : List T} (n : Nat), Reps K S vs ts → Reps K S (vs.drop n) (ts.drop n)
  | _, _, 0, r => r
  | _, _, _ + 1, .nil => .nil
  | _, _, n + 1, .cons _ q => Reps.drop n q
theorem Reps.take : ∀ {vs : List V} {ts : List T} (n : Nat), Reps K S vs ts → Reps K S (vs.take n) (ts.take n)
  | _, _, 0, _ => .nil
  | _, _, _ + 1, .nil => .nil
  | _, _, n + 1, .cons r q => .cons r (Reps.take n q)
theorem Reps.erase : ∀ {vs : List V} {ts : List T} (n : Nat), Reps K S vs ts → Reps K S (vs.eraseIdx n) (ts.eraseIdx n)
  | _, _, _, .nil => .nil
  | _, _, 0, .cons _ q => q
  | _, _, n + 1, .cons r q => .cons r (Reps.erase n q)
theorem Reps.rev {vs : List V} {ts : List T} (r : Reps K S vs ts) : Reps K S vs.reverse ts.reverse := by
  induction vs generalizing ts with
  | nil => cases r; exact .nil
  | cons v vs ih =>
    cases r with
    | cons h q =>
      rw [List.reverse_cons, List.reverse_cons]
      exact (ih q).append (.one h)
/-- a flat tree's value -/
theorem Rep.flat {v w : V} (r : Rep K S v (.a w)) : v = w ∧ flatV v = true := by cases r with | a h => exact ⟨rfl, h⟩
theorem Reps.flat : ∀ {vs ws : List V}, Reps K S vs (ws.map T.a) → vs = ws ∧ ws.all flatV = true
  | [], [], _ => ⟨rfl, rfl⟩
  | _ :: _, [], r => nomatch r
  | [], _ :: _, r => nomatch r
  | v :: vs, w :: ws, .cons r q => by
    obtain ⟨rfl, h⟩ := r.flat
    obtain ⟨rfl, h2⟩ := Reps.flat q
    exact ⟨rfl, by rw [List.all_cons, h, h2]; rfl⟩
theorem Reps.of_flat : ∀ {vs : List V}, vs.all flatV = true → Reps K S vs (vs.map T.a)
  | [], _ => .nil
  | v :: vs, h => by
    rw [List.all_cons, Bool.and_eq_true] at h
    exact .cons (.a h.1) (Reps.of_flat h.2)
end

/-- what is said of a value, and stays so -/
structure Pd where
  P : Hp → V → Prop
  mo : ∀ {S S' v}, Same S S' → P S v → P S' v
def R (K : PySem.W.Frag) (t : T) : Pd := ⟨fun S v => Rep K S v t, fun e h => h.same e⟩
def Is (v : V) : Pd := ⟨fun _ x => x = v, fun _ h => h⟩
def Int' (i : Int) : Pd := Is (.int i)

/-- what a term comes to, wherever things stand behind (S, H) -/
def Ev (te : TE) (σ : L2.St) (S H : Hp) (P : Pd) : Prop := ∀ S1 H1, Grow S H S1 H1 → ∀ Q : VK, (∀ v S2 H2, Grow S1 H1 S2 H2 → P.P S2 v → Q v H2) → te σ H1 Q
def EvT (tt : TT) (σ : L2.St) (S H : Hp) (b : Bool) : Prop := ∀ S1 H1, Grow S H S1 H1 → ∀ Q : Bool → Hp → Prop, (∀ S2 H2, Grow S1 H1 S2 H2 → Q b H2) → tt σ H1 Q
inductive All2 : Hp → List Pd → List V → Prop
  | nil {S} : All2 S [] []
  | cons {S P Ps v vs} : P.P S v → All2 S Ps vs → All2 S (P :: Ps) (v :: vs)
theorem All2.same {S S' : Hp} (e : Same S S') : ∀ {Ps vs}, All2 S Ps vs → All2 S' Ps vs
  | _, _, .nil => .nil
  | _, _, .cons (P := P) h q => .cons (P.mo e h) (All2.same e q)
def EvA (ta : TA) (σ : L2.St) (S H : Hp) (Ps : List Pd) : Prop := ∀ S1 H1, Grow S H S1 H1 → ∀ Q : List V → Hp → Prop, (∀ vs S2 H2, Grow S1 H1 S2 H2 → All2 S2 Ps vs → Q vs H2) → ta σ H1 Q
def EvO (to : TO) (σ : L2.St) (S H : Hp) (o : Option Int) : Prop := ∀ S1 H1, Grow S H S1 H1 → ∀ Q : Option Int → Hp → Prop, (∀ S2 H2, Grow S1 H1 S2 H2 → Q o H2) → to σ H1 Q
/-- an operation on values: from (S, H) -/
def Op (r : (Q : VK) → Prop) (S H : Hp) (P : Pd) : Prop := ∀ Q : VK, (∀ v S2 H2, Grow S H S2 H2 → P.P S2 v → Q v H2) → r Q

section
variable {K : PySem.W.Frag} {σ : L2.St} {S S' H H' : Hp} {ta tb tc te tx : TE} {t u : TT} {P P1 P2 P3 : Pd} {r r' : R2}
theorem Ev.go (g : Grow S H S' H') (h : Ev te σ S H P) : Ev te σ S' H' P := fun S1 H1 a Q q => h S1 H1 (g.trans a) Q q
theorem EvT.go {b : Bool} (g : Grow S H S' H') (h : EvT t σ S H b) : EvT t σ S' H' b := fun S1 H1 a Q q => h S1 H1 (g.trans a) Q q
theorem Ev.imp (h : Ev te σ S H P) (i : ∀ S v, P.P S v → P1.P S v) : Ev te σ S H P1 := fun S1 H1 a Q q => h S1 H1 a Q fun v S2 H2 g p => q v S2 H2 g (i _ _ p)
theorem EvT.is {a b : Bool} (h : EvT t σ S H a) (e : a = b) : EvT t σ S H b := e ▸ h
/-- used where things stand -/
theorem Ev.at (h : Ev te σ S H P) (e : Same S H) {Q : VK} (q : ∀ v S2 H2, Grow S H S2 H2 → P.P S2 v → Q v H2) : te σ H Q := h S H (.refl e) Q q
theorem EvT.at {b : Bool} (h : EvT t σ S H b) (e : Same S H) {Q : Bool → Hp → Prop} (q : ∀ S2 H2, Grow S H S2 H2 → Q b H2) : t σ H Q := h S H (.refl e) Q q
theorem ev_var {i : Nat} {v : V} (h : σ[i]? = some (some v)) (p : P.P S v) : Ev (tVar i) σ S H P := fun S1 H1 g _ q => ⟨v, h, q v S1 H1 (.refl g.sub) (P.mo g.s p)⟩
theorem ev_c {v : V} (p : P.P S v) : Ev (tC v) σ S H P := fun S1 H1 g _ q => q v S1 H1 (.refl g.sub) (P.mo g.s p)
theorem ev_op (ha : Ev ta σ S H P1) (hb : Ev tb σ S H P2) (hr : ∀ x y S1 H1, Grow S H S1 H1 → P1.P S1 x → P2.P S1 y → Op (r x y H1) S1 H1 P) : Ev (tOp r ta tb) σ S H P := fun S1 H1 g Q q =>
  ha S1 H1 g _ fun x S2 H2 g2 px => hb S2 H2 (g.trans g2) _ fun y S3 H3 g3 py => hr x y S3 H3 ((g.trans g2).trans g3) (P1.mo g3.s px) py Q fun v S4 H4 g4 pv => q v S4 H4 ((g2.trans g3).trans g4) pv
theorem ev_un {r : V → Hp → VK → Prop} (ha : Ev ta σ S H P1) (hr : ∀ x S1 H1, Grow S H S1 H1 → P1.P S1 x → Op (r x H1) S1 H1 P) : Ev (tUn r ta) σ S H P := fun S1 H1 g Q q =>
  ha S1 H1 g _ fun x S2 H2 g2 px => hr x S2 H2 (g.trans g2) px Q fun v S4 H4 g4 pv => q v S4 H4 (g2.trans g4) pv
theorem ea_nil : EvA tNil σ S H [] := fun S1 H1 g _ q => q [] S1 H1 (.refl g.sub) .nil
theorem ea_cons {tr : TA} {Ps : List Pd} (h : Ev ta σ S H P) (hr : EvA tr σ S H Ps) : EvA (tCons ta tr) σ S H (P :: Ps) := fun S1 H1 g _ q =>
  h S1 H1 g _ fun v S2 H2 g2 pv => hr S2 H2 (g.trans g2) _ fun vs S3 H3 g3 pvs => q (v :: vs) S3 H3 (g2.trans g3) (.cons (P.mo g3.s pv) pvs)
theorem ev_CB {r : List V → Hp → VK → Prop} {tr : TA} {Ps : List Pd} (h : EvA tr σ S H Ps) (hr : ∀ vs S1 H1, Grow S H S1 H1 → All2 S1 Ps vs → Op (r vs H1) S1 H1 P) : Ev (tCB r tr) σ S H P := fun S1 H1 g Q q =>
  h S1 H1 g _ fun vs S2 H2 g2 pv => hr vs S2 H2 (g.trans g2) pv Q fun v S3 H3 g3 p => q v S3 H3 (g2.trans g3) p
theorem All2.one {v : List V} (h : All2 S [P] v) : ∃ x, v = [x] ∧ P.P S x := by
  cases h with | cons h q => cases q; exact ⟨_, rfl, h⟩
theorem All2.two {v : List V} (h : All2 S [P, P1] v) : ∃ x y, v = [x, y] ∧ P.P S x ∧ P1.P S y := by
  cases h with | cons h q => obtain ⟨y, rfl, hy⟩ := All2.one q; exact ⟨_, _, rfl, h, hy⟩
/-- tests -/
theorem et_test {b : Bool} (h : Ev te σ S H (Is (.bl b))) : EvT (tTest te) σ S H b := fun S1 H1 g _ q => h S1 H1 g _ fun v S2 H2 g2 p => ⟨b, p, q S2 H2 g2⟩
theorem et_B {b : Bool} (h : Ev te σ S H (Is (.bl b))) : EvT (tB te) σ S H b := fun S1 H1 g _ q => h S1 H1 g _ fun v S2 H2 g2 p => ⟨b, p, q S2 H2 g2⟩
theorem et_and {a b : Bool} (h1 : EvT t σ S H a) (h2 : a = true → EvT u σ S H b) : EvT (tAnd t u) σ S H (a && b) := fun S1 H1 g Q q => h1 S1 H1 g _ fun S2 H2 g2 => by
  cases a with
  | true =>
    show u σ H2 Q
    exact h2 rfl S2 H2 (g.trans g2) Q fun S3 H3 g3 => q S3 H3 (g2.trans g3)
  | false =>
    show Q false H2
    exact q S2 H2 g2
theorem et_or {a b : Bool} (h1 : EvT t σ S H a) (h2 : a = false → EvT u σ S H b) : EvT (tOr t u) σ S H (a || b) := fun S1 H1 g Q q => h1 S1 H1 g _ fun S2 H2 g2 => by
  cases a with
  | true =>
    show Q true H2
    exact q S2 H2 g2
  | false =>
    show u σ H2 Q
    exact h2 rfl S2 H2 (g.trans g2) Q fun S3 H3 g3 => q S3 H3 (g2.trans g3)
theorem et_not {a : Bool} (h1 : EvT t σ S H a) : EvT (tNot t) σ S H (!a) := fun S1 H1 g _ q => h1 S1 H1 g _ fun S2 H2 g2 => q S2 H2 g2
theorem ev_andV {a b : Bool} (h1 : Ev ta σ S H (Is (.bl a))) (h2 : a = true → Ev tb σ S H (Is (.bl b))) : Ev (tAndV ta tb) σ S H (Is (.bl (a && b))) := fun S1 H1 g Q q => h1 S1 H1 g _ fun v S2 H2 g2 p => ⟨a, p, by
  cases a with
  | true =>
    show tb σ H2 Q
    exact h2 rfl S2 H2 (g.trans g2) Q fun w S3 H3 g3 p3 => q w S3 H3 (g2.trans g3) p3
  | false =>
    show Q (.bl false) H2
    exact q _ S2 H2 g2 rfl⟩
theorem ev_orV {a b : Bool} (h1 : Ev ta σ S H (Is (.bl a))) (h2 : a = false → Ev tb σ S H (Is (.bl b))) : Ev (tOrV ta tb) σ S H (Is (.bl (a || b))) := fun S1 H1 g Q q => h1 S1 H1 g _ fun v S2 H2 g2 p => ⟨a, p, by
  cases a with
  | true =>
    show Q (.bl true) H2
    exact q _ S2 H2 g2 rfl
  | false =>
    show tb σ H2 Q
    exact h2 rfl S2 H2 (g.trans g2) Q fun w S3 H3 g3 p3 => q w S3 H3 (g2.trans g3) p3⟩
theorem ev_notV {a : Bool} (h1 : Ev ta σ S H (Is (.bl a))) : Ev (tNotV ta) σ S H (Is (.bl (!a))) := fun S1 H1 g Q q => h1 S1 H1 g _ fun v S2 H2 g2 p => ⟨a, p, q _ S2 H2 g2 rfl⟩
theorem ev_if {b : Bool} (h : EvT t σ S H b) (h1 : b = true → Ev ta σ S H P) (h2 : b = false → Ev tb σ S H P) : Ev (tIf t ta tb) σ S H P := fun S1 H1 g Q q => h S1 H1 g _ fun S2 H2 g2 => by
  cases b with
  | true =>
    show ta σ H2 Q
    exact h1 rfl S2 H2 (g.trans g2) Q fun w S3 H3 g3 p3 => q w S3 H3 (g2.trans g3) p3
  | false =>
    show tb σ H2 Q
    exact h2 rfl S2 H2 (g.trans g2) Q fun w S3 H3 g3 p3 => q w S3 H3 (g2.trans g3) p3
/-- what an operation hands back without a new object -/
theorem op_val {r : VK → Prop} {v : V} (e : Same S H) (p : P.P S v) (h : ∀ Q : VK, Q v H → r Q) : Op r S H P := fun Q q => h Q (q v S H (.refl e) p)
/-- with a new object -/
theorem op_new {r : VK → Prop} {o : HO} (e : Same S H) (p : ∀ l, H l = none → P.P (upd S l o) (.ref l)) (h : ∀ Q : VK, (∀ l, H l = none → Q (.ref l) (upd H l o)) → r Q) : Op r S H P :=
  fun Q q => h Q fun l hl => q _ (upd S l o) _ (.alloc e hl) (p l hl)
theorem chain {a b : Bool} (ha : Ev ta σ S H P1) (hb : Ev tb σ S H P2) (hc : Ev tc σ S H P3)
    (h1 : ∀ x y S1 H1, Grow S H S1 H1 → P1.P S1 x → P2.P S1 y → Op (r x y H1) S1 H1 (Is (.bl a))) (h2 : ∀ y z S1 H1, Grow S H S1 H1 → P2.P S1 y → P3.P S1 z → Op (r' y z H1) S1 H1 (Is (.bl b))) : Ev (tChain r r' ta tb tc) σ S H (Is (.bl (a && b))) := fun S1 H1 g Q q =>
  ha S1 H1 g _ fun x S2 H2 g2 px => hb S2 H2 (g.trans g2) _ fun y S3 H3 g3 py => h1 x y S3 H3 ((g.trans g2).trans g3) (P1.mo g3.s px) py _ fun z S4 H4 g4 pz => ⟨a, pz, by
    have gg := ((g.trans g2).trans g3).trans g4
    cases a with
    | true =>
      show tc σ H4 _
      exact hc S4 H4 gg _ fun w S5 H5 g5 pw => h2 y w S5 H5 (gg.trans g5) (P2.mo (g4.s.trans g5.s) py) pw Q fun v S6 H6 g6 pv => q v S6 H6 ((((g2.trans g3).trans g4).trans g5).trans g6) pv
    | false =>
      show Q (.bl false) H4
      exact q _ S4 H4 ((g2.trans g3).trans g4) rfl⟩
end
end Uw
end
section
set_option Elab.async false
set_option linter.all false
set_option maxRecDepth 100000
namespace Uw
open PySem PySem.Spec PyProof.Rows L2

/-! ### classes of data -/
def tyOfV : V → String
  | .non => "NoneType"
  | .bl _ => "bool"
  | .int _ => "int"
  | .str _ => "str"
  | _ => "?"
def T.ty : T → String
  | .a v => tyOfV v
  | .l _ => "list"
  | .t _ => "tuple"
  | .d _ => "dict"
def dataTys : List String := ["NoneType", "bool", "int", "str", "list", "tuple", "dict"]
/-- isinstance of one of these classes by another one -/
def isSub (a b : String) : Bool := a == b || (a == "bool" && b == "int")
theorem kit_tab : (dataTys.all fun a => dataTys.all fun b => b == "NoneType" || kitB a b == some (isSub a b)) = true := by decide +kernel
theorem kit_of' {a b : String} (ha : a ∈ dataTys) (hb : b ∈ dataTys) (hn : b ≠ "NoneType") : kitB a b = some (isSub a b) := by
  have h := List.all_eq_true.mp kit_tab a ha
  have h2 := List.all_eq_true.mp h b hb
  rw [Bool.or_eq_true] at h2
  rcases h2 with h2 | h2
  · exact absurd (eq_of_beq h2) hn
  · exact eq_of_beq h2
section
variable {X : Cx} {K : PySem.W.Frag} {σ : L2.St} {S S' H H' : Hp} {ta tb tc te tx : TE} {t u : TT} {P P1 P2 P3 : Pd} {v : V} {x : T}
theorem Rep.ty_in (r : Rep K S v x) : x.ty ∈ dataTys := by
  cases r with
  | @a v h =>
    cases v with
    | non => exact (by decide : "NoneType" ∈ dataTys)
    | bl b => exact (by decide : "bool" ∈ dataTys)
    | int i => exact (by decide : "int" ∈ dataTys)
    | str z => exact (by decide : "str" ∈ dataTys)
    | byt b => cases h
    | flt b => cases h
    | ref p => cases h
    | ty n => cases h
  | l _ _ => exact (by decide : "list" ∈ dataTys)
  | t _ _ => exact (by decide : "tuple" ∈ dataTys)
  | d _ _ => exact (by decide : "dict" ∈ dataTys)
theorem Rep.tyX (e : Same S H) (r : Rep K S v x) : TyX K H v (.type x.ty) := by
  cases r with
  | @a v h =>
    cases v with
    | non => exact .base .non
    | bl b => exact .base (.bl b)
    | int i => exact .base (.int i)
    | str z => exact .base (.str z)
    | byt b => cases h
    | flt b => cases h
    | ref p => cases h
    | ty n => cases h
  | l h q => exact .base (.lst (e _ _ h))
  | t h q => exact .base (.tup (e _ _ h))
  | d h q => exact .base (.dK (e _ _ h))
/-- isinstance(x, C), C a built-in class -/
theorem ev_isi {c : String} (h : Ev ta σ S H (R K x)) (hc : c ∈ dataTys) (hn : c ≠ "NoneType") : Ev (tCB (rIsi K) (tCons ta (tCons (tC (.ty c)) tNil))) σ S H (Is (.bl (isSub x.ty c))) :=
  ev_CB (ea_cons h (ea_cons (P := Is (.ty c)) (ev_c rfl) ea_nil)) fun vs S1 H1 g a => by
    obtain ⟨v, y, rfl, r, rfl⟩ := a.two
    exact op_val g.sub rfl fun Q q => ⟨v, .ty c, .type x.ty, .type c, isSub x.ty c, rfl, .ty c, r.tyX g.sub, kit_ty (kit_of' r.ty_in hc hn), q⟩
/-- isinstance(x, (C, D)) -/
theorem ev_isi2 {c d : String} (h : Ev ta σ S H (R K x)) (hc : c ∈ dataTys) (hn : c ≠ "NoneType") (hd : d ∈ dataTys) (hm : d ≠ "NoneType") :
    Ev (tCB (rIsiT K) (tCons ta (tCons (tTup (tCons (tC (.ty c)) (tCons (tC (.ty d)) tNil))) tNil))) σ S H (Is (.bl (isSub x.ty c || isSub x.ty d))) := fun S1 H1 g Q q =>
  h S1 H1 g _ fun v S2 H2 g2 r => ⟨by show 2 ≤ sizeLine; decide, fun p hp => by
    refine ⟨v, p, [.ty c, .ty d], .type x.ty, [.type c, .type d], _, rfl, upd_same, .cons (.ty c) (.cons (.ty d) .nil), Rep.tyX (g2.sub.trans (Same.new hp)) r, ?_, q _ S2 _ (g2.trans (.vol g2.sub hp)) rfl⟩
    refine kitAny_cons (kit_ty (kit_of' r.ty_in hc hn)) (fun e => ?_) (fun e => by rw [e]; rfl)
    rw [e, Bool.false_or]
    exact kitAny_cons (kit_ty (kit_of' r.ty_in hd hm)) (fun e => by rw [e]; exact kitAny_nil) (fun e => e)⟩
end

/-! ### a def and its promise -/
/-- trees to one tree, nothing else changed -/
def sp1 (K : PySem.W.Frag) (ok : T → Prop) (f : T → T) : Sp := fun vs H Q _ => ∃ S v x, vs = [v] ∧ Same S H ∧ Rep K S v x ∧ ok x ∧ ∀ u S' H', Grow S H S' H' → Rep K S' u (f x) → Q u H'
def sp2 (K : PySem.W.Frag) (ok : T → T → Prop) (f : T → T → T) : Sp := fun vs H Q _ => ∃ S v v2 x x2, vs = [v, v2] ∧ Same S H ∧ Rep K S v x ∧ Rep K S v2 x2 ∧ ok x x2 ∧ ∀ u S' H', Grow S H S' H' → Rep K S' u (f x x2) → Q u H'
def sp3 (K : PySem.W.Frag) (ok : T → T → T → Prop) (f : T → T → T → T) : Sp := fun vs H Q _ => ∃ S v v2 v3 x x2 x3, vs = [v, v2, v3] ∧ Same S H ∧ Rep K S v x ∧ Rep K S v2 x2 ∧ Rep K S v3 x3 ∧ ok x x2 x3 ∧ ∀ u S' H', Grow S H S' H' → Rep K S' u (f x x2 x3) → Q u H'
theorem sp1_len {K : PySem.W.Frag} {ok : T → Prop} {f : T → T} : ∀ vs H Q E, sp1 K ok f vs H Q E → vs.length = 1 := by
  rintro vs H Q E ⟨S, v, x, rfl, _⟩; rfl
theorem sp2_len {K : PySem.W.Frag} {ok : T → T → Prop} {f : T → T → T} : ∀ vs H Q E, sp2 K ok f vs H Q E → vs.length = 2 := by
  rintro vs H Q E ⟨S, v, v2, x, x2, rfl, _⟩; rfl
theorem sp3_len {K : PySem.W.Frag} {ok : T → T → T → Prop} {f : T → T → T → T} : ∀ vs H Q E, sp3 K ok f vs H Q E → vs.length = 3 := by
  rintro vs H Q E ⟨S, v, v2, v3, x, x2, x3, rfl, _⟩; rfl
section
variable {K : PySem.W.Frag} {σ : L2.St} {S H : Hp} {ta tb tc : TE} {x y z : T} {E : XK}
theorem ev_call1 {ok : T → Prop} {f : T → T} (h : Ev ta σ S H (R K x)) (hk : ok x) : Ev (tCall (sp1 K ok f) [] E (tCons ta tNil)) σ S H (R K (f x)) := fun S1 H1 g Q q =>
  h S1 H1 g _ fun v S2 H2 g2 r => ⟨S2, v, x, rfl, g2.sub, r, hk, fun w S3 H3 g3 r3 => q w S3 H3 (g2.trans g3) r3⟩
theorem ev_call2 {ok : T → T → Prop} {f : T → T → T} (h : Ev ta σ S H (R K x)) (h2 : Ev tb σ S H (R K y)) (hk : ok x y) : Ev (tCall (sp2 K ok f) [] E (tCons ta (tCons tb tNil))) σ S H (R K (f x y)) := fun S1 H1 g Q q =>
  h S1 H1 g _ fun v S2 H2 g2 r => h2 S2 H2 (g.trans g2) _ fun v2 S3 H3 g3 r3 => ⟨S3, v, v2, x, y, rfl, g3.sub, r.same g3.s, r3, hk, fun w S4 H4 g4 r4 => q w S4 H4 ((g2.trans g3).trans g4) r4⟩
theorem ev_call3 {ok : T → T → T → Prop} {f : T → T → T → T} (h : Ev ta σ S H (R K x)) (h2 : Ev tb σ S H (R K y)) (h3 : Ev tc σ S H (R K z)) (hk : ok x y z) : Ev (tCall (sp3 K ok f) [] E (tCons ta (tCons tb (tCons tc tNil)))) σ S H (R K (f x y z)) := fun S1 H1 g Q q =>
  h S1 H1 g _ fun v S2 H2 g2 r => h2 S2 H2 (g.trans g2) _ fun v2 S3 H3 g3 r3 => h3 S3 H3 ((g.trans g2).trans g3) _ fun v3 S4 H4 g4 r4 => ⟨S4, v, v2, v3, x, y, z, rfl, g4.sub, r.same (g3.s.trans g4.s), r3.same g4.s, r4, hk, fun w S5 H5 g5 r5 => q w S5 H5 (((g2.trans g3).trans g4).trans g5) r5⟩
end
theorem Is.R {K : PySem.W.Frag} {te : TE} {σ : L2.St} {S H : Hp} {v : V} (h : Ev te σ S H (Is v)) (f : flatV v = true := by rfl) : Ev te σ S H (Uw.R K (.a v)) := h.imp fun S w e => by
  have e : w = v := e
  subst e
  exact .a f
theorem Ev.Is {K : PySem.W.Frag} {te : TE} {σ : L2.St} {S H : Hp} {v : V} (h : Ev te σ S H (Uw.R K (.a v))) : Ev te σ S H (Uw.Is v) := h.imp fun S w r => (Rep.flat r).1
end Uw
end
section
set_option Elab.async false
set_option linter.all false
set_option maxRecDepth 100000
namespace Uw
open PySem PySem.Spec PyProof.Rows L2 RZ

/-- a tuple that is tracked stands for ever -/
theorem Grow.seen {S0 H0 S H : Hp} {p : Addr} {vs : List V} (g : Grow S0 H0 S H) (h : H p = some (.tup vs)) : Grow S0 H0 (upd S p (.tup vs)) H :=
  ⟨g.h, fun a u q => by
    by_cases ha : a = p
    · subst ha
      rw [upd_same, ← h, g.sub _ _ (g.s _ _ q)]
    · rw [upd_ne ha]
      exact g.s _ _ q, fun a u q => by
    by_cases ha : a = p
    · subst ha
      rw [upd_same] at q
      cases q
      exact h
    · rw [upd_ne ha] at q
      exact g.sub a u q, fun a u q => by
    by_cases ha : a = p
    · subst ha
      rw [upd_same] at q
      cases q
      exact .inr (.inr ⟨vs, rfl⟩)
    · rw [upd_ne ha] at q
      exact g.new a u q⟩
theorem Grow.out {S H S' H' : Hp} {p : Addr} {o : HO} (g : Grow S H S' H') (hs : S p = none) (hp : H p = some o) (nt : ∀ vs, o ≠ .tup vs := by intro _ h; cases h) : S' p = none := by
  cases e : S' p with
  | none => rfl
  | some u =>
    rcases g.new p u e with h | h | ⟨vs, rfl⟩
    · rw [hs] at h; cases h
    · rw [hp] at h; cases h
    · exact absurd (Option.some.inj ((g.h _ _ hp).symm.trans (g.sub _ _ e))) (nt vs)
theorem sz {n : Nat} (h : n ≤ 100000) : n ≤ sizeLine := Nat.le_trans h (by decide)
theorem szl {n : Nat} (h : n < 100000) : n < sizeLine := Nat.lt_of_lt_of_le h (by decide)

/-- a walk over n things, the i-th one as told -/
structure Wk (J : It) (S : Hp) (n : Nat) (it : Nat → Pd) : Prop where
  go : ∀ {S' H'} i, Same S S' → Same S' H' → i < n → J.go i H'
  yld : ∀ {S' H'} i x H2, Same S S' → Same S' H' → i < n → J.yld i H' x H2 → ∃ S2, Grow S' H' S2 H2 ∧ (it i).P S2 x
  stop : ∀ {S' H'}, Same S S' → Same S' H' → J.stop n H'
def EvI (wi : TI) (σ : L2.St) (S H : Hp) (n : Nat) (it : Nat → Pd) : Prop := ∀ S1 H1, Grow S H S1 H1 → ∀ R, (∀ J S2 H2, Grow S1 H1 S2 H2 → Wk J S2 n it → R J H2) → wi σ H1 R

section
variable {X : Cx} {K : PySem.W.Frag} {σ : L2.St} {S S' H H' : Hp} {ta tb tc te tx tl : TE} {tt : TT} {P P1 P2 P3 : Pd} {v : V} {x : T} {xs ys : List T} {wi wi2 : TI} {n : Nat} {it : Nat → Pd}
/-- the i-th tree of a list -/
def nth (xs : List T) (i : Nat) : T := xs.getD i (.a .non)
theorem nth_get {i : Nat} (h : i < xs.length) : xs[i]? = some (nth xs i) := by
  unfold nth
  rw [List.getD_eq_getElem?_getD, List.getElem?_eq_getElem h]
  rfl
theorem wk_list {a : Addr} {vs : List V} (h : S a = some (.lst vs)) (r : Reps K S vs xs) : Wk (Itl K a) S xs.length (fun i => R K (nth xs i)) where
  go := fun {S' H'} i e e' hi => by
    obtain ⟨v, hv, _⟩ := r.get (nth_get hi)
    exact ⟨vs, v, sqL (e.trans e') h, hv⟩
  yld := fun {S' H'} i x H2 e e' hi y => by
    obtain ⟨rfl, y⟩ := y
    obtain ⟨v, hv, rv⟩ := r.get (nth_get hi)
    have ex := (y vs (sqL (e.trans e') h)).symm.trans hv
    cases ex
    exact ⟨S', .refl e', rv.same e⟩
  stop := fun {S' H'} e e' => ⟨vs, sqL (e.trans e') h, Nat.le_of_eq r.length⟩
theorem wk_tup {a : Addr} {vs : List V} (h : S a = some (.tup vs)) (r : Reps K S vs xs) : Wk (Itt K a) S xs.length (fun i => R K (nth xs i)) where
  go := fun {S' H'} i e e' hi => by
    obtain ⟨v, hv, _⟩ := r.get (nth_get hi)
    exact ⟨vs, v, sqT (e.trans e') h, hv⟩
  yld := fun {S' H'} i x H2 e e' hi y => by
    obtain ⟨rfl, y⟩ := y
    obtain ⟨v, hv, rv⟩ := r.get (nth_get hi)
    have ex := (y vs (sqT (e.trans e') h)).symm.trans hv
    cases ex
    exact ⟨S', .refl e', rv.same e⟩
  stop := fun {S' H'} e e' => ⟨vs, sqT (e.trans e') h, Nat.le_of_eq r.length⟩
theorem wk_range {lo : Int} {n : Nat} : Wk (Itr lo n) S n (fun i => Is (.int (lo + i))) where
  go := fun i e e' hi => hi
  yld := fun {S' H'} i x H2 e e' hi y => by
    obtain ⟨rfl, y⟩ := y
    exact ⟨S', .refl e', y⟩
  stop := fun e e' => Nat.le_refl _
theorem wk_str {z : Str} : Wk (Its z) S z.cps.size (fun i => Is (.str ⟨#[z.cps.getD i 0]⟩)) where
  go := fun i e e' hi => hi
  yld := fun {S' H'} i x H2 e e' hi y => by
    obtain ⟨rfl, c, hc, y⟩ := y
    refine ⟨S', .refl e', ?_⟩
    rw [y]
    show V.str ⟨#[c]⟩ = V.str ⟨#[z.cps.getD i 0]⟩
    rw [show z.cps.getD i 0 = c by
      rw [Array.getD_eq_getD_getElem?, hc]
      rfl]
  stop := fun e e' => Nat.le_refl _
theorem ei_list (h : Ev tl σ S H (R K (.l xs))) : EvI (iList K tl) σ S H xs.length (fun i => R K (nth xs i)) := fun S1 H1 g Q q => h S1 H1 g _ fun v S2 H2 g2 r => by
  cases r with
  | l h r => exact ⟨_, rfl, ⟨_, sqL g2.sub h⟩, q _ S2 H2 g2 (wk_list h r)⟩
theorem ei_tup (h : Ev tl σ S H (R K (.t xs))) : EvI (iTup K tl) σ S H xs.length (fun i => R K (nth xs i)) := fun S1 H1 g Q q => h S1 H1 g _ fun v S2 H2 g2 r => by
  cases r with
  | t h r => exact ⟨_, rfl, ⟨_, sqT g2.sub h⟩, q _ S2 H2 g2 (wk_tup h r)⟩
/-- a list or a tuple -/
def iSeq (K : PySem.W.Frag) (tl : TE) : TI := fun σ H R => iList K tl σ H R ∨ iTup K tl σ H R
theorem pi_seq {tg e : Expr} (h : PE X e tl) : PI X tg e (iSeq X.K tl) := ⟨fun pins s σ H R I hw => hw.elim (fun hw => (pi_list h).run pins s σ H R I hw) fun hw => (pi_tup h).run pins s σ H R I hw⟩
theorem ei_seqL (h : Ev tl σ S H (R K (.l xs))) : EvI (iSeq K tl) σ S H xs.length (fun i => R K (nth xs i)) := fun S1 H1 g Q q => .inl (ei_list h S1 H1 g Q q)
theorem ei_seqT (h : Ev tl σ S H (R K (.t xs))) : EvI (iSeq K tl) σ S H xs.length (fun i => R K (nth xs i)) := fun S1 H1 g Q q => .inr (ei_tup h S1 H1 g Q q)
theorem ei_str {z : Str} (h : Ev tl σ S H (Is (.str z))) : EvI (iStr tl) σ S H z.cps.size (fun i => Is (.str ⟨#[z.cps.getD i 0]⟩)) := fun S1 H1 g Q q => h S1 H1 g _ fun v S2 H2 g2 r => ⟨z, r, q _ S2 H2 g2 wk_str⟩
theorem ei_range1 {j : Int} (h : Ev ta σ S H (Is (.int j))) (hj : 0 ≤ j ∧ j ≤ 100000) : EvI (iRng1 (tCons ta tNil)) σ S H j.toNat (fun i => Is (.int (0 + (i : Int)))) := fun S1 H1 g Q q => h S1 H1 g _ fun v S2 H2 g2 r => by
  have r : v = .int j := r
  subst r
  exact ⟨j, rfl, by omega, by omega, q _ S2 H2 g2 wk_range⟩

/-- a comprehension's list, a target of any form: sl tells the slots behind it -/
theorem ev_lcG {g : TG} {vs : List Nat} (hi : EvI wi σ S H n it) (hn : n ≤ 50000) (sl : Nat → Hp → L2.St → Prop)
    (hg : ∀ i x S1 H1 (Q : L2.St → Hp → Prop), Grow S H S1 H1 → i < n → (it i).P S1 x → (∀ σ2, sl i S1 σ2 → wipe σ2 vs = wipe σ vs → Q σ2 H1) → g x (wipe σ vs) H1 Q) (keep : Nat → Bool) (out : Nat → T)
    (ht : ∀ i σ2 S1 H1, i < n → Grow S H S1 H1 → sl i S1 σ2 → EvT tt σ2 S1 H1 (keep i))
    (he : ∀ i σ2 S1 H1, i < n → Grow S H S1 H1 → sl i S1 σ2 → keep i = true → Ev te σ2 S1 H1 (R K (out i))) :
    Ev (tLc wi g tt te vs) σ S H (R K (.l (((List.range n).filter keep).map out))) := fun S0 H0 g0 Q q => hi S0 H0 g0 _ fun J S1 H1 g1 W D hD => by
  have hS : S1 D = none := g1.sub.free hD
  let Pv : Nat → Hp → Prop := fun i H' => ∃ S', Grow S1 H1 S' H' ∧ S' D = none ∧ ∃ us, H' D = some (.lst us) ∧ us.length ≤ i ∧ Reps K S' us (((List.range i).filter keep).map out)
  refine ⟨fun i m H => m = n - i ∧ i ≤ n ∧ Pv i H, ⟨n, by simp, Nat.zero_le _, S1, .vol g1.sub hD, hS, [], upd_same, Nat.le_refl _, .nil⟩, ?_⟩
  rintro i m H' ⟨rfl, hi, S', g, hSD, us, hus, hlen, rs⟩
  by_cases hlt : i < n
  · refine .inr ⟨W.go i g.s g.sub hlt, Pv (i + 1), fun H2 p => ⟨n - (i + 1), by omega, rfl, hlt, p⟩, fun x H2 y => ?_⟩
    obtain ⟨S2, g2, px⟩ := W.yld i x H2 g.s g.sub hlt y
    have gg := (g0.trans g1).trans (g.trans g2)
    refine hg i x S2 H2 _ gg hlt px fun σ2 hsl hwp => ⟨hwp, ?_⟩
    refine ht i σ2 S2 H2 hlt gg hsl |>.at g2.sub fun S3 H3 g3 => ?_
    have e1 : List.range (i + 1) = List.range i ++ [i] := List.range_succ
    cases hk : keep i with
    | true =>
      show te _ H3 _
      refine (he i σ2 S2 H2 hlt gg hsl hk).go g3 |>.at g3.sub fun v S4 H4 g4 rv => ?_
      have g' := (g2.trans g3).trans g4
      have hs4 : S4 D = none := g'.out hSD hus
      have hh4 : H4 D = some (.lst us) := g'.h D _ hus
      refine ⟨us, hh4, szl (by omega), S4, (g.trans g').mut hD hs4, hs4, us ++ [v], upd_same, by rw [List.length_append]; show us.length + 1 ≤ i + 1; omega, ?_⟩
      rw [e1, List.filter_append, List.map_append, List.filter_cons, if_pos hk]
      exact (rs.same g'.s).append (.one rv)
    | false =>
      show Pv (i + 1) H3
      have g' := g2.trans g3
      refine ⟨S3, g.trans g', g'.out hSD hus, us, g'.h D _ hus, by omega, ?_⟩
      rw [e1, List.filter_append, List.map_append, List.filter_cons, if_neg (by rw [hk]; decide)]
      show Reps K S3 us (_ ++ [])
      rw [List.append_nil]
      exact rs.same g'.s
  · have e : i = n := by omega
    subst e
    refine .inl ⟨W.stop g.s g.sub, q _ (upd S' D (.lst us)) H' (g1.trans (g.freeze hD hSD hus)) (.l upd_same (rs.same (Same.new hSD)))⟩
/-- one name -/
theorem ev_lc {j : Nat} {vs : List Nat} (hi : EvI wi σ S H n it) (hn : n ≤ 50000) (hw : ∀ x, wipe ((wipe σ vs).set j (some x)) vs = wipe σ vs) (keep : Nat → Bool) (out : Nat → T)
    (ht : ∀ i v S1 H1, i < n → Grow S H S1 H1 → (it i).P S1 v → EvT tt ((wipe σ vs).set j (some v)) S1 H1 (keep i))
    (he : ∀ i v S1 H1, i < n → Grow S H S1 H1 → (it i).P S1 v → keep i = true → Ev te ((wipe σ vs).set j (some v)) S1 H1 (R K (out i))) :
    Ev (tLc wi (gName j) tt te vs) σ S H (R K (.l (((List.range n).filter keep).map out))) :=
  ev_lcG hi hn (fun i S1 σ2 => ∃ v, (it i).P S1 v ∧ σ2 = (wipe σ vs).set j (some v)) (fun i x S1 H1 Q g hi p q => q _ ⟨x, p, rfl⟩ (hw x)) keep out
    (fun i σ2 S1 H1 hi g ⟨v, p, e⟩ => e ▸ ht i v S1 H1 hi g p) (fun i σ2 S1 H1 hi g ⟨v, p, e⟩ hk => e ▸ he i v S1 H1 hi g p hk)
/-- a pair in a tuple -/
def Pr (P1 P2 : Pd) : Pd := ⟨fun S v => ∃ p a b, v = .ref p ∧ S p = some (.tup [a, b]) ∧ P1.P S a ∧ P2.P S b, fun e ⟨p, a, b, h1, h2, h3, h4⟩ => ⟨p, a, b, h1, e _ _ h2, P1.mo e h3, P2.mo e h4⟩⟩
/-- two names -/
theorem ev_lc2 {j k : Nat} {vs : List Nat} {p1 p2 : Nat → Pd} (hi : EvI wi σ S H n (fun i => Pr (p1 i) (p2 i))) (hn : n ≤ 50000) (hw : ∀ x y, wipe (((wipe σ vs).set j (some x)).set k (some y)) vs = wipe σ vs) (keep : Nat → Bool) (out : Nat → T)
    (ht : ∀ i a b S1 H1, i < n → Grow S H S1 H1 → (p1 i).P S1 a → (p2 i).P S1 b → EvT tt (((wipe σ vs).set j (some a)).set k (some b)) S1 H1 (keep i))
    (he : ∀ i a b S1 H1, i < n → Grow S H S1 H1 → (p1 i).P S1 a → (p2 i).P S1 b → keep i = true → Ev te (((wipe σ vs).set j (some a)).set k (some b)) S1 H1 (R K (out i))) :
    Ev (tLc wi (gTup K 2 (gCons (gName j) (gCons (gName k) gNil))) tt te vs) σ S H (R K (.l (((List.range n).filter keep).map out))) :=
  ev_lcG hi hn (fun i S1 σ2 => ∃ a b, (p1 i).P S1 a ∧ (p2 i).P S1 b ∧ σ2 = ((wipe σ vs).set j (some a)).set k (some b))
    (fun i x S1 H1 Q g hi ⟨p, a, b, e, h, pa, pb⟩ q => ⟨p, [a, b], e, sqT g.sub h, rfl, a, [b], rfl, b, [], rfl, rfl, q _ ⟨a, b, pa, pb, rfl⟩ (hw a b)⟩) keep out
    (fun i σ2 S1 H1 hi g ⟨a, b, pa, pb, e⟩ => e ▸ ht i a b S1 H1 hi g pa pb) (fun i σ2 S1 H1 hi g ⟨a, b, pa, pb, e⟩ hk => e ▸ he i a b S1 H1 hi g pa pb hk)
theorem wk_zipL {a b : Addr} {vs ws : List V} (h : S a = some (.lst vs)) (r : Reps K S vs xs) (h2 : S b = some (.lst ws)) (r2 : Reps K S ws ys) : Wk (Itz K a b) S (min xs.length ys.length) (fun i => Pr (R K (nth xs i)) (R K (nth ys i))) where
  go := fun {S' H'} i e e' hi => by
    obtain ⟨v, hv, _⟩ := r.get (nth_get (show i < xs.length by omega))
    obtain ⟨u, hu, _⟩ := r2.get (nth_get (show i < ys.length by omega))
    exact ⟨vs, ws, v, u, sqL (e.trans e') h, sqL (e.trans e') h2, hv, hu⟩
  yld := fun {S' H'} i x H2 e e' hi y => by
    obtain ⟨v, hv, rv⟩ := r.get (nth_get (show i < xs.length by omega))
    obtain ⟨u, hu, ru⟩ := r2.get (nth_get (show i < ys.length by omega))
    obtain ⟨D, a1, b1, rfl, hD, rfl, f1, f2⟩ := y
    have e1 := (f1 vs (sqL (e.trans e') h)).symm.trans hv
    have e2 := (f2 ws (sqL (e.trans e') h2)).symm.trans hu
    cases e1
    cases e2
    exact ⟨upd S' D (.tup [_, _]), .alloc e' hD, D, _, _, rfl, upd_same, (rv.same e).same (Same.new (e'.free hD)), (ru.same e).same (Same.new (e'.free hD))⟩
  stop := fun {S' H'} e e' => ⟨vs, ws, sqL (e.trans e') h, sqL (e.trans e') h2, by
    have h1 := r.length
    have h2 := r2.length
    omega⟩
theorem wk_zipT {a b : Addr} {vs ws : List V} (h : S a = some (.tup vs)) (r : Reps K S vs xs) (h2 : S b = some (.tup ws)) (r2 : Reps K S ws ys) : Wk (ItzT K a b) S (min xs.length ys.length) (fun i => Pr (R K (nth xs i)) (R K (nth ys i))) where
  go := fun {S' H'} i e e' hi => by
    obtain ⟨v, hv, _⟩ := r.get (nth_get (show i < xs.length by omega))
    obtain ⟨u, hu, _⟩ := r2.get (nth_get (show i < ys.length by omega))
    exact ⟨vs, ws, v, u, sqT (e.trans e') h, sqT (e.trans e') h2, hv, hu⟩
  yld := fun {S' H'} i x H2 e e' hi y => by
    obtain ⟨v, hv, rv⟩ := r.get (nth_get (show i < xs.length by omega))
    obtain ⟨u, hu, ru⟩ := r2.get (nth_get (show i < ys.length by omega))
    obtain ⟨D, a1, b1, rfl, hD, rfl, f1, f2⟩ := y
    have e1 := (f1 vs (sqT (e.trans e') h)).symm.trans hv
    have e2 := (f2 ws (sqT (e.trans e') h2)).symm.trans hu
    cases e1
    cases e2
    exact ⟨upd S' D (.tup [_, _]), .alloc e' hD, D, _, _, rfl, upd_same, (rv.same e).same (Same.new (e'.free hD)), (ru.same e).same (Same.new (e'.free hD))⟩
  stop := fun {S' H'} e e' => ⟨vs, ws, sqT (e.trans e') h, sqT (e.trans e') h2, by
    have h1 := r.length
    have h2 := r2.length
    omega⟩
theorem ei_zipL (h : Ev ta σ S H (R K (.l xs))) (h2 : Ev tb σ S H (R K (.l ys))) : EvI (iZipA K (tCons ta (tCons tb tNil))) σ S H (min xs.length ys.length) (fun i => Pr (R K (nth xs i)) (R K (nth ys i))) := fun S1 H1 g Q q =>
  h S1 H1 g _ fun v S2 H2 g2 r => h2 S2 H2 (g.trans g2) _ fun u S3 H3 g3 r2 => by
    cases r with
    | @l p us _ h r =>
    cases r2 with
    | @l p2 us2 _ h2 r2 => exact ⟨p, p2, us, us2, rfl, .inl ⟨sqL (g3.s.trans g3.sub) h, sqL g3.sub h2, q _ S3 H3 (g2.trans g3) (wk_zipL (g3.s _ _ h) (r.same g3.s) h2 r2)⟩⟩
theorem ei_zipT (h : Ev ta σ S H (R K (.t xs))) (h2 : Ev tb σ S H (R K (.t ys))) : EvI (iZipA K (tCons ta (tCons tb tNil))) σ S H (min xs.length ys.length) (fun i => Pr (R K (nth xs i)) (R K (nth ys i))) := fun S1 H1 g Q q =>
  h S1 H1 g _ fun v S2 H2 g2 r => h2 S2 H2 (g.trans g2) _ fun u S3 H3 g3 r2 => by
    cases r with
    | @t p us _ h r =>
    cases r2 with
    | @t p2 us2 _ h2 r2 => exact ⟨p, p2, us, us2, rfl, .inr ⟨sqT (g3.s.trans g3.sub) h, sqT g3.sub h2, q _ S3 H3 (g2.trans g3) (wk_zipT (g3.s _ _ h) (r.same g3.s) h2 r2)⟩⟩
/-- no test -/
theorem et_yes : EvT tYes σ S H true := fun S1 H1 g Q q => q S1 H1 (.refl g.sub)
theorem range_nth {α : Type} (xs : List T) (f : T → α) : (List.range xs.length).map (fun i => f (nth xs i)) = xs.map f := by
  apply List.ext_getElem?
  intro i
  rw [List.getElem?_map, List.getElem?_map]
  by_cases h : i < xs.length
  · rw [nth_get h, List.getElem?_range h]
    rfl
  · rw [List.getElem?_eq_none (l := List.range xs.length) (by rw [List.length_range]; omega), List.getElem?_eq_none (l := xs) (by omega)]
    rfl
theorem filter_all {l : List Nat} : l.filter (fun _ => true) = l := List.filter_eq_self.mpr fun _ _ => rfl
/-- a comprehension's list, over the items of a list, no test -/
theorem ev_map {j : Nat} {vs : List Nat} (f : T → T) (hi : EvI wi σ S H xs.length (fun i => R K (nth xs i))) (hn : xs.length ≤ 50000) (hw : ∀ x, wipe ((wipe σ vs).set j (some x)) vs = wipe σ vs)
    (he : ∀ x v S1 H1, x ∈ xs → Grow S H S1 H1 → Rep K S1 v x → Ev te ((wipe σ vs).set j (some v)) S1 H1 (R K (f x))) :
    Ev (tLc wi (gName j) tYes te vs) σ S H (R K (.l (xs.map f))) := by
  have h := ev_lc (K := K) (tt := tYes) (te := te) hi hn hw (fun _ => true) (fun i => f (nth xs i)) (fun i v S1 H1 _ _ _ => et_yes) (fun i v S1 H1 hi g r _ => he _ v S1 H1 (List.mem_of_getElem? (nth_get hi)) g r)
  rw [filter_all, range_nth xs f] at h
  exact h
theorem ev_filter {j : Nat} {vs : List Nat} (p : T → Bool) (f : T → T) (hi : EvI wi σ S H xs.length (fun i => R K (nth xs i))) (hn : xs.length ≤ 50000) (hw : ∀ x, wipe ((wipe σ vs).set j (some x)) vs = wipe σ vs)
    (ht : ∀ x v S1 H1, x ∈ xs → Grow S H S1 H1 → Rep K S1 v x → EvT tt ((wipe σ vs).set j (some v)) S1 H1 (p x))
    (he : ∀ x v S1 H1, x ∈ xs → Grow S H S1 H1 → Rep K S1 v x → p x = true → Ev te ((wipe σ vs).set j (some v)) S1 H1 (R K (f x))) :
    Ev (tLc wi (gName j) tt te vs) σ S H (R K (.l ((xs.filter p).map f))) := by
  have h := ev_lc (K := K) (tt := tt) (te := te) hi hn hw (fun i => p (nth xs i)) (fun i => f (nth xs i)) (fun i v S1 H1 hi g r => ht _ v S1 H1 (List.mem_of_getElem? (nth_get hi)) g r) (fun i v S1 H1 hi g r e => he _ v S1 H1 (List.mem_of_getElem? (nth_get hi)) g r e)
  have e : (((List.range xs.length).filter fun i => p (nth xs i)).map fun i => f (nth xs i)) = (xs.filter p).map f := by
    have e2 : ((List.range xs.length).filter fun i => p (nth xs i)).map (nth xs) = xs.filter p := by
      rw [show (fun i => p (nth xs i)) = p ∘ nth xs from rfl, ← List.filter_map, range_nth xs id |> fun h => (show (List.range xs.length).map (nth xs) = xs by have := range_nth xs id; simpa using this)]
    rw [← e2, List.map_map]
    rfl
  rw [e] at h
  exact h
/-- all, any of a list of bools -/
theorem ev_all {bs : List Bool} (h : Ev ta σ S H (R K (.l (bs.map fun b => .a (.bl b))))) : Ev (tCB (rAll K) (tCons ta tNil)) σ S H (Is (.bl (bs.all id))) := fun S1 H1 g Q q =>
  h S1 H1 g _ fun v S2 H2 g2 r => by
    cases r with
    | l h r =>
      have e := (show (bs.map fun b => T.a (.bl b)) = (bs.map V.bl).map T.a by rw [List.map_map]; rfl)
      rw [e] at r
      obtain ⟨rfl, _⟩ := r.flat
      exact ⟨_, bs, rfl, sqL g2.sub h, q _ S2 H2 g2 rfl⟩
theorem ev_any {bs : List Bool} (h : Ev ta σ S H (R K (.l (bs.map fun b => .a (.bl b))))) : Ev (tCB (rAny K) (tCons ta tNil)) σ S H (Is (.bl (bs.any id))) := fun S1 H1 g Q q =>
  h S1 H1 g _ fun v S2 H2 g2 r => by
    cases r with
    | l h r =>
      have e := (show (bs.map fun b => T.a (.bl b)) = (bs.map V.bl).map T.a by rw [List.map_map]; rfl)
      rw [e] at r
      obtain ⟨rfl, _⟩ := r.flat
      exact ⟨_, bs, rfl, sqL g2.sub h, q _ S2 H2 g2 rfl⟩
end
end Uw
end
section
set_option Elab.async false
set_option linter.all false
set_option maxRecDepth 100000
namespace Uw
open PySem PySem.Spec PyProof.Rows L2 RZ
section
variable {X : Cx} {K : PySem.W.Frag} {σ : L2.St} {S S' H H' : Hp} {ta tb tc te tx tl : TE} {tt : TT} {P P1 P2 P3 : Pd} {v : V} {x y : T} {xs ys : List T}
/-! ### flat values -/
theorem ev_I0 {g : Int → Int → V} {i j : Int} (ha : Ev ta σ S H (Is (.int i))) (hb : Ev tb σ S H (Is (.int j))) : Ev (tOp (rI0 g) ta tb) σ S H (Is (g i j)) :=
  ev_op ha hb fun x y S1 H1 g e e' => by
    have e : x = .int i := e
    have e' : y = .int j := e'
    subst e e'
    exact op_val g.sub rfl fun Q q => ⟨i, j, rfl, rfl, q⟩
theorem ev_I {C : Int → Int → Prop} {g : Int → Int → V} {i j : Int} (ha : Ev ta σ S H (Is (.int i))) (hb : Ev tb σ S H (Is (.int j))) (hc : C i j) : Ev (tOp (rI C g) ta tb) σ S H (Is (g i j)) :=
  ev_op ha hb fun x y S1 H1 g e e' => by
    have e : x = .int i := e
    have e' : y = .int j := e'
    subst e e'
    exact op_val g.sub rfl fun Q q => ⟨i, j, rfl, rfl, hc, q⟩
theorem ev_eq {a b : V} (ha : Ev ta σ S H (Is a)) (hb : Ev tb σ S H (Is b)) (h : scal a b = true) : Ev (tOp rEq ta tb) σ S H (Is (.bl (decide (a = b)))) :=
  ev_op ha hb fun x y S1 H1 g e e' => by
    have e : x = a := e
    have e' : y = b := e'
    subst e e'
    exact op_val g.sub rfl fun Q q => ⟨h, q⟩
theorem ev_ne {a b : V} (ha : Ev ta σ S H (Is a)) (hb : Ev tb σ S H (Is b)) (h : scal a b = true) : Ev (tOp rNe ta tb) σ S H (Is (.bl (!decide (a = b)))) :=
  ev_op ha hb fun x y S1 H1 g e e' => by
    have e : x = a := e
    have e' : y = b := e'
    subst e e'
    exact op_val g.sub rfl fun Q q => ⟨h, q⟩
def rInSign : R2 := fun x y H Q => ∃ (c : Nat) (z : Str), x = .str ⟨#[c]⟩ ∧ y = .str z ∧ Q (.bl (decide (c ∈ z.cps.toList))) H
theorem ev_inSign {c : Nat} {z : Str} (ha : Ev ta σ S H (Is (.str ⟨#[c]⟩))) (hb : Ev tb σ S H (Is (.str z))) : Ev (tOp rInSign ta tb) σ S H (Is (.bl (decide (c ∈ z.cps.toList)))) :=
  ev_op ha hb fun x y S1 H1 g e e' => op_val g.sub rfl fun Q q => ⟨c, z, e, e', q⟩
theorem ev_ixS {z : Str} {i : Int} {c : Nat} (ha : Ev ta σ S H (Is (.str z))) (hb : Ev tb σ S H (Is (.int i))) (hz : z.length ≤ 100000) (hc : atI z.cps.toList i = some c) : Ev (tOp rIxS ta tb) σ S H (Is (.str ⟨#[c]⟩)) :=
  ev_op ha hb fun x y S1 H1 g e e' => op_val g.sub rfl fun Q q => ⟨z, i, c, e, e', sz hz, hc, q⟩
/-! ### items -/
theorem Reps.atI {us : List V} {i : Int} (r : Reps K S us xs) (h : L2.atI xs i = some x) : ∃ v, L2.atI us i = some v ∧ Rep K S v x := by
  unfold L2.atI at h ⊢
  rw [r.length]
  cases e : ixN xs.length i with
  | none => rw [e] at h; cases h
  | some j =>
    rw [e] at h
    exact r.get h
theorem ev_ixL {i : Int} (ha : Ev ta σ S H (R K (.l xs))) (hb : Ev tb σ S H (Is (.int i))) (hx : L2.atI xs i = some x) : Ev (tOp (rIx K) ta tb) σ S H (R K x) :=
  ev_op ha hb fun u y S1 H1 g e e' => by
    have e' : y = .int i := e'
    subst e'
    cases e with
    | l h r =>
      obtain ⟨v, hv, rv⟩ := r.atI hx
      exact op_val g.sub rv fun Q q => .inl ⟨_, _, i, v, rfl, rfl, sqL g.sub h, hv, q⟩
theorem ev_ixT {i : Int} (ha : Ev ta σ S H (R K (.t xs))) (hb : Ev tb σ S H (Is (.int i))) (hx : L2.atI xs i = some x) : Ev (tOp (rIx K) ta tb) σ S H (R K x) :=
  ev_op ha hb fun u y S1 H1 g e e' => by
    have e' : y = .int i := e'
    subst e'
    cases e with
    | t h r =>
      obtain ⟨v, hv, rv⟩ := r.atI hx
      exact op_val g.sub rv fun Q q => .inr (.inl ⟨_, _, i, v, rfl, rfl, sqT g.sub h, hv, q⟩)
def T.len : T → Option Nat
  | .a (.str z) => if z.length ≤ 100000 then some z.length else none
  | .a _ => none
  | .l xs => some xs.length
  | .t xs => some xs.length
  | .d _ => none
def rLenA (K : PySem.W.Frag) : List V → Hp → VK → Prop := fun xs H Q => ∃ x n, xs = [x] ∧ LenV K x H n ∧ Q (.int n) H
theorem Rep.lenV {n : Nat} {v : V} (e : Same S H) (r : Rep K S v x) (hn : x.len = some n) : LenV K v H n := by
  cases r with
  | @a v h =>
    cases v with
    | str z =>
      have hn : (if z.length ≤ 100000 then some z.length else none) = some n := hn
      by_cases hz : z.length ≤ 100000
      · rw [if_pos hz] at hn
        exact ⟨sz hz, (Option.some.inj hn).symm⟩
      · rw [if_neg hz] at hn
        cases hn
    | _ => cases hn
  | l h r =>
    have hn : some _ = some n := hn
    exact .inl ⟨_, sqL e h, by rw [r.length]; exact (Option.some.inj hn).symm⟩
  | t h r =>
    have hn : some _ = some n := hn
    exact .inr ⟨_, sqT e h, by rw [r.length]; exact (Option.some.inj hn).symm⟩
  | d h r => cases hn
theorem ev_len {n : Nat} (h : Ev ta σ S H (R K x)) (hn : x.len = some n) : Ev (tCB (rLenA K) (tCons ta tNil)) σ S H (Is (.int n)) := fun S1 H1 g Q q =>
  h S1 H1 g _ fun v S2 H2 g2 r => ⟨v, n, rfl, Rep.lenV g2.sub r hn, q _ S2 H2 g2 rfl⟩
/-! ### displays -/
theorem All2.reps : ∀ {xs : List T} {vs : List V}, All2 S (xs.map (R K)) vs → Reps K S vs xs
  | [], _, .nil => .nil
  | _ :: _, _, .cons h q => .cons h (All2.reps q)
theorem ev_tup {tr : TA} (h : EvA tr σ S H (xs.map (R K))) (hn : xs.length ≤ 100000) : Ev (tTup tr) σ S H (R K (.t xs)) := fun S1 H1 g Q q =>
  h S1 H1 g _ fun vs S2 H2 g2 a => ⟨by rw [a.reps.length]; exact sz hn, fun p hp => q _ (upd S2 p (.tup vs)) _ (g2.trans (.alloc g2.sub hp)) (.t upd_same (a.reps.same (Same.new (g2.sub.free hp))))⟩
theorem ev_lst {tr : TA} (h : EvA tr σ S H (xs.map (R K))) (hn : xs.length ≤ 100000) : Ev (tLst tr) σ S H (R K (.l xs)) := fun S1 H1 g Q q =>
  h S1 H1 g _ fun vs S2 H2 g2 a => ⟨by rw [a.reps.length]; exact sz hn, fun p hp => q _ (upd S2 p (.lst vs)) _ (g2.trans (.alloc g2.sub hp)) (.l upd_same (a.reps.same (Same.new (g2.sub.free hp))))⟩
theorem ea_one (h : Ev ta σ S H (R K x)) : EvA (tCons ta tNil) σ S H ([x].map (R K)) := ea_cons h ea_nil
theorem ea_two (h : Ev ta σ S H (R K x)) (h2 : Ev tb σ S H (R K y)) : EvA (tCons ta (tCons tb tNil)) σ S H ([x, y].map (R K)) := ea_cons h (ea_cons h2 ea_nil)
/-! ### slices -/
def cutG {α : Type} (xs : List α) (lo hi : Option Int) : List α := (xs.drop (HT.sIx xs.length 0 lo)).take (HT.sIx xs.length xs.length hi - HT.sIx xs.length 0 lo)
theorem Reps.cut {us : List V} {lo hi : Option Int} (r : Reps K S us xs) : Reps K S (cutV us lo hi) (cutG xs lo hi) := by
  unfold cutV cutG
  rw [r.length]
  exact (r.drop _).take _
theorem eo_none : EvO tNoPart σ S H none := fun S1 H1 g _ q => q S1 H1 (.refl g.sub)
theorem eo_some {i : Int} (h : Ev ta σ S H (Is (.int i))) : EvO (tPart ta) σ S H (some i) := fun S1 H1 g _ q => h S1 H1 g _ fun v S2 H2 g2 e => ⟨i, e, q S2 H2 g2⟩
theorem ev_sl {r : V → Option Int → Option Int → Hp → VK → Prop} {tlo thi : TO} {lo hi : Option Int} (h : Ev ta σ S H P) (h1 : EvO tlo σ S H lo) (h2 : EvO thi σ S H hi) (hr : ∀ x S1 H1, Grow S H S1 H1 → P.P S1 x → Op (r x lo hi H1) S1 H1 P1) :
    Ev (tSl r ta tlo thi) σ S H P1 := fun S1 H1 g Q q => h S1 H1 g _ fun v S2 H2 g2 p => h1 S2 H2 (g.trans g2) _ fun S3 H3 g3 => h2 S3 H3 ((g.trans g2).trans g3) _ fun S4 H4 g4 =>
  hr v S4 H4 (((g.trans g2).trans g3).trans g4) (P.mo (g3.s.trans g4.s) p) Q fun w S5 H5 g5 p5 => q w S5 H5 (((g2.trans g3).trans g4).trans g5) p5
theorem ev_slL {tlo thi : TO} {lo hi : Option Int} (h : Ev ta σ S H (R K (.l xs))) (h1 : EvO tlo σ S H lo) (h2 : EvO thi σ S H hi) : Ev (tSl (rSlL K) ta tlo thi) σ S H (R K (.l (cutG xs lo hi))) :=
  ev_sl h h1 h2 fun v S1 H1 g r => by
    cases r with
    | @l p vs _ h r =>
      exact op_new (o := .lst (cutV vs lo hi)) g.sub (fun l hl => .l upd_same (r.cut.same (Same.new (g.sub.free hl)))) fun Q q => ⟨p, vs, rfl, sqL g.sub h, q⟩
theorem ev_slT {tlo thi : TO} {lo hi : Option Int} (h : Ev ta σ S H (R K (.t xs))) (h1 : EvO tlo σ S H lo) (h2 : EvO thi σ S H hi) (hn : ¬ (HT.sIx xs.length 0 lo = 0 ∧ HT.sIx xs.length xs.length hi = xs.length)) :
    Ev (tSl (rSlT K) ta tlo thi) σ S H (R K (.t (cutG xs lo hi))) :=
  ev_sl h h1 h2 fun v S1 H1 g r => by
    cases r with
    | @t p vs _ h r =>
      exact op_new (o := .tup (cutV vs lo hi)) g.sub (fun l hl => .t upd_same (r.cut.same (Same.new (g.sub.free hl)))) fun Q q => ⟨p, vs, rfl, sqT g.sub h, by rw [r.length]; exact hn, q⟩
/-- of a list or a tuple -/
def rSlA (K : PySem.W.Frag) : V → Option Int → Option Int → Hp → VK → Prop := fun x lo hi H Q => rSlL K x lo hi H Q ∨ rSlT K x lo hi H Q
theorem sl_any : SlR X (rSlA X.K) := by
  intro pins s σ H x v vl vu lo hi sl Q I rx hs pl pu h
  rcases h with h | h
  · exact sl_list pins s σ H x v vl vu lo hi sl Q I rx hs pl pu h
  · exact sl_tup pins s σ H x v vl vu lo hi sl Q I rx hs pl pu h
theorem ev_slAL {tlo thi : TO} {lo hi : Option Int} (h : Ev ta σ S H (R K (.l xs))) (h1 : EvO tlo σ S H lo) (h2 : EvO thi σ S H hi) : Ev (tSl (rSlA K) ta tlo thi) σ S H (R K (.l (cutG xs lo hi))) :=
  ev_sl h h1 h2 fun v S1 H1 g r => by
    cases r with
    | @l p vs _ h r =>
      exact op_new (o := .lst (cutV vs lo hi)) g.sub (fun l hl => .l upd_same (r.cut.same (Same.new (g.sub.free hl)))) fun Q q => .inl ⟨p, vs, rfl, sqL g.sub h, q⟩
theorem ev_slAT {tlo thi : TO} {lo hi : Option Int} (h : Ev ta σ S H (R K (.t xs))) (h1 : EvO tlo σ S H lo) (h2 : EvO thi σ S H hi) (hn : ¬ (HT.sIx xs.length 0 lo = 0 ∧ HT.sIx xs.length xs.length hi = xs.length)) :
    Ev (tSl (rSlA K) ta tlo thi) σ S H (R K (.t (cutG xs lo hi))) :=
  ev_sl h h1 h2 fun v S1 H1 g r => by
    cases r with
    | @t p vs _ h r =>
      exact op_new (o := .tup (cutV vs lo hi)) g.sub (fun l hl => .t upd_same (r.cut.same (Same.new (g.sub.free hl)))) fun Q q => .inr ⟨p, vs, rfl, sqT g.sub h, by rw [r.length]; exact hn, q⟩
theorem cutG_from {α : Type} (xs : List α) (k : Nat) : cutG xs (some (k : Int)) none = xs.drop k := by
  unfold cutG
  rw [HT.sIx_nat, HT.sIx_none]
  by_cases h : k ≤ xs.length
  · rw [Nat.min_eq_left h]
    exact List.take_of_length_le (by rw [List.length_drop]; omega)
  · rw [Nat.min_eq_right (by omega), List.drop_of_length_le (Nat.le_refl _), List.drop_of_length_le (by omega), List.take_nil]
theorem cutG_to {α : Type} (xs : List α) (k : Nat) : cutG xs none (some (k : Int)) = xs.take k := by
  unfold cutG
  rw [HT.sIx_nat, HT.sIx_none]
  show (xs.drop 0).take (min k xs.length - 0) = xs.take k
  rw [List.drop_zero, Nat.sub_zero]
  by_cases h : k ≤ xs.length
  · rw [Nat.min_eq_left h]
  · rw [Nat.min_eq_right (by omega), List.take_of_length_le (Nat.le_refl _), List.take_of_length_le (by omega)]
/-! ### in, is, == -/
def mapA (ws : List V) : List T := ws.map T.a
theorem ev_in {neg : Bool} {a : V} {ws : List V} (ha : Ev ta σ S H (R K (.a a))) (hb : Ev tb σ S H P) (hp : ∀ S1 v, P.P S1 v → Rep K S1 v (.l (ws.map T.a)) ∨ Rep K S1 v (.t (ws.map T.a))) :
    Ev (tOp (rIn K neg) ta tb) σ S H (Is (.bl (if neg then !inV a ws else inV a ws))) :=
  ev_op ha hb fun u y S1 H1 g e e' => by
    obtain ⟨rfl, fu⟩ := Rep.flat e
    rcases hp S1 y e' with e' | e'
    · cases e' with
      | l h r =>
        obtain ⟨rfl, fw⟩ := r.flat
        exact op_val g.sub rfl fun Q q => ⟨_, _, rfl, .inl (sqL g.sub h), fu, fw, q⟩
    · cases e' with
      | t h r =>
        obtain ⟨rfl, fw⟩ := r.flat
        exact op_val g.sub rfl fun Q q => ⟨_, _, rfl, .inr (sqT g.sub h), fu, fw, q⟩
theorem ev_inL {neg : Bool} {a : V} {ws : List V} (ha : Ev ta σ S H (R K (.a a))) (hb : Ev tb σ S H (R K (.l (ws.map T.a)))) : Ev (tOp (rIn K neg) ta tb) σ S H (Is (.bl (if neg then !inV a ws else inV a ws))) := ev_in ha hb fun _ _ h => .inl h
theorem ev_inT {neg : Bool} {a : V} {ws : List V} (ha : Ev ta σ S H (R K (.a a))) (hb : Ev tb σ S H (R K (.t (ws.map T.a)))) : Ev (tOp (rIn K neg) ta tb) σ S H (Is (.bl (if neg then !inV a ws else inV a ws))) := ev_in ha hb fun _ _ h => .inr h
def T.isNon : T → Bool
  | .a .non => true
  | _ => false
theorem Rep.isNon {v : V} (r : Rep K S v x) : decide (v = .non) = x.isNon := by
  cases r with
  | @a v h => cases v <;> first | rfl | (cases h)
  | l h r => rfl
  | t h r => rfl
  | d h r => rfl
def rIsNo : R2 := fun x y H Q => y = .non ∧ Q (.bl (decide (x = .non))) H
def rNotNo : R2 := fun x y H Q => y = .non ∧ Q (.bl (!decide (x = .non))) H
theorem ev_isN (ha : Ev ta σ S H (R K x)) : Ev (tOp rIsNo ta (tC .non)) σ S H (Is (.bl x.isNon)) :=
  ev_op ha (ev_c (P := Is .non) rfl) fun u y S1 H1 g e e' => by
    have e' : y = .non := e'
    subst e'
    exact op_val g.sub rfl fun Q q => ⟨rfl, by rw [Rep.isNon e]; exact q⟩
theorem ev_notN (ha : Ev ta σ S H (R K x)) : Ev (tOp rNotNo ta (tC .non)) σ S H (Is (.bl (!x.isNon))) :=
  ev_op ha (ev_c (P := Is .non) rfl) fun u y S1 H1 g e e' => by
    have e' : y = .non := e'
    subst e'
    exact op_val g.sub rfl fun Q q => ⟨rfl, by rw [Rep.isNon e]; exact q⟩
mutual
def T.py : T → PyData
  | .a .non => .none
  | .a (.bl b) => .bool b
  | .a (.int i) => .int i
  | .a (.str z) => .str z
  | .a _ => .none
  | .l xs => .list (pys xs)
  | .t xs => .tuple (pys xs)
  | .d _ => .dict []
def pys : List T → List PyData
  | [] => []
  | x :: xs => x.py :: pys xs
end
mutual
/-- no dict in it -/
def T.noD : T → Bool
  | .a _ => true
  | .l xs => noDs xs
  | .t xs => noDs xs
  | .d _ => false
def noDs : List T → Bool
  | [] => true
  | x :: xs => x.noD && noDs xs
end
mutual
theorem Rep.dp {v : V} {x : T} (e : Same S H) : Rep K S v x → x.noD = true → Dp K H v x.py
  | .a (v := v) h, _ => by
    cases v with
    | non => exact .non
    | bl b => exact .bl b
    | int i => exact .int i
    | str z => exact .str z
    | byt b => cases h
    | flt b => cases h
    | ref p => cases h
    | ty n => cases h
  | .l h r, n => .lst (sqL e h) (Reps.dp e r n)
  | .t h r, n => .tup (sqT e h) (Reps.dp e r n)
  | .d h r, n => nomatch n
theorem Reps.dp {vs : List V} {xs : List T} (e : Same S H) : Reps K S vs xs → noDs xs = true → DpAll K H vs (pys xs)
  | .nil, _ => .nil
  | .cons r q, n => by
    have n : (T.noD _ && noDs _) = true := n
    rw [Bool.and_eq_true] at n
    exact .cons (Rep.dp e r n.1) (Reps.dp e q n.2)
end
theorem ev_eqD (ha : Ev ta σ S H (R K x)) (hb : Ev tb σ S H (R K y)) (hx : x.noD = true) (hy : y.noD = true) (sx : SeqAt.shaped x.py = true) (sy : SeqAt.shaped y.py = true) : Ev (tOp (rEqD K) ta tb) σ S H (Is (.bl (PyData.eqv x.py y.py))) :=
  ev_op ha hb fun u w S1 H1 g e e' => op_val g.sub rfl fun Q q => ⟨x.py, y.py, Rep.dp g.sub e hx, Rep.dp g.sub e' hy, sx, sy, q⟩
theorem ev_neD (ha : Ev ta σ S H (R K x)) (hb : Ev tb σ S H (R K y)) (hx : x.noD = true) (hy : y.noD = true) (sx : SeqAt.shaped x.py = true) (sy : SeqAt.shaped y.py = true) : Ev (tOp (rNeD K) ta tb) σ S H (Is (.bl (!PyData.eqv x.py y.py))) :=
  ev_op ha hb fun u w S1 H1 g e e' => op_val g.sub rfl fun Q q => ⟨x.py, y.py, Rep.dp g.sub e hx, Rep.dp g.sub e' hy, sx, sy, q⟩
/-! ### tuple(x), list(x), x + y -/
theorem cat_nil {α : Type} (xs : List α) : xs ++ [] = xs := List.append_nil xs
theorem ev_cat (ha : Ev ta σ S H (R K (.l xs))) (hb : Ev tb σ S H (R K (.l ys))) (hn : xs.length + ys.length ≤ 100000) : Ev (tOp rCat ta tb) σ S H (R K (.l (xs ++ ys))) :=
  ev_op ha hb fun u y S1 H1 g e e' => by
    cases e with
    | @l p us _ h r =>
    cases e' with
    | @l p' us' _ h' r' =>
    exact op_new (o := .lst (us ++ us')) g.sub (fun l hl => .l upd_same ((r.append r').same (Same.new (g.sub.free hl)))) fun Q q => ⟨p, p', us, us', rfl, rfl, g.sub _ _ h, g.sub _ _ h', sz (by rw [r.length, r'.length]; exact hn), q⟩
theorem ev_catT (ha : Ev ta σ S H (R K (.t xs))) (hb : Ev tb σ S H (R K (.t ys))) (hx : xs ≠ []) (hn : xs.length + ys.length ≤ 100000) : Ev (tOp (rCatT K) ta tb) σ S H (R K (.t (xs ++ ys))) :=
  ev_op ha hb fun u y S1 H1 g e e' => by
    cases e with
    | @t p us _ h r =>
    cases e' with
    | @t p' us' _ h' r' =>
    have hu : us ≠ [] := fun z => hx (List.eq_nil_of_length_eq_zero (by rw [← r.length, z]; rfl))
    have hl : us.length + us'.length ≤ sizeLine := sz (by rw [r.length, r'.length]; exact hn)
    intro Q q
    refine ⟨p, p', us, us', rfl, rfl, sqT g.sub h, sqT g.sub h', hu, hl, fun z => ?_, fun z l hl => ?_⟩
    · subst z
      cases r'
      rw [List.append_nil] at q
      exact q _ S1 H1 (.refl g.sub) (.t h r)
    · exact q _ (upd S1 l (.tup (us ++ us'))) _ (.alloc g.sub hl) (.t upd_same ((r.append r').same (Same.new (g.sub.free hl))))
/-- list(x) of a list or a tuple -/
def rListA (K : PySem.W.Frag) : List V → Hp → VK → Prop := fun xs H Q => ∃ p ys, xs = [.ref p] ∧ (SqL K H p ys ∨ SqT K H p ys) ∧ ∀ l, H l = none → Q (.ref l) (upd H l (.lst ys))
theorem ev_listOf (h : Ev ta σ S H (R K x)) (hx : x = .l xs ∨ x = .t xs) : Ev (tCB (rListA K) (tCons ta tNil)) σ S H (R K (.l xs)) := fun S1 H1 g Q q =>
  h S1 H1 g _ fun v S2 H2 g2 r => by
    rcases hx with rfl | rfl
    · cases r with
      | @l p us _ h r => exact ⟨p, us, rfl, .inl (sqL g2.sub h), fun l hl => q _ (upd S2 l (.lst us)) _ (g2.trans (.alloc g2.sub hl)) (.l upd_same (r.same (Same.new (g2.sub.free hl))))⟩
    · cases r with
      | @t p us _ h r => exact ⟨p, us, rfl, .inr (sqT g2.sub h), fun l hl => q _ (upd S2 l (.lst us)) _ (g2.trans (.alloc g2.sub hl)) (.l upd_same (r.same (Same.new (g2.sub.free hl))))⟩
theorem mr_append : MtR X "list.append" rAppend := mt_append
theorem mr_extend : MtR X "list.extend" rExtend := mt_extend
theorem mr_popAt : MtR X "list.pop" rPopAt := mt_popAt
theorem mr_pop : MtR X "list.pop" rPop := mt_pop
theorem call_lenK (h : X.K = K := by rfl) : CallR X (.builtin "len") (rLenA K) := h ▸ call_len
theorem cr_allK (hc : X.calm = true) (h : X.K = K := by rfl) : CallR X (.builtin "all") (rAll K) := h ▸ cr_all hc
theorem cr_anyK (hc : X.calm = true) (h : X.K = K := by rfl) : CallR X (.builtin "any") (rAny K) := h ▸ cr_any hc
theorem cr_sumK (hc : X.calm = true) (h : X.K = K := by rfl) : CallR X (.builtin "sum") (rSum K) := h ▸ cr_sum hc
theorem cr_sortedSK (h : X.K = K := by rfl) : CallR X (.builtin "sorted") (rSortedS K) := h ▸ cr_sortedS
theorem call_isiTK (h : X.K = K := by rfl) : CallR X (.builtin "isinstance") (rIsiT K) := h ▸ call_isiT
theorem call_isiK1 (h : X.K = K := by rfl) : CallR X (.builtin "isinstance") (rIsi K) := h ▸ call_isi
theorem op_inK (h : X.K = K := by rfl) : OpR X (compareOp .In) (rIn K false) := h ▸ op_in_seq
theorem op_notInK (h : X.K = K := by rfl) : OpR X (compareOp .NotIn) (rIn K true) := h ▸ op_notIn_seq
theorem ixK (h : X.K = K := by rfl) : IxR X (rIx K) := h ▸ ix_seq
theorem sl_anyK (h : X.K = K := by rfl) : SlR X (rSlA K) := h ▸ sl_any
theorem call_listK (h : X.K = K := by rfl) : CallR X (.type "list") (rListA K) := h ▸ call_list_of
def rTupA (K : PySem.W.Frag) : List V → Hp → VK → Prop := fun xs H Q => ∃ p ys, xs = [.ref p] ∧ ((SqL K H p ys ∧ ∀ l, H l = none → Q (.ref l) (upd H l (.tup ys))) ∨ (SqT K H p ys ∧ Q (.ref p) H))
theorem call_tupleK (h : X.K = K := by rfl) : CallR X (.type "tuple") (rTupA K) := h ▸ call_tuple_of
theorem op_eqDK (hu : X.A.units + 64 < cLine) (h : X.K = K := by rfl) : OpR X (compareOp .Eq) (rEqD K) := h ▸ op_eqD hu
theorem op_neDK (hu : X.A.units + 64 < cLine) (h : X.K = K := by rfl) : OpR X (compareOp .NotEq) (rNeD K) := h ▸ op_neD hu
theorem op_catTK (h : X.K = K := by rfl) : OpR X (binaryOp .Add) (rCatT K) := h ▸ op_catT
theorem op_isNK : OpR X (compareOp .Is) rIsNo := op_isN
theorem op_notNK : OpR X (compareOp .IsNot) rNotNo := op_notN
theorem op_inSignK : OpR X (compareOp .In) rInSign := op_in_sign
theorem pi_seqK {tg e : Expr} (h : PE X e tl) (hk : X.K = K := by rfl) : PI X tg e (iSeq K tl) := hk ▸ pi_seq h
theorem pi_zipAK {e e2 : Expr} {ta : TA} {p pos tpos : Pos} {elts : List Expr} {kk : Nat} (hg : Gl X "zip") (hm : X.mg "zip" = none) (ha : PA X [e, e2] ta)
    (hs : starEach [e, e2] X.env = (false, eval e X.env) :: starEach [e2] X.env := by rfl) (hpl : (backTo pos (starEach [e2] X.env)).any (·.1) = false := by rfl) (hk : X.K = K := by rfl) :
    PI X (.Tuple elts kk tpos) (.Call (.Name "zip" p) [e, e2] [] pos) (iZipA K ta) := hk ▸ pi_zipA hg hm ha hs hpl
theorem pi_enumK {e : Expr} {ta : TA} {p pos tpos : Pos} {elts : List Expr} {kk : Nat} (hg : Gl X "enumerate") (hm : X.mg "enumerate" = none) (ha : PA X [e] ta) (hs : starEach [e] X.env = [(false, eval e X.env)] := by rfl) (hk : X.K = K := by rfl) :
    PI X (.Tuple elts kk tpos) (.Call (.Name "enumerate" p) [e] [] pos) (iEnum K ta) := hk ▸ pi_enum hg hm ha hs
/-- isinstance(x, (C, D, F)) -/
theorem ev_isi3 {c d f : String} (h : Ev ta σ S H (R K x)) (hc : c ∈ dataTys) (hn : c ≠ "NoneType") (hd : d ∈ dataTys) (hm : d ≠ "NoneType") (hf : f ∈ dataTys) (ho : f ≠ "NoneType") :
    Ev (tCB (rIsiT K) (tCons ta (tCons (tTup (tCons (tC (.ty c)) (tCons (tC (.ty d)) (tCons (tC (.ty f)) tNil)))) tNil))) σ S H (Is (.bl (isSub x.ty c || (isSub x.ty d || isSub x.ty f)))) := fun S1 H1 g Q q =>
  h S1 H1 g _ fun v S2 H2 g2 r => ⟨by show 3 ≤ sizeLine; decide, fun p hp => by
    refine ⟨v, p, [.ty c, .ty d, .ty f], .type x.ty, [.type c, .type d, .type f], _, rfl, upd_same, .cons (.ty c) (.cons (.ty d) (.cons (.ty f) .nil)), Rep.tyX (g2.sub.trans (Same.new hp)) r, ?_, q _ S2 _ (g2.trans (.vol g2.sub hp)) rfl⟩
    refine kitAny_cons (kit_ty (kit_of' r.ty_in hc hn)) (fun e => ?_) (fun e => by rw [e]; rfl)
    rw [e, Bool.false_or]
    refine kitAny_cons (kit_ty (kit_of' r.ty_in hd hm)) (fun e => ?_) (fun e => by rw [e]; rfl)
    rw [e, Bool.false_or]
    exact kitAny_cons (kit_ty (kit_of' r.ty_in hf ho)) (fun e => by rw [e]; exact kitAny_nil) (fun e => e)⟩
end
end Uw
end
section
set_option Elab.async false
set_option linter.all false
set_option maxRecDepth 100000
namespace Uw
open PySem PySem.Spec PyProof.Rows L2 RZ
/-! ### sorted of tuples of texts -/
def codes (z : Str) : Int ⊕ List Nat := Sum.inr z.cps.toList
/-- the order of tuples of texts -/
def ltSS (a b : List Str) : Bool := PyProof.Rows.lexLt itemOrd (a.map codes) (b.map codes)
def shapeS : Nat → Bool := fun _ => true
theorem items_strs : ∀ {zs : List Str} {us : List Value} (i : Nat), Vals (zs.map V.str) us → tupItems shapeS i us = some (zs.map codes)
  | [], _, _, .nil => rfl
  | z :: zs, _, i, .cons r q => by
    obtain ⟨t, rfl⟩ := r
    show (if shapeS i = true then (tupItems shapeS (i + 1) _).map _ else none) = _
    rw [if_pos (show shapeS i = true from rfl), items_strs (i + 1) q]
    rfl
def rankV (h : Heap) (v : Value) : List (Int ⊕ List Nat) := (tupKey h shapeS v).getD []
def ltV (h : Heap) (v u : Value) : Bool := PyProof.Rows.lexLt itemOrd (rankV h v) (rankV h u)
theorem swo_ltV (h : Heap) : SrtO.Swo (ltV h) := by
  refine ⟨fun x y hl => ?_, fun x y z h1 h2 => ?_⟩
  · cases e : ltV h y x with
    | false => rfl
    | true =>
      have := lex_trans (O := itemOrd) _ _ _ hl e
      rw [lex_irrefl] at this
      cases this
  · cases e : ltV h z x with
    | false => rfl
    | true =>
      rcases lex_negTrans (O := itemOrd) (rankV h z) (rankV h y) (rankV h x) e with e | e
      · exact absurd (h2.symm.trans e) (by decide)
      · exact absurd (h1.symm.trans e) (by decide)
/-- a tuple of texts, not empty, at p -/
def IsTS (h : Heap) (p : Addr) (zs : List Str) : Prop := ∃ us : List Value, Vals (zs.map V.str) us ∧ IsTup h p us.toArray ∧ zs ≠ []
theorem IsTS.key {h : Heap} {p : Addr} {zs : List Str} (t : IsTS h p zs) : tupKey h shapeS (.ref p) = some (zs.map codes) := by
  obtain ⟨us, r, ⟨o, ho, hc, n, hd⟩, _⟩ := t
  show (match h.get? p with | some o => (match o.data with | .seq xs _ => tupItems shapeS 0 xs.toList | _ => none) | none => none) = _
  rw [ho]
  show (match o.data with | .seq xs _ => tupItems shapeS 0 xs.toList | _ => none) = _
  rw [hd]
  show tupItems shapeS 0 us.toArray.toList = _
  rw [List.toList_toArray]
  exact items_strs 0 r
theorem IsTS.keeps {h h' : Heap} {p : Addr} {zs : List Str} (t : IsTS h p zs) (k : ∀ o, h.get? p = some o → o.cls = .type "tuple" → h'.get? p = some o) : IsTS h' p zs := by
  obtain ⟨us, r, ⟨o, ho, hc, q⟩, hz⟩ := t
  exact ⟨us, r, ⟨o, k o ho hc, hc, q⟩, hz⟩
theorem tupsOf {h : Heap} {z : Addr → List Str} : ∀ {as : List Addr}, (∀ p ∈ as, IsTS h p (z p)) → ∃ fs, TupsOf h shapeS (as.map Value.ref) fs ∧ fs.length = as.length
  | [], _ => ⟨[], .nil, rfl⟩
  | p :: as, hp => by
    obtain ⟨fs, h1, h2⟩ := tupsOf (as := as) fun q hq => hp q (List.mem_cons_of_mem _ hq)
    obtain ⟨us, r, ⟨o, ho, hc, n, hd⟩, hz⟩ := hp p List.mem_cons_self
    cases hzp : z p with
    | nil => exact absurd hzp hz
    | cons z1 zr =>
      rw [hzp] at r
      cases r with
      | @cons _ u _ us' r1 r2 =>
        obtain ⟨t, rfl⟩ := r1
        refine ⟨.str z1 t :: fs, .cons ⟨p, o, _, n, rfl, ho, hc, hd, rfl, (fun e => Bool.noConfusion (show true = false from e)), (fun _ => ⟨z1, t, rfl⟩)⟩ h1, ?_⟩
        rw [List.length_cons, List.length_cons, h2]
section
variable {prog : Program} {w : World} {A : Around} {E : Value → Shared → Prop} {s : Shared}
theorem sortable_ts {a : Addr} {as : List Addr} {z : Addr → List Str} (h0 : 0 < as.length) (hp : ∀ p ∈ as, IsTS s.heap p (z p)) (ha : ∀ o, s.heap.get? a = some o → o.cls ≠ .type "tuple") (hh : Heap) (hhk : ∀ p ∈ as, tupKey hh shapeS (.ref p) = some ((z p).map codes)) :
    SrtO.SortableO prog w A s a (as.map Value.ref) (ltV hh) := by
  intro h' keep
  have hp' : ∀ p ∈ as, IsTS h' p (z p) := fun p hm => (hp p hm).keeps fun o e c => keep p o (fun q => ha o (q ▸ e) c) e
  refine ⟨tuples' true, fun Q E hq => ?_, ?_⟩
  · obtain ⟨fs, h1, h2⟩ := tupsOf hp'
    exact tup_kind (s := { s with heap := h' }) (by omega) h1 hq
  · intro p q hm hm'
    obtain ⟨b, hb, eb⟩ := List.mem_map.mp hm
    obtain ⟨c, hc, ec⟩ := List.mem_map.mp hm'
    have k1 := (hp' b hb).key
    have k2 := (hp' c hc).key
    rw [eb] at k1
    rw [ec] at k2
    refine tup_ltAt (s := { s with heap := h' }) (shape := shapeS) true A _ p.1 q.1 _ _ k1 k2 ⟨rfl, ?_⟩
    show PyProof.Rows.lexLt itemOrd _ _ = ltV hh p.1 q.1
    unfold ltV rankV
    rw [← eb, ← ec, hhk b hb, hhk c hc]
    rfl
/-- the addresses in a list of references -/
def adr : Value → Addr
  | .ref a => a
  | _ => 0
theorem sorted_ts {l : Addr} {as : List Addr} {z : Addr → List Str} {Q : Value → Shared → Prop} (hl : s.heap.IsList l (as.map Value.ref).toArray) (hz : as.length ≤ sizeLine) (hp : ∀ p ∈ as, IsTS s.heap p (z p))
    (h : ∀ (h' : Heap) (d : Addr) (as' : List Addr), as'.Perm as → as'.Pairwise (fun p q => ltSS (z q) (z p) = false) → (∀ b o, s.heap.get? b = some o → h'.get? b = some o) → s.heap.objs.size ≤ d → (∃ n, h'.get? d = some (seqObj "list" (as'.map Value.ref).toArray n)) → Q (.ref d) { s with heap := h' }) :
    wpAny (model prog w) A (call (.builtin "sorted") [.ref l]) Q E s := by
  have hk : ∀ p ∈ as, tupKey s.heap shapeS (.ref p) = some ((z p).map codes) := fun p hm => (hp p hm).key
  refine SrtO.sorted_ord (swo_ltV s.heap) hl (by rw [List.length_map]; exact hz) (fun h2 h₁ a ha kk => ?_) fun out hs hb => ?_
  · refine sortable_ts (s := { s with heap := h₁ }) (z := z) (by rw [List.length_map] at h2; omega) (fun p hm => (hp p hm).keeps fun o e c => (kk p o e).2) (fun o e => ?_) s.heap hk
    have e' : some o = some (seqObj "list" (as.map Value.ref).toArray 0) := e.symm.trans ha
    cases e'
    intro c
    exact absurd (Value.type.inj c) (by decide)
  · have e1 : (out.map adr).Perm as := by
      have := hb.perm.map adr
      rw [List.map_map] at this
      have e : as.map (adr ∘ Value.ref) = as := by
        rw [show (adr ∘ Value.ref) = id from rfl, List.map_id]
      rw [e] at this
      exact this
    have e2 : out = (out.map adr).map Value.ref := by
      rw [List.map_map]
      have : ∀ v ∈ out, (Value.ref ∘ adr) v = v := fun v hv => by
        obtain ⟨p, _, rfl⟩ := List.mem_map.mp (hb.perm.mem_iff.mp hv)
        rfl
      rw [List.map_congr_left this, List.map_id']
    have hat := sortedAll_at s.heap (as.map Value.ref) out.toArray
    rw [e2] at hat
    rw [e2]
    refine h _ _ (out.map adr) e1 ?_ (fun b o e => sortedAll_old e) (Nat.le_succ _) hat
    rw [List.pairwise_map]
    refine hs.imp_of_mem fun {x y} hx hy hxy => ?_
    obtain ⟨p, hpm, rfl⟩ := List.mem_map.mp (hb.perm.mem_iff.mp hx)
    obtain ⟨q, hqm, rfl⟩ := List.mem_map.mp (hb.perm.mem_iff.mp hy)
    unfold ltV rankV at hxy
    rw [hk p hpm, hk q hqm] at hxy
    exact hxy
end
section
variable {X : Cx} {K : PySem.W.Frag}
def rSortedT (K : PySem.W.Frag) : List V → Hp → VK → Prop := fun vs H Q => ∃ (a : Addr) (as : List Addr) (z : Addr → List Str), vs = [.ref a] ∧ SqL K H a (as.map V.ref) ∧ as.length ≤ 100000 ∧ (∀ p ∈ as, H p = some (.tup ((z p).map V.str)) ∧ z p ≠ []) ∧
  ∀ (as' : List Addr) (q : Addr), as'.Perm as → as'.Pairwise (fun p p' => ltSS (z p') (z p) = false) → H q = none → Q (.ref q) (upd H q (.lst (as'.map V.ref)))
theorem vals_refs : ∀ {as : List Addr} {us : List Value}, Vals (as.map V.ref) us → us = as.map Value.ref
  | [], _, .nil => rfl
  | a :: as, _, .cons r q => by
    have r : _ = Value.ref a := r
    rw [r, vals_refs q]
    rfl
theorem vals_of_refs : ∀ (as : List Addr), Vals (as.map V.ref) (as.map Value.ref)
  | [] => .nil
  | a :: as => .cons rfl (vals_of_refs as)
theorem cr_sortedT (hk : X.K = K := by rfl) : CallR X (.builtin "sorted") (rSortedT K) := by
  subst hk
  intro pins s σ H vs us Q I r h
  obtain ⟨a, as, z, rfl, hs, hlen, hp, q⟩ := h
  obtain ⟨its, rv, hl, _⟩ := I.list hs
  rw [Vals.ref1 r]
  have e := vals_refs rv
  subst e
  refine sorted_ts (z := z) hl.isList (sz hlen) (fun p hm => ?_) fun h' d as' h1 h2 h3 h4 h5 => ?_
  · obtain ⟨hH, hz⟩ := hp p hm
    obtain ⟨_, its, rt, ht⟩ := I.hok p _ hH
    exact ⟨its, rt, ht, hz⟩
  · obtain ⟨n, h5⟩ := h5
    refine ⟨.ref d, upd H d (.lst (as'.map V.ref)), I.laid (t' := s.toks) h3 h4 ⟨by rw [List.length_map, h1.length_eq]; exact sz hlen, _, n, vals_of_refs as', h5⟩, rfl, q as' d h1 h2 (I.hok.fresh h4)⟩
end
end Uw
end
section
set_option Elab.async false
set_option linter.all false
set_option maxRecDepth 100000
namespace Uw
open PySem PySem.Spec PyProof.Rows L2 RZ
/-! ### the one sorted list -/
section
variable {O : KeyOrd}
def ins (O : KeyOrd) (x : O.α) : List O.α → List O.α
  | [] => [x]
  | y :: ys => if O.blt y x = true then y :: ins O x ys else x :: y :: ys
def isort (O : KeyOrd) : List O.α → List O.α
  | [] => []
  | x :: xs => ins O x (isort O xs)
theorem ins_perm (x : O.α) : ∀ ys, (ins O x ys).Perm (x :: ys)
  | [] => .refl _
  | y :: ys => by
    unfold ins
    by_cases h : O.blt y x = true
    · rw [if_pos h]
      exact ((ins_perm x ys).cons y).trans (.swap x y ys)
    · rw [if_neg h]
theorem isort_perm : ∀ xs, (isort O xs).Perm xs
  | [] => .refl _
  | x :: xs => (ins_perm x _).trans ((isort_perm xs).cons x)
abbrev Up (O : KeyOrd) (xs : List O.α) : Prop := xs.Pairwise fun a b => O.blt b a = false
theorem ins_up (x : O.α) : ∀ {ys}, Up O ys → Up O (ins O x ys)
  | [], _ => List.pairwise_singleton _ _
  | y :: ys, h => by
    unfold ins
    obtain ⟨h1, h2⟩ := List.pairwise_cons.mp h
    by_cases hc : O.blt y x = true
    · rw [if_pos hc]
      refine List.pairwise_cons.mpr ⟨fun z hz => ?_, ins_up x h2⟩
      rcases List.mem_cons.mp ((ins_perm x ys).mem_iff.mp hz) with e | e
      · rw [e]
        exact KeyOrd.klt_asymm (O := O) hc
      · exact h1 z e
    · rw [if_neg hc]
      have hxy : O.kle x y := by
        rw [Bool.not_eq_true] at hc
        exact hc
      refine List.pairwise_cons.mpr ⟨fun z hz => ?_, h⟩
      rcases List.mem_cons.mp hz with e | e
      · rw [e]
        exact hxy
      · exact KeyOrd.kle_trans hxy (h1 z e)
theorem isort_up : ∀ xs, Up O (isort O xs)
  | [] => .nil
  | x :: xs => ins_up x (isort_up xs)
theorem up_uniq : ∀ {xs ys : List O.α}, xs.Perm ys → Up O xs → Up O ys → xs = ys
  | [], ys, p, _, _ => (List.Perm.nil_eq p)
  | x :: xs, [], p, _, _ => absurd p.length_eq (by simp)
  | x :: xs, y :: ys, p, h, k => by
    obtain ⟨h1, h2⟩ := List.pairwise_cons.mp h
    obtain ⟨k1, k2⟩ := List.pairwise_cons.mp k
    have e : x = y := by
      have hx : x ∈ y :: ys := p.mem_iff.mp List.mem_cons_self
      have hy : y ∈ x :: xs := p.mem_iff.mpr List.mem_cons_self
      rcases List.mem_cons.mp hx with e | hx
      · exact e
      · rcases List.mem_cons.mp hy with e | hy
        · exact e.symm
        · exact O.total x y (k1 x hx) (h1 y hy)
    subst e
    rw [up_uniq (List.Perm.cons_inv p) h2 k2]
theorem isort_eq {xs ys : List O.α} (p : ys.Perm xs) (h : Up O ys) : ys = isort O xs := up_uniq (p.trans (isort_perm xs).symm) h (isort_up xs)
theorem isort_of_perm {xs ys : List O.α} (p : ys.Perm xs) : isort O ys = isort O xs := isort_eq ((isort_perm ys).trans p) (isort_up ys)
theorem isort_len (xs : List O.α) : (isort O xs).length = xs.length := (isort_perm xs).length_eq
theorem isort_id {xs : List O.α} (h : Up O xs) : isort O xs = xs := (isort_eq (.refl _) h).symm
end
@[reducible] def strO : KeyOrd where
  α := Str
  blt a b := decide (a.cps.toList < b.cps.toList)
  irrefl a := strKind.irrefl _
  trans a b c := strKind.trans _ _ _
  negTrans a b c := strKind.negTrans _ _ _
  total a b h1 h2 := by
    have h := strKind.total a.cps.toList b.cps.toList h1 h2
    cases a with
    | mk a =>
    cases b with
    | mk b =>
    have h : a.toList = b.toList := h
    rw [Array.toList_inj] at h
    rw [h]
theorem codes_inj {a b : Str} (h : codes a = codes b) : a = b := by
  have h : a.cps.toList = b.cps.toList := Sum.inr.inj h
  cases a with
  | mk a =>
  cases b with
  | mk b =>
  have h : a.toList = b.toList := h
  rw [Array.toList_inj] at h
  rw [h]
theorem codes_map_inj : ∀ {a b : List Str}, a.map codes = b.map codes → a = b
  | [], [], _ => rfl
  | [], _ :: _, h => by simp at h
  | _ :: _, [], h => by simp at h
  | x :: xs, y :: ys, h => by
    rw [List.map_cons, List.map_cons] at h
    injection h with h1 h2
    rw [codes_inj h1, codes_map_inj h2]
@[reducible] def tupO : KeyOrd where
  α := List Str
  blt := ltSS
  irrefl a := lex_irrefl _
  trans a b c := lex_trans _ _ _
  negTrans a b c := lex_negTrans _ _ _
  total a b h1 h2 := codes_map_inj (lex_total (O := itemOrd) _ _ h1 h2)
theorem rising_up : ∀ (xs : List Str) (x : Str), risingS x xs = true → Up strO (x :: xs)
  | [], x, _ => List.pairwise_singleton _ _
  | y :: ys, x, h => by
    have h : (!ltCps y.cps.toList x.cps.toList && risingS y ys) = true := h
    rw [Bool.and_eq_true, Bool.not_eq_true'] at h
    have ih := rising_up ys y h.2
    have hxy : (strO).kle x y := by
      have := h.1
      rw [PyProof.Rows.ltCps_eq] at this
      exact this
    refine List.pairwise_cons.mpr ⟨fun z hz => ?_, ih⟩
    rcases List.mem_cons.mp hz with e | e
    · rw [e]
      exact hxy
    · exact KeyOrd.kle_trans (O := strO) hxy ((List.pairwise_cons.mp ih).1 z e)
theorem sortedS_up : ∀ {xs : List Str}, sortedS xs = true → Up strO xs
  | [], _ => .nil
  | x :: xs, h => rising_up xs x h
/-! ### trees of texts -/
def tS (z : Str) : T := .a (.str z)
def tT (zs : List Str) : T := .t (zs.map tS)
section
variable {X : Cx} {K : PySem.W.Frag} {σ : L2.St} {S S' H H' : Hp} {ta tb tc te tx tl : TE}
theorem map_tS (xs : List Str) : xs.map tS = (xs.map V.str).map T.a := by rw [List.map_map]; rfl
theorem reps_strs {us : List V} {xs : List Str} (r : Reps K S us (xs.map tS)) : us = xs.map V.str := by
  rw [map_tS] at r
  exact r.flat.1
theorem all_flat_strs (xs : List Str) : (xs.map V.str).all flatV = true := by
  rw [List.all_map]
  exact List.all_eq_true.mpr fun _ _ => rfl
theorem reps_of_strs (xs : List Str) : Reps K S (xs.map V.str) (xs.map tS) := by
  rw [map_tS]
  exact Reps.of_flat (all_flat_strs xs)
theorem ev_sortedS {xs : List Str} (h : Ev ta σ S H (R K (.l (xs.map tS)))) (hn : xs.length < 64) : Ev (tCB (rSortedS K) (tCons ta tNil)) σ S H (R K (.l ((isort strO xs).map tS))) := fun S1 H1 g Q q =>
  h S1 H1 g _ fun v S2 H2 g2 r => by
    obtain ⟨p, us, rfl, hp, rs⟩ : ∃ p us, v = .ref p ∧ S2 p = some (.lst us) ∧ Reps K S2 us (xs.map tS) := by
      cases r with
      | l h r => exact ⟨_, _, rfl, h, r⟩
    have e := reps_strs rs
    subst e
    refine ⟨p, xs, rfl, sqL g2.sub hp, hn, fun ys l h1 h2 hl => ?_⟩
    have e := isort_eq (O := strO) h1 (sortedS_up h2)
    subst e
    exact q _ (upd S2 l (.lst _)) _ (g2.trans (.alloc g2.sub hl)) (.l upd_same (reps_of_strs _))
theorem reps_tups : ∀ {us : List V} {xs : List (List Str)}, Reps K S us (xs.map tT) → ∃ as : List Addr, us = as.map V.ref ∧ Paired (fun p zs => S p = some (.tup (zs.map V.str))) as xs
  | [], [], _ => ⟨[], rfl, .nil⟩
  | [], _ :: _, r => nomatch r
  | _ :: _, [], r => nomatch r
  | v :: us, x :: xs, .cons r q => by
    obtain ⟨as, rfl, hp⟩ := reps_tups q
    cases r with
    | @t p vs _ h r =>
      have e := reps_strs r
      subst e
      exact ⟨p :: as, rfl, .cons h hp⟩
theorem reps_of_tups : ∀ {as : List Addr} {xs : List (List Str)}, Paired (fun p zs => S p = some (.tup (zs.map V.str))) as xs → Reps K S (as.map V.ref) (xs.map tT)
  | _, _, .nil => .nil
  | _, _, .cons h q => .cons (.t h (reps_of_strs _)) (reps_of_tups q)
/-- the texts of the tuple at p -/
def strsAt (S : Hp) (p : Addr) : List Str := match S p with
  | some (.tup us) => us.map fun v => match v with | .str z => z | _ => Str.empty
  | _ => []
theorem strsAt_eq {p : Addr} {zs : List Str} (h : S p = some (.tup (zs.map V.str))) : strsAt S p = zs := by
  unfold strsAt
  rw [h]
  show (zs.map V.str).map _ = zs
  rw [List.map_map]
  exact List.map_id zs
theorem strsAt_map : ∀ {as : List Addr} {xs : List (List Str)}, Paired (fun p zs => S p = some (.tup (zs.map V.str))) as xs → as.map (strsAt S) = xs
  | _, _, .nil => rfl
  | _, _, .cons h q => by rw [List.map_cons, strsAt_eq h, strsAt_map q]
theorem paired_mem : ∀ {as : List Addr} {xs : List (List Str)}, Paired (fun p zs => S p = some (.tup (zs.map V.str))) as xs → ∀ p ∈ as, ∃ zs ∈ xs, S p = some (.tup (zs.map V.str))
  | _, _, .nil, p, hp => by simp at hp
  | _, _, .cons h q, p, hp => by
    rcases List.mem_cons.mp hp with e | e
    · exact ⟨_, List.mem_cons_self, e ▸ h⟩
    · obtain ⟨zs, h1, h2⟩ := paired_mem q p e
      exact ⟨zs, List.mem_cons_of_mem _ h1, h2⟩
theorem paired_of : ∀ {as : List Addr}, (∀ p ∈ as, ∃ zs : List Str, S p = some (.tup (zs.map V.str))) → Paired (fun p zs => S p = some (.tup (zs.map V.str))) as (as.map (strsAt S))
  | [], _ => .nil
  | p :: as, h => by
    obtain ⟨zs, hz⟩ := h p List.mem_cons_self
    exact .cons (by rw [strsAt_eq hz]; exact hz) (paired_of fun q hq => h q (List.mem_cons_of_mem _ hq))
/-- sorted of a list of tuples of texts, none empty -/
theorem ev_sortedT {xs : List (List Str)} (h : Ev ta σ S H (R K (.l (xs.map tT)))) (hn : xs.length ≤ 100000) (hx : ∀ zs ∈ xs, zs ≠ []) : Ev (tCB (rSortedT K) (tCons ta tNil)) σ S H (R K (.l ((isort tupO xs).map tT))) := fun S1 H1 g Q q =>
  h S1 H1 g _ fun v S2 H2 g2 r => by
    obtain ⟨p, us, rfl, hp, rs⟩ : ∃ p us, v = .ref p ∧ S2 p = some (.lst us) ∧ Reps K S2 us (xs.map tT) := by
      cases r with
      | l h r => exact ⟨_, _, rfl, h, r⟩
    obtain ⟨as, rfl, hpr⟩ := reps_tups rs
    have hlen : as.length = xs.length := by rw [← strsAt_map hpr, List.length_map]
    refine ⟨p, as, strsAt S2, rfl, sqL g2.sub hp, by omega, fun a ha => ?_, fun as' l h1 h2 hl => ?_⟩
    · obtain ⟨zs, hz, hs⟩ := paired_mem hpr a ha
      rw [strsAt_eq hs]
      exact ⟨g2.sub _ _ hs, hx zs hz⟩
    · have hall : ∀ a ∈ as', ∃ zs : List Str, S2 a = some (.tup (zs.map V.str)) := fun a ha => by
        obtain ⟨zs, _, hs⟩ := paired_mem hpr a (h1.mem_iff.mp ha)
        exact ⟨zs, hs⟩
      have hq := paired_of hall
      have e := isort_eq (O := tupO) (xs := xs) (ys := as'.map (strsAt S2)) (by rw [← strsAt_map hpr]; exact h1.map _) (List.pairwise_map.mpr h2)
      rw [e] at hq
      exact q _ (upd S2 l (.lst _)) _ (g2.trans (.alloc g2.sub hl)) (.l upd_same ((reps_of_tups hq).same (Same.new (g2.sub.free hl))))
end
end Uw
end
section
set_option Elab.async false
set_option linter.all false
set_option maxRecDepth 100000
namespace Uw
open PySem PySem.Spec PyProof.Rows L2 RZ
section
variable {X : Cx} {K : PySem.W.Frag} {σ : L2.St} {S S' H H' : Hp} {ta tb tc te tx tl : TE} {tt : TT} {P P1 P2 P3 : Pd} {wi : TI} {n : Nat} {it : Nat → Pd} {g : TG} {tu : TS} {D : Ends} {xs ys : List T}
/-- a loop: Pv tells of the turn, the slots, what is stable and all -/
theorem at_for (hi : EvI wi σ S H n it) (e : Same S H)
    (k : ∀ S1 H1, Grow S H S1 H1 → ∃ Pv : Nat → L2.St → Hp → Hp → Prop, (∀ i σ' S' H', Pv i σ' S' H' → Same S1 S' ∧ Same S' H') ∧ Pv 0 σ S1 H1 ∧
      (∀ i σ' S' H' x S2 H2, i < n → Pv i σ' S' H' → Grow S' H' S2 H2 → (it i).P S2 x → g x σ' H2 fun σ2 H3 => tu { D with nx := fun σ3 H4 => ∃ S4, Pv (i + 1) σ3 S4 H4, ct := fun σ3 H4 => ∃ S4, Pv (i + 1) σ3 S4 H4, bk := D.nx } σ2 H3) ∧
      (∀ σ' S' H', Pv n σ' S' H' → D.nx σ' H')) : tFor wi g tu D σ H := hi S H (.refl e) _ fun J S1 H1 g1 W => by
  obtain ⟨Pv, hP, h0, hs, hd⟩ := k S1 H1 g1
  refine ⟨fun i m σ' H' => m = n - i ∧ i ≤ n ∧ ∃ S', Pv i σ' S' H', ⟨n, by simp, Nat.zero_le _, S1, h0⟩, ?_⟩
  rintro i m σ' H' ⟨rfl, hin, S', p⟩
  obtain ⟨e1, e2⟩ := hP i σ' S' H' p
  by_cases hlt : i < n
  · refine .inr ⟨W.go i e1 e2 hlt, fun σ3 H3 => ∃ S4, Pv (i + 1) σ3 S4 H3, fun σ3 H3 q => ⟨n - (i + 1), by omega, rfl, hlt, q⟩, fun x H2 y => ?_⟩
    obtain ⟨S2, g2, px⟩ := W.yld i x H2 e1 e2 hlt y
    exact hs i σ' S' H' x S2 H2 hlt p g2 px
  · have e : i = n := by omega
    subst e
    exact .inl ⟨W.stop e1 e2, hd σ' S' H' p⟩
theorem wk_enum {a : Addr} {vs : List V} {it : Nat → Pd} (h : SqL K S a vs) (r : ∀ i, i < vs.length → ∃ v, vs[i]? = some v ∧ (it i).P S v) : Wk (Ite K a) S vs.length (fun i => Pr (Is (.int (i : Nat))) (it i)) where
  go := fun {S' H'} i e e' hi => by
    obtain ⟨v, hv, _⟩ := r i hi
    exact ⟨vs, v, (e.trans e').seq h, hv⟩
  yld := fun {S' H'} i x H2 e e' hi y => by
    obtain ⟨v, hv, pv⟩ := r i hi
    obtain ⟨D, z, rfl, hD, rfl, f1⟩ := y
    have e1 := (f1 vs ((e.trans e').seq h)).symm.trans hv
    cases e1
    exact ⟨upd S' D (.tup [.int (i : Nat), _]), .alloc e' hD, D, _, _, rfl, upd_same, rfl, (it i).mo (e.trans (Same.new (e'.free hD))) pv⟩
  stop := fun {S' H'} e e' => ⟨vs, (e.trans e').seq h, Nat.le_refl _⟩
theorem ei_enumL (h : Ev tl σ S H (R K (.l xs))) : EvI (iEnum K (tCons tl tNil)) σ S H xs.length (fun i => Pr (Is (.int (i : Nat))) (R K (nth xs i))) := fun S1 H1 g Q q => h S1 H1 g _ fun v S2 H2 g2 r => by
  cases r with
  | @l p us _ h r =>
    refine ⟨p, us, rfl, sqL g2.sub h, q _ S2 H2 g2 ?_⟩
    rw [← r.length]
    exact wk_enum (it := fun i => R K (nth xs i)) (.inl (.inl h)) fun i hi => r.get (nth_get (by rw [← r.length]; exact hi))
/-- a, b of a pair -/
theorem at_pair {j k : Nat} {x : V} {Q : L2.St → Hp → Prop} (e : Same S H) (p : (Pr P1 P2).P S x) (q : ∀ a b, P1.P S a → P2.P S b → Q ((σ.set j (some a)).set k (some b)) H) : gTup K 2 (gCons (gName j) (gCons (gName k) gNil)) x σ H Q := by
  obtain ⟨p, a, b, rfl, h, pa, pb⟩ := p
  exact ⟨p, [a, b], rfl, sqT e h, rfl, a, [b], rfl, b, [], rfl, rfl, q a b pa pb⟩
/-! ### statements -/
theorem q_set {i : Nat} {tz : TS} (h : Ev te σ S H P) (e : Same S H) (k : ∀ v S2 H2, Grow S H S2 H2 → P.P S2 v → tz D (σ.set i (some v)) H2) : tSeq (tAsg te (gName i)) tz D σ H := h.at e k
theorem s_set {i : Nat} (h : Ev te σ S H P) (e : Same S H) (k : ∀ v S2 H2, Grow S H S2 H2 → P.P S2 v → D.nx (σ.set i (some v)) H2) : tAsg te (gName i) D σ H := h.at e k
theorem q_ret (h : Ev te σ S H P) (e : Same S H) (k : ∀ v S2 H2, Grow S H S2 H2 → P.P S2 v → D.rt v H2) : tRet te D σ H := h.at e k
theorem q_drop {tz : TS} (h : Ev te σ S H P) (e : Same S H) (k : ∀ v S2 H2, Grow S H S2 H2 → P.P S2 v → tz D σ H2) : tSeq (tDrop te) tz D σ H := h.at e k
theorem q_if {b : Bool} {t1 t2 tz : TS} (h : EvT tt σ S H b) (e : Same S H) (k1 : b = true → ∀ S2 H2, Grow S H S2 H2 → t1 { D with nx := tz D } σ H2) (k2 : b = false → ∀ S2 H2, Grow S H S2 H2 → t2 { D with nx := tz D } σ H2) : tSeq (tIfS tt t1 t2) tz D σ H := h.at e fun S2 H2 g => by
  cases b with
  | true => exact k1 rfl S2 H2 g
  | false => exact k2 rfl S2 H2 g
theorem s_if {b : Bool} {t1 t2 : TS} (h : EvT tt σ S H b) (e : Same S H) (k1 : b = true → ∀ S2 H2, Grow S H S2 H2 → t1 D σ H2) (k2 : b = false → ∀ S2 H2, Grow S H S2 H2 → t2 D σ H2) : tIfS tt t1 t2 D σ H := h.at e fun S2 H2 g => by
  cases b with
  | true => exact k1 rfl S2 H2 g
  | false => exact k2 rfl S2 H2 g
theorem q_asg {tz : TS} (h : te σ H fun x H1 => g x σ H1 (tz D)) : tSeq (tAsg te g) tz D σ H := h
theorem q_par {i j : Nat} {ta : TA} {tz : TS} (h : ta σ H fun vs H1 => ∃ v w, vs = [v, w] ∧ tz D ((σ.set i (some v)).set j (some w)) H1) : tSeq (tPar i j ta) tz D σ H := h
theorem q_retT (h : te σ H D.rt) : tRet te D σ H := h
theorem q_when {b : Bool} {t1 tz : TS} (h : EvT tt σ S H b) (e : Same S H) (k1 : b = true → ∀ S2 H2, Grow S H S2 H2 → t1 { D with nx := tz D } σ H2) (k2 : b = false → ∀ S2 H2, Grow S H S2 H2 → tz D σ H2) : tSeq (tIfS tt t1 tNext) tz D σ H := q_if h e k1 k2
theorem s_when {b : Bool} {t1 : TS} (h : EvT tt σ S H b) (e : Same S H) (k1 : b = true → ∀ S2 H2, Grow S H S2 H2 → t1 D σ H2) (k2 : b = false → ∀ S2 H2, Grow S H S2 H2 → D.nx σ H2) : tIfS tt t1 tNext D σ H := s_if h e k1 k2
end
end Uw
end
section
set_option Elab.async false
set_option linter.all false
set_option maxRecDepth 100000
namespace Uw
open PySem PySem.Spec PyProof.Rows L2 RZ
/-! ### how many unlike texts: len(set(xs)) -/
def seenIn (xs : List Str) (i : Nat) (k : Str) : Bool := (xs.take i).any (· == k)
def dcount (xs : List Str) : Nat → Nat
  | 0 => 0
  | i + 1 => if seenIn xs i (xs.getD i Str.empty) = true then dcount xs i else dcount xs i + 1
theorem dcount_le (xs : List Str) : ∀ i, dcount xs i ≤ i
  | 0 => Nat.le_refl _
  | i + 1 => by
    have := dcount_le xs i
    unfold dcount
    split <;> omega
theorem seenIn_mem {xs : List Str} {i : Nat} {k : Str} : seenIn xs i k = true ↔ k ∈ xs.take i := by
  unfold seenIn
  rw [List.any_eq_true]
  constructor
  · rintro ⟨y, hy, e⟩
    rw [beq_iff_eq] at e
    exact e ▸ hy
  · exact fun h => ⟨k, h, beq_self_eq_true k⟩
theorem seenIn_succ {xs : List Str} {i : Nat} (hi : i < xs.length) (k : Str) : seenIn xs (i + 1) k = (seenIn xs i k || decide (k = xs.getD i Str.empty)) := by
  unfold seenIn
  rw [List.take_add_one, List.getElem?_eq_getElem hi, List.any_append, List.getD_eq_getElem?_getD, List.getElem?_eq_getElem hi]
  show (_ || ((xs[i] == k) || false)) = (_ || decide (k = xs[i]))
  rw [Bool.or_false]
  congr 1
  by_cases h : k = xs[i]
  · rw [decide_eq_true h, h]
    exact beq_self_eq_true _
  · rw [decide_eq_false h]
    exact beq_eq_false_iff_ne.mpr fun e => h e.symm
theorem dcount_full {xs : List Str} : ∀ {i : Nat}, i ≤ xs.length → (dcount xs i = i ↔ (xs.take i).Nodup)
  | 0, _ => by simp [dcount]
  | i + 1, h => by
    have hi : i < xs.length := h
    have ih := dcount_full (xs := xs) (i := i) (by omega)
    have hle := dcount_le xs i
    have hg : xs.getD i Str.empty = xs[i] := by rw [List.getD_eq_getElem?_getD, List.getElem?_eq_getElem hi]; rfl
    rw [List.take_add_one, List.getElem?_eq_getElem hi]
    show dcount xs (i + 1) = i + 1 ↔ (xs.take i ++ [xs[i]]).Nodup
    unfold dcount
    rw [hg]
    by_cases hs : seenIn xs i xs[i] = true
    · rw [if_pos hs]
      refine ⟨fun e => by omega, fun hn => ?_⟩
      have hm := seenIn_mem.mp hs
      obtain ⟨_, _, h3⟩ := List.nodup_append.mp hn
      exact absurd rfl (h3 _ hm _ (List.mem_singleton.mpr rfl))
    · rw [if_neg hs]
      constructor
      · intro e
        have hn := ih.mp (by omega)
        refine List.nodup_append.mpr ⟨hn, List.pairwise_singleton _ _, fun a ha b hb => ?_⟩
        rw [List.mem_singleton] at hb
        subst hb
        exact fun e => hs (seenIn_mem.mpr (e ▸ ha))
      · intro hn
        obtain ⟨h1, _, _⟩ := List.nodup_append.mp hn
        have := ih.mpr h1
        omega
theorem dcount_all {xs : List Str} : dcount xs xs.length = xs.length ↔ xs.Nodup := by
  have := dcount_full (xs := xs) (i := xs.length) (Nat.le_refl _)
  rw [List.take_length] at this
  exact this
section
variable {prog : Program} {w : World} {A : Around} {R : Result → Shared → Prop} {I : Addr} {fp wr : List Addr} {G : Array GenState → Array GenState → Prop} {P : Nat → Value → Prop} {St' : Nat → Shared → Prop}
/-- the loop that fills a set of texts, from turn i on -/
theorem fillStr {xs : List Str} {D : Addr} (W : WalksS prog w A.in1 I fp wr G xs.length P St') (hD : D ∉ fp) (few : xs.length < 4000)
    (hv : ∀ i v, P i v → ∃ t, v = .str (xs.getD i Str.empty) t) (left : Nat) :
    ∀ (i : Nat) (z : Shared), xs.length - i = left → i ≤ xs.length → St' i z → z.heap.SetOf (PySem.strKind prog w) D (seenIn xs i) (dcount xs i) →
      (∀ z', Moved (D :: wr) G z z' → z'.heap.SetOf (PySem.strKind prog w) D (seenIn xs xs.length) (dcount xs xs.length) → R (.ok (.ret .none)) z') →
      codeAny (model prog w) A (.builtin "set.update.loop" ⟨[.ref D, .ref I], []⟩) R z := by
  have wider : ∀ b ∈ wr, b ∈ D :: wr := fun b hb => List.mem_cons_of_mem _ hb
  have hDw : D ∉ wr := fun q => hD (W.sub _ q)
  induction left with
  | zero =>
    intro i z hl hi hst hset out
    obtain rfl : i = xs.length := by omega
    refine codeAny_builtin PyProof.Rows.F.entry_set_update_loop ?_
    rw [Around.under_plainId PyProof.Rows.F.plain_set_update_loop _]
    refine wpAny_bind (W.done z _ _ hst fun z' mv => ?_)
    refine wpAny_pure (out z' (mv.mono wider) ?_)
    obtain ⟨o, es, ep, t, ho, more⟩ := hset
    exact ⟨o, es, ep, t, mv.heap D _ hDw ho, more⟩
  | succ left ih =>
    intro i z hl hi hst hset out
    have hlt : i < xs.length := by omega
    refine codeAny_builtin PyProof.Rows.F.entry_set_update_loop ?_
    rw [Around.under_plainId PyProof.Rows.F.plain_set_update_loop _]
    refine wpAny_bind (W.item i z _ _ hlt hst fun v z' hp hst' mv => ?_)
    obtain ⟨t, rfl⟩ := hv i v hp
    have hset' : z'.heap.SetOf (PySem.strKind prog w) D (seenIn xs i) (dcount xs i) := by
      obtain ⟨o, es, ep, tb, ho, more⟩ := hset
      exact ⟨o, es, ep, tb, mv.heap D _ hDw ho, more⟩
    refine wpAny_bind (wpAny_holding ?_)
    unfold setAdd
    refine wpAny_holding (wpAny_bind ((PySem.strKind prog w).pyHash (k := xs.getD i Str.empty) (strKind_is _ _ _ _) ?_))
    have room : dcount xs i + 1 < scanBound := by
      have := dcount_le xs i
      unfold scanBound
      omega
    refine wpAny_setAddHashed_of (knd := PySem.strKind prog w) (s := { z' with toks := z'.toks + 1 }) (strKind_is _ _ _ _) rfl hset' room fun h' but hset2 => ?_
    have hset3 : h'.SetOf (PySem.strKind prog w) D (seenIn xs (i + 1)) (dcount xs (i + 1)) := SetOf_congr hset2 (fun k => (seenIn_succ hlt k).symm) rfl
    refine wpAny_pure ⟨plainId_quiet PyProof.Rows.F.plain_set_update_loop _, ih (i + 1) _ (by omega) hlt (W.frame _ z' _ _ hst' (Nat.le_succ _) fun b hb o e => ?_) hset3 fun y mv2 hset4 => ?_⟩
    · rw [but.2 b fun q => hD (q ▸ hb)]
      exact e
    · refine out y (Moved.trans W.gtrans ((mv.mono wider).then_heap (Nat.le_succ _) fun b o hb e => ?_) mv2) hset4
      rw [but.2 b fun q => hb (q ▸ List.mem_cons_self)]
      exact e
end
abbrev setNew (led : Bool) : Obj := { cls := .type "set", dict := none, data := .set #[] 0 (.fresh 0 0 led) }
section
variable {prog : Program} {w : World} {A : Around} {E : Value → Shared → Prop} {s : Shared}
set_option maxHeartbeats 4000000 in
theorem set_of_list {l : Addr} {us : Array Value} {xs : List Str} {Q : Value → Shared → Prop} (hot : A.handled = none) (at_l : s.heap.IsList l us) (texts : StrsAre us.toList xs) (few : xs.length < 4000)
    (next : ∀ (h' : Heap) (tk : Nat), h'.SetOf (PySem.strKind prog w) s.heap.objs.size (seenIn xs xs.length) (dcount xs xs.length) →
      (∀ b o, b < s.heap.objs.size → s.heap.get? b = some o → h'.get? b = some o) → Q (.ref s.heap.objs.size) { s with heap := h', toks := tk }) :
    wpAny (model prog w) A (call (.type "set") [.ref l]) Q E s := by
  obtain ⟨c, tl, hmro⟩ := PySem.F.called_set.mro
  have f1 := PySem.F.called_set.made
  have f2 := PySem.F.called_set.sub
  have f3 := PySem.F.called_set.notType
  have f4 := PySem.F.called_set.canCreate
  have f5 := PySem.F.typeCall_set_1 (.ref l)
  refine wpAny_call (codeAny_of_tree ?_)
  refine wpAny_pure ⟨Code.quiet_builtin _ (by decide +kernel), codeAny_builtin PySem.F.entry_type_call ?_⟩
  rw [Around.under_plain (weight_type_call_type "set" [.ref l] []) rfl]
  repeat (any_goals (first | assumption | wp_step))

  refine codeAny_mono (code_set_new_1 (.ref l) (E := E) (Q₁ := fun u z => ∃ led : Bool, u = .ref s.heap.objs.size ∧ z = { s with heap := s.heap.push (setNew led) }) fun led => ⟨led, rfl, rfl⟩) fun r z hr => ?_
  cases r with
  | error e => exact hr
  | ok fl =>
    cases fl with
    | ret u =>
      obtain ⟨led, rfl, rfl⟩ := hr
      have new : (s.heap.push (setNew led)).get? s.heap.objs.size = some (setNew led) := Heap.get?_push_size _ rfl
      have isSet : Shared.TypeIs { s with heap := s.heap.push (setNew led) } (.ref s.heap.objs.size) "set" := ⟨_, new, rfl⟩
      have f6 := PySem.F.called_set.init.lookup
      have f7 := PySem.F.called_set.init.bind (.ref s.heap.objs.size)
      repeat (any_goals (first | assumption | wp_step))

      refine codeAny_mono (codeAny_call_builtin (R := wants (fun r z => r = .none ∧ ∃ h' tk, z = { s with heap := h', toks := tk } ∧
          h'.SetOf (PySem.strKind prog w) s.heap.objs.size (seenIn xs xs.length) (dcount xs xs.length) ∧ (∀ b o, b < s.heap.objs.size → s.heap.get? b = some o → h'.get? b = some o)) E)
        PySem.F.called_set.init.plain PySem.F.entry_set_init (check_set_init_1 isSet ?_)) fun r2 z2 hr2 => ?_
      · obtain ⟨⟨oc, od, oda, osl⟩, ol, hc, n, hd⟩ := at_l
        simp only at hc hd
        subst hc hd
        have kept : (s.heap.push (setNew led)).get? l = some { cls := .type "list", dict := od, data := .seq us n, slots := osl } := Heap.get?_push_of_some _ ol
        have g1 := PySem.F.sub_list_set
        have g2 := PySem.F.sub_list_frozenset
        have g3 : (Value.type "list" == Value.type "dict") = false := by decide
        have at_l1 : (s.heap.push (setNew led)).IsList l us := ⟨_, kept, rfl, n, rfl⟩
        unfold Builtin.«set.__init__» noKeywords Builtin.Frozenset.updateFrom
        generalize hgo : pyIter = go
        wp_walk
        subst hgo

        refine wpAny_pyIter_list at_l1 (wpAny_bind (wpAny_runValue ?_))
        have below : l < s.heap.objs.size := Heap.lt_size ol
        have hot3 : A.in1.in1.in1.handled = none := by simp [hot]
        have apart : l ≠ (s.heap.push (setNew led)).objs.size := by
          rw [Heap.size_push]
          exact Nat.ne_of_lt (Nat.lt_succ_of_lt below)
        have off : s.heap.objs.size ∉ [(s.heap.push (setNew led)).objs.size, l] := by
          rw [Heap.size_push]
          simp only [List.mem_cons, List.not_mem_nil, or_false, not_or]
          exact ⟨Nat.ne_of_lt (Nat.lt_succ_self _), Nat.ne_of_gt below⟩
        have many : us.size = xs.length := by rw [← StrsAre.len_eq texts, Array.length_toList]
        have W := (Walks.list (prog := prog) (w := w) hot3 (s.heap.push (setNew led)).objs.size l apart us).toS
        rw [many] at W
        refine fillStr W off few (fun i v hv => SS.strs_at texts i v (by rw [Array.getElem?_toList]; exact hv)) (xs.length - 0) 0 _ rfl (Nat.zero_le _) ⟨⟨_, Heap.get?_push_size _ rfl, rfl, rfl⟩, at_l1.push _⟩ ?first ?last
        case first =>
          have still : ((s.heap.push (setNew led)).push { cls := .type "list_iterator", data := .fields #[.ref l, .int 0 0] }).get? s.heap.objs.size = some (setNew led) := Heap.get?_push_of_some _ new
          exact SetOf_congr ((PyProof.Rows.setObjOf_fresh (knd := PySem.strKind prog w) led).setOf still (by unfold scanBound; omega)) (fun _ => rfl) rfl
        case last =>
          rintro ⟨h', g', d', tk', os'⟩ mv hset
          obtain rfl : g' = s.gens := mv.gens
          obtain rfl : d' = s.drawn := mv.drawn
          obtain rfl : os' = s.os := mv.os
          refine wpAny_pure ?_
          refine wpAny_pure ⟨rfl, h', tk', rfl, hset, fun b o hb e => mv.heap b o ?_ (Heap.get?_push_of_some _ (Heap.get?_push_of_some _ e))⟩
          rw [Heap.size_push]
          simp only [List.mem_cons, List.not_mem_nil, or_false, not_or]
          exact ⟨Nat.ne_of_lt hb, Nat.ne_of_lt (Nat.lt_succ_of_lt hb)⟩
      · cases r2 with
        | error e => exact hr2
        | ok fl2 =>
          cases fl2 with
          | ret r =>
            obtain ⟨rfl, h', tk, rfl, hset, old⟩ := hr2
            repeat (any_goals (first | assumption | wp_step))
            exact next _ _ hset old
          | _ => exact hr2.elim
    | _ => exact hr.elim
set_option maxHeartbeats 4000000 in
theorem set_of_tuple {l : Addr} {us : Array Value} {xs : List Str} {Q : Value → Shared → Prop} (hot : A.handled = none) (at_l : s.heap.IsTuple l us) (texts : StrsAre us.toList xs) (few : xs.length < 4000)
    (next : ∀ (h' : Heap) (tk : Nat), h'.SetOf (PySem.strKind prog w) s.heap.objs.size (seenIn xs xs.length) (dcount xs xs.length) →
      (∀ b o, b < s.heap.objs.size → s.heap.get? b = some o → h'.get? b = some o) → Q (.ref s.heap.objs.size) { s with heap := h', toks := tk }) :
    wpAny (model prog w) A (call (.type "set") [.ref l]) Q E s := by
  obtain ⟨c, tl, hmro⟩ := PySem.F.called_set.mro
  have f1 := PySem.F.called_set.made
  have f2 := PySem.F.called_set.sub
  have f3 := PySem.F.called_set.notType
  have f4 := PySem.F.called_set.canCreate
  have f5 := PySem.F.typeCall_set_1 (.ref l)
  refine wpAny_call (codeAny_of_tree ?_)
  refine wpAny_pure ⟨Code.quiet_builtin _ (by decide +kernel), codeAny_builtin PySem.F.entry_type_call ?_⟩
  rw [Around.under_plain (weight_type_call_type "set" [.ref l] []) rfl]
  repeat (any_goals (first | assumption | wp_step))

  refine codeAny_mono (code_set_new_1 (.ref l) (E := E) (Q₁ := fun u z => ∃ led : Bool, u = .ref s.heap.objs.size ∧ z = { s with heap := s.heap.push (setNew led) }) fun led => ⟨led, rfl, rfl⟩) fun r z hr => ?_
  cases r with
  | error e => exact hr
  | ok fl =>
    cases fl with
    | ret u =>
      obtain ⟨led, rfl, rfl⟩ := hr
      have new : (s.heap.push (setNew led)).get? s.heap.objs.size = some (setNew led) := Heap.get?_push_size _ rfl
      have isSet : Shared.TypeIs { s with heap := s.heap.push (setNew led) } (.ref s.heap.objs.size) "set" := ⟨_, new, rfl⟩
      have f6 := PySem.F.called_set.init.lookup
      have f7 := PySem.F.called_set.init.bind (.ref s.heap.objs.size)
      repeat (any_goals (first | assumption | wp_step))

      refine codeAny_mono (codeAny_call_builtin (R := wants (fun r z => r = .none ∧ ∃ h' tk, z = { s with heap := h', toks := tk } ∧
          h'.SetOf (PySem.strKind prog w) s.heap.objs.size (seenIn xs xs.length) (dcount xs xs.length) ∧ (∀ b o, b < s.heap.objs.size → s.heap.get? b = some o → h'.get? b = some o)) E)
        PySem.F.called_set.init.plain PySem.F.entry_set_init (check_set_init_1 isSet ?_)) fun r2 z2 hr2 => ?_
      · obtain ⟨⟨oc, od, oda, osl⟩, ol, hc, n, hd⟩ := at_l
        simp only at hc hd
        subst hc hd
        have kept : (s.heap.push (setNew led)).get? l = some { cls := .type "tuple", dict := od, data := .seq us n, slots := osl } := Heap.get?_push_of_some _ ol
        have g1 := PySem.F.sub_tuple_set
        have g2 := PySem.F.sub_tuple_frozenset
        have g3 : (Value.type "tuple" == Value.type "dict") = false := by decide
        have at_l1 : (s.heap.push (setNew led)).IsTuple l us := ⟨_, kept, rfl, n, rfl⟩
        unfold Builtin.«set.__init__» noKeywords Builtin.Frozenset.updateFrom
        generalize hgo : pyIter = go
        wp_walk
        subst hgo

        refine wpAny_pyIter_tuple at_l1 (wpAny_bind (wpAny_runValue ?_))
        have below : l < s.heap.objs.size := Heap.lt_size ol
        have hot3 : A.in1.in1.in1.handled = none := by simp [hot]
        have apart : l ≠ (s.heap.push (setNew led)).objs.size := by
          rw [Heap.size_push]
          exact Nat.ne_of_lt (Nat.lt_succ_of_lt below)
        have off : s.heap.objs.size ∉ [(s.heap.push (setNew led)).objs.size, l] := by
          rw [Heap.size_push]
          simp only [List.mem_cons, List.not_mem_nil, or_false, not_or]
          exact ⟨Nat.ne_of_lt (Nat.lt_succ_self _), Nat.ne_of_gt below⟩
        have many : us.size = xs.length := by rw [← StrsAre.len_eq texts, Array.length_toList]
        have W := (Walks.tuple (prog := prog) (w := w) hot3 (s.heap.push (setNew led)).objs.size l apart us).toS
        rw [many] at W
        refine fillStr W off few (fun i v hv => SS.strs_at texts i v (by rw [Array.getElem?_toList]; exact hv)) (xs.length - 0) 0 _ rfl (Nat.zero_le _) ⟨⟨_, Heap.get?_push_size _ rfl, rfl, rfl⟩, at_l1.push _⟩ ?first ?last
        case first =>
          have still : ((s.heap.push (setNew led)).push { cls := .type "tuple_iterator", data := .fields #[.ref l, .int 0 0] }).get? s.heap.objs.size = some (setNew led) := Heap.get?_push_of_some _ new
          exact SetOf_congr ((PyProof.Rows.setObjOf_fresh (knd := PySem.strKind prog w) led).setOf still (by unfold scanBound; omega)) (fun _ => rfl) rfl
        case last =>
          rintro ⟨h', g', d', tk', os'⟩ mv hset
          obtain rfl : g' = s.gens := mv.gens
          obtain rfl : d' = s.drawn := mv.drawn
          obtain rfl : os' = s.os := mv.os
          refine wpAny_pure ?_
          refine wpAny_pure ⟨rfl, h', tk', rfl, hset, fun b o hb e => mv.heap b o ?_ (Heap.get?_push_of_some _ (Heap.get?_push_of_some _ e))⟩
          rw [Heap.size_push]
          simp only [List.mem_cons, List.not_mem_nil, or_false, not_or]
          exact ⟨Nat.ne_of_lt hb, Nat.ne_of_lt (Nat.lt_succ_of_lt hb)⟩
      · cases r2 with
        | error e => exact hr2
        | ok fl2 =>
          cases fl2 with
          | ret r =>
            obtain ⟨rfl, h', tk, rfl, hset, old⟩ := hr2
            repeat (any_goals (first | assumption | wp_step))
            exact next _ _ hset old
          | _ => exact hr2.elim
    | _ => exact hr.elim
end
section
variable {X : Cx} {K : PySem.W.Frag} {σ : L2.St} {S H : Hp}
def tLenSetS (K : PySem.W.Frag) (ta : TE) : TE := fun σ H Q => ta σ H fun x H1 => ∃ l, ∃ xs : List Str, x = .ref l ∧ (SqL K H1 l (xs.map V.str) ∨ SqT K H1 l (xs.map V.str)) ∧ xs.length < 4000 ∧ Q (.int (dcount xs xs.length : Nat)) H1
theorem pe_lenSetS {a : Expr} {ta : TE} {p p2 q pos : Pos} (hc : X.calm = true) (hg : Gl X "len") (hm : X.mg "len" = none) (hg2 : Gl X "set") (hm2 : X.mg "set" = none) (ha : PE X a ta) (hK : X.K = K := by rfl)
    (na : starEach [a] X.env = (false, eval a X.env) :: starEach [] X.env := by rfl) : PE X (.Call (.Name "len" p) [.Call (.Name "set" p2) [a] [] q] [] pos) (tLenSetS K ta) := by
  subst hK
  refine ⟨fun pins s σ H Q I h => Call_ (ld_blt I hg hm boot_len (PyProof.Rows.callWith_builtin1 (PyProof.Rows.args_cons (Call_ (ld_blt I hg2 hm2 boot_set ?_)) rfl) rfl rfl))⟩
  refine PyProof.Rows.callWith_type1 (PyProof.Rows.args_cons (thn (ha.run pins s σ H _ I h) fun v s1 ⟨x, H1, I1, r1, q1⟩ => PyProof.Rows.args_nil ?_) na) na rfl
  obtain ⟨l, xs, rfl, hq, few, q1⟩ := q1
  cases r1
  have fin : ∀ (h' : Heap) (tk : Nat), h'.SetOf (PySem.strKind X.prog X.w) s1.heap.objs.size (seenIn xs xs.length) (dcount xs xs.length) → (∀ b o, b < s1.heap.objs.size → s1.heap.get? b = some o → h'.get? b = some o) →
      wpAny (model X.prog X.w) X.A (spliced (backTo pos (starEach [] X.env))) (fun vs z => wpAny (model X.prog X.w) X.A (call (.builtin "len") (Value.ref s1.heap.objs.size :: vs)) (EP X pins σ Q) X.xe z) X.xe { s1 with heap := h', toks := tk } := fun h' tk hset old => by
    refine PyProof.Rows.args_nil ?_
    obtain ⟨o, es, ep, t, ho, hex, hd, _, _, _, hf, hn⟩ := hset
    have I2 : Inv X pins σ H1 { s1 with heap := h', toks := tk } := I1.kept fun b o e => old b o (Heap.lt_size e) e
    have hle := dcount_le xs xs.length
    exact call_len_set ho hex hd hf (by rw [hn]; omega) ⟨.int (dcount xs xs.length : Nat), H1, I2.tok _, ⟨_, by rw [hn]⟩, q1⟩
  rcases hq with hq | hq
  · obtain ⟨its, r, pl, hz⟩ := I1.list hq
    exact set_of_list (I1.ok.hd hc) pl.isList (by simpa using strsAre_of r) few fin
  · obtain ⟨its, r, pl, hz⟩ := I1.tuple hq
    exact set_of_tuple (I1.ok.hd hc) pl (by simpa using strsAre_of r) few fin
theorem ev_lenSetS {x : T} {ta : TE} {xs : List Str} (h : Ev ta σ S H (R K x)) (hx : x = .l (xs.map tS) ∨ x = .t (xs.map tS)) (few : xs.length < 4000) : Ev (tLenSetS K ta) σ S H (Is (.int (dcount xs xs.length : Nat))) := fun S1 H1 g Q q =>
  h S1 H1 g _ fun v S2 H2 g2 r => by
    rcases hx with rfl | rfl
    · cases r with
      | @l p us _ h r =>
        have e := reps_strs r
        subst e
        exact ⟨p, xs, rfl, .inl (sqL g2.sub h), few, q _ S2 H2 g2 rfl⟩
    · cases r with
      | @t p us _ h r =>
        have e := reps_strs r
        subst e
        exact ⟨p, xs, rfl, .inr (sqT g2.sub h), few, q _ S2 H2 g2 rfl⟩
end
end Uw
end
section
set_option Elab.async false
set_option linter.all false
set_option maxRecDepth 100000
namespace Uw
open PySem PySem.Spec PyProof.Rows L2 RZ
/-! ### own errors with a field -/
structure Er (K : PySem.W.Frag) (mg : Str → Option Value) (x qual f : Str) (st : Stmt) where
  C : Addr
  fI : Addr
  fd : FuncData
  m : mg x = some (.ref C)
  T : OexC K C
  iC : PySem.W.findIn K (.ref C) "__init__" = some (some (.ref fI))
  tI : PySem.W.typeIn K (.ref fI) = some (.type "function")
  F : Fun K "__init__" qual st fI fd
  b : Binds K fd ["self", f] []
  no : PySem.W.findIn K (.ref C) f = some none
  ga : PySem.W.findIn K (.ref C) "__getattribute__" = some (some (.builtin "BaseException.__getattribute__"))
  gg : PySem.W.findIn K (.ref C) "__getattr__" = some none
  hd : PySem.W.hasDictIn K C = true
def spIni (K : PySem.W.Frag) (C : Addr) (f : Str) : Sp := fun vs H Q _ => ∃ a v, vs = [.ref a, v] ∧ OexC K C ∧ PySem.W.findIn K (.ref C) f = some none ∧ H a = some (exo a C none) ∧
  ∀ dx, H dx = none → dx ≠ a → Q .non (upd (upd H dx (exd dx [(f, v)])) a (exo a C (some dx)))
theorem mk_heap {H : Hp} {a d : Addr} {o1 o2 o3 o4 : HO} (ha : H a = none) (hd : d ≠ a) : upd (del (upd (upd (upd H a o1) d o2) a o3) a) d o4 = upd H d o4 := by
  funext b
  by_cases hb : b = d
  · subst hb
    rw [upd_same, upd_same]
  · rw [upd_ne hb, upd_ne hb]
    by_cases hba : b = a
    · subst hba
      rw [del_same, ha]
    · rw [del_ne hba, upd_ne hba, upd_ne hb, upd_ne hba]
section
variable {X : Cx} {K : PySem.W.Frag} {e : Expr} {ta : TA} {te : TE} {p pos : Pos} {σ : L2.St} {S H : Hp} {P : Pd}
theorem pmk_er {x qual f : Str} {st : Stmt} {k : Nat} (Y : Er X.K X.mg x qual f st) (F : FnOk X.prog X.w X.K X.mg X.base CX0 k Y.fI Y.fd ["self", f] (spIni X.K Y.C f)) (hr : Room (k + 1) X.A) (ha : PA X [e] ta) (hg : Gl X x)
    (hdb : (x == ("__debug__" : Str)) = false := by decide) (he : starEach (e :: []) X.env = (false, eval e X.env) :: starEach [] X.env := by rfl) (hpl : (backTo pos (starEach [] X.env)).any (·.1) = false := by rfl) :
    PMk X (.Call (.Name x p) [e] [] pos) (tMkO Y.C (spIni X.K Y.C f) [] ta) := pmk_oex Y.T Y.iC Y.tI F hr Y.b .nil pass0 hg Y.m ha hdb he hpl
theorem mk_at {C : Addr} {f : Str} {v : V} {H1 : Hp} {Q : XK} (T : OexC K C) (no : PySem.W.findIn K (.ref C) f = some none) (q : ∀ d, H1 d = none → Q (.ref C) (some d) (upd H1 d (.xd [(f, v)]))) :
    [v].length ≤ 1000 ∧ ∀ a, H1 a = none → spIni K C f (.ref a :: ([v] ++ [])) (upd H1 a (exo a C none))
      (fun u H2 => u = .non ∧ ∃ (d : Addr) (fs : List (Str × V)), H2 a = some (exo a C (some d)) ∧ H2 d = some (exd d fs) ∧ H1 d = none ∧ Q (.ref C) (some d) (upd (del H2 a) d (.xd fs))) (fun _ _ _ => False) :=
  ⟨(show 1 ≤ 1000 by decide), fun a ha => ⟨a, v, rfl, T, no, upd_same, fun dx hdx hne => by
    have hd1 : H1 dx = none := by rw [upd_ne hne] at hdx; exact hdx
    refine ⟨rfl, dx, [(f, v)], upd_same, by rw [upd_ne hne]; exact upd_same, hd1, ?_⟩
    rw [mk_heap ha hne]
    exact q dx hd1⟩⟩
/-- raise x(e): te's value v, then the def's own way out, with a new dict that holds v -/
theorem at_raise {C : Addr} {f : Str} {Q : XK} (T : OexC K C) (no : PySem.W.findIn K (.ref C) f = some none) (h : Ev te σ S H P) (hs : Same S H) (q : ∀ v S1 H1 d, Grow S H S1 H1 → P.P S1 v → H1 d = none → Q (.ref C) (some d) (upd H1 d (.xd [(f, v)]))) :
    tMkO C (spIni K C f) [] (tCons te tNil) σ H Q := h.at hs fun v S1 H1 g pv => mk_at T no fun d hd => q v S1 H1 d g pv hd
theorem ini_read {C : Addr} {f : Str} {vs : List V} {Q : VK} {E : XK} (h : spIni K C f vs H Q E) : tOst K f (tVar 0) (tVar 1) { nx := fun _ H' => Q .non H', rt := Q } (start ["self", f] vs) H := by
  obtain ⟨a, v, rfl, T, no, ha, q⟩ := h
  exact ⟨v, rfl, .ref a, rfl, a, C, rfl, T, no, .inl ⟨ha, fun dx hd hne => q dx hd hne⟩⟩
theorem ini_len {C : Addr} {f : Str} : ∀ vs H Q E, spIni K C f vs H Q E → vs.length = 2 := by
  rintro vs H Q E ⟨a, v, rfl, _⟩
  rfl
end
end Uw
end
section
set_option Elab.async false
set_option linter.all false
set_option maxRecDepth 100000
namespace Uw
open PySem PySem.Spec PyProof.Rows L2 RZ
/-- what the module's dict at a holds at the text z -/
def KGet (K : PySem.W.Frag) (w : World) (a : Addr) (z : Str) (o : Option V) : Prop :=
  ∃ es n, K.lookup a = some ⟨.type "dict", none, .dict es n, #[]⟩ ∧ PySem.W.KeysLit w.params es.toList ∧ (a == sysModules) = false ∧
    ((PySem.W.nsIn K a z = some none ∧ o = none) ∨ ∃ u v, PySem.W.nsIn K a z = some (some u) ∧ o = some v ∧ RelV v u)
def tKGet (K : PySem.W.Frag) (w : World) (td ty : TE) : TE := fun σ H Q => td σ H fun x H1 => ∃ a, x = .ref a ∧ (∃ z o, KGet K w a z o) ∧ ty σ H1 fun y H2 => ∃ z o, y = .str z ∧ KGet K w a z o ∧ Q (o.getD .non) H2
section
variable {X : Cx} {o e : Expr} {apos cpos : Pos} {td ty : TE}
theorem pe_kget (ho : PE X o td) (he : PE X e ty) (m : M1 X o "get" apos e cpos) : PE X (.Call (.Attribute o "get" apos) [e] [] cpos) (tKGet X.K X.w td ty) := by
  refine ⟨fun pins s σ H Q I h => wpAny_Call_method m.base m.few m.line PySem.F.plainAttrs_dict PySem.F.slot_dict_get PySem.F.type_dict_get (thn (ho.run pins s σ H _ I h) fun u s1 ⟨x, H1, I1, rx, a, ex, ⟨z0, o0, es, n, hl, _⟩, q1⟩ => ?_)⟩
  subst ex
  obtain rfl : u = Value.ref a := rx
  have at_a := I1.kIn _ _ hl
  refine ⟨⟨_, at_a, rfl⟩, fun b q => ?_, ?_⟩
  · cases q
    exact ⟨_, at_a, rfl⟩
  rw [m.trees]
  refine Calls.callWith_builtin rfl (Calls.evalArgs_plain (Calls.spliced_cons (thn (he.run pins s1 σ H1 _ I1 q1) fun iv s2 ⟨y, H2, I2, ry, z, ov, ey, ⟨es, n, hl, hk, hd, hg⟩, q2⟩ => Calls.spliced_nil ?_)))
  subst ey
  obtain ⟨t, rfl⟩ := ry
  have hm := PySem.W.mapOf_K (prog := X.prog) (w := X.w) I2.kIn hl hk
  refine call_meetsIn PySem.F.slot_dict_get hm.typeIs PySem.F.entry_dict_get (PySem.F.args_dict_get_2 _ _) (meets_dict_get (PySem.strKind X.prog X.w) a (strKind_is X.prog X.w z t) hd) ⟨_, hm, ?_⟩
  rcases hg with ⟨h1, rfl⟩ | ⟨u, v, h1, rfl, rv⟩
  · rw [PySem.W.find_K hl h1]
    exact ⟨.non, H2, I2.tok _, rfl, q2⟩
  · rw [PySem.W.find_K hl h1]
    exact ⟨v, H2, I2.tok _, rv, q2⟩
end
end Uw
end
section
set_option Elab.async false
set_option linter.all false
set_option maxRecDepth 100000
set_option maxHeartbeats 1000000
set_option pp.maxSteps 150
set_option pp.structureInstances false
namespace Uw
open PySem PySem.Spec PyProof.Rows L2 RZ
/-- a sort of things that are walked through: its iterators, its own look -/
structure Walkd where
  cl : String
  it : Heap → Addr → Addr → Nat → Prop
  sq : Heap → Addr → Array Value → Prop
  itO : ∀ {h i l k}, it h i l k → ∃ o, h.get? i = some o ∧ ∀ v, o.data ≠ .cell v
  itA : ∀ {h h' i l k}, it h i l k → (∀ o, h.get? i = some o → h'.get? i = some o) → it h' i l k
  sqA : ∀ {h h' l xs}, sq h l xs → (∀ o, h.get? l = some o → h'.get? l = some o) → sq h' l xs
  sqLt : ∀ {h l xs}, sq h l xs → l < h.objs.size
  it0 : ∀ {h i l}, h.get? i = some { cls := .type cl, data := .fields #[.ref l, .int 0 0] } → it h i l 0
  beg : ∀ {prog w A E} {s : Shared} {l xs} {Q : Value → Shared → Prop}, sq s.heap l xs → Q (.ref s.heap.objs.size) { s with heap := s.heap.push { cls := .type cl, data := .fields #[.ref l, .int 0 0] } } → wpAny (model prog w) A (pyIter (.ref l)) Q E s
  next : ∀ {prog w A} {E : Value → Shared → Prop} {s : Shared} {i l : Addr} {k : Nat} {xs : Array Value} {Q : Value → Shared → Prop}, A.handled = none → it s.heap i l k → sq s.heap l xs →
    (∀ x, xs[k]? = some x → ∀ h', it h' i l (k + 1) → Heap.SameBut i s.heap h' → Q x { s with heap := h' }) →
    (xs[k]? = none → ∀ h' e, Heap.ExtBut i s.heap h' → (∃ o, h'.get? e = some o ∧ o.cls = .type "StopIteration") → E (.ref e) { s with heap := h' }) →
    wpAny (model prog w) A (Builtin.SmallTypes.nextOf (.ref i)) Q E s
def wList : Walkd where
  cl := "list_iterator"
  it := fun h i l k => h.IsListIter i l k
  sq := fun h l xs => h.IsList l xs
  itO := fun ⟨o, e, _, d⟩ => ⟨o, e, fun v q => by rw [d] at q; cases q⟩
  itA := fun h e => h.at e
  sqA := fun ⟨o, e, r⟩ k => ⟨o, k o e, r⟩
  sqLt := fun ⟨o, e, _⟩ => Heap.lt_size e
  it0 := fun e => ⟨_, e, rfl, rfl⟩
  beg := fun h q => wpAny_pyIter_list h q
  next := fun {_ _ _ _ _ _ _ k xs _} hh h1 h2 q e => by
    cases hx : xs[k]? with
    | none => exact wpAny_nextOf_list_end hh h1 h2 hx (e hx)
    | some x => exact wpAny_nextOf_list_item h1 h2 hx (q x hx)
def wTup : Walkd where
  cl := "tuple_iterator"
  it := fun h i l k => h.IsTupleIter i l k
  sq := fun h l xs => h.IsTuple l xs
  itO := fun ⟨o, e, _, d⟩ => ⟨o, e, fun v q => by rw [d] at q; cases q⟩
  itA := fun h e => h.at e
  sqA := fun ⟨o, e, r⟩ k => ⟨o, k o e, r⟩
  sqLt := fun ⟨o, e, _⟩ => Heap.lt_size e
  it0 := fun e => ⟨_, e, rfl, rfl⟩
  beg := fun h q => wpAny_pyIter_tuple h q
  next := fun {_ _ _ _ _ _ _ k xs _} hh h1 h2 q e => by
    cases hx : xs[k]? with
    | none => exact nextOf_tuple_end hh h1 h2 hx (e hx)
    | some x => exact nextOf_tuple_item h1 h2 hx (q x hx)
/-- how a zip stands: k taken of each -/
structure ZipSt (m n : Walkd) (h : Heap) (z TI TO i1 i2 l1 l2 : Addr) (k : Nat) : Prop where
  z : IsZip h z TI TO .none
  TI : IsPair h TI (.ref i1) (.ref i2)
  TO : ∃ a b, IsPair h TO a b
  a : m.it h i1 l1 k
  b : n.it h i2 l2 k
def keptBut (z TO i1 i2 : Addr) (h h' : Heap) : Prop := ∀ c o, c ≠ z → c ≠ TO → c ≠ i1 → c ≠ i2 → h.get? c = some o → h'.get? c = some o
section
variable {prog : Program} {w : World} {A : Around} {E : Value → Shared → Prop} {s : Shared} {m n : Walkd} {z TI TO i1 i2 l1 l2 : Addr} {k : Nat} {xs ys : Array Value}
theorem zip_step {Q : Fin → Shared → Prop} (hh : A.handled = none) (D : ZipApart z TI TO i1 i2 l1 l2) (st : ZipSt m n s.heap z TI TO i1 i2 l1 l2 k) (p1 : m.sq s.heap l1 xs) (p2 : n.sq s.heap l2 ys)
    (hQ : ∀ x y, xs[k]? = some x → ys[k]? = some y → ∀ h', IsZip h' z TI TO (rawInt s.heap.objs.size) → IsPair h' TO x y → m.it h' i1 l1 (k + 1) → n.it h' i2 l2 (k + 1) → IsPair h' s.heap.objs.size x y → keptBut z TO i1 i2 s.heap h' → Q (.done (.ret (.ref s.heap.objs.size))) { s with heap := h' })
    (hE : xs[k]? = none ∨ ys[k]? = none → ∀ h' e, keptBut z TO i1 i2 s.heap h' → (∃ o, h'.get? e = some o ∧ o.cls = .type "StopIteration") → E (.ref e) { s with heap := h' }) :
    wpAny (model prog w) A (Builtin.«zip.__next__» ⟨[.ref z], []⟩) Q E s := by
  obtain ⟨hz, hTI, ⟨a, b, hTO⟩, ha, hb⟩ := st
  show wpAny _ _ (field (.ref z) 2 >>= _) Q E s
  refine wpAny_bind (wpAny_field hz rfl (x := .bool false) rfl (show wpAny _ _ (field (.ref z) 3 >>= _) Q E s from wpAny_bind (wpAny_field hz rfl (x := .ref TI) rfl (wpAny_bind (wpAny_seqItems hTI rfl ?_)))))
  show wpAny _ _ (Builtin.SmallTypes.ownedTupleIsFree (.ref z) >>= _) Q E s
  unfold Builtin.SmallTypes.ownedTupleIsFree
  refine wpAny_bind (wpAny_bind (wpAny_field hz rfl (x := .none) rfl (wpAny_pure ?_)))
  simp only [if_true]
  refine wpAny_bind (wpAny_rule (wpAny_bind (wpAny_field hz rfl (x := .ref TO) rfl (wpAny_bind (wpAny_setField_rec hz (by simp) fun g1 (z1 : IsZip g1 z TI TO .ellipsis) s1 => ?_)))))
  simp only [List.zipIdx_cons, List.zipIdx_nil, List.forIn_cons, List.forIn_nil]
  have k1 : keptBut z TO i1 i2 s.heap g1 := fun c o c1 _ _ _ e => s1.extBut c o c1 e
  have TO1 : IsPair g1 TO a b := s1.extBut TO _ D.TOz hTO
  refine wpAny_bind (wpAny_bind (wpAny_bind (wpAny_onRaise (show wpAny _ _ (Builtin.SmallTypes.nextOf (.ref i1) >>= _) _ _ _ from wpAny_bind (m.next hh (m.itA ha (s1.extBut i1 · D.i1z)) (m.sqA p1 (s1.extBut l1 · D.l1z)) (fun x hx g2 a2 s2 => ?_) (fun hx g2 e s2 he => ?_))))))
  rotate_left
  · obtain ⟨oe, eo, ce⟩ := he
    have z2 : IsZip g2 z TI TO .ellipsis := s2 z _ D.i1z.symm z1
    have ez : e ≠ z := by
      intro q
      rw [q] at eo
      have q2 := eo.symm.trans z2
      cases q2
      simp at ce
    exact wpAny_setField_rec z2 (by simp) fun g3 _ s3 => hE (.inl hx) g3 e (fun c o c1 c2 c3 c4 q => s3.extBut c o c1 (s2 c o c3 (k1 c o c1 c2 c3 c4 q))) ⟨oe, s3.extBut e oe ez eo, ce⟩
  have TO2 : IsPair g2 TO a b := s2.extBut TO _ D.TOi1 TO1
  refine wpAny_pure (wpAny_bind (wpAny_seqItems TO2 rfl (wpAny_bind (wpAny_updateSeq_pair TO2 fun g3 (TO3 : IsPair g3 TO x b) s3 => wpAny_bind (wpAny_letGo (wpAny_pure ?_))))))
  have k3 : keptBut z TO i1 i2 s.heap g3 := fun c o c1 c2 c3 c4 q => s3.extBut c o c2 (s2.extBut c o c3 (k1 c o c1 c2 c3 c4 q))
  have z3 : IsZip g3 z TI TO .ellipsis := s3.extBut z _ D.TOz.symm (s2.extBut z _ D.i1z.symm z1)
  have b3 : n.it g3 i2 l2 k := n.itA hb fun o q => s3.extBut i2 o D.TOi2.symm (s2.extBut i2 o D.i12.symm (s1.extBut i2 o D.i2z q))
  have q3 : n.sq g3 l2 ys := n.sqA p2 fun o q => s3.extBut l2 o D.l2TO (s2.extBut l2 o D.l2i1 (s1.extBut l2 o D.l2z q))
  refine wpAny_bind (wpAny_bind (wpAny_onRaise (show wpAny _ _ (Builtin.SmallTypes.nextOf (.ref i2) >>= _) _ _ _ from wpAny_bind (n.next hh b3 q3 (fun y hy g4 b4 s4 => ?_) (fun hy g4 e s4 he => ?_)))))
  rotate_left
  · obtain ⟨oe, eo, ce⟩ := he
    have z4 : IsZip g4 z TI TO .ellipsis := s4 z _ D.i2z.symm z3
    have ez : e ≠ z := by
      intro q
      rw [q] at eo
      have q2 := eo.symm.trans z4
      cases q2
      simp at ce
    exact wpAny_setField_rec z4 (by simp) fun g5 _ s5 => hE (.inr hy) g5 e (fun c o c1 c2 c3 c4 q => s5.extBut c o c1 (s4 c o c4 (k3 c o c1 c2 c3 c4 q))) ⟨oe, s5.extBut e oe ez eo, ce⟩
  have TO4 : IsPair g4 TO x b := s4.extBut TO _ D.TOi2 TO3
  refine wpAny_pure (wpAny_bind (wpAny_seqItems TO4 rfl (wpAny_bind (wpAny_updateSeq_pair TO4 fun g5 (TO5 : IsPair g5 TO x y) s5 => wpAny_bind (wpAny_letGo (wpAny_pure (wpAny_pure (wpAny_bind (wpAny_seqItems TO5 rfl (wpAny_bind (wpAny_newTuple ?_)))))))))))
  have sz5 : g5.objs.size = s.heap.objs.size := by rw [s5.1, s4.1, s3.1, s2.1, s1.1]
  have z5 : IsZip g5 z TI TO .ellipsis := s5.extBut z _ D.TOz.symm (s4.extBut z _ D.i2z.symm z3)
  have k5 : keptBut z TO i1 i2 s.heap g5 := fun c o c1 c2 c3 c4 q => s5.extBut c o c2 (s4.extBut c o c4 (k3 c o c1 c2 c3 c4 q))
  have a5 : m.it g5 i1 l1 (k + 1) := m.itA a2 fun o q => s5.extBut i1 o D.TOi1.symm (s4.extBut i1 o D.i12 (s3.extBut i1 o D.TOi1.symm q))
  have b5 : n.it g5 i2 l2 (k + 1) := n.itA b4 fun o q => s5.extBut i2 o D.TOi2.symm q
  have zlt : z < g5.objs.size := Heap.lt_size z5
  show wpAny _ _ (Builtin.SmallTypes.ownedTupleHandOut (.ref z) (.ref g5.objs.size) >>= _) _ _ _
  unfold Builtin.SmallTypes.ownedTupleHandOut
  have z6 : IsZip (g5.push { cls := .type "tuple", data := .seq #[x, y] }) z TI TO .ellipsis := Heap.get?_push_of_some _ z5
  refine wpAny_bind (wpAny_bind (wpAny_setField_rec z6 (by simp) fun g7 (z7 : IsZip g7 z TI TO (rawInt g5.objs.size)) s7 => wpAny_setField_rec z7 (by simp) fun g8 (z8 : IsZip g8 z TI TO (rawInt g5.objs.size)) s8 => wpAny_pure ?_))
  have up : ∀ c o, c ≠ z → g5.get? c = some o → g8.get? c = some o := fun c o c1 q => s8.extBut c o c1 (s7.extBut c o c1 (Heap.get?_push_of_some _ q))
  have T8 : IsPair g8 g5.objs.size x y := s8.extBut _ _ (Nat.ne_of_gt zlt) (s7.extBut _ _ (Nat.ne_of_gt zlt) (Heap.get?_push_size _ rfl))
  rw [sz5] at z8 T8
  rw [sz5]
  exact hQ x y hx hy g8 z8 (up TO _ D.TOz TO5) (m.itA a5 fun o q => up i1 o D.i1z q) (n.itA b5 fun o q => up i2 o D.i2z q) T8 fun c o c1 c2 c3 c4 q => up c o c1 (k5 c o c1 c2 c3 c4 q)
theorem zip_next {Q : Option Value → Shared → Prop} (hh : A.handled = none) (D : ZipApart z TI TO i1 i2 l1 l2) (st : ZipSt m n s.heap z TI TO i1 i2 l1 l2 k) (p1 : m.sq s.heap l1 xs) (p2 : n.sq s.heap l2 ys)
    (hQ : ∀ x y, xs[k]? = some x → ys[k]? = some y → ∀ h', IsZip h' z TI TO (rawInt s.heap.objs.size) → IsPair h' TO x y → m.it h' i1 l1 (k + 1) → n.it h' i2 l2 (k + 1) → IsPair h' s.heap.objs.size x y → keptBut z TO i1 i2 s.heap h' → Q (some (.ref s.heap.objs.size)) { s with heap := h' })
    (hE : xs[k]? = none ∨ ys[k]? = none → ∀ h', keptBut z TO i1 i2 s.heap h' → Q none { s with heap := h' }) : wpAny (model prog w) A (pyNext (.ref z)) Q E s := by
  have T : s.TypeIs (.ref z) "zip" := ⟨_, st.z, rfl⟩
  unfold pyNext
  refine wpAny_bind (wpAny_attempt (wpAny_callSpecial?_slot T F.slot_zip_next (wpAny_call_entry F.slot_zip_next T F.entry_zip_next (zip_step hh D st p1 p2 (fun x y hx hy h' a1 a2 a3 a4 a5 a6 => ⟨_, rfl, wpAny_pure (hQ x y hx hy h' a1 a2 a3 a4 a5 a6)⟩) fun q h' e hk he => ?_) (F.args_zip_next_1 _))))
  obtain ⟨o, ho, hc⟩ := he
  exact wpAny_bind (wpAny_isInstance ⟨o, ho, hc⟩ isSubtype_stop (wpAny_pure (hE q h' hk)))
end
/-- the heap behind zip(l1, l2) -/
def zk1 (m : Walkd) (h : Heap) (l1 : Addr) : Heap := h.push { cls := .type m.cl, data := .fields #[.ref l1, .int 0 0] }
def zk2 (m n : Walkd) (h : Heap) (l1 l2 : Addr) : Heap := zk1 n (zk1 m h l1) l2
def zk3 (m n : Walkd) (h : Heap) (l1 l2 : Addr) : Heap := (zk2 m n h l1 l2).push { cls := .type "tuple", data := .seq #[.ref h.objs.size, .ref (zk1 m h l1).objs.size] }
def zk4 (m n : Walkd) (h : Heap) (l1 l2 : Addr) : Heap := (zk3 m n h l1 l2).push { cls := .type "tuple", data := .seq #[.none, .none] }
def zk5 (m n : Walkd) (h : Heap) (l1 l2 : Addr) : Heap := (zk4 m n h l1 l2).push { cls := .type "zip", data := .fields #[.none, .bool false, .bool false, .ref (zk2 m n h l1 l2).objs.size, .ref (zk3 m n h l1 l2).objs.size] }
theorem meets_zk (m n : Walkd) (l1 l2 : Addr) (xs ys : Array Value) : Meets (Builtin.«zip.__new__» ⟨[.type "zip", .ref l1, .ref l2], []⟩) (fun _ R s => m.sq s.heap l1 xs ∧ n.sq s.heap l2 ys ∧ R (.ok (.ret (.ref (zk4 m n s.heap l1 l2).objs.size))) { s with heap := zk5 m n s.heap l1 l2 }) :=
  .of_wp fun prog w A R s h => by
    obtain ⟨hp, g, d, tk, os⟩ := s
    obtain ⟨p1, p2, h⟩ := h
    have sub := sub_zip
    have q1 : m.sq (Shared.heap ⟨hp, g, d, tk, os⟩) l1 xs := p1
    have q2 : n.sq (Shared.heap ⟨hp.push { cls := .type m.cl, data := .fields #[.ref l1, .int 0 0] }, g, d, tk, os⟩) l2 ys := n.sqA p2 fun o e => Heap.get?_push_of_some _ e
    wp_walk using m.beg q1, n.beg q2
    exact ⟨_, rfl, h⟩
section
variable {prog : Program} {w : World} {A : Around} {E : Value → Shared → Prop} {s : Shared} {m n : Walkd} {l1 l2 : Addr} {xs ys : Array Value}
theorem call_zk {Q : Value → Shared → Prop} (p1 : m.sq s.heap l1 xs) (p2 : n.sq s.heap l2 ys)
    (h : ∀ h', ZipSt m n h' (s.heap.objs.size + 4) (s.heap.objs.size + 2) (s.heap.objs.size + 3) s.heap.objs.size (s.heap.objs.size + 1) l1 l2 0 → (∀ c o, s.heap.get? c = some o → h'.get? c = some o) → Q (.ref (s.heap.objs.size + 4)) { s with heap := h' }) :
    wpAny (model prog w) A (call (.type "zip") [.ref l1, .ref l2]) Q E s := by
  refine callType_new F.called_zip (by decide) (F.typeCall_zip_2 _ _) (F.newCall_zip_2 _ _) (fun obj => F.args_object_init_3 obj _ _) F.entry_zip_new (meets_zk m n l1 l2 xs ys) ⟨p1, p2, ?_⟩
  have n1 : (zk1 m s.heap l1).objs.size = s.heap.objs.size + 1 := Heap.size_push ..
  have n2 : (zk2 m n s.heap l1 l2).objs.size = s.heap.objs.size + 2 := (Heap.size_push ..).trans (congrArg (· + 1) n1)
  have n3 : (zk3 m n s.heap l1 l2).objs.size = s.heap.objs.size + 3 := (Heap.size_push ..).trans (congrArg (· + 1) n2)
  have n4 : (zk4 m n s.heap l1 l2).objs.size = s.heap.objs.size + 4 := (Heap.size_push ..).trans (congrArg (· + 1) n3)
  have o1 : ∀ c o, (zk1 m s.heap l1).get? c = some o → (zk2 m n s.heap l1 l2).get? c = some o := fun c o e => Heap.get?_push_of_some _ e
  have o2 : ∀ c o, (zk2 m n s.heap l1 l2).get? c = some o → (zk3 m n s.heap l1 l2).get? c = some o := fun c o e => Heap.get?_push_of_some _ e
  have o3 : ∀ c o, (zk3 m n s.heap l1 l2).get? c = some o → (zk4 m n s.heap l1 l2).get? c = some o := fun c o e => Heap.get?_push_of_some _ e
  have o4 : ∀ c o, (zk4 m n s.heap l1 l2).get? c = some o → (zk5 m n s.heap l1 l2).get? c = some o := fun c o e => Heap.get?_push_of_some _ e
  have e1 := o4 _ _ (o3 _ _ (o2 _ _ (o1 _ _ (show (zk1 m s.heap l1).get? s.heap.objs.size = some _ from Heap.get?_push_size _ rfl))))
  have e2 := o4 _ _ (o3 _ _ (o2 _ _ (show (zk2 m n s.heap l1 l2).get? (zk1 m s.heap l1).objs.size = some _ from Heap.get?_push_size _ rfl)))
  have e3 := o4 _ _ (o3 _ _ (show (zk3 m n s.heap l1 l2).get? (zk2 m n s.heap l1 l2).objs.size = some _ from Heap.get?_push_size _ rfl))
  have e4 := o4 _ _ (show (zk4 m n s.heap l1 l2).get? (zk3 m n s.heap l1 l2).objs.size = some _ from Heap.get?_push_size _ rfl)
  have e5 : (zk5 m n s.heap l1 l2).get? (zk4 m n s.heap l1 l2).objs.size = some _ := Heap.get?_push_size _ rfl
  rw [n1] at e2 e3
  rw [n2] at e3 e5
  rw [n3] at e4 e5
  rw [n4] at e5
  show _ ∧ _
  rw [n4]
  exact ⟨⟨_, e5, rfl⟩, h _ ⟨e5, e3, ⟨_, _, e4⟩, m.it0 e1, n.it0 e2⟩ fun c o e => o4 c o (o3 c o (o2 c o (o1 c o (Heap.get?_push_of_some _ e))))⟩
end
/-- what a walk's thing looks like above -/
structure Look (K : PySem.W.Frag) where
  m : Walkd
  q : Hp → Addr → List V → Prop
  get : ∀ {X : Cx} {pins : List (Addr × Obj)} {σ : L2.St} {H : Hp} {s : Shared} {a : Addr} {xs : List V}, X.K = K → Inv X pins σ H s → q H a xs → ∃ its : List Value, Vals xs its ∧ m.sq s.heap a its.toArray
  inj : ∀ {X : Cx} {pins : List (Addr × Obj)} {σ : L2.St} {H : Hp} {s : Shared} {a : Addr} {xs ys : List V}, X.K = K → Inv X pins σ H s → q H a xs → q H a ys → xs = ys
def lookL (K : PySem.W.Frag) : Look K where
  m := wList
  q := SqL K
  get := fun hk I h => by
    subst hk
    obtain ⟨its, r, p, _⟩ := I.list h
    exact ⟨its, r, p.isList⟩
  inj := fun hk I h h' => by
    subst hk
    exact I.list_inj h h'
def lookT (K : PySem.W.Frag) : Look K where
  m := wTup
  q := SqT K
  get := fun hk I h => by
    subst hk
    obtain ⟨its, r, p, _⟩ := I.tuple h
    exact ⟨its, r, p⟩
  inj := fun hk I h h' => by
    subst hk
    exact I.tuple_inj h h'
def ItzK {K : PySem.W.Frag} (m n : Look K) (a b : Addr) : It :=
  ⟨fun i H => ∃ (xs ys : List V) (x y : V), m.q H a xs ∧ n.q H b ys ∧ xs[i]? = some x ∧ ys[i]? = some y,
    fun i H v H' => ∃ p x y, v = .ref p ∧ H p = none ∧ H' = upd H p (.tup [x, y]) ∧ (∀ xs, m.q H a xs → xs[i]? = some x) ∧ ∀ ys, n.q H b ys → ys[i]? = some y,
    fun i H => ∃ xs ys : List V, m.q H a xs ∧ n.q H b ys ∧ (xs.length ≤ i ∨ ys.length ≤ i)⟩
theorem turn_zk {P : Program} {w : World} {K : PySem.W.Frag} {m n : Look K} {elts : List Expr} {kk : Nat} {tpos : Pos} {a b z TI TO i1 i2 : Addr} (D : ZipApart z TI TO i1 i2 a b) :
    Turn P w K (.Tuple elts kk tpos) (ItzK m n a b) [z, TI, TO, i1, i2] z (fun i h => ZipSt m.m n.m h z TI TO i1 i2 a b i) where
  mem := List.mem_cons_self
  obj := fun i h st c hc => by
    have e' : c = z ∨ c = TI ∨ c = TO ∨ c = i1 ∨ c = i2 := by simpa using hc
    obtain ⟨x, y, hTO⟩ := st.TO
    rcases e' with rfl | rfl | rfl | rfl | rfl
    · exact ⟨_, st.z, fun v q => nomatch q⟩
    · exact ⟨_, st.TI, fun v q => nomatch q⟩
    · exact ⟨_, hTO, fun v q => nomatch q⟩
    · exact m.m.itO st.a
    · exact n.m.itO st.b
  keep := fun i h h' st k => by
    obtain ⟨x, y, hTO⟩ := st.TO
    exact ⟨k z (by simp) _ st.z, k TI (by simp) _ st.TI, ⟨x, y, k TO (by simp) _ hTO⟩, m.m.itA st.a fun o q => k i1 (by simp) o q, n.m.itA st.b fun o q => k i2 (by simp) o q⟩
  item := by
    intro X hP hw hK hc i pins s σ H E I hf st hg
    subst hP hw
    obtain ⟨xs, ys, x, y, hqx, hqy, hx, hy⟩ := hg
    obtain ⟨us, rv, p⟩ := m.get hK I hqx
    obtain ⟨us2, rv2, p2⟩ := n.get hK I hqy
    obtain ⟨u, hu, ru⟩ := rv.get hx
    obtain ⟨u2, hu2, ru2⟩ := rv2.get hy
    have bnd : ∀ c ∈ [z, TI, TO, i1, i2], c < s.heap.objs.size := fun c hc => by
      have e' : c = z ∨ c = TI ∨ c = TO ∨ c = i1 ∨ c = i2 := by simpa using hc
      obtain ⟨x, y, hTO⟩ := st.TO
      rcases e' with rfl | rfl | rfl | rfl | rfl
      · exact Heap.lt_size st.z
      · exact Heap.lt_size st.TI
      · exact Heap.lt_size hTO
      · obtain ⟨o, e, _⟩ := m.m.itO st.a
        exact Heap.lt_size e
      · obtain ⟨o, e, _⟩ := n.m.itO st.b
        exact Heap.lt_size e
    refine zip_next (I.ok.hd hc) D st p p2 (fun v v2 hv hv2 h' z' TO' a' b' T' kb => ?_) fun q => ?_
    · have ev : v = u := Option.some.inj (hv.symm.trans (by simpa using hu))
      have ev2 : v2 = u2 := Option.some.inj (hv2.symm.trans (by simpa using hu2))
      subst ev ev2
      refine ⟨_, rfl, wpAny_letOwnedTupleGo_zip (s := { s with heap := h' }) z' fun h2 z2 sb => ?_⟩
      have T2 : h2.get? s.heap.objs.size = some { cls := .type "tuple", data := .seq #[v, v2] } := (sb.2 _ (Nat.ne_of_gt (bnd z (by simp)))).trans T'
      have ob : ObjOk X.prog X.w (upd H s.heap.objs.size (.tup [x, y])) h2 s.heap.objs.size (.tup [x, y]) := ⟨by show 2 ≤ sizeLine; decide, [v, v2], .cons ru (.cons ru2 .nil), ⟨_, T2, rfl, _, rfl⟩⟩
      have still : ∀ c o, c ∉ [z, TI, TO, i1, i2] → s.heap.get? c = some o → h2.get? c = some o := fun c o hc q => by
        have hc : c ≠ z ∧ c ≠ TI ∧ c ≠ TO ∧ c ≠ i1 ∧ c ≠ i2 := by simpa using hc
        exact (sb.2 c hc.1).trans (kb c o hc.1 hc.2.2.1 hc.2.2.2.1 hc.2.2.2.2 q)
      refine ⟨.ref s.heap.objs.size, _, I.turnedNew (t' := s.toks) still hf (Nat.le_refl _) ob, rfl, ⟨_, x, y, rfl, I.hok.fresh (Nat.le_refl _), rfl, fun l hl => by rw [m.inj hK I hl hqx]; exact hx, fun l hl => by rw [n.inj hK I hl hqy]; exact hy⟩,
        ⟨z2, (sb.2 _ D.TIz).trans (kb _ _ D.TIz D.TITO D.TIi1 D.TIi2 st.TI), ⟨v, v2, (sb.2 _ D.TOz).trans TO'⟩, m.m.itA a' fun o q => (sb.2 _ D.i1z).trans q, n.m.itA b' fun o q => (sb.2 _ D.i2z).trans q⟩, fun c hcm => ?_⟩
      rw [upd_ne (Nat.ne_of_lt (bnd c hcm))]
      exact (hf c hcm).1
    · rcases q with q | q
      · rw [show us.toArray[i]? = some u by simpa using hu] at q
        cases q
      · rw [show us2.toArray[i]? = some u2 by simpa using hu2] at q
        cases q
  done := by
    intro X hP hw hK hc i pins s σ H E I hf st hg
    subst hP hw
    obtain ⟨xs, ys, hqx, hqy, hend⟩ := hg
    obtain ⟨us, rv, p⟩ := m.get hK I hqx
    obtain ⟨us2, rv2, p2⟩ := n.get hK I hqy
    refine zip_next (I.ok.hd hc) D st p p2 (fun v v2 hv hv2 => ?_) fun _ h' kb => ⟨rfl, I.turnedL (t' := s.toks) (ch := [z, TI, TO, i1, i2]) (fun c o hc q => ?_) hf⟩
    · have l1 := rv.length
      have l2 := rv2.length
      have hv : us[i]? = some v := by simpa using hv
      have hv2 : us2[i]? = some v2 := by simpa using hv2
      have g1 := (List.getElem?_eq_some_iff.mp hv).1
      have g2 := (List.getElem?_eq_some_iff.mp hv2).1
      omega
    · have hc : c ≠ z ∧ c ≠ TI ∧ c ≠ TO ∧ c ≠ i1 ∧ c ≠ i2 := by simpa using hc
      exact kb c o hc.1 hc.2.2.1 hc.2.2.2.1 hc.2.2.2.2 q
  self := fun A i s Q E st h => wpAny_pyIter_zip st.z h
/-- zip(a tuple, a list or a tuple) -/
def iZipM (K : PySem.W.Frag) (ta : TA) : TI := fun σ H R => ta σ H fun vs H1 => ∃ (a b : Addr) (xs ys : List V) (n : Look K), vs = [.ref a, .ref b] ∧ SqT K H1 a xs ∧ n.q H1 b ys ∧ R (ItzK (lookT K) n a b) H1
theorem pi_zipM {X : Cx} {K : PySem.W.Frag} {e e2 : Expr} {ta : TA} {p pos tpos : Pos} {elts : List Expr} {kk : Nat} (hg : Gl X "zip") (hm : X.mg "zip" = none) (ha : PA X [e, e2] ta)
    (hs : starEach [e, e2] X.env = (false, eval e X.env) :: starEach [e2] X.env := by rfl) (hpl : (backTo pos (starEach [e2] X.env)).any (·.1) = false := by rfl) (hk : X.K = K := by rfl) :
    PI X (.Tuple elts kk tpos) (.Call (.Name "zip" p) [e, e2] [] pos) (iZipM K ta) := by
  subst hk
  refine ⟨fun pins s σ H R I h => Call_ (ld_blt I hg hm PyProof.Rows.boot_zip (PyProof.Rows.callWith_type1 (thn (ha.run pos pins s σ H _ I h) fun us s1 ⟨vs, H1, I1, r1, q1⟩ => ?_) hs hpl))⟩
  obtain ⟨a, b, xs, ys, n, rfl, hqx, hqy, q⟩ := q1
  obtain ⟨_, _, rfl, rfl, rfl⟩ : ∃ u v, us = [u, v] ∧ u = Value.ref a ∧ v = Value.ref b := by
    cases r1 with
    | cons r rr =>
      cases rr with
      | cons r' rr =>
        cases rr
        exact ⟨_, _, rfl, r, r'⟩
  obtain ⟨its, rv, p1⟩ := (lookT X.K).get rfl I1 hqx
  obtain ⟨its2, rv2, p2⟩ := n.get rfl I1 hqy
  refine call_zk (m := wTup) (n := n.m) p1 p2 fun h' st kp => wpAny_pyIter_zip st.z ?_
  refine ⟨s1.heap.objs.size + 4, [s1.heap.objs.size + 4, s1.heap.objs.size + 2, s1.heap.objs.size + 3, s1.heap.objs.size, s1.heap.objs.size + 1], _, _, H1, rfl, I1.kept (t' := s1.toks) kp, turn_zk (m := lookT X.K) (n := n) (PySem.W.ktu_apart s1.heap.objs.size a b (wTup.sqLt p1) (n.m.sqLt p2)), st, fun c hcm => ?_, q⟩
  have hle : s1.heap.objs.size ≤ c := by
    have e' : c = s1.heap.objs.size + 4 ∨ c = s1.heap.objs.size + 2 ∨ c = s1.heap.objs.size + 3 ∨ c = s1.heap.objs.size ∨ c = s1.heap.objs.size + 1 := by simpa using hcm
    rcases e' with e' | e' | e' | e' | e' <;> subst e' <;> first | exact Nat.le_refl _ | exact Nat.le_add_right _ _
  exact I1.fpOk hle (I1.hok.fresh hle)
end Uw
end
section
set_option Elab.async false
set_option linter.all false
set_option maxRecDepth 100000
set_option pp.maxSteps 200
namespace Uw
open PySem PySem.Spec PyProof.Rows L2 RZ
/-- d[y] = v by a comprehension, keys of either kind -/
theorem d_setA {X : Cx} {pins : List (Addr × Obj)} {σ : L2.St} {H H' : Hp} {s : Shared} {E : Value → Shared → Prop} {a : Addr} {y v : V} {u r : Value} {Q : Unit → Shared → Prop} (hu : X.A.units + 1 < cLine) (I : Inv X pins σ H s) (g : DPut H a y v H') (ry : RelV y u) (rv : RelV v r)
    (h : ∀ s', Inv X pins σ H' s' → Q () s') : wpAny (model X.prog X.w) X.A (dictSet a u r) Q E s := by
  rcases g with ⟨kvs, k, e, rfl, l, rfl⟩ | ⟨kvs, k, b, e, rfl, eb, l, rfl⟩
  · exact d_dictSet I e l ry rv h
  · have eu : u = Value.ref b := ry
    subst eu
    obtain ⟨z, hd, xs, rel, dd⟩ := dt_of I.hok e
    have lx : xs.length ≤ sizeLine := Nat.le_trans (Nat.le_of_eq (Paired.length rel).symm) z
    have lk : (putK kvs k v).length ≤ sizeLine := Nat.le_trans (length_putK kvs k v) l
    refine wpAny_dictSet_heap (hsz := lx) (show X.A.units < cLine from Nat.lt_of_succ_lt hu) (key_of I.hok eb) dd fun g dd' hs => h _ ?_
    obtain ⟨q, es, ep, hq, c2, c3, c4, _, c5⟩ := dd'
    have nd : ∀ c ys, H c = some (.tup ys) → c ≠ a := fun c ys ec z => by
      rw [z, e] at ec
      cases ec
    exact d_write I (by rw [e]; exact True.intro) hs ⟨q, hq⟩ ⟨lk, hd, _, (rel.put k eb rv).keeps fun c ys ec => (upd_ne (nd c ys ec)).trans ec, q, es, ep, hq, c2, c3, c4, c5⟩
/-- what a turn comes to -/
def DcTurn (g : TG) (tt : TT) (tk tv : TE) (vs : List Nat) (D : Addr) (Nx : Hp → Prop) (σ : L2.St) (x : V) (H' : Hp) : Prop := g x (wipe σ vs) H' fun σ2 H2 => wipe σ2 vs = wipe σ vs ∧ tt σ2 H2 fun b H3 =>
  if b = true then tk σ2 H3 fun y H4 => tv σ2 H4 fun z H5 => ∃ H6, DPut H5 D y z H6 ∧ Nx H6 else Nx H3
def DcAll (J : It) (g : TG) (tt : TT) (tk tv : TE) (vs : List Nat) (D : Addr) (σ : L2.St) (Qd : Hp → Prop) (W : Nat → Nat → Hp → Prop) : Prop := ∀ i m H, W i m H →
  (J.stop i H ∧ Qd H) ∨ (J.go i H ∧ ∃ Nx : Hp → Prop, (∀ H', Nx H' → ∃ m', m' < m ∧ W (i + 1) m' H') ∧ ∀ x H', J.yld i H x H' → DcTurn g tt tk tv vs D Nx σ x H')
/-- {k: v for target in iter if ..}, keys of either kind -/
def tDcA (o : HO) (wi : TI) (g : TG) (tt : TT) (tk tv : TE) (vs : List Nat) : TE := fun σ H Q => wi σ H fun J H1 => ∀ D, H1 D = none → ∃ W, (∃ m, W 0 m (upd H1 D o)) ∧ DcAll J g tt tk tv vs D σ (Q (.ref D)) W
def compEnvAt (X : Cx) (scope : Scope) (s : Shared) : Env := compEnvC scope (cellsFrom (s.heap.objs.size + 1) scope.names (cloFrom X.env.cells scope.names [])) s.heap.objs.size X.env
def compHeap (scope : Scope) (h : Heap) : Heap := pushCells (h.push { cls := .type "dict", data := .dict #[] }) scope.names
section
variable {X : Cx} {pins : List (Addr × Obj)} {σ : L2.St} {H : Hp} {s : Shared} {kx vx tg iter : Expr} {ifs : List Expr} {scope : Scope} {own : List (Str × Nat)} {pos : Pos} {g : TG} {tt : TT} {tk tv : TE}
theorem dc_walk {J : It} {it D : Addr} {fp : List Addr} {tn : Nat → Heap → Prop} {Qd : Hp → Prop} {Re : Result → Shared → Prop} {W : Nat → Nat → Hp → Prop} {m0 : Nat} (hc : X.calm = true) (hu : X.A.units + 1 < cLine) (hN : X.N.Nodup) (ok : BlkOk X.N X.env.scope scope own)
    (hg : ∀ (s : Shared) (H : Hp) (C : Addr) (cl : List (Str × Addr)) (fp : List Addr), PG (X.blk s H scope (compEnvC scope cl C X.env) fp) tg g) (ht : ∀ (s : Shared) (H : Hp) (C : Addr) (cl : List (Str × Addr)) (fp : List Addr), PTs (X.blk s H scope (compEnvC scope cl C X.env) fp) ifs tt)
    (hk : ∀ (s : Shared) (H : Hp) (C : Addr) (cl : List (Str × Addr)) (fp : List Addr), PE (X.blk s H scope (compEnvC scope cl C X.env) fp) kx tk) (he : ∀ (s : Shared) (H : Hp) (C : Addr) (cl : List (Str × Addr)) (fp : List Addr), PE (X.blk s H scope (compEnvC scope cl C X.env) fp) vx tv)
    (I : Inv X pins σ H s) (T : Turn X.prog X.w X.K tg J fp it tn) (st : tn 0 s.heap) (f : ∀ b ∈ fp, FpOk X pins H b ∧ b < s.heap.objs.size) (w0 : W 0 m0 H) (all : DcAll J g tt tk tv (own.map (·.2)) D σ Qd W)
    (fin : ∀ s' m H', Inv X pins σ H' s' → Qd H' → s'.heap.Ns s.heap.objs.size m → FpOk X pins H' s.heap.objs.size → Re (.ok .next) s') :
    codeAny (model X.prog X.w) X.A (.compStart (.DictComp kx vx [⟨tg, iter, ifs, 0⟩] scope pos) 0 (.ref it) (.ref D) (compEnvAt X scope s)) Re { s with heap := compHeap scope s.heap } := by
  have I4 : Inv (X.blk s H scope (compEnvAt X scope s) fp) [] (wipe σ (own.map (·.2))) H { s with heap := compHeap scope s.heap } := block_start I ok hN f
  have pg : PG (X.blk s H scope (compEnvAt X scope s) fp) tg g := hg s H _ _ fp
  have pt : PTs (X.blk s H scope (compEnvAt X scope s) fp) ifs tt := ht s H _ _ fp
  have pk : PE (X.blk s H scope (compEnvAt X scope s) fp) kx tk := hk s H _ _ fp
  have pe : PE (X.blk s H scope (compEnvAt X scope s) fp) vx tv := he s H _ _ fp
  have loc : (compEnvAt X scope s).locals = s.heap.objs.size := rfl
  have st4 : tn 0 (compHeap scope s.heap) := T.keep 0 _ _ st fun b _ o e => pushCells_keeps _ _ _ _ (Heap.get?_push_of_some _ e)
  generalize compEnvAt X scope s = ce at I4 pg pt pk pe loc ⊢
  -- the footprint stays our own
  have stat : ∀ {σ' : L2.St} {H' : Hp} {s' : Shared}, Inv (X.blk s H scope ce fp) [] σ' H' s' → (∀ b ∈ fp, H' b = none) → ∀ b ∈ fp, FpOk (X.blk s H scope ce fp) [] H' b :=
    fun I' no b hb => ⟨no b hb, (I'.ok.exf b hb).1, I'.ok.exfs b hb, .inl hb, (I'.ok.exf b hb).2, fun p hp => nomatch (show p ∈ ([] : List (Addr × Obj)) from hp)⟩
  refine codeAny_compStart_dict ?_ (T.self X.A 0 _ _ _ st4 ?_)
  all_goals
    refine compLoop_anyD (fun n s' => ∃ i H', Inv (X.blk s H scope ce fp) [] (wipe σ (own.map (·.2))) H' s' ∧ tn i s'.heap ∧ (∀ b ∈ fp, H' b = none) ∧ W i n H') ?_ m0 ⟨0, H, I4, st4, fun b hb => (f b hb).1.1, w0⟩
    rintro n s5 ⟨i, H5, I5, st5, no5, w5⟩
    rcases all i n H5 w5 with ⟨stop, qd⟩ | ⟨go, Nx, less, step⟩
    · refine thnF (T.done (X.blk s H scope ce fp) rfl rfl rfl hc i [] s5 _ H5 (fun _ _ => False) I5 (stat I5 no5) st5 stop) fun r s6 ⟨er, I6⟩ => ?_
      subst er
      have free : H5 s.heap.objs.size = none := loc ▸ I6.free
      obtain ⟨m, hn, _⟩ := I6.loc
      have hn : s6.heap.Ns ce.locals m := hn
      rw [loc] at hn
      exact fin s6 m H5 (I.call' (ch := fp) I6.os I6.base I6.hok I6.bare fun b hb => let ⟨_, q1, _, q3, q4, q5⟩ := (f b hb).1; ⟨q3, q1, q4, q5⟩) qd hn (I.fpOk (Nat.le_refl _) free)
    · refine thnF (T.item (X.blk s H scope ce fp) rfl rfl rfl hc i [] s5 _ H5 (fun _ _ => False) I5 (stat I5 no5) st5 go) fun r s6 ⟨u, er, h6⟩ => ?_
      subst er
      refine thnF h6 fun _ s7 ⟨x, H7, I7, r7, y7, st7, no7⟩ => thnF (pg.run _ s7 _ H7 x u _ (I7.pinned (stat I7 no7) (T.obj _ _ st7)) r7 (step x H7 y7)) fun _ s8 ⟨σ8, H8, I8, hw, q8⟩ => thnF (pt.run _ s8 σ8 H8 _ I8 q8) fun b s9 ⟨H9, I9, q9⟩ => ?_
      have next : ∀ {s' : Shared} {H' : Hp}, Inv (X.blk s H scope ce fp) ([] ++ pinsAt fp s7.heap) σ8 H' s' → Nx H' → ∃ m, m < n ∧ ∃ i H', Inv (X.blk s H scope ce fp) [] (wipe σ (own.map (·.2))) H' s' ∧ tn i s'.heap ∧ (∀ b ∈ fp, H' b = none) ∧ W i m H' := fun {s' H'} I' nx => by
        obtain ⟨m', lt, w'⟩ := less H' nx
        have pinned : ∀ b ∈ fp, ∀ o, s7.heap.get? b = some o → s'.heap.get? b = some o ∧ H' b = none := fun b hb o e => let z := I'.pin (b, o) (List.mem_append_right _ (List.mem_append_right _ (mem_pinsAt hb e))); ⟨z.1, z.2.1⟩
        refine ⟨m', lt, i + 1, H', (I'.unpinned (pins := [])).weak ((congrArg List.length hw).symm.trans (wipe_length σ8 _)) (fun j v e => (wipe_some (hw.symm ▸ e)).1), T.keep _ _ _ st7 fun b hb o e => (pinned b hb o e).1, fun b hb => ?_, w'⟩
        obtain ⟨o, e, _⟩ := T.obj _ _ st7 b hb
        exact (pinned b hb o e).2
      cases b with
      | false => exact next I9 q9
      | true =>
        refine thnF (pk.run _ s9 σ8 H9 _ I9 q9) fun z s10 ⟨yk, H10, I10, r10, q10⟩ => thnF (pe.run _ s10 σ8 H10 _ I10 q10) fun z2 s11 ⟨yv, H11, I11, r11, H12, put, nx⟩ => ?_
        exact d_setA (X := X.blk s H scope ce fp) hu I11 put r10 r11 fun s12 I12 => next I12 nx
theorem pe_dcA {o : HO} {wi : TI} (ho : ∀ {P : Program} {w : World} {H : Hp} (h : Heap), sysModules < h.objs.size → ObjOk P w H (h.push { cls := .type "dict", data := .dict #[] }) h.objs.size o) (hc : X.calm = true) (hu : X.A.units + 1 < cLine) (hN : X.N.Nodup) (hi : PI X tg iter wi) (ok : BlkOk X.N X.env.scope scope own)
    (hg : ∀ (s : Shared) (H : Hp) (C : Addr) (cl : List (Str × Addr)) (fp : List Addr), PG (X.blk s H scope (compEnvC scope cl C X.env) fp) tg g) (ht : ∀ (s : Shared) (H : Hp) (C : Addr) (cl : List (Str × Addr)) (fp : List Addr), PTs (X.blk s H scope (compEnvC scope cl C X.env) fp) ifs tt)
    (hk : ∀ (s : Shared) (H : Hp) (C : Addr) (cl : List (Str × Addr)) (fp : List Addr), PE (X.blk s H scope (compEnvC scope cl C X.env) fp) kx tk) (he : ∀ (s : Shared) (H : Hp) (C : Addr) (cl : List (Str × Addr)) (fp : List Addr), PE (X.blk s H scope (compEnvC scope cl C X.env) fp) vx tv)
    (hs : ∀ x, foldedSetIterable iter X.env x = pure x := by intro _; rfl) : PE X (.DictComp kx vx [⟨tg, iter, ifs, 0⟩] scope pos) (tDcA o wi g tt tk tv (own.map (·.2))) := by
  refine ⟨fun pins s σ H Q I h => ?_⟩
  rw [arm_eval_DictComp]
  refine wpAny_comprehension_free (use := none) rfl hs (closure_ok fun y hy e => I.ok.has _ (ok.free y hy e)) ok.kind (fun y hy e => (ok.uniq y hy).trans (congrArg some e)) (thn (hi.run pins s σ H _ I h) fun _ s1 hx => thn hx fun _ s2 ⟨it, fp, tn, J, H2, e, I2, T, st2, f2, q⟩ => ?_)
  subst e
  refine wpAny_newObj_type (newEnv_comp ?_)
  obtain ⟨W, ⟨m0, w0⟩, all⟩ := q _ (I2.hok.fresh (Nat.le_refl _))
  have I3 : Inv X pins σ (upd H2 s2.heap.objs.size o) { s2 with heap := s2.heap.push { cls := .type "dict", data := .dict #[] } } := I2.laid (t' := s2.toks) (fun b u e => Heap.get?_push_of_some _ e) (Nat.le_refl _) (ho s2.heap I2.big)
  refine dc_walk (s := { s2 with heap := s2.heap.push { cls := .type "dict", data := .dict #[] } }) hc hu hN ok hg ht hk he I3 T (T.keep 0 _ _ st2 fun b _ o e => Heap.get?_push_of_some _ e) (fun b hb => ?_) w0 all fun s' m H' I' qd hn fo => ⟨m, hn, fun h2 sb => ?_⟩
  · obtain ⟨u, e, _⟩ := T.obj 0 _ st2 b hb
    have lt : b < s2.heap.objs.size := Heap.lt_size e
    exact ⟨⟨(upd_ne (Nat.ne_of_lt lt)).trans (f2 b hb).1, (f2 b hb).2⟩, Nat.lt_of_lt_of_le lt (Nat.le_of_lt (by rw [Heap.size_push]; exact Nat.lt_succ_self _))⟩
  · obtain ⟨q0, q1, q2, q3, q4, q5⟩ := fo
    exact ⟨.ref _, H', I'.turned (t' := s'.toks) (fun b u hb e => (sb.2 b hb).trans e) q0 q1 q3 q4 q5, rfl, qd⟩
end
end Uw
end
section
set_option Elab.async false
set_option linter.all false
set_option maxRecDepth 100000
set_option pp.maxSteps 200
namespace Uw
open PySem PySem.Spec PyProof.Rows L2 RZ
/-! ### sorted of a list or a tuple of texts -/
section
variable {prog : Program} {w : World} {A : Around} {E : Value → Shared → Prop} {s : Shared} {l : Addr} {T : String} {o : Obj} {vs : List Value} {n : Nat}
def withItems (s : Shared) (vs : List Value) : Shared := { s with heap := (s.heap.push (seqObj "list" #[] 0)).update s.heap.objs.size (Obj.mapSeq (· ++ vs.toArray)) }
theorem collect_lt {Q : List Value → Shared → Prop} (hT : T = "list" ∨ T = "tuple") (ho : s.heap.get? l = some o) (hc : o.cls = .type T) (hd : o.data = .seq vs.toArray n) (hz : vs.length ≤ sizeLine) (h : Q vs (withItems s vs)) : wpAny (model prog w) A (collect (.ref l)) Q E s := by
  unfold collect
  refine wpAny_bind (wpAny_runValue (codeAny_builtin entry_proto_collect' (show wpAny _ _ (do again (.builtin "list.__iadd__" ⟨[← newList [], .ref l], []⟩)) _ _ s from wpAny_bind (wpAny_newList (wpAny_pure ⟨Code.quiet_builtin _ (by decide +kernel), codeAny_builtin entry_list_iadd' ?_⟩)))))
  have o1 := Heap.get?_push_of_some (seqObj "list" #[] 0) ho
  have o2 : (s.heap.push (seqObj "list" #[] 0)).get? s.heap.objs.size = some (seqObj "list" #[] 0) := Heap.get?_push_size _ rfl
  show wpAny _ _ (Builtin.List.listExtendWith (.ref s.heap.objs.size) (.ref l) (.ref s.heap.objs.size)) _ _ _
  unfold Builtin.List.listExtendWith
  refine wpAny_bind (wpAny_typeOf (T := T) ⟨o, o1, hc⟩ ?_)
  rw [if_pos (by
    rcases hT with rfl | rfl
    · rw [show (Value.type "list" == Value.type "list") = true by decide +kernel, Bool.or_true, Bool.true_or]
    · rw [show (Value.type "tuple" == Value.type "tuple") = true by decide +kernel, Bool.or_true])]
  refine wpAny_bind (listItems_at o1 hd (wpAny_bind (listItems_at o2 rfl ?_)))
  rw [if_neg (by simp)]
  refine wpAny_bind (listUpdate_at o2 rfl (wpAny_pure ?_) (Nat.zero_le _) (by show (#[] ++ vs.toArray).size ≤ sizeLine + 1; simp only [Array.size_append, List.size_toArray, List.length_nil]; omega))
  refine wpAny_bind (m := load s.heap.objs.size) (wpAny_load (get?_update_seq o2 _) ?_)
  show wpAny _ _ (pure ((#[] : Array Value) ++ vs.toArray).toList) Q E _
  rw [show ((#[] : Array Value) ++ vs.toArray).toList = vs by simp]
  exact wpAny_pure h
theorem sorted_lt {ss : List Str} {Q : Value → Shared → Prop} (hT : T = "list" ∨ T = "tuple") (ho : s.heap.get? l = some o) (hc : o.cls = .type T) (hd : o.data = .seq vs.toArray n) (hS : StrsAre vs ss) (h64 : vs.length < 64)
    (h : ∀ (out : Array Value) (ss' : List Str), StrsAre out.toList ss' → ss'.Perm ss → sortedS ss' = true → Q (.ref (s.heap.objs.size + 1)) { s with heap := sortedAll s.heap vs out }) : wpAny (model prog w) A (call (.builtin "sorted") [.ref l]) Q E s := by
  refine Calls.call_function_entry kind_sorted plain_sorted entry_sorted (args_sorted1 _) ?_
  unfold Builtin.«sorted»
  have size1 : (withItems s vs).heap.objs.size = s.heap.objs.size + 1 := (Heap.size_update ..).trans (size_push' ..)
  have new1 : ((withItems s vs).heap.push (seqObj "list" vs.toArray 0)).get? (s.heap.objs.size + 1) = some (seqObj "list" vs.toArray 0) := size1 ▸ Heap.get?_push_size _ rfl
  refine wpAny_bind (m := checkCount "sorted" 1 1 _) (wpAny_pure (wpAny_bind (collect_lt hT ho hc hd (small64 h64) (wpAny_bind (wpAny_newList ?_ (small64 h64))))))
  rw [size1]
  refine wpAny_bind (wpAny_holding (wpAny_call_entry slot_list_sort ⟨_, new1, rfl⟩ entry_list_sort (list_sort_treeK strKind_oneLt new1 hS.keysOf (fun v₁ v₂ rest e => keyKind_strs (e ▸ hS)) h64 fun st' p1 p2 => ⟨_, rfl, wpAny_pure ⟨_, rfl, ?_⟩⟩) (args_list_sort _)))
  obtain ⟨ss', a1, a2, a3⟩ := sorted_out_str hS p1 p2
  exact h _ ss' a1 a2 a3
end
def rSortedA (K : PySem.W.Frag) : List V → Hp → VK → Prop := fun vs H Q => ∃ (a : Addr) (xs : List Str), vs = [V.ref a] ∧ (SqL K H a (xs.map V.str) ∨ SqT K H a (xs.map V.str)) ∧ xs.length < 64 ∧
  ∀ (ys : List Str) (p : Addr), ys.Perm xs → sortedS ys = true → H p = none → Q (.ref p) (upd H p (.lst (ys.map V.str)))
theorem cr_sortedA {X : Cx} {K : PySem.W.Frag} (hk : X.K = K := by rfl) : CallR X (.builtin "sorted") (rSortedA K) := by
  subst hk
  intro pins s σ H vs us Q I r h
  obtain ⟨a, xs, rfl, hs, h64, q⟩ := h
  rw [Vals.ref1 r]
  obtain ⟨its, rv, T, o, n, hT, ho, hc, hd⟩ : ∃ (its : List Value), Vals (xs.map V.str) its ∧ ∃ (T : String) (o : Obj) (n : Nat), (T = "list" ∨ T = "tuple") ∧ s.heap.get? a = some o ∧ o.cls = .type T ∧ o.data = .seq its.toArray n := by
    rcases hs with hs | hs
    · obtain ⟨its, rv, hl, _⟩ := I.list hs
      obtain ⟨o, h1, h2, n, h3⟩ := hl.isList
      exact ⟨its, rv, _, o, n, .inl rfl, h1, h2, h3⟩
    · obtain ⟨its, rv, hl, _⟩ := I.tuple hs
      obtain ⟨o, h1, h2, n, h3⟩ := hl
      exact ⟨its, rv, _, o, n, .inr rfl, h1, h2, h3⟩
  have hlen : its.length = xs.length := by rw [← rv.length, List.length_map]
  refine sorted_lt hT ho hc hd rv.strs (by omega) fun out ys h1 h2 h3 => ?_
  obtain ⟨ep, he⟩ := sortedAll_at s.heap its out
  exact ⟨.ref _, upd H (s.heap.objs.size + 1) (.lst (ys.map V.str)), I.laid (t' := s.toks) (fun _ _ => sortedAll_old) (Nat.le_succ _) ⟨by rw [List.length_map, h2.length_eq]; exact small64 h64, out.toList, ep, vals_of_strs h1, he⟩, rfl, q ys _ h2 h3 (I.hok.fresh (Nat.le_succ _))⟩
section
variable {K : PySem.W.Frag} {σ : L2.St} {S H : Hp} {ta : TE}
theorem ev_sortedA {x : T} {xs : List Str} (h : Ev ta σ S H (R K x)) (hx : x = .l (xs.map tS) ∨ x = .t (xs.map tS)) (hn : xs.length < 64) : Ev (tCB (rSortedA K) (tCons ta tNil)) σ S H (R K (.l ((isort strO xs).map tS))) := fun S1 H1 g Q q =>
  h S1 H1 g _ fun v S2 H2 g2 r => by
    obtain ⟨p, rfl, hp⟩ : ∃ p, v = .ref p ∧ (SqL K H2 p (xs.map V.str) ∨ SqT K H2 p (xs.map V.str)) := by
      rcases hx with rfl | rfl
      · cases r with
        | @l p us _ h r =>
          have e := reps_strs r
          subst e
          exact ⟨p, rfl, .inl (sqL g2.sub h)⟩
      · cases r with
        | @t p us _ h r =>
          have e := reps_strs r
          subst e
          exact ⟨p, rfl, .inr (sqT g2.sub h)⟩
    refine ⟨p, xs, rfl, hp, hn, fun ys l h1 h2 hl => ?_⟩
    have e := isort_eq (O := strO) h1 (sortedS_up h2)
    subst e
    refine q _ (upd S2 l (.lst _)) _ (g2.trans (.alloc g2.sub hl)) (.l upd_same ?_)
    rw [map_tS]
    exact .of_flat (all_flat_strs _)
end
end Uw
end
section
set_option Elab.async false
set_option linter.all false
set_option maxRecDepth 100000
set_option pp.maxSteps 200
namespace Uw
open PySem PySem.Spec PyProof.Rows L2 RZ
/-! ### == by an own __eq__, whatever it tells -/
theorem looks_ref {prog : Program} {w : World} {h : Heap} {p : Addr} {o : Obj} {T : String} (e : h.get? p = some o) (c : o.cls = .type T) : PySem.W.Looks (model prog w) h (typeOf (.ref p)) (.type T) := fun A Q E s k q => wpAny_typeOf (T := T) ⟨o, k _ _ e, c⟩ q
theorem looks_int {prog : Program} {w : World} {h : Heap} {i : Int} {t : Tok} : PySem.W.Looks (model prog w) h (typeOf (.int i t)) (.type "int") := fun A Q E s k q => wpAny_typeOf (T := "int") (typeIs_int s i t) q
/-- what stands on the right of == -/
inductive Oth (K : PySem.W.Frag) (C : Addr) (H : Hp) : V → Prop
  | ins {b dy : Addr} {gs : List (Str × V)} (e : H b = some (.ins C dy gs)) : Oth K C H (.ref b)
  | int (i : Int) (n : PySem.W.notFirst K C (.type "int") = true) : Oth K C H (.int i)
  | tup {p : Addr} {xs : List V} (e : H p = some (.tup xs)) (n : PySem.W.notFirst K C (.type "tuple") = true) : Oth K C H (.ref p)
theorem oth_look {X : Cx} {pins : List (Addr × Obj)} {σ : L2.St} {H : Hp} {s : Shared} {C : Addr} {y : V} {u : Value} (I : Inv X pins σ H s) (ho : Oth X.K C H y) (ry : RelV y u) : ∃ tb, PySem.W.Looks (model X.prog X.w) s.heap (typeOf u) tb ∧ PySem.W.notFirst X.K C tb = true := by
  cases ho with
  | @ins b dy gs e =>
    obtain rfl : u = Value.ref b := ry
    obtain ⟨mB, J', _⟩ := ins_get I.hok e
    obtain ⟨od', J', _⟩ := J'.look
    exact ⟨_, J'.type, by simp [PySem.W.notFirst]⟩
  | int i n =>
    obtain ⟨t, rfl⟩ := (show ∃ t, u = Value.int i t from ry)
    exact ⟨_, looks_int, n⟩
  | @tup p xs e n =>
    obtain rfl : u = Value.ref p := ry
    obtain ⟨_, _, _, o, h1, h2, _⟩ := (show ObjOk X.prog X.w H s.heap p (.tup xs) from I.hok p _ e)
    exact ⟨_, looks_ref h1 h2, n⟩
def rOwnEq (K : PySem.W.Frag) (C : Addr) (sp : Sp) (E : XK) : R2 := fun x y H Q => ∃ a dx fs, x = .ref a ∧ H a = some (.ins C dx fs) ∧ Oth K C H y ∧ sp [x, y] H (fun v H' => ∃ b, v = .bl b ∧ Q v H') E
section
variable {X : Cx} {CX : CXT} {n : Nat} {C f : Addr} {fd : FuncData} {ps : List Str} {sp : Sp} {E : XK}
theorem op_ownEq (F : FnOk X.prog X.w X.K X.mg X.base CX n f fd ps sp) (hr : Room n X.A) (hs : PySem.W.findIn X.K (.ref C) "__eq__" = some (some (.ref f))) (hf : PySem.W.isFn X.K (.ref f) = true) (hb : Binds X.K fd ps []) (hx : Passes CX X E) :
    OpR X (compareOp .Eq) (rOwnEq X.K C sp E) := by
  intro pins s σ H x y v u Q I rx ry h
  obtain ⟨a, dx, fs, rfl, ha, ho, hsp⟩ := h
  have rxx : RelV (.ref a) v := rx
  obtain rfl : v = Value.ref a := rx
  obtain ⟨mA, J, _⟩ := ins_get I.hok ha
  obtain ⟨od, J, _⟩ := J.look
  obtain ⟨m, hF⟩ := I.fr
  obtain ⟨tb, lk, nf⟩ := oth_look I ho ry
  show wpAny (model X.prog X.w) X.A (richCompare .Eq (.ref a) u) (EP X pins σ Q) X.xe s
  refine PySem.W.cmp_K (op := .Eq) (tb := tb) hr.units0 hF I.ok.mod.kin J lk nf hs hf (thn (run_fn F hr hb .nil hx I (.cons rxx (.cons ry .nil)) hsp) fun z s' hz => ?_)
  obtain ⟨z2, H', I', rz, b, ez, q⟩ := hz
  subst ez
  obtain rfl : z = Value.bool b := rz
  exact ⟨.bl b, H', I', rfl, q⟩
/-- a call of the own def, here or deeper -/
theorem call_own {A : Around} {pins : List (Addr × Obj)} {σ : L2.St} {H : Hp} {s : Shared} {Q : VK} {us : List Value} {vs : List V} (sb : Sub X n A) (F : FnOk X.prog X.w X.K X.mg X.base CX n f fd ps sp) (hb : Binds X.K fd ps []) (hx : Passes CX X E) (I : Inv X pins σ H s) (r : Vals vs us) (h : sp vs H Q E) :
    wpAny (model X.prog X.w) A (call (.ref f) us) (EP X pins σ Q) X.xe s := by
  have len : us.length = ps.length := r.length.symm.trans (F.len _ _ _ _ h)
  have bd : ∀ args, args = us → bindArgs fd ⟨us, []⟩ = bindArgs fd ⟨args, []⟩ := fun args e => by rw [e]
  have e := I.env0
  refine wpAny_call (codeAny_mono (F.run A X.stack s H ⟨us, []⟩ us vs Q E sb.room ⟨sb.fr.trans e.frames, e.mod, e.bs, e.bsz, e.funs, e.frf, e.hok, e.bare⟩ (by simpa using hb s us I.kIn (by simpa using len)) r h) fun rr s' hq => ?_)
  match rr, hq with
  | .error e, hq => exact hx pins σ H s e s' I hq
  | .ok (.ret u), hq => exact I.after hq
  | .ok .next, hq => exact hq.elim
  | .ok .brk, hq => exact hq.elim
  | .ok .cont, hq => exact hq.elim
end
section
variable {K : PySem.W.Frag} {A : Around} {E : Value → Shared → Prop} {s : Shared} {x C : Addr} {ox : Obj} {od : Option Obj}
/-- a special that is a built-in slot of object -/
theorem special_slot {M : Model} {name : Str} {id : String} {args : List Value} {Q : Option Value → Shared → Prop} (X : K.In s.heap) (I : PySem.W.InstAt s.heap x ox C od) (hs : PySem.W.findIn K (.ref C) name = some (some (.builtin id)))
    (hb : ∀ self, bindSpecial (.builtin id) self = pure (.builtin id, [self])) (h : wpAny M A (call (.builtin id) (.ref x :: args)) (fun v => Q (some v)) E s) : wpAny M A (callSpecialIfBound? (.ref x) name args) Q E s := by
  simp only [callSpecialIfBound?, bindSpecialIfBound?]
  refine wpAny_holding (wpAny_bind (wpAny_bind (wpAny_bind (I.type.here ((PySem.W.looks_findIn X hs).here (wpAny_bind (wpAny_askSetting (wpAny_ite ?_))))))))
  simp only [hb]
  have k : wpAny M A (call (.builtin id) ([.ref x] ++ args) >>= fun v => pure (some v)) Q E s := wpAny_bind (thn h fun v s' q => wpAny_pure q)
  split
  · exact wpAny_bind (wpAny_pure (wpAny_pure k))
  · exact wpAny_tryCatch (wpAny_bind (wpAny_pure (wpAny_pure k)))
theorem check_obj {M : Model} {id n : String} {rest : List Value} {Q : Unit → Shared → Prop} (X : K.In s.heap) (I : PySem.W.InstAt s.heap x ox C od) (hm : PySem.W.mroIn K C (.type "object") = some true) (hk : builtinKind id = some .slot) (hs : splitId id = some ("object", n))
    (ha : argsOk id ⟨.ref x :: rest, []⟩) (h : Q () s) : wpAny M A (checkBuiltinCall id ⟨.ref x :: rest, []⟩) Q E s := by
  have sub : PySem.W.Looks M s.heap (isInstance (.ref x) (.type "object")) true := I.type.andThen (PySem.W.looks_mroIn X hm)
  simp only [checkBuiltinCall, hk, hs]
  refine wpAny_bind (sub.here ?_)
  rw [if_neg (by decide)]
  unfold argsOk at ha
  cases e : Manifest.signature? id with
  | none => exact wpAny_pure h
  | some sig =>
    rw [e] at ha
    exact wpAny_of_eq ha h
/-- x != u, from x == u -/
theorem rich_ne {prog : Program} {w : World} {m : Str → Option Value} {h₀ : Heap} {L f : Addr} {u tb : Value} {Q : Value → Shared → Prop} (hu : A.units + 1 < cLine) (Fm : Fr h₀ L s.heap m) (X₀ : K.In h₀) (I : PySem.W.InstAt s.heap x ox C od) (lk : PySem.W.Looks (model prog w) s.heap (typeOf u) tb)
    (nf : PySem.W.notFirst K C tb = true) (hm : PySem.W.mroIn K C (.type "object") = some true) (hne : PySem.W.findIn K (.ref C) "__ne__" = some (some (.builtin "object.__ne__"))) (he : PySem.W.findIn K (.ref C) "__eq__" = some (some (.ref f))) (hf : PySem.W.isFn K (.ref f) = true)
    (h : wpAny (model prog w) A.in1 (call (.ref f) [.ref x, u]) (fun v s' => ∃ b, v = .bool b ∧ Q (.bool (!b)) s') E s) : wpAny (model prog w) A (richCompare .NotEq (.ref x) u) Q E s := by
  have X := X₀.keeps Fm.keep
  have body : wpAny (model prog w) A.in1 (Builtin.«object.__ne__» ⟨[.ref x, u], []⟩) (fun fin s' => ∃ b, fin = .done (.ret (.bool b)) ∧ Q (.bool b) s') E s := by
    unfold Builtin.«object.__ne__»
    refine wpAny_bind (m := slotArgs "__ne__" 1 ⟨[Value.ref x, u], []⟩) (wpAny_of_eq (a := (Value.ref x, [u])) rfl ?_)
    refine wpAny_bind (wpAny_cRoomFor hu (wpAny_bind (PySem.W.ifBound_K X I he hf (thn h fun v s' ⟨b, ev, q⟩ => ?_))))
    subst ev
    exact wpAny_bind (wpAny_truthy_bool (wpAny_pure ⟨_, rfl, q⟩))
  have one : wpAny (model prog w) A (tryCompare (.ref x) (cmpInfo .NotEq).2.1 u) (fun r s' => ∃ b, r = some (.bool b) ∧ Q (.bool b) s') E s := by
    unfold tryCompare
    refine wpAny_bind (special_slot X I hne F.slot_tuple_iterator_ne.bind ?_)
    refine wpAny_call (codeAny_call_builtin PySem.F.slot_tuple_iterator_ne.plain PySem.F.cmpEntry_ne (check_obj X I hm PySem.F.cmpKind_ne PySem.F.cmpSplit_ne (PySem.F.cmpArgs_ne _ _) (thn body fun fin s' ⟨b, ef, q⟩ => ?_)))
    subst ef
    exact wpAny_pure ⟨b, rfl, q⟩
  unfold richCompare
  simp only [oneThing_ref]
  refine wpAny_holding (wpAny_bind (wpAny_cRoomFor (Nat.lt_of_succ_lt hu) (wpAny_bind (I.type.here (wpAny_bind (lk.here ?_))))))
  by_cases hd : (Value.ref C != tb) = true
  · rw [if_pos hd]
    have e : PySem.W.subIn K tb (.ref C) = some false := by
      unfold PySem.W.notFirst at nf
      rw [Bool.or_eq_true] at nf
      rcases nf with e | e
      · rw [beq_iff_eq] at e
        rw [e] at hd
        simp at hd
      · exact beq_iff_eq.mp e
    refine wpAny_bind ((PySem.W.looks_subIn X e).here ?_)
    rw [if_neg Bool.false_ne_true]
    refine wpAny_bind (thn one fun r s' ⟨b, er, q⟩ => ?_)
    subst er
    exact wpAny_pure q
  · rw [if_neg hd]
    refine wpAny_bind (wpAny_pure ?_)
    rw [if_neg Bool.false_ne_true]
    refine wpAny_bind (thn one fun r s' ⟨b, er, q⟩ => ?_)
    subst er
    exact wpAny_pure q
end
def rOwnNe (K : PySem.W.Frag) (C : Addr) (sp : Sp) (E : XK) : R2 := fun x y H Q => ∃ a dx fs, x = .ref a ∧ H a = some (.ins C dx fs) ∧ Oth K C H y ∧ sp [x, y] H (fun v H' => ∃ b, v = .bl b ∧ Q (.bl (!b)) H') E
section
variable {X : Cx} {CX : CXT} {n : Nat} {C f : Addr} {fd : FuncData} {ps : List Str} {sp : Sp} {E : XK}
theorem op_ownNe (F : FnOk X.prog X.w X.K X.mg X.base CX n f fd ps sp) (hr : Room (n + 1) X.A) (hs : PySem.W.findIn X.K (.ref C) "__eq__" = some (some (.ref f))) (hf : PySem.W.isFn X.K (.ref f) = true) (hb : Binds X.K fd ps []) (hx : Passes CX X E)
    (hne : PySem.W.findIn X.K (.ref C) "__ne__" = some (some (.builtin "object.__ne__"))) (hm : PySem.W.mroIn X.K C (.type "object") = some true) : OpR X (compareOp .NotEq) (rOwnNe X.K C sp E) := by
  intro pins s σ H x y v u Q I rx ry h
  obtain ⟨a, dx, fs, rfl, ha, ho, hsp⟩ := h
  have rxx : RelV (.ref a) v := rx
  obtain rfl : v = Value.ref a := rx
  obtain ⟨mA, J, _⟩ := ins_get I.hok ha
  obtain ⟨od, J, _⟩ := J.look
  obtain ⟨m, hF⟩ := I.fr
  obtain ⟨tb, lk, nf⟩ := oth_look I ho ry
  show wpAny (model X.prog X.w) X.A (richCompare .NotEq (.ref a) u) (EP X pins σ Q) X.xe s
  refine rich_ne (hu_of hr) hF I.ok.mod.kin J lk nf hm hne hs hf (thn (call_own (A := X.A.in1) (Sub.in1 ⟨hr, rfl⟩) F hb hx I (.cons rxx (.cons ry .nil)) hsp) fun z s' hz => ?_)
  obtain ⟨z2, H', I', rz, b, ez, q⟩ := hz
  subst ez
  exact ⟨b, rz, .bl (!b), H', I', rfl, q⟩
end
end Uw
end
section
set_option Elab.async false
set_option linter.all false
set_option maxRecDepth 100000
set_option pp.maxSteps 200
namespace Uw
open PySem PySem.Spec PyProof.Rows L2 RZ
/-! ### == of dicts with tuple keys and True all over -/
section
variable {prog : Program} {w : World} {K : Type} [DecidableEq K] {knd : HeapKind prog w K} {A : Around} {E : Value → Shared → Prop} {s : Shared}
theorem same_true {nm : String} {a b : Addr} {xa xb : List (K × Addr × Value)} {Q : Bool → Shared → Prop} (ha : (a == sysModules) = false) (hb : (b == sysModules) = false) (da : s.heap.DictOfH knd a xa) (db : s.heap.DictOfH knd b xb) (hu : knd.room A)
    (va : ∀ x ∈ xa, x.2.2 = .bool true) (vb : ∀ x ∈ xb, x.2.2 = .bool true) (h : Q (decide (xa.length = xb.length) && xa.all fun x : K × Addr × Value => decide (x.1 ∈ xb.map Prod.fst)) s) : wpAny (model prog w) A (Builtin.Dict.samePairs nm a b) Q E s := by
  obtain ⟨oa, ea, pa, ga, _, dda, la, ia, _⟩ := da
  obtain ⟨ob, eb, pb, gb, _, ddb, lb, ib, nb⟩ := db
  have na : ea.size = xa.length := size_of_entries la
  have nb' : eb.size = xb.length := size_of_entries lb
  unfold Builtin.Dict.samePairs Builtin.Dict.showsAll
  rw [ha, hb, if_neg Bool.false_ne_true]
  refine wpAny_bind (wpAny_pure (wpAny_bind (wpAny_pure (wpAny_bind (wpAny_dictEntries ga dda ?_)))))
  dsimp only
  refine wpAny_bind (wpAny_dictEntries gb ddb ?_)
  by_cases hs : ea.size = eb.size
  · rw [if_neg (by rw [hs]; simp)]
    rw [decide_eq_true (show xa.length = xb.length by omega), Bool.true_and] at h
    refine wpAny_bind (wpAny_dictEpoch ga dda (wpAny_bind ?_))
    rw [Std.Legacy.Range.forIn_eq_forIn_range']
    simp only [Std.Legacy.Range.size, Nat.sub_zero, Nat.add_sub_cancel, Nat.div_one]
    have body : ∀ (i : Nat) (hi : i < xa.length), ∀ {α : Type} {k : Bool → Sem α} {R : α → Shared → Prop}, wpAny (model prog w) A (k (decide (xa[i].1 ∈ xb.map Prod.fst))) R E s → ∀ e, ea[i]? = some e →
        wpAny (model prog w) A ((holding [e.key, e.val] do
          let some j ← dictFind b e.key e.hash | pure false
          let some f := (← dictEntries b)[j]? | unsupported "internal:dict-equal"
          holding [f.val] (eqBool e.val f.val)) >>= k) R E s := by
      intro i hi α k R hk e he
      have ee : e = entryOfKey knd xa[i] := by
        rw [entry_at la i, List.getElem?_eq_getElem hi] at he
        exact (Option.some.inj he).symm
      subst ee
      have hm := List.getElem_mem hi
      refine wpAny_bind (wpAny_holding (wpAny_bind (wpAny_dictFind_heap hu (ia _ hm) gb ddb lb ib nb (fun no => ?_) fun j p hj => ?_)))
      · have out : xa[i].1 ∉ xb.map Prod.fst := fun hx => by
          obtain ⟨y, hy, ey⟩ := List.mem_map.mp hx
          obtain ⟨j, hj⟩ := List.mem_iff_getElem?.mp hy
          exact no j y.2 (by rw [hj, ← ey])
        rw [decide_eq_false out] at hk
        exact wpAny_pure hk
      · have inn : xa[i].1 ∈ xb.map Prod.fst := List.mem_map.mpr ⟨_, List.mem_of_getElem? hj, rfl⟩
        rw [decide_eq_true inn] at hk
        refine wpAny_bind (wpAny_dictEntries gb ddb ?_)
        rw [entry_at lb j, hj]
        refine wpAny_holding ?_
        show wpAny (model prog w) A (eqBool xa[i].2.2 p.2) _ E s
        rw [va _ hm, show p.2 = .bool true from vb _ (List.mem_of_getElem? hj)]
        exact SeqAt.EqAt.same (A := A) (s := s) (.bool true) prog w E _ hk
    refine wpAny_forIn_list _ (fun rest q s' => s' = s ∧ q = (none, ()) ∧ ∃ i, rest = List.range' i (ea.size - i) ∧ i ≤ ea.size ∧ Q ((xa.drop i).all fun x : K × Addr × Value => decide (x.1 ∈ xb.map Prod.fst)) s) _ ?_ ?_ _ _ ⟨rfl, rfl, 0, by simp, Nat.zero_le _, h⟩
    · rintro x rest q s' ⟨rfl, rfl, i, hr, hi, hq⟩
      have lt : i < ea.size := by
        rcases Nat.lt_or_ge i ea.size with hlt | hge
        · exact hlt
        · rw [Nat.sub_eq_zero_of_le hge] at hr
          cases hr
      rw [show ea.size - i = (ea.size - (i + 1)) + 1 by omega, List.range'_succ] at hr
      injection hr with e1 e2
      subst e1 e2
      have lx : x < xa.length := by omega
      refine wpAny_bind (wpAny_dictEntries ga dda ?_)
      rw [Array.getElem?_eq_getElem lt]
      refine body x lx ?_ _ (Array.getElem?_eq_getElem lt)
      rw [List.drop_eq_getElem_cons lx, List.all_cons] at hq
      cases hm : decide (xa[x].1 ∈ xb.map Prod.fst) with
      | false =>
        rw [hm, Bool.false_and] at hq
        rw [Bool.not_false, if_pos rfl]
        exact wpAny_pure (wpAny_pure hq)
      | true =>
        rw [hm, Bool.true_and] at hq
        rw [Bool.not_true, if_neg Bool.false_ne_true]
        refine wpAny_bind (wpAny_dictEpoch ga dda ?_)
        rw [if_neg (by simp)]
        exact wpAny_pure ⟨rfl, rfl, x + 1, rfl, lt, hq⟩
    · rintro q s' ⟨rfl, rfl, i, hr, hi, hq⟩
      have e : i = ea.size := by
        rcases Nat.lt_or_ge i ea.size with hlt | hge
        · rw [show ea.size - i = (ea.size - (i + 1)) + 1 by omega, List.range'_succ] at hr
          cases hr
        · exact Nat.le_antisymm hi hge
      subst e
      rw [na, List.drop_length] at hq
      exact wpAny_pure hq
  · rw [if_pos (by simpa using hs)]
    rw [decide_eq_false (show ¬ xa.length = xb.length by omega), Bool.false_and] at h
    exact wpAny_bind (wpAny_rule (wpAny_pure h))
theorem eq_true {a b : Addr} {xa xb : List (K × Addr × Value)} {Q : Value → Shared → Prop} (ha : (a == sysModules) = false) (hb : (b == sysModules) = false) (da : s.heap.DictOfH knd a xa) (db : s.heap.DictOfH knd b xb) (hr : knd.room A.in1) (hu : A.units < cLine)
    (va : ∀ x ∈ xa, x.2.2 = .bool true) (vb : ∀ x ∈ xb, x.2.2 = .bool true) (h : Q (.bool (decide (xa.length = xb.length) && xa.all fun x : K × Addr × Value => decide (x.1 ∈ xb.map Prod.fst))) s) : wpAny (model prog w) A (compareOp .Eq (.ref a) (.ref b)) Q E s := by
  have ta : s.TypeIs (.ref a) "dict" := let ⟨o, _, _, h1, h2, _⟩ := da; ⟨o, h1, h2.1⟩
  have tb : s.TypeIs (.ref b) "dict" := let ⟨o, _, _, h1, h2, _⟩ := db; ⟨o, h1, h2.1⟩
  refine wpAny_richCompare_same_room (op := .Eq) ta tb PySem.F.slot_dict_eq (wpAny_call_entry PySem.F.slot_dict_eq ta PySem.F.entry_dict_eq (show wpAny _ _ (Builtin.Dict.dictSlotArgs "__eq__" ⟨[.ref a, .ref b], []⟩ >>= _) _ _ s from wpAny_bind ?_) (PySem.F.args_dict_eq_2 _ _)) hu
  unfold Builtin.Dict.dictSlotArgs
  refine wpAny_bind (wpAny_notOrdered_dict ta (show wpAny _ _ (pure (Value.ref a, Value.ref b)) _ _ s from wpAny_pure (wpAny_bind (wpAny_isInstance (T := "dict") tb PySem.F.sub_dict_dict ?_))))
  simp only [Bool.not_true, Bool.false_eq_true, if_false]
  refine wpAny_bind (wpAny_pure (wpAny_bind (wpAny_pure (wpAny_bind (same_true ha hb da db hr va vb (wpAny_pure ⟨_, rfl, (fun x => nomatch x), ?_⟩))))))
  simpa using h
end
end Uw
end
section
set_option Elab.async false
set_option linter.all false
set_option maxRecDepth 100000
/-! several clauses, each with a name -/
namespace Uw
open PySem PySem.Spec PyProof.Rows L2
abbrev ClAs : Type := Value × Nat × (Addr → Value → Option Addr → TS)
/-- the clauses one after the other: each by its own slot -/
def wAses (K : PySem.W.Frag) (Wout : WX) (D : Ends) : List ClAs → WX
  | [] => Wout
  | (c, i, ts) :: r => wAs K c i ts (wAses K Wout D r) D
inductive Clauses (X : Cx) : List ExceptHandler → List ClAs → Prop
  | nil : Clauses X [] []
  | cons {x n : Str} {c : Value} {i : Nat} {ts : Addr → Value → Option Addr → TS} {st : Stmt} {more : List Stmt} {p1 p2 : Pos} {hs : List ExceptHandler} {l : List ClAs} (hi : X.N[i]? = some n) (hl : X.env.kindOf n = some .local) (hc : Names X x c)
      (su : ∀ (a : Addr) (ob : Obj) (cls : Value) (d : Option Addr) (pn : List (Addr × Obj)), Zc cls d ob → (∃ vs, ob.data = .fields vs) → PSs (X.suite a ((a, ob) :: pn)) (st :: more) (ts a cls d)) (r : Clauses X hs l) :
      Clauses X (.ExceptHandler (some (.Name x p1)) (some n) (st :: more) p2 :: hs) ((c, i, ts) :: l)
section
variable {X : Cx} {body : List Stmt} {h₀ : ExceptHandler} {hds : List ExceptHandler} {l : List ClAs} {pos : Pos} {tb : WX → TS} {Wout : WX}
theorem ps_try_ases (hs : X.stack = X.env :: X.outer) (hf : X.env.frame = some X.env.locals) (hN : X.N.Nodup) (tk : Takes X Wout)
    (hb : ∀ (W : WX) (pn : List (Addr × Obj)) (xe : Value → Shared → Prop), Takes (X.tr pn xe) W → PassesOwn (model X.prog X.w) X.A X.env xe → PSs (X.tr pn xe) body (tb W))
    (hh : Clauses X (h₀ :: hds) l) : PS X (.Try body (h₀ :: hds) [] [] pos) (fun D σ H => tb (wAses X.K Wout D l) D σ H) := by
  constructor
  intro pins s σ H D I0 h
  have ok0 := I0.ok
  have fr0 : X.A.frames = some (X.env :: X.outer) := ok0.frames.trans (congrArg some hs)
  apply wpAny_Try_except
  have run0 := (hb (wAses X.K Wout D l) (X.pn ++ pins) (fun e s₁ => wpAny (model X.prog X.w) X.A (noteFrame e X.env) (fun _ s₂ => wpAny (model X.prog X.w) X.A (setFlight e none) (fun _ s₃ =>
    wpAny (model X.prog X.w) X.A (handleBy e X.env (h₀ :: hds)) (SP X pins D) X.xe s₃) X.xe s₂) X.xe s₁) (fun u s' caught => by
    obtain ⟨a, B, sB, pinsB, σB, HB, cls, d, rfl, IB, nb, up, sky, na, os, ag, wish⟩ := caught
    have JB : Inv X pins σB HB sB := IB.ofTry ok0
    have skyB : Sky B (X.env :: X.outer) a (Zc cls d) X.env.locals s'.heap := hs ▸ sky
    show wpAny (model X.prog X.w) X.A (noteFrame (.ref a) X.env) _ _ _
    refine Sky.land Zc.steady fr0 hf skyB fun hL flL upL => ?_
    have JL : Inv X pins σB HB { s' with heap := hL } := JB.landed nb flL.1 (up.trans upL) os ag
    obtain ⟨obL, vsL, atL, zL, dL⟩ := flL.there
    have noFrame : a ∉ frs (X.env :: X.outer) := fun hm => by
      obtain ⟨_, o2, e2, bad⟩ := flL.2.2.1.mem hm
      rw [atL] at e2
      cases e2
      exact bad _ dL
    have noL : a ≠ X.env.locals := fun z => noFrame (List.mem_filterMap.mpr ⟨X.env, List.mem_cons_self, hf.trans (congrArg some z.symm)⟩)
    have noF : a ∉ X.fs := fun hm => by
      obtain ⟨en, hen, q⟩ := List.mem_filterMap.mp hm
      exact noFrame (List.mem_filterMap.mpr ⟨en, List.mem_cons_of_mem _ hen, q⟩)
    have SL := JL.suite atL dL na noL noF
    -- the clauses, one by one
    have each : ∀ {hs2 : List ExceptHandler} {l2 : List ClAs}, Clauses X hs2 l2 → wAses X.K Wout D l2 cls d σB HB →
        wpAny (model X.prog X.w) X.A (handleBy (.ref a) X.env hs2) (SP X pins D) X.xe { s' with heap := hL } := by
      intro hs2 l2 hk
      induction hk with
      | nil =>
        intro wl
        refine wpAny_handleBy_nil ?_
        obtain ⟨_, _, _, ob, vs, T, oT, tsT, e1, z1, d1, f1, _⟩ := id flL
        unfold PySem.passOn
        refine wpAny_bind (wpAny_field e1 d1 f1 ?_)
        rw [if_neg (by simp : ¬ ((Value.ref T == Value.none) = true))]
        have out : wpAny (model X.prog X.w) X.A (setFlight (.ref a) X.env.frame) (fun _ s4 => wpAny (model X.prog X.w) X.A (throw (.ref a) : Sem Flow) (SP X pins D) X.xe s4) X.xe { s' with heap := hL } := by
          rw [hf]
          exact HandSPX.setFlight_upZ flL fun h4 sky4 up4 => wpAny_throw (tk _ _ ⟨a, B, sB, pins, σB, HB, cls, d, rfl, JB, nb, (up.trans upL).trans up4, .inr (.inr (hs ▸ sky4)), na, os, ag, wl⟩)
        first
          | exact wpAny_bind (wpAny_pure (wpAny_bind out))
          | exact wpAny_bind out
      | @cons x n c i ts st more p1 p2 hs3 l3 hi hl hc su r ih =>
        intro wl
        obtain ⟨b, hb1, yes, no⟩ := wl
        refine wpAny_handleBy_cons (codeAny_handlers_test ?_) (by intro q; cases q)
        have looks : PySem.W.Looks (model X.prog X.w) hL (typeOf (.ref a)) cls := fun A Q E s k q => wpAny_typeOf_ref (k _ _ atL) (by rw [zL.1]; exact q)
        have tells := PySem.W.exm_one (M := model X.prog X.w) JL.kIn looks hb1
        have named : ∀ {Q E : Value → Shared → Prop}, Q c { s' with heap := hL } → wpAny (model X.prog X.w) (X.A.mark (some (.ref a))) (eval (.Name x p1) X.env) Q E { s' with heap := hL } := fun {Q E} q => by
          obtain ⟨hg, hdbg, hm | ⟨hm, hv, hnn⟩⟩ := hc
          · exact ld_glob (X := X.suite a ((a, obL) :: (X.pn ++ pins))) SL hg hm q hdbg
          · exact ld_blt (X := X.suite a ((a, obL) :: (X.pn ++ pins))) SL hg hm hv q hnn hdbg
        refine named (tells.here ?_)
        cases b with
        | false =>
          show wpAny _ X.A (handleBy (.ref a) X.env hs3) _ _ _
          exact ih (no rfl)
        | true =>
          refine codeAny_handlers_suite_as ?_
          refine HandSPX.lands_againZ flL fun hM flM upM => ?_
          have JM : Inv X pins σB HB { s' with heap := hM } := JB.landed nb flM.1 ((up.trans upL).trans upM) os ag
          obtain ⟨obM, vsM, atM, zM, dM⟩ := flM.there
          have SM := JM.suite atM dM na noL noF
          refine store_ok (X := X.suite a ((a, obM) :: (X.pn ++ pins))) (v := .ref a) SM hN hi (.inl hl) rfl (fun s5 S5 => ?_) (.inr hl)
          have behind : ∀ {s6 : Shared} {σ6 : L2.St} {H6 : Hp} {Q : Shared → Prop}, Inv (X.suite a ((a, obM) :: (X.pn ++ pins))) [] σ6 H6 s6 → (∀ s7, Inv X pins (σ6.set i none) H6 s7 → Q s7) →
              wpAny (model X.prog X.w) X.A (do bindName X.env n .none; unbindBehindTheSuite X.env n p2) (fun _ s7 => Q s7) X.xe s6 := fun S6 hq => gone_ok (S6.unsuite ok0) hN hi hl hq
          refine wpAny_mono ((su a obM cls d (X.pn ++ pins) zM ⟨_, dM⟩).run [] s5 _ HB _ S5 (yes rfl a na)) (fun f s6 got => ?_) (fun _ _ z => z.elim)
          cases f with
          | ret u =>
            obtain ⟨v6, σ6, H6, S6, r6, q6⟩ := got
            exact behind S6 fun s7 J7 => ⟨v6, _, H6, J7, r6, q6⟩
          | next =>
            obtain ⟨σ6, H6, S6, q6⟩ := got
            exact behind S6 fun s7 J7 => ⟨_, H6, J7, q6⟩
          | brk =>
            obtain ⟨σ6, H6, S6, q6⟩ := got
            exact behind S6 fun s7 J7 => ⟨_, H6, J7, q6⟩
          | cont =>
            obtain ⟨σ6, H6, S6, q6⟩ := got
            exact behind S6 fun s7 J7 => ⟨_, H6, J7, q6⟩
    exact each hh wish) PassesOwn.looking).run [] s σ H D (I0.toTry _) h
  refine wpAny_mono run0 (fun f s1 got => ?_) (fun e s1 he => he)
  cases f with
  | ret u =>
    obtain ⟨v, σ1, H1, J1, r1, q1⟩ := got
    exact ⟨v, σ1, H1, J1.ofTry ok0, r1, q1⟩
  | next =>
    obtain ⟨σ1, H1, J1, q1⟩ := got
    exact wpAny_execs_nil ⟨σ1, H1, J1.ofTry ok0, q1⟩
  | brk =>
    obtain ⟨σ1, H1, J1, q1⟩ := got
    exact ⟨σ1, H1, J1.ofTry ok0, q1⟩
  | cont =>
    obtain ⟨σ1, H1, J1, q1⟩ := got
    exact ⟨σ1, H1, J1.ofTry ok0, q1⟩
end
end Uw
end
section
set_option Elab.async false
set_option linter.all false
set_option maxRecDepth 100000
set_option maxHeartbeats 2000000
/-! defs that are called where no repr is under way; the law's call, with tables of lambdas -/
namespace Uw
open PySem PySem.Spec PyProof.Rows L2
/-- the same promise, asked only where no repr is under way -/
structure FnG (P : Program) (w : World) (K : PySem.W.Frag) (mg : Str → Option Value) (base : Heap) (CX : CXT) (k : Nat) (f : Addr) (fd : FuncData) (ps : List Str) (sp : Sp) : Prop where
  len : ∀ vs H Q E, sp vs H Q E → vs.length = ps.length
  run : ∀ (A : Around) (outer : List Env) (s : Shared) (H : Hp) (args : Args) (us : List Value) (vs : List V) (Q : VK) (E : XK), A.guards = some [] → Room k A → Env0 P w K mg base A outer s H → BindsTo s fd args (ps.zip us) → Vals vs us → sp vs H Q E →
    codeAny (model P w) A (.call (.ref f) args) (CR CX outer P w H s Q E) s
theorem guards_deeper {A : Around} {env : Env} (h : A.guards = some []) : (A.deeper env).guards = some [] := h
section
variable {P : Program} {w : World} {K : PySem.W.Frag} {mg : Str → Option Value} {base : Heap}
theorem FnG.of {CX : CXT} {k : Nat} {f : Addr} {fd : FuncData} {ps : List Str} {sp : Sp} (F : FnOk P w K mg base CX k f fd ps sp) : FnG P w K mg base CX k f fd ps sp :=
  ⟨F.len, fun A outer s H args us vs Q E _ => F.run A outer s H args us vs Q E⟩
/-- by its body, as Fun.ok -/
theorem Fun.okG {x qual : Str} {st : Stmt} {f : Addr} {fd : FuncData} {N ps : List Str} {k : Nat} {sp : Sp} (F : Fun K x qual st f fd) (Sc : FnScope N ps (defScope st)) (len : ∀ vs H Q E, sp vs H Q E → vs.length = ps.length)
    (body : ∀ (cdv : Value) (A : Around) (outer : List Env) (s : Shared) (H : Hp) (vs : List V) (Q : VK) (E : XK), A.guards = some [] → PySem.W.codeIn K cdv qual = true → (∃ oc od kV doc pm an ct osl, K.lookup f = some ⟨oc, od, .func (PySem.W.fnOf x qual (defArgs st) (defBody st) (defScope st) .none kV doc pm an cdv ct), osl⟩) → Room k (A.deeper (envOfC qual (defScope st) s.heap.objs.size f cdv)) → sp vs H Q E →
      ∃ t, PSs (cxOf CX0 P w K mg base N qual (defScope st) f cdv A outer s H E).nox (defBody st) t ∧ t { nx := fun _ H' => Q .non H', rt := Q } (start N vs) H) : FnG P w K mg base CX0 (k + 1) f fd ps sp := by
  obtain ⟨oc, od, kV, doc, pm, an, cdv, ct, osl, rfl, lk, hcd⟩ := F.ex
  refine ⟨len, fun A outer s H args us vs Q E hg hr e0 hb rv hsp => ?_⟩
  refine LamX.run_ofS lk hcd Sc hr e0 hb rv (len _ _ _ _ hsp) fun hr2 => ?_
  obtain ⟨t, h1, h2⟩ := body cdv A outer s H vs Q E hg hcd ⟨oc, od, kV, doc, pm, an, ct, osl, lk⟩ hr2 hsp
  exact ⟨t, PSs.nox h1, h2⟩
section
variable {X : Cx} {CX : CXT} {x : Str} {f : Addr} {fd : FuncData} {ps : List Str} {sp : Sp} {E : XK} {k : Nat} {dvs : List V} {ds : List Value} {e : Expr} {es : List Expr} {t : TA} {p pos : Pos}
/-- such a def called by its name -/
theorem pe_callG (hgd : X.A.guards = some []) (F : FnG X.prog X.w X.K X.mg X.base CX k f fd ps sp) (hr : Room k X.A) (hg : Gl X x) (hm : X.mg x = some (.ref f)) (hk : PySem.W.keepIn X.K (.ref f) = true) (hb : Binds X.K fd ps ds) (hd : Vals dvs ds) (hx : Passes CX X E)
    (ha : PA X (e :: es) t) (hdb : (x == ("__debug__" : Str)) = false := by decide) (he : starEach (e :: es) X.env = (false, eval e X.env) :: starEach es X.env := by rfl) (hpl : (backTo pos (starEach es X.env)).any (·.1) = false := by rfl) :
    PE X (.Call (.Name x p) (e :: es) [] pos) (tCall sp dvs E t) := by
  constructor
  intro pins s σ H Q I0 h
  apply wpAny_Call_Name_kw
  apply ld_glob I0 hg hm _ hdb
  refine PySem.W.callWith_K (h₀ := X.base) I0.ok.mod.kin hk (thn (ha.run pos pins s σ H _ I0 h) fun us s1 got => ?_) he hpl
  obtain ⟨vs, H1, I1, rv, q⟩ := got
  refine ⟨I1.kIn, ?_⟩
  have rr : Vals (vs ++ dvs) (us ++ ds) := rv.append hd
  have ll : (us ++ ds).length = ps.length := rr.length.symm.trans (F.len _ _ _ _ q)
  apply wpAny_call
  apply codeAny_mono (F.run X.A X.stack s1 H1 ⟨us, []⟩ (us ++ ds) (vs ++ dvs) Q E hgd hr I1.env0 (hb s1 us I1.kIn ll) rr q)
  intro r s' got
  match r, got with
  | .error er, got => exact hx pins σ H1 s1 er s' I1 got
  | .ok (.ret u), got => exact I1.after got
end
/-- the law's call: run tells of any heap that has the script and the empty tables -/
theorem law_callG {mb : Str → Option Value} {CX : CXT} {fa a : Addr} {cs : List (Addr × Addr)} {s₁ : Shared} {vs : List Value} {ns : List Int}
    (KX : K.In s₁.heap) (hns : s₁.heap.Ns mainGlobals mg) (hb : s₁.heap.Ns builtinsNs mb) (hbb : ∀ x : Str, x ≠ "__name__" → mb x = bootBuiltins x) (hlim : s₁.heap.NoLimit) (hgen : s₁.gens = #[])
    (hT : ∀ p ∈ cs, s₁.heap.get? p.2 = some { cls := .none, data := .fields #[] }) (nT : ∀ p ∈ cs, K.lookup p.2 = none) (C : ∀ p ∈ cs, PySem.W.CodeHd s₁.heap p.1 p.2)
    (hbm : ∃ (bm : Addr) (ob : Obj), mg "__builtins__" = some (.ref bm) ∧ bm ≠ builtinsNs ∧ s₁.heap.get? bm = some ob ∧ ob.cls = .type "module" ∧ ob.dict = some builtinsNs ∧ ob.data = .plain)
    (ha : s₁.heap.get? a = some { cls := .type "list", data := .seq vs.toArray }) (hi : IntsAre vs ns) (hl : ns.length ≤ sizeLine)
    (run : ∀ (base : Heap) (H : Hp), K.In base → base.Ns mainGlobals mg → (∀ p ∈ cs, LamX.TabB base mg p.1 p.2) → (∀ p ∈ cs, H p.2 = some (.tbl #[])) → SqL K H a (ns.map V.int) → Env0 P w K mg base callerA [] s₁ H →
      codeAny (model P w) callerA (.call (.ref fa) ⟨[.ref a], []⟩) (CR CX [] P w H s₁ (fun v _ => v = .bl true) fun _ _ _ => False) s₁)
    (hCX : ∀ H e s', CX [] H s₁ (fun _ _ _ => False) e s' → False) :
    codeAny (model P w) callerA (.call (.ref fa) ⟨[.ref a], []⟩) (fun r s' => r = .ok (.ret (.bool true)) ∧ OldK s₁.heap s'.heap ∧ s'.os = s₁.os ∧ AllBare s'.gens) s₁ := by
  have rvs := vals_ints hi
  have many := hi.length
  let Ts : List Addr := cs.map (·.2)
  let ls : Obj := { cls := .type "list", data := .seq vs.toArray }
  have tabAt : ∀ {b : Addr}, b ∈ Ts → s₁.heap.get? b = some { cls := .none, data := .fields #[] } := fun {b} hb => by
    obtain ⟨p, hp, rfl⟩ := List.mem_map.mp hb
    exact hT p hp
  have inTs : ∀ {p : Addr × Addr}, p ∈ cs → p.2 ∈ Ts := fun {p} hp => List.mem_map.mpr ⟨p, hp, rfl⟩
  have aT : a ∉ Ts := fun z => by
    have q := (tabAt z).symm.trans ha
    have q2 : Data.fields #[] = Data.seq vs.toArray _ := congrArg Obj.data (Option.some.inj q)
    cases q2
  let H : Hp := fun b => if b ∈ Ts then some (.tbl #[]) else if b = a ∧ K.lookup a = none then some (.frz ls (.lst (ns.map V.int))) else none
  have H_t : ∀ {b : Addr}, b ∈ Ts → H b = some (.tbl #[]) := fun hb => if_pos hb
  have H_is : ∀ {b : Addr} {u : HO}, H b = some u → (b ∈ Ts ∧ u = .tbl #[]) ∨ (b = a ∧ K.lookup a = none ∧ u = .frz ls (.lst (ns.map V.int))) := fun {b u} z => by
    by_cases h1 : b ∈ Ts
    · exact .inl ⟨h1, (Option.some.inj ((if_pos h1).symm.trans z)).symm⟩
    · have z2 := (if_neg h1).symm.trans z
      by_cases h2 : b = a ∧ K.lookup a = none
      · exact .inr ⟨h2.1, h2.2, (Option.some.inj ((if_pos h2).symm.trans z2)).symm⟩
      · cases (if_neg h2).symm.trans z2
  -- what is neither a list nor a table is free
  have H_no : ∀ {b : Addr} {o : Obj}, s₁.heap.get? b = some o → (∀ xs n, o.data ≠ .seq xs n) → o.data ≠ .fields #[] → H b = none := fun {b o} e n1 n2 => by
    cases q : H b with
    | none => rfl
    | some u =>
      rcases H_is q with ⟨hb, _⟩ | ⟨rfl, _⟩
      · cases e.symm.trans (tabAt hb)
        exact absurd rfl n2
      · cases e.symm.trans ha
        exact absurd rfl (n1 _ _)
  have toBase : ∀ {b : Addr} {o : Obj}, s₁.heap.get? b = some o → H b = none → (hidT s₁.heap H).get? b = some o := fun e n => hidT_get e n
  have dictNo : ∀ {b : Addr} {o : Obj} {es : Array DictEntry} {n : Nat}, s₁.heap.get? b = some o → o.data = .dict es n → H b = none := fun e d => H_no e (fun xs m z => by cases d.symm.trans z) fun z => by cases d.symm.trans z
  have nsBase : ∀ {b : Addr} {m : Str → Option Value}, s₁.heap.Ns b m → (hidT s₁.heap H).Ns b m := fun ⟨o, es, n, e, d, q⟩ => ⟨o, es, n, toBase e (dictNo e d), d, q⟩
  have KB : K.In (hidT s₁.heap H) := fun b o e => toBase (KX b o e) (by
    cases q : H b with
    | none => rfl
    | some u =>
      rcases H_is q with ⟨hb, _⟩ | ⟨rfl, hn, _⟩
      · obtain ⟨p, hp, rfl⟩ := List.mem_map.mp hb
        cases (nT p hp).symm.trans e
      · cases hn.symm.trans e)
  have SQ : SqL K H a (ns.map V.int) := by
    cases hk : K.lookup a with
    | none => exact .inl (.inr ⟨ls, (if_neg aT).trans (if_pos ⟨rfl, hk⟩)⟩)
    | some o =>
      cases (KX a o hk).symm.trans ha
      exact .inr ⟨_, vs.toArray, _, hk, rfl, rfl, rfl, by rw [List.size_toArray, many]; exact hl, by simpa using rvs⟩
  have HOK : HOk P w H s₁.heap := fun b u z => by
    rcases H_is z with ⟨hb, rfl⟩ | ⟨rfl, _, rfl⟩
    · exact tabAt hb
    · exact ⟨ha, by rw [List.length_map]; exact hl, vs, _, rvs, ha⟩
  have MOD : L2.Mod K mg (hidT s₁.heap H) := ⟨KB, nsBase hns, ⟨mb, nsBase hb, hbb⟩, hlim.elim fun mc hmc => ⟨mc, nsBase hmc.1, hmc.2⟩⟩
  have TABS : ∀ p ∈ cs, LamX.TabB (hidT s₁.heap H) mg p.1 p.2 := fun p hp => by
    constructor
    · obtain ⟨o, us, f1, f2, f3, f4, f5, f6, f7, e1, r1, r2, r3, rest⟩ := C p hp
      exact ⟨o, us, f1, f2, f3, f4, f5, f6, f7, toBase e1 (H_no e1 (fun xs n z => by cases r2.symm.trans z) fun z => by
        cases r2.symm.trans z
        simp at r3), r1, r2, r3, rest⟩
    · obtain ⟨bm, ob, b1, b2, b3, b4, b5, b6⟩ := hbm
      refine ⟨bm, ob, b1, b2, fun q => ?_, fun q => ?_, toBase b3 (H_no b3 (fun xs n z => by cases b6.symm.trans z) fun z => by cases b6.symm.trans z), b4, b5, b6⟩
      · obtain ⟨o, es, n, e, d, _⟩ := hns
        rw [q] at b3
        cases b3.symm.trans e
        cases b6.symm.trans d
      · rw [q] at b3
        cases b3.symm.trans (hT p hp)
        cases b6
    · intro z
      obtain ⟨o, es, n, e, d, _⟩ := hns
      have e2 := hT p hp
      rw [← z] at e2
      cases e.symm.trans e2
      cases d
  have ENV : Env0 P w K mg (hidT s₁.heap H) callerA [] s₁ H := ⟨rfl, MOD, fun b o e => of_hidT e, Nat.le_of_eq (hidT_size _ _), trivial, (fun b hb => nomatch (show b ∈ ([] : List Addr) from hb)), HOK, .of_eq hgen⟩
  refine codeAny_mono (run _ H KB (nsBase hns) TABS (fun p hp => H_t (inTs hp)) SQ ENV) fun r s' got => ?_
  match r, got with
  | .error er, got => exact (hCX H er s' got).elim
  | .ok (.ret u), ⟨v, H', os, bare, un, hok', rv, q⟩ =>
    have q : v = .bl true := q
    subst q
    obtain rfl : u = Value.bool true := rv
    have more : ∀ {b : Addr}, b ∈ Ts → ∃ xs : Array Value, s'.heap.get? b = some { cls := .none, data := .fields xs } := fun {b} hb => by
      obtain ⟨xs, z⟩ := un.tbls b #[] (H_t hb)
      exact ⟨_, hok' b _ z⟩
    have stays : ∀ {b : Addr} {o : Obj}, b ∉ Ts → s₁.heap.get? b = some o → s'.heap.get? b = some o := fun {b o} nb e => by
      cases q : H b with
      | none => exact un.keep b o e q (fun z => nomatch (show b ∈ ([] : List Addr) from z)) (by simp)
      | some u =>
        rcases H_is q with ⟨hb, _⟩ | ⟨rfl, _, rfl⟩
        · exact absurd hb nb
        · have e2 := (hok' _ _ (un.frzs _ _ _ q)).1
          exact e2.trans (ha.symm.trans e)
    refine ⟨rfl, ⟨fun b o e => ?_, fun b o e => ?_⟩, os, bare⟩
    · by_cases hb : b ∈ Ts
      · obtain ⟨xs, hx⟩ := more hb
        obtain ⟨p, hp, rfl⟩ := List.mem_map.mp hb
        cases e.symm.trans (hT p hp)
        exact .inr (.inl ⟨((C p hp).tab (hT p hp)).isCodeTable, rfl, #[], xs, rfl, by rw [Array.empty_append]; exact hx⟩)
      · exact .inl (stays hb e)
    · by_cases hb : b ∈ Ts
      · obtain ⟨xs, hx⟩ := more hb
        exact ⟨_, hx⟩
      · exact ⟨o, stays hb e⟩
end
end Uw
end
section
set_option Elab.async false
set_option linter.all false
set_option maxRecDepth 100000
set_option maxHeartbeats 2000000
/-! a lambda handed to a def that catches, with names, what it raises: what is raised is wished for at the catcher's own slots -/
namespace Uw
open PySem PySem.Spec PyProof.Rows L2
section
variable {X : Cx} {pins : List (Addr × Obj)} {σ : L2.St} {H : Hp} {s : Shared}
abbrev lamQ (X : Cx) : Str := X.env.qual ++ "<lambda>"
/-- the catcher's context -/
abbrev catcher (X : Cx) (Ng : List Str) (x : Str) (sg : Scope) (g : Addr) (cdg : Value) (s : Shared) (H : Hp) : Cx := cxOf CX0 X.prog X.w X.K X.mg X.base Ng x sg g cdg X.A X.stack s H E0
theorem lam_asked {Ng : List Str} {qg : Str} {sg : Scope} {g f c' : Addr} {cdg pm ctv : Value} {params : Arguments} {body : Expr} {scope : Scope} {k i : Nat} {a : Str} {pn : List (Addr × Obj)} {xe : Value → Shared → Prop} {W : WX} {tb : XK → TE} {p1 p2 : Pos}
    (I : Inv X pins σ H s) (L : LamX.LamS X.env.scope scope) (hf : s.heap.get? f = some (PySem.W.kla_obj "<lambda>" (lamQ X) params body scope (cloFrom X.env.cells scope.names []) pm c' ctv)) (hfn : H f = none) (hfr : f ∉ frs X.stack)
    (none_bound : bindArgs (PySem.W.kla_fn "<lambda>" (lamQ X) params body scope (cloFrom X.env.cells scope.names []) pm (.ref c') ctv) ⟨[], []⟩ = pure [])
    (tk : Takes ((catcher X Ng qg sg g cdg s H).tr pn xe) W) (hr : Room (k + 1) (X.A.deeper (envOfC qg sg s.heap.objs.size g cdg)))
    (inner : ∀ (A : Around) (outer : List Env) (s : Shared) (H : Hp) (E : XK), Room k (A.deeper (LamX.lamEnv X scope s.heap.objs.size f c')) → PE (LamX.lamCx X A outer s H E scope f c') body (tb E))
    (hN : Ng[i]? = some a) (hv : Vis sg a) (hd : (a == ("__debug__" : Str)) = false := by decide) (hcd : (a == ("__classdict__" : Str)) = false := by decide) :
    PE ((catcher X Ng qg sg g cdg s H).tr pn xe) (.Call (.Name a p1) [] [] p2)
      (fun σZ HZ Q => σZ[i]? = some (some (.ref f)) ∧ HZ c' = some (LamX.CodeO c' (lamQ X)) ∧ tb (fun cls d H' => W cls d σZ H') σ HZ Q) := by
  constructor
  intro pz sz σz Hz Q Iz ⟨at_i, code_at, ht⟩
  apply wpAny_Call_Name_kw
  refine thn ((pe_var (pos := p1) (i := i) hN hv hd hcd).run pz sz σz Hz (fun v H1 => v = .ref f ∧ H1 = Hz) Iz ⟨.ref f, at_i, rfl, rfl⟩) fun u s1 got => ?_
  obtain ⟨v1, H1, I1, ru, ev, eH⟩ := got
  subst ev
  rw [eH] at I1
  obtain rfl : u = Value.ref f := ru
  have since : Un (frs X.stack) [] H Hz s.heap s1.heap := I1.base
  have f_at := since.keep f _ hf hfn hfr fun z => nomatch (show f ∈ ([] : List Addr) from z)
  refine PySem.W.callWith_F0 ⟨_, _, _, _, f_at⟩ ?_
  obtain ⟨⟨oc, vs, t, o_at, o_d, o_q⟩, _, _⟩ := I1.hok c' _ code_at
  let Ez : XK := fun cls d H' => W cls d σz H'
  have called : codeAny (model X.prog X.w) (X.A.deeper (envOfC qg sg s.heap.objs.size g cdg)) (.call (.ref f) ⟨[], []⟩) (CR (L2.CX X.prog X.w) (envOfC qg sg s.heap.objs.size g cdg :: X.stack) X.prog X.w Hz s1 Q Ez) s1 := by
    refine PySem.W.kla_callFunE hr.depth f_at rfl L.co L.gen rfl ⟨c', oc, vs, t, rfl, o_at, o_d, o_q⟩ ?_
    rw [none_bound]
    apply wpAny_pure
    refine wpAny_newFunctionEnv (fun y hy => (L.own y hy).2) (fun y hy => absurd hy (by simp)) (fun h₁ hns hsb => ⟨I1.nolimit.fresh _ hsb, ?_⟩) L.kind
    show codeAny _ _ (.expr body (LamX.lamEnv X scope s1.heap.objs.size f c')) _ _
    have old : ∀ b o, s1.heap.get? b = some o → h₁.get? b = some o := fun b o e => hsb.extBut b o (Nat.ne_of_lt (Heap.lt_size e)) (Heap.get?_push_of_some _ e)
    have J : Inv (LamX.lamCx X (X.A.deeper (envOfC qg sg s.heap.objs.size g cdg)) (envOfC qg sg s.heap.objs.size g cdg :: X.stack) s1 Hz Ez scope f c') [] σ Hz { s1 with heap := h₁, toks := s1.toks + ([] : List (Str × Value)).length } :=
      LamX.lam_start2 I L I1.env0 hr.hd since hns old
    apply PySem.W.kla_codeExpr
    refine wpAny_mono ((inner _ _ s1 Hz Ez (hr.deeper _)).run [] _ _ Hz Q J ht) (fun v s' got => ?_) fun e s' z => z
    obtain ⟨v2, H2, J2, rv, q⟩ := got
    exact ⟨v2, H2, J2.os, J2.bare, J2.base, J2.hok, rv, q⟩
  apply wpAny_call
  apply codeAny_mono called
  intro r s' got
  match r, got with
  | .error e, got => exact tk e s' (XE.of_call I1 (fun cls d H' h => h) got)
  | .ok (.ret u), got => exact I1.after got
/-- what the catcher makes of what it got -/
def GivesS (X : Cx) (Ng : List Str) (x : Str) (sg : Scope) (g : Addr) (cdg : Value) (bg : List Stmt) (a : Str) (TT : (XK → Hp → VK → Prop) → Hp → VK → Prop) : Prop :=
  ∀ (f c' : Addr) (s : Shared) (H : Hp) (Q : VK) (tl : XK → Hp → VK → Prop),
    (∀ (W : WX) (pn : List (Addr × Obj)) (xe : Value → Shared → Prop) (p1 p2 : Pos), Takes ((catcher X Ng x sg g cdg s H).tr pn xe) W →
      PE ((catcher X Ng x sg g cdg s H).tr pn xe) (.Call (.Name a p1) [] [] p2) (fun σZ HZ Q => σZ[0]? = some (some (.ref f)) ∧ HZ c' = some (LamX.CodeO c' (lamQ X)) ∧ tl (fun cls d H' => W cls d σZ H') HZ Q)) →
    H c' = some (LamX.CodeO c' (lamQ X)) → TT tl H Q →
    ∃ t, PSs (catcher X Ng x sg g cdg s H).nox bg t ∧ t { nx := fun _ H' => Q .non H', rt := Q } (L2.start Ng [.ref f]) H
/-- x(lambda: body), x a catcher -/
theorem pe_caught {T : List (Addr × Str)} {TT : (XK → Hp → VK → Prop) → Hp → VK → Prop} {x a : Str} {g c P : Addr} {k : Nat} {fd : FuncData} {st : Stmt} {Ng : List Str} {params : Arguments} {body : Expr} {scope : Scope} {t : XK → TE} {p lpos pos : Pos}
    (hg : Gl X x) (hm : X.mg x = some (.ref g)) (Fg : Fun X.K x x st g fd) (hb : L2.Binds X.K fd [a] []) (Sg : FnScope Ng [a] (defScope st)) (hNg : Ng[0]? = some a) (hva : Vis (defScope st) a)
    (hG : ∀ cdg : Value, GivesS X Ng x (defScope st) g cdg (defBody st) a TT)
    (TB : LamX.TabB X.base X.mg c P) (hcode : X.env.code = .ref c) (hmT : (P, lamQ X) ∈ T) (hu : ∀ p ∈ T, p.1 = P → p.2 = lamQ X) (hr : Room (k + 2) X.A) (L : LamX.LamS X.env.scope scope) (hdef : defaultsOf params X.env = ([], []))
    (none_bound : ∀ (q : Str) (cl : List (Str × Addr)) (pm cv ctv : Value), bindArgs (PySem.W.kla_fn "<lambda>" q params body scope cl pm cv ctv) ⟨[], []⟩ = pure [])
    (inner : ∀ (A : Around) (outer : List Env) (s : Shared) (H : Hp) (E : XK) (f c' : Addr), Room k (A.deeper (LamX.lamEnv X scope s.heap.objs.size f c')) → PE (LamX.lamCx X A outer s H E scope f c') body (t E))
    (hdb : (x == ("__debug__" : Str)) = false := by decide) (hd : (a == ("__debug__" : Str)) = false := by decide) (hcd : (a == ("__classdict__" : Str)) = false := by decide) :
    PE X (.Call (.Name x p) [.Lambda params body scope lpos] [] pos) (LamX.tLam T TT t) := by
  obtain ⟨oc, od, kV, doc, pm, an, cdv, ct, osl, rfl, lk, hcg⟩ := Fg.ex
  constructor
  intro pins s σ H Q I0 ⟨tabs, h⟩
  apply wpAny_Call_Name_kw
  apply ld_glob I0 hg hm _ hdb
  refine PySem.W.callWith_K (h₀ := X.base) I0.ok.mod.kin Fg.kp ?_ (by rfl) (by rfl)
  show wpAny _ _ (spliced ((false, eval (.Lambda params body scope lpos) X.env) :: backTo pos (starEach [] X.env))) _ _ s
  refine Calls.spliced_cons (LamX.lam_make2 I0 TB hcode hmT hu tabs hdef (L.has I0.ok) fun f c' pm' ctv H1 s' I1 ext1 tabs1 f_at f_new f_out c_at => ?_)
  refine Calls.spliced_nil ⟨I1.kIn, ?_⟩
  apply wpAny_call
  have ran : codeAny (model X.prog X.w) X.A (.call (.ref g) ⟨[.ref f], []⟩) (CR CX0 X.stack X.prog X.w H1 s' Q E0) s' := by
    refine LamX.run_ofS (N := Ng) (ps := [a]) (us := [.ref f]) (vs := [.ref f]) lk hcg Sg hr I1.env0 (hb s' [.ref f] I1.kIn rfl) (.cons rfl .nil) rfl fun hr1 => ?_
    obtain ⟨t1, ht1, hq1⟩ := hG cdv f c' s' H1 Q (fun E H' Q' => t E σ H' Q') (fun W pn xe p1 p2 tk => lam_asked (i := 0) I1 L f_at f_new f_out (none_bound _ _ _ _ _) tk hr1 (fun A outer s H E hr2 => inner A outer s H E f c' hr2) hNg hva hd hcd) c_at (h H1 ext1 tabs1)
    exact ⟨t1, ht1.nox, hq1⟩
  apply codeAny_mono ran
  intro r s2 got
  match r, got with
  | .error e, got => exact (show False from got).elim
  | .ok (.ret u), got => exact I1.after got
end
end Uw
end
section
set_option Elab.async false
set_option linter.all false
set_option maxRecDepth 100000
set_option maxHeartbeats 2000000
/-! t[:hi:-1] of a tuple -/
namespace HT
open PySem PySem.Spec PyProof.Rows
section
variable {prog : Program} {w : World} {A : Around} {E : Value → Shared → Prop} {s : Shared}
def backPick {α : Type} (xs : List α) (hi : Option Int) : List α :=
  (List.range (Builtin.Slice.slicePlaces (Builtin.Slice.sliceAdjust none hi (-1) xs.length).1 (Builtin.Slice.sliceAdjust none hi (-1) xs.length).2 (-1))).filterMap fun (k : Nat) => xs[((Builtin.Slice.sliceAdjust none hi (-1) xs.length).1 + (k : Int) * (-1)).toNat]?
theorem applied_back {sl : Addr} {vl vu vs : Value} {hi : Option Int} {n : Nat} {Q : Int × Int × Nat → Shared → Prop} (hs : s.heap.IsSliceOf sl vl vu vs) (pl : IsPart vl none) (pu : IsPart vu hi) (ps : IsPart vs (some (-1)))
    (h : Q ((Builtin.Slice.sliceAdjust none hi (-1) (n : Int)).1, -1, Builtin.Slice.slicePlaces (Builtin.Slice.sliceAdjust none hi (-1) (n : Int)).1 (Builtin.Slice.sliceAdjust none hi (-1) (n : Int)).2 (-1)) s) :
    wpAny (model prog w) A (Builtin.Slice.sliceApplied (.ref sl) (pure (n : Int))) Q E s := by
  obtain ⟨os, a1, a2, a3⟩ := id hs
  unfold Builtin.Slice.sliceApplied Builtin.Slice.sliceFields
  refine wpAny_bind (wpAny_bind (wpAny_field a1 a3 (x := vl) rfl (wpAny_bind (wpAny_field a1 a3 (x := vu) rfl (wpAny_bind (wpAny_field a1 a3 (x := vs) rfl (wpAny_pure ?_)))))))
  refine wpAny_bind (slicePart_ ps ?_)
  show wpAny _ _ (if ((-1 : Int) == 0) = true then _ else _) _ _ s
  rw [if_neg (by decide)]
  exact wpAny_bind (slicePart_ pl (wpAny_bind (slicePart_ pu (wpAny_bind (wpAny_pure (wpAny_pure h))))))
theorem getItem_back {t sl : Addr} {items : Array Value} {vl vu vs : Value} {hi : Option Int} {Q : Value → Shared → Prop} (ht : IsTup s.heap t items) (hs : s.heap.IsSliceOf sl vl vu vs) (pl : IsPart vl none) (pu : IsPart vu hi) (ps : IsPart vs (some (-1)))
    (h : Q (.ref s.heap.objs.size) { s with heap := s.heap.push { cls := .type "tuple", data := .seq (backPick items.toList hi).toArray } }) (few : (backPick items.toList hi).length ≤ sizeLine) : wpAny (model prog w) A (getItem (.ref t) (.ref sl)) Q E s := by
  have fits : sizeOk (.seq (backPick items.toList hi).toArray) := by
    show (backPick items.toList hi).toArray.size ≤ sizeLine
    rw [List.size_toArray]
    exact few
  obtain ⟨os, a1, a2, a3⟩ := id hs
  have isSl : s.TypeIs (.ref sl) "slice" := ⟨os, a1, a2⟩
  unfold getItem; (try with_reducible refine wpAny_holding ?_); (first | refine wpAny_bind (wpAny_pure ?_) | skip); refine wpAny_bind (wpAny_sequenceKey ht.typeIs (by decide) ?_)
  refine wpAny_bind (wpAny_callSpecial?_slot (name := Str.ofString "__getitem__") ht.typeIs PyProof.Rows.slot_tuple_getitem (wpAny_call_entry PyProof.Rows.slot_tuple_getitem ht.typeIs entry_tuple_getitem ?_ (args_tuple_getitem _ _)))
  show wpAny _ _ (Builtin.Tuple.tupleItemsOf (.ref t) >>= _) _ _ s; refine wpAny_bind (tupleItemsOf_ ht ?_)
  refine wpAny_bind (wpAny_typeOf isSl ?_)
  rw [if_pos (by decide)]
  refine wpAny_bind (applied_back hs pl pu ps ?_)
  have no : ¬ (((Builtin.Slice.sliceAdjust none hi (-1) (items.size : Int)).1 == 0 && (-1 : Int) == 1 && Builtin.Slice.slicePlaces (Builtin.Slice.sliceAdjust none hi (-1) (items.size : Int)).1 (Builtin.Slice.sliceAdjust none hi (-1) (items.size : Int)).2 (-1) == items.size) = true) := by
    intro z
    rw [Bool.and_eq_true, Bool.and_eq_true] at z
    exact absurd z.1.2 (by decide)
  have pick : ((List.range (Builtin.Slice.slicePlaces (Builtin.Slice.sliceAdjust none hi (-1) (items.size : Int)).1 (Builtin.Slice.sliceAdjust none hi (-1) (items.size : Int)).2 (-1))).filterMap fun (k : Nat) => items[((Builtin.Slice.sliceAdjust none hi (-1) (items.size : Int)).1 + (k : Int) * (-1)).toNat]?).toArray = (backPick items.toList hi).toArray := by
    unfold backPick
    simp
  show wpAny _ _ (if ((Builtin.Slice.sliceAdjust none hi (-1) (items.size : Int)).1 == 0 && (-1 : Int) == 1 && Builtin.Slice.slicePlaces (Builtin.Slice.sliceAdjust none hi (-1) (items.size : Int)).1 (Builtin.Slice.sliceAdjust none hi (-1) (items.size : Int)).2 (-1) == items.size) = true then _ else _) _ _ s
  rw [if_neg no, pick]
  have done := h
  first
    | (apply wpAny_bind (m := Builtin.Tuple.tupleExact _); exact wpAny_newObj_type (wpAny_pure ⟨_, rfl, wpAny_pure done⟩) fits)
    | (apply wpAny_bind (m := Builtin.Tuple.tupleExact _); exact wpAny_newObj_type (wpAny_bind (wpAny_pure (wpAny_pure ⟨_, rfl, wpAny_pure done⟩))) fits)
    | (apply wpAny_bind; apply wpAny_bind (m := Builtin.Tuple.tupleExact _); exact wpAny_newObj_type (wpAny_pure (wpAny_pure ⟨_, rfl, wpAny_pure done⟩)) fits)
    | (apply wpAny_bind; apply wpAny_bind (m := Builtin.Tuple.tupleExact _); exact wpAny_newObj_type (wpAny_pure ⟨_, rfl, wpAny_pure done⟩) fits)
end
end HT
namespace Uw
open PySem PySem.Spec PyProof.Rows L2
theorem filterMap_vals {f : Nat → Nat} {xs : List V} {us : List Value} (r : Vals xs us) : ∀ (ks : List Nat), Vals (ks.filterMap fun k => xs[f k]?) (ks.filterMap fun k => us[f k]?)
  | [] => .nil
  | k :: ks => by
    rw [List.filterMap_cons, List.filterMap_cons]
    have hl := r.length
    by_cases h : f k < xs.length
    · obtain ⟨u, hu, ru⟩ : ∃ u, us[f k]? = some u ∧ RelV xs[f k] u := by
        have gen : ∀ {xs : List V} {us : List Value} {i : Nat}, Vals xs us → (h : i < xs.length) → ∃ u, us[i]? = some u ∧ RelV xs[i] u := by
          intro xs us i r
          induction r generalizing i with
          | nil => intro h; simp at h
          | @cons x u xs us h1 h2 ih =>
            intro h
            cases i with
            | zero => exact ⟨u, rfl, h1⟩
            | succ i => exact ih (by simpa using h)
        exact gen r h
      rw [hu, List.getElem?_eq_getElem h]
      exact .cons ru (filterMap_vals r ks)
    · rw [List.getElem?_eq_none (by omega), List.getElem?_eq_none (by omega)]
      exact filterMap_vals r ks
theorem back_vals {xs : List V} {us : List Value} {hi : Option Int} (r : Vals xs us) : Vals (HT.backPick xs hi) (HT.backPick us hi) := by
  unfold HT.backPick
  rw [r.length]
  exact filterMap_vals (f := fun k => ((Builtin.Slice.sliceAdjust none hi (-1) (us.length : Int)).1 + (k : Int) * (-1)).toNat) r _
def tBackT (K : PySem.W.Frag) (te : TE) (th : TO) : TE := fun σ H Q => te σ H fun x H1 => th σ H1 fun hi H2 => ∃ a xs, x = .ref a ∧ SqT K H2 a xs ∧ (HT.backPick xs hi).length ≤ sizeLine ∧ ∀ p, H2 p = none → Q (.ref p) (upd H2 p (.tup (HT.backPick xs hi)))
section
variable {X : Cx}
theorem pe_backT {e eh : Expr} {te : TE} {th : TO} {k : Nat} {p1 p2 p3 pos : Pos} (he : PE X e te) (hh : PO X (some eh) th) : PE X (.Subscript e (.Slice none (some eh) (some (.UnaryOp .USub (.Constant (.int 1) k p1) p2)) p3) pos) (tBackT X.K te th) := by
  constructor
  intro pins s σ H Q I0 h
  apply Subscript_
  refine thn (he.run pins s σ H _ I0 h) fun v s1 ⟨x, H1, I1, r1, h1⟩ => ?_
  have minus : PO X (some (.UnaryOp .USub (.Constant (.int 1) k p1) p2)) (tPart (tUn (rU fun i => .int (-i)) (tC (.int 1)))) := po_some (pe_un un_neg pe_int)
  apply wpAny_Slice
  refine thn (po_none.run pins s1 σ H1 (fun o H2 => o = none ∧ H2 = H1) I1 ⟨rfl, rfl⟩) fun vl s2 ⟨l, H2, I2, pl, el, e2⟩ => ?_
  subst el e2
  refine thn (hh.run pins s2 σ H2 _ I2 h1) fun vu s3 ⟨hi, H3, I3, pu, h3⟩ => ?_
  refine thn (minus.run pins s3 σ H3 (fun o H4 => o = some (-1) ∧ H4 = H3) I3 ⟨1, rfl, -1, rfl, rfl, rfl⟩) fun vs s4 ⟨o, H4, I4, ps, eo, e4⟩ => ?_
  subst eo e4
  obtain ⟨a, xs, rfl, hx, few, q⟩ := h3
  obtain rfl : v = Value.ref a := r1
  have I5 : Inv X pins σ H4 { s4 with heap := s4.heap.push { cls := .type "slice", data := .fields #[vl, vu, vs] } } := I4.kept (t' := s4.toks) fun b ob z => Heap.get?_push_of_some _ z
  obtain ⟨its, r, ht, hz⟩ := I5.tuple hx
  have rb := back_vals (hi := hi) r
  show wpAny (model X.prog X.w) X.A (subscriptTail e (.Slice none (some eh) (some (.UnaryOp .USub (.Constant (.int 1) k p1) p2)) p3) (.ref a) (.ref s4.heap.objs.size)) (EP X pins σ Q) X.xe _
  refine tail_any (ops := [.ref a, .ref s4.heap.objs.size]) ht.typeIs PyProof.Rows.slot_tuple_getitem.lookup ?_ (by with_unfolding_all rfl)
  refine HT.getItem_back ht (Heap.IsSliceOf.new _ vl vu vs) pl pu ps ?_ (by rw [← rb.length]; exact few)
  refine ⟨.ref _, _, I5.laid (t' := s4.toks) (o := .tup (HT.backPick xs hi)) (fun b ob z => Heap.get?_push_of_some _ z) (Nat.le_refl _) ?_, rfl, q _ (I5.hok.fresh (Nat.le_refl _))⟩
  exact ⟨few, _, rb, IsTup.new _ _⟩
end
end Uw
end
section
set_option Elab.async false
set_option linter.all false
set_option maxRecDepth 100000
namespace Uw
open PySem PySem.Spec PyProof.Rows L2 RZ
/-! calls by names alone: f(k = v, ..) -/
def tCallK0 (m : Nat) (sp : Sp) (gV : List V → List V → List V) (E : XK) (tk : TA) : TE := fun σ H Q => tk σ H fun zs H2 => zs.length = m ∧ sp (gV [] zs) H2 Q E
section
variable {X : Cx} {CX : CXT} {k n : Nat} {f : Addr} {fd : FuncData} {ps ks : List Str} {sp : Sp} {E : XK} {x : Str} {p pos : Pos} {kws : List Keyword} {tk : TA} {g : List Value → List Value → List Value} {gV : List V → List V → List V}
theorem pe_callK0 (F : FnOk X.prog X.w X.K X.mg X.base CX k f fd ps sp) (hr : Room k X.A) (hg : Gl X x) (hm : X.mg x = some (.ref f)) (hk : PySem.W.keepIn X.K (.ref f) = true) (hb : KBn X.K fd ps 0 ks g gV) (hx : Passes CX X E)
    (hkw : PK X kws tk) (hall : (backToKw pos (keywordEach kws X.env)).all (·.1.isSome) = true := by rfl) (hks : (backToKw pos (keywordEach kws X.env)).filterMap (·.1) = ks := by rfl)
    (hdb : (x == ("__debug__" : Str)) = false := by decide)
    (hpl : ((backTo pos (starEach [] X.env)).any (·.1) || (backToKw pos (keywordEach kws X.env)).any (·.1.isNone)) = false := by rfl) :
    PE X (.Call (.Name x p) [] kws pos) (tCallK0 ks.length sp gV E tk) := by
  refine ⟨fun pins s σ H Q I h => ?_⟩
  refine wpAny_Call_Name_kw (ld_glob I hg hm ?_ hdb)
  refine PySem.W.callWith_KW0 (h₀ := X.base) I.ok.mod.kin hk hall (thn (hkw.run pos pins s σ H _ I h) fun ws s2 ⟨zs, H2, I2, rz, l2, q2⟩ => ⟨I2.kIn, ?_⟩) hpl
  rw [hks]
  exact run_fnN (us := []) (vs := []) F hr hb hx I2 .nil rz rfl l2 q2
end
section
variable {K : PySem.W.Frag}
/-- by names, in another order -/
theorem kbn {x qual : Str} {st : Stmt} {f : Addr} {fd : FuncData} {ps : List Str} (F : Fun K x qual st f fd) (n : Nat) (ks : List Str) (g : List Value → List Value → List Value) (gV : List V → List V → List V)
    (h : ∀ (kV doc pm : Value) (an : Option Addr) (cdv ct : Value) (us ws : List Value), us.length = n → ws.length = ks.length → bindArgs (PySem.W.fnOf x qual (defArgs st) (defBody st) (defScope st) .none kV doc pm an cdv ct) ⟨us, ks.zip ws⟩ = pure (ps.zip (g us ws)))
    (hr : ∀ {vs : List V} {us : List Value} {zs : List V} {ws : List Value}, Vals vs us → Vals zs ws → Vals (gV vs zs) (g us ws)) : KBn K fd ps n ks g gV := by
  obtain ⟨oc, od, kV, doc, pm, an, cdv, ct, osl, rfl, lk, hcd⟩ := F.ex
  exact ⟨fun s us ws _ h1 h2 => .of_eq (h kV doc pm an cdv ct us ws h1 h2), hr⟩
/-- the values of three names, told from behind -/
def rev3 {α : Type} (us ws : List α) : List α := match ws with | [a, b, c] => us ++ [c, b, a] | _ => us
theorem rel_rev3 {vs : List V} {us : List Value} {zs : List V} {ws : List Value} (h : Vals vs us) (h2 : Vals zs ws) : Vals (rev3 vs zs) (rev3 us ws) := by
  unfold rev3
  cases h2 with
  | nil => exact h
  | cons a h2 =>
    cases h2 with
    | nil => exact h
    | cons b h2 =>
      cases h2 with
      | nil => exact h
      | cons c h2 =>
        cases h2 with
        | nil => exact h.append (.cons c (.cons b (.cons a .nil)))
        | cons _ _ => exact h
end
end Uw
end
section
set_option Elab.async false
set_option linter.all false
set_option maxRecDepth 100000
set_option maxHeartbeats 2000000
/-! repr of trees of texts -/
namespace Uw
open PySem PySem.Spec PyProof.Rows L2
mutual
def T.dat : T → PyData
  | .a (.str z) => .str z
  | .a _ => .none
  | .l xs => .list (dats xs)
  | .t xs => .tuple (dats xs)
  | .d _ => .none
def dats : List T → List PyData
  | [] => []
  | x :: xs => x.dat :: dats xs
end
/-- trees whose leaves are texts of which P holds, n deep, B wide -/
def dimW (P : Str → Prop) : Nat → Nat → T → Prop
  | 0, _, x => ∃ z, P z ∧ x = .a (.str z)
  | n + 1, B, x => (∃ z, P z ∧ x = .a (.str z)) ∨ ∃ xs, (x = .l xs ∨ x = .t xs) ∧ xs.length ≤ B ∧ ∀ y ∈ xs, dimW P n B y
theorem dats_map : ∀ xs : List T, dats xs = xs.map T.dat
  | [] => rfl
  | x :: xs => congrArg (x.dat :: ·) (dats_map xs)
theorem dimW.up {P : Str → Prop} {B : Nat} : ∀ {n : Nat} {x : T}, dimW P n B x → dimW P (n + 1) B x
  | 0, _, h => .inl h
  | n + 1, _, .inl h => .inl h
  | n + 1, _, .inr ⟨xs, e, l, a⟩ => .inr ⟨xs, e, l, fun y hy => (a y hy).up⟩
theorem dimW.wide {P : Str → Prop} {B B' : Nat} (h : B ≤ B') : ∀ {n : Nat} {x : T}, dimW P n B x → dimW P n B' x
  | 0, _, h => h
  | n + 1, _, .inl h => .inl h
  | n + 1, _, .inr ⟨xs, e, l, a⟩ => .inr ⟨xs, e, Nat.le_trans l h, fun y hy => dimW.wide h (a y hy)⟩
theorem showAll_of : ∀ {xs : List T}, (∀ x ∈ xs, x.dat.showable = true) → PyData.showableAll (dats xs) = true
  | [], _ => by simp [dats, PyData.showableAll]
  | x :: xs, h => by simp [dats, PyData.showableAll, h x List.mem_cons_self, showAll_of fun y hy => h y (List.mem_cons_of_mem _ hy)]
theorem dictAll_of : ∀ {xs : List T}, (∀ x ∈ xs, x.dat.hasDict = false) → PyData.hasDictAll (dats xs) = false
  | [], _ => by simp [dats, PyData.hasDictAll]
  | x :: xs, h => by simp [dats, PyData.hasDictAll, h x List.mem_cons_self, dictAll_of fun y hy => h y (List.mem_cons_of_mem _ hy)]
theorem depAll_of {n : Nat} : ∀ {xs : List T}, (∀ x ∈ xs, x.dat.depth ≤ n) → PyData.depthAll (dats xs) ≤ n
  | [], _ => by simp [dats, PyData.depthAll]
  | x :: xs, h => by
    have h1 := h x List.mem_cons_self
    have h2 := depAll_of fun y hy => h y (List.mem_cons_of_mem _ hy)
    simp only [dats, PyData.depthAll]
    omega
theorem dimW.show {P : Str → Prop} {B : Nat} : ∀ {n : Nat} {x : T}, dimW P n B x → x.dat.showable = true ∧ x.dat.hasDict = false ∧ x.dat.depth ≤ n
  | 0, _, ⟨z, _, e⟩ => by subst e; simp [T.dat, PyData.showable, PyData.hasDict, PyData.depth]
  | n + 1, _, .inl ⟨z, _, e⟩ => by subst e; simp [T.dat, PyData.showable, PyData.hasDict, PyData.depth]
  | n + 1, _, .inr ⟨xs, e, l, a⟩ => by
    have k1 := showAll_of fun y hy => (dimW.show (a y hy)).1
    have k2 := dictAll_of fun y hy => (dimW.show (a y hy)).2.1
    have k3 := depAll_of fun y hy => (dimW.show (a y hy)).2.2
    rcases e with rfl | rfl <;> simp [T.dat, PyData.showable, PyData.hasDict, PyData.depth, k1, k2, k3]
theorem shownAll_map : ∀ ds : List PyData, PyData.shownAll ds = ds.map PyData.shown
  | [] => by simp [PyData.shownAll]
  | d :: ds => by simp [PyData.shownAll, shownAll_map ds]
theorem sum_le {M : Nat} : ∀ {ts : List Str}, (∀ t ∈ ts, t.length ≤ M) → (ts.map (·.length)).sum ≤ ts.length * M
  | [], _ => by simp
  | t :: ts, h => by
    have h1 := h t List.mem_cons_self
    have h2 := sum_le fun y hy => h y (List.mem_cons_of_mem _ hy)
    rw [List.map_cons, List.sum_cons, List.length_cons, Nat.succ_mul]
    omega
/-- how long what is shown is -/
theorem shown_seq {M : Nat} {x : T} {xs : List T} (e : x = .l xs ∨ x = .t xs) (h : ∀ y ∈ xs, y.dat.shown.length ≤ M) : x.dat.shown.length ≤ xs.length * (M + 2) + 3 := by
  have e2 : PyData.shownAll (dats xs) = xs.map fun y => y.dat.shown := by rw [shownAll_map, dats_map, List.map_map]; rfl
  have h2 : ((PyData.shownAll (dats xs)).map (·.length)).sum ≤ xs.length * M := by
    have := sum_le (M := M) (ts := PyData.shownAll (dats xs)) (fun t ht => by
      rw [e2] at ht
      obtain ⟨y, hy, rfl⟩ := List.mem_map.mp ht
      exact h y hy)
    rw [e2] at this ⊢
    rw [List.length_map] at this
    exact this
  have h3 : (PyData.shownAll (dats xs)).length = xs.length := by rw [e2, List.length_map]
  have h4 : xs.length * (M + 2) = xs.length * M + 2 * xs.length := by rw [Nat.mul_add, Nat.mul_comm xs.length 2]
  rcases e with rfl | rfl
  · simp only [T.dat, PyData.shown]
    have := listText_len_le (PyData.shownAll (dats xs))
    omega
  · simp only [T.dat, PyData.shown]
    have := tupleText_len_le (PyData.shownAll (dats xs))
    omega

mutual
theorem reads_of {P : Program} {w : World} {K : PySem.W.Frag} {Pr : Str → Prop} {B : Nat} {S H : Hp} {h : Heap} (e : Same S H) (ok : HOk P w H h) : ∀ {n : Nat} {x : T} {v : V} {u : Value}, dimW Pr n B x → Rep K S v x → RelV v u → ∃ as, Reads h u x.dat as
  | 0, _, v, u, ⟨z, _, ex⟩, r, ru => by
    subst ex
    obtain ⟨rfl, _⟩ := r.flat
    obtain ⟨t, rfl⟩ : ∃ t, u = .str z t := ru
    exact ⟨[], .str z t⟩
  | n + 1, _, v, u, .inl ⟨z, _, ex⟩, r, ru => by
    subst ex
    obtain ⟨rfl, _⟩ := r.flat
    obtain ⟨t, rfl⟩ : ∃ t, u = .str z t := ru
    exact ⟨[], .str z t⟩
  | n + 1, x, v, u, .inr ⟨xs, ex, l, a⟩, r, ru => by
    rcases ex with rfl | rfl
    · cases r with
      | @l p us _ hp rs =>
        obtain rfl : u = .ref p := ru
        obtain ⟨_, its, m, rv, hg⟩ := ok p _ (e _ _ hp)
        obtain ⟨as, ra⟩ := readsAll_of e ok a rs rv
        exact ⟨p :: as, by
          show Reads h (.ref p) (.list (dats xs)) (p :: as)
          exact .list hg rfl rfl (by rw [List.toList_toArray]; exact ra)⟩
    · cases r with
      | @t p us _ hp rs =>
        obtain rfl : u = .ref p := ru
        obtain ⟨_, its, rv, hg⟩ := ok p _ (e _ _ hp)
        obtain ⟨as, ra⟩ := readsAll_of e ok a rs rv
        obtain ⟨o, ho, hc, hs⟩ := hg
        exact ⟨as, by
          show Reads h (.ref p) (.tuple (dats xs)) as
          exact .tuple ho hc hs.choose_spec (by rw [List.toList_toArray]; exact ra)⟩
theorem readsAll_of {P : Program} {w : World} {K : PySem.W.Frag} {Pr : Str → Prop} {B : Nat} {S H : Hp} {h : Heap} (e : Same S H) (ok : HOk P w H h) : ∀ {n : Nat} {xs : List T} {us : List V} {its : List Value}, (∀ y ∈ xs, dimW Pr n B y) → Reps K S us xs → Vals us its → ∃ as, ReadsAll h its (dats xs) as
  | n, [], us, its, a, rs, rv => by
    cases rs
    cases rv
    exact ⟨[], .nil⟩
  | n, x :: xs, us, its, a, rs, rv => by
    cases rs with
    | cons r rs =>
      cases rv with
      | cons ru rv =>
        obtain ⟨a1, k1⟩ := reads_of e ok (a x List.mem_cons_self) r ru
        obtain ⟨a2, k2⟩ := readsAll_of e ok (fun y hy => a y (List.mem_cons_of_mem _ hy)) rs rv
        exact ⟨a1 ++ a2, .cons k1 k2⟩
end
def rRepr (K : PySem.W.Frag) : List V → Hp → VK → Prop := fun xs H Q => ∃ (p : Addr) (S : Hp) (x : T) (Pr : Str → Prop) (n B : Nat), xs = [.ref p] ∧ Same S H ∧ Rep K S (.ref p) x ∧ dimW Pr n B x ∧ n ≤ 100 ∧ x.dat.shown.length ≤ sizeLine ∧ Q (.str x.dat.shown) H
theorem call_repr_tree {X : Cx} {K : PySem.W.Frag} {k : Nat} (hg : X.A.guards = some []) (hr : Room k X.A) : CallR X (.builtin "repr") (rRepr K) := by
  intro pins s σ H xs us Q I r h
  obtain ⟨p, S, x, Pr, n, B, rfl, e, rx, hd, hn, hz, q⟩ := h
  obtain ⟨u, rfl, rfl⟩ := vals1 r
  obtain ⟨as, ra⟩ := reads_of e I.hok hd rx (u := .ref p) rfl
  obtain ⟨h1, h2, h3⟩ := hd.show
  have hu := hr.un
  exact repr_of_reads' ra h1 (fun hh => by rw [h2] at hh; cases hh) hg (by omega) (fun _ _ e => e) (fun h' u tk hk => ⟨.str x.dat.shown, H, I.kept hk, ⟨u, rfl⟩, q⟩) hz
theorem ev_repr {σ : L2.St} {S H : Hp} {K : PySem.W.Frag} {ta : TE} {x : T} {xs : List T} {Pr : Str → Prop} {n B : Nat} (h : Ev ta σ S H (R K x)) (hx : x = .l xs ∨ x = .t xs) (hd : dimW Pr n B x) (hn : n ≤ 100) (hz : x.dat.shown.length ≤ sizeLine) : Ev (tCB (rRepr K) (tCons ta tNil)) σ S H (Is (.str x.dat.shown)) := fun S1 H1 g Q q =>
  h S1 H1 g _ fun v S2 H2 g2 r => by
    rcases hx with rfl | rfl
    · cases r with
      | @l p us _ hp rs => exact ⟨p, S2, _, Pr, n, B, rfl, g2.sub, .l hp rs, hd, hn, hz, q _ S2 H2 g2 rfl⟩
    · cases r with
      | @t p us _ hp rs => exact ⟨p, S2, _, Pr, n, B, rfl, g2.sub, .t hp rs, hd, hn, hz, q _ S2 H2 g2 rfl⟩
end Uw
end
section
set_option Elab.async false
set_option linter.all false
set_option maxRecDepth 100000
namespace Uw
open PySem PySem.Spec PyProof.Rows L2 RZ
def topS (i : Nat) : Stmt := PySem.Challenge.pw_underwraps_k01_whole_books_made.main.body.getD i (.Pass ⟨0, 0, 0, 0⟩)
def letters : Str := "abcdefghijklmnopqrstuvwxyz"
def signs : Str := "abcdefghijklmnopqrstuvwxyz0123456789"
structure Bl (mg : Str → Option Value) : Prop where
  isinstance : mg "isinstance" = none
  list : mg "list" = none
  tuple : mg "tuple" = none
  str : mg "str" = none
  int : mg "int" = none
  dict : mg "dict" = none
  bool : mg "bool" = none
  len : mg "len" = none
  all : mg "all" = none
  any : mg "any" = none
  sum : mg "sum" = none
  abs : mg "abs" = none
  set : mg "set" = none
  sorted : mg "sorted" = none
  range : mg "range" = none
  zip : mg "zip" = none
  enumerate : mg "enumerate" = none
  repr : mg "repr" = none
/-- a def of the top -/
structure Dn (K : PySem.W.Frag) (mg : Str → Option Value) (x : Str) (st : Stmt) (ps : List Str) where
  f : Addr
  fd : FuncData
  g : mg x = some (.ref f)
  F : Fun K x x st f fd
  b : Binds K fd ps []
abbrev s_is_list : Stmt := topS 9
theorem sc_is_list : FnScope ["thing"] ["thing"] (defScope s_is_list) := ⟨rfl, rfl, rfl, by decide +kernel, rfl, by decide +kernel, by decide +kernel⟩
abbrev s_is_name : Stmt := topS 10
theorem sc_is_name : FnScope ["thing", "sign"] ["thing"] (defScope s_is_name) := ⟨rfl, rfl, rfl, by decide +kernel, rfl, by decide +kernel, by decide +kernel⟩
abbrev s_are_names : Stmt := topS 11
theorem sc_are_names : FnScope ["thing", "name"] ["thing"] (defScope s_are_names) := ⟨rfl, rfl, rfl, by decide +kernel, rfl, by decide +kernel, by decide +kernel⟩
abbrev s_first_word : Stmt := topS 12
theorem sc_first_word : FnScope ["thing"] ["thing"] (defScope s_first_word) := ⟨rfl, rfl, rfl, by decide +kernel, rfl, by decide +kernel, by decide +kernel⟩
abbrev s_first_wrong : Stmt := topS 13
theorem sc_first_wrong : FnScope ["rows", "seen", "index", "row"] ["rows"] (defScope s_first_wrong) := ⟨rfl, rfl, rfl, by decide +kernel, rfl, by decide +kernel, by decide +kernel⟩
abbrev s_need_roles : Stmt := topS 17
theorem sc_need_roles : FnScope ["roles"] ["roles"] (defScope s_need_roles) := ⟨rfl, rfl, rfl, by decide +kernel, rfl, by decide +kernel, by decide +kernel⟩
abbrev s_need_labels : Stmt := topS 18
theorem sc_need_labels : FnScope ["labels"] ["labels"] (defScope s_need_labels) := ⟨rfl, rfl, rfl, by decide +kernel, rfl, by decide +kernel, by decide +kernel⟩
abbrev s_need_unlike : Stmt := topS 19
theorem sc_need_unlike : FnScope ["rows", "wrong"] ["rows"] (defScope s_need_unlike) := ⟨rfl, rfl, rfl, by decide +kernel, rfl, by decide +kernel, by decide +kernel⟩
abbrev s_read_permit : Stmt := topS 20
theorem sc_read_permit : FnScope ["roles", "labels", "thing", "shape", "kind", "name"] ["roles", "labels", "thing"] (defScope s_read_permit) := ⟨rfl, rfl, rfl, by decide +kernel, rfl, by decide +kernel, by decide +kernel⟩
abbrev s_is_permit : Stmt := topS 21
theorem sc_is_permit : FnScope ["roles", "labels", "thing"] ["roles", "labels", "thing"] (defScope s_is_permit) := ⟨rfl, rfl, rfl, by decide +kernel, rfl, by decide +kernel, by decide +kernel⟩
abbrev s__law_well : Stmt := topS 23
theorem sc__law_well : FnScope ["script", "place", "cell", "mixed", "at", "one"] ["script", "place"] (defScope s__law_well) := ⟨rfl, rfl, rfl, by decide +kernel, rfl, by decide +kernel, by decide +kernel⟩
abbrev s__law_draw : Stmt := topS 24
theorem sc__law_draw : FnScope ["well", "many", "digit", "spread"] ["well", "many"] (defScope s__law_draw) := ⟨rfl, rfl, rfl, by decide +kernel, rfl, by decide +kernel, by decide +kernel⟩
abbrev s__law_pick : Stmt := topS 25
theorem sc__law_pick : FnScope ["well", "some"] ["well", "some"] (defScope s__law_pick) := ⟨rfl, rfl, rfl, by decide +kernel, rfl, by decide +kernel, by decide +kernel⟩
abbrev s__law_mixed : Stmt := topS 26
theorem sc__law_mixed : FnScope ["well", "some", "left", "k"] ["well", "some"] (defScope s__law_mixed) := ⟨rfl, rfl, rfl, by decide +kernel, rfl, by decide +kernel, by decide +kernel⟩
abbrev s__law_same : Stmt := topS 27
theorem sc__law_same : FnScope ["found", "due", "one", "other"] ["found", "due"] (defScope s__law_same) := ⟨rfl, rfl, rfl, by decide +kernel, rfl, by decide +kernel, by decide +kernel⟩
abbrev s__law_loose : Stmt := topS 28
theorem sc__law_loose : FnScope ["well", "thing", "found", "key", "one"] ["well", "thing"] (defScope s__law_loose) := ⟨rfl, rfl, rfl, by decide +kernel, rfl, by decide +kernel, by decide +kernel⟩
abbrev s__law_spoiled : Stmt := topS 29
theorem sc__law_spoiled : FnScope ["thing", "key", "part"] ["thing"] (defScope s__law_spoiled) := ⟨rfl, rfl, rfl, by decide +kernel, rfl, by decide +kernel, by decide +kernel⟩
abbrev s__law_b_names : Stmt := topS 30
theorem sc__law_b_names : FnScope ["well", "many", "some"] ["well", "many"] (defScope s__law_b_names) := ⟨rfl, rfl, rfl, by decide +kernel, rfl, by decide +kernel, by decide +kernel⟩
abbrev s__law_b_permit : Stmt := topS 31
theorem sc__law_b_permit : FnScope ["well", "roles", "labels", "shapes", "word", "many", "r", "s"] ["well", "roles", "labels"] (defScope s__law_b_permit) := ⟨rfl, rfl, rfl, by decide +kernel, rfl, by decide +kernel, by decide +kernel⟩
abbrev s__law_b_book : Stmt := topS 32
theorem sc__law_b_book : FnScope ["well", "roles", "labels", "many", "held", "marks", "found", "turn", "one"] ["well", "roles", "labels", "many"] (defScope s__law_b_book) := ⟨rfl, rfl, rfl, by decide +kernel, rfl, by decide +kernel, by decide +kernel⟩
abbrev s__law_is_permit : Stmt := topS 33
theorem sc__law_is_permit : FnScope ["roles", "labels", "thing", "some", "is_so", "one"] ["roles", "labels", "thing"] (defScope s__law_is_permit) := ⟨rfl, rfl, rfl, by decide +kernel, rfl, by decide +kernel, by decide +kernel⟩
abbrev s__law_near : Stmt := topS 34
theorem sc__law_near : FnScope ["well", "roles", "labels", "permit", "names", "some", "found", "words", "word", "odd", "at", "k"] ["well", "roles", "labels", "permit"] (defScope s__law_near) := ⟨rfl, rfl, rfl, by decide +kernel, rfl, by decide +kernel, by decide +kernel⟩
abbrev s__law_permits_right : Stmt := topS 35
theorem sc__law_permits_right : FnScope ["well", "raw", "roles", "labels", "permits", "things", "permit", "thing", "due", "found"] ["well", "raw"] (defScope s__law_permits_right) := ⟨rfl, rfl, rfl, by decide +kernel, rfl, by decide +kernel, by decide +kernel⟩
abbrev s__law_book_right : Stmt := topS 36
theorem sc__law_book_right : FnScope ["well", "raw", "handed", "was", "made", "named", "turn", "told", "roles", "labels", "permits", "others", "due", "one"] ["well", "raw"] (defScope s__law_book_right) := ⟨rfl, rfl, rfl, by decide +kernel, rfl, by decide +kernel, by decide +kernel⟩
abbrev s__law_met : Stmt := topS 37
theorem sc__law_met : FnScope ["ask", "e"] ["ask"] (defScope s__law_met) := ⟨rfl, rfl, rfl, by decide +kernel, rfl, by decide +kernel, by decide +kernel⟩
abbrev s__law_refused_right : Stmt := topS 38
theorem sc__law_refused_right : FnScope ["well", "raw", "roles", "labels", "permits", "odds", "odd", "found", "index", "at", "some"] ["well", "raw"] (defScope s__law_refused_right) := ⟨rfl, rfl, rfl, by decide +kernel, rfl, by decide +kernel, by decide +kernel⟩
abbrev s_law : Stmt := topS 39
theorem sc_law : FnScope ["script", "place", "well", "turn", "raw", "known", "found"] ["script"] (defScope s_law) := ⟨rfl, rfl, rfl, by decide +kernel, rfl, by decide +kernel, by decide +kernel⟩
abbrev s_BadRoles : Stmt := inClass (topS 3) 0
theorem sc_BadRoles : FnScope ["self", "roles"] ["self", "roles"] (defScope s_BadRoles) := ⟨rfl, rfl, rfl, by decide +kernel, rfl, by decide +kernel, by decide +kernel⟩
abbrev s_BadLabels : Stmt := inClass (topS 4) 0
theorem sc_BadLabels : FnScope ["self", "labels"] ["self", "labels"] (defScope s_BadLabels) := ⟨rfl, rfl, rfl, by decide +kernel, rfl, by decide +kernel, by decide +kernel⟩
abbrev s_BadPermits : Stmt := inClass (topS 5) 0
theorem sc_BadPermits : FnScope ["self", "index"] ["self", "index"] (defScope s_BadPermits) := ⟨rfl, rfl, rfl, by decide +kernel, rfl, by decide +kernel, by decide +kernel⟩
structure Px (K : PySem.W.Frag) (mg : Str → Option Value) where
  bl : Bl mg
  ltL : Tok
  g_LETTERS : mg "LETTERS" = some (.str letters ltL)
  ltS : Tok
  g_SIGNS : mg "SIGNS" = some (.str signs ltS)
  is_list : Dn K mg "is_list" s_is_list ["thing"]
  is_name : Dn K mg "is_name" s_is_name ["thing"]
  are_names : Dn K mg "are_names" s_are_names ["thing"]
  first_word : Dn K mg "first_word" s_first_word ["thing"]
  first_wrong : Dn K mg "first_wrong" s_first_wrong ["rows"]
  need_roles : Dn K mg "need_roles" s_need_roles ["roles"]
  need_labels : Dn K mg "need_labels" s_need_labels ["labels"]
  need_unlike : Dn K mg "need_unlike" s_need_unlike ["rows"]
  read_permit : Dn K mg "read_permit" s_read_permit ["roles", "labels", "thing"]
  is_permit : Dn K mg "is_permit" s_is_permit ["roles", "labels", "thing"]
  _law_well : Dn K mg "_law_well" s__law_well ["script", "place"]
  _law_draw : Dn K mg "_law_draw" s__law_draw ["well", "many"]
  _law_pick : Dn K mg "_law_pick" s__law_pick ["well", "some"]
  _law_mixed : Dn K mg "_law_mixed" s__law_mixed ["well", "some"]
  _law_same : Dn K mg "_law_same" s__law_same ["found", "due"]
  _law_loose : Dn K mg "_law_loose" s__law_loose ["well", "thing"]
  _law_spoiled : Dn K mg "_law_spoiled" s__law_spoiled ["thing"]
  _law_b_names : Dn K mg "_law_b_names" s__law_b_names ["well", "many"]
  _law_b_permit : Dn K mg "_law_b_permit" s__law_b_permit ["well", "roles", "labels"]
  _law_b_book : Dn K mg "_law_b_book" s__law_b_book ["well", "roles", "labels", "many"]
  _law_is_permit : Dn K mg "_law_is_permit" s__law_is_permit ["roles", "labels", "thing"]
  _law_near : Dn K mg "_law_near" s__law_near ["well", "roles", "labels", "permit"]
  _law_permits_right : Dn K mg "_law_permits_right" s__law_permits_right ["well", "raw"]
  _law_book_right : Dn K mg "_law_book_right" s__law_book_right ["well", "raw"]
  _law_met : Dn K mg "_law_met" s__law_met ["ask"]
  _law_refused_right : Dn K mg "_law_refused_right" s__law_refused_right ["well", "raw"]
  law : Dn K mg "law" s_law ["script"]
  BadRoles : Er K mg "BadRoles" "BadRoles.__init__" "roles" s_BadRoles
  BadLabels : Er K mg "BadLabels" "BadLabels.__init__" "labels" s_BadLabels
  BadPermits : Er K mg "BadPermits" "BadPermits.__init__" "index" s_BadPermits
section
variable {P : Program} {w : World} {K : PySem.W.Frag} {mg : Str → Option Value} {base : Heap}
theorem ok_BadRoles (Z : Px K mg) : FnOk P w K mg base CX0 1 Z.BadRoles.fI Z.BadRoles.fd ["self", "roles"] (spIni K Z.BadRoles.C "roles") := Z.BadRoles.F.ok sc_BadRoles ini_len fun cdv A outer s H vs Q E hr h => ⟨_, pss_one (ps_ost (pv 0) (pv 1)), ini_read h⟩
theorem ok_BadLabels (Z : Px K mg) : FnOk P w K mg base CX0 1 Z.BadLabels.fI Z.BadLabels.fd ["self", "labels"] (spIni K Z.BadLabels.C "labels") := Z.BadLabels.F.ok sc_BadLabels ini_len fun cdv A outer s H vs Q E hr h => ⟨_, pss_one (ps_ost (pv 0) (pv 1)), ini_read h⟩
theorem ok_BadPermits (Z : Px K mg) : FnOk P w K mg base CX0 1 Z.BadPermits.fI Z.BadPermits.fd ["self", "index"] (spIni K Z.BadPermits.C "index") := Z.BadPermits.F.ok sc_BadPermits ini_len fun cdv A outer s H vs Q E hr h => ⟨_, pss_one (ps_ost (pv 0) (pv 1)), ini_read h⟩
end
end Uw
end
section
set_option Elab.async false
set_option linter.all false
set_option maxRecDepth 100000
namespace Uw
open PySem PySem.Spec PyProof.Rows L2 RZ
/-! ### the mathematics -/
def T.isSeq (t : T) : Bool := isSub t.ty "list" || isSub t.ty "tuple"
def isNameS (z : Str) : Bool := decide (1 ≤ z.length) && decide (z.length ≤ 8) && (decide (z.cps.getD 0 0 ∈ letters.cps.toList) && z.cps.toList.all fun c => decide (c ∈ signs.cps.toList))
def T.isName : T → Bool
  | .a (.str z) => isNameS z
  | _ => false
def T.firstWord : T → Str
  | .l (.a (.str z) :: _) => z
  | .t (.a (.str z) :: _) => z
  | _ => ""
def strOk : T → Prop
  | .a (.str z) => z.length ≤ 100000
  | _ => True
section
variable {P : Program} {w : World} {K : PySem.W.Frag} {mg : Str → Option Value} {base : Heap}
theorem is_c' {σ : L2.St} {S H : Hp} {v : V} : Ev (tC v) σ S H (Is v) := ev_c rfl
abbrev tS' (z : Str) : T := .a (.str z)
theorem ok_is_list (Z : Px K mg) : FnOk P w K mg base CX0 1 Z.is_list.f Z.is_list.fd ["thing"] (sp1 K (fun _ => True) fun x => .a (.bl x.isSeq)) := by
  refine Z.is_list.F.ok sc_is_list sp1_len (fun cdv A outer s H vs Q E hr h => ?_)
  obtain ⟨S, v, x, rfl, e, r, -, q⟩ := h
  refine ⟨_, (pss_one (ps_ret (pe_callB (call_isiTK (K := K)) (by rfl) Z.bl.isinstance (by decide +kernel) (pa_cons (pv 0) (pa_cons (pe_tup (pa_cons (pe_bltn (v := .ty "list") (by rfl) Z.bl.list (by decide +kernel) rfl) (pa_cons (pe_bltn (v := .ty "tuple") (by rfl) Z.bl.tuple (by decide +kernel) rfl) pa_nil))) pa_nil))))), ?_⟩
  exact (Is.R (ev_isi2 (ev_var (P := R K x) rfl r) (by decide) (by decide) (by decide) (by decide))).at e fun v S2 H2 g p => q v S2 H2 g p
theorem rep_bl {S : Hp} {b b' : Bool} (e : b = b') : Rep K S (.bl b) (.a (.bl b')) := e ▸ .a rfl
theorem isStr_of {x : T} (h : isSub x.ty "str" = true) : ∃ z, x = .a (.str z) := by
  cases x with
  | a v =>
    cases v with
    | str z => exact ⟨z, rfl⟩
    | non => exact absurd h (by decide : ¬ isSub "NoneType" "str" = true)
    | bl b => exact absurd h (by decide : ¬ isSub "bool" "str" = true)
    | int i => exact absurd h (by decide : ¬ isSub "int" "str" = true)
    | byt b => exact absurd h (by decide : ¬ isSub "?" "str" = true)
    | flt b => exact absurd h (by decide : ¬ isSub "?" "str" = true)
    | ref b => exact absurd h (by decide : ¬ isSub "?" "str" = true)
    | ty b => exact absurd h (by decide : ¬ isSub "?" "str" = true)
  | l _ => exact absurd h (by decide : ¬ isSub "list" "str" = true)
  | t _ => exact absurd h (by decide : ¬ isSub "tuple" "str" = true)
  | d _ => exact absurd h (by decide : ¬ isSub "dict" "str" = true)
theorem isName_no {x : T} (h : isSub x.ty "str" = false) : x.isName = false := by
  cases x with
  | a v => cases v <;> first | rfl | (exact absurd h (by decide : ¬ isSub "str" "str" = false))
  | _ => rfl
theorem Px.r_LETTERS (Z : Px K mg) : RelV (.str letters) (.str letters Z.ltL) := ⟨_, rfl⟩
theorem Px.r_SIGNS (Z : Px K mg) : RelV (.str signs) (.str signs Z.ltS) := ⟨_, rfl⟩
theorem str_all {z : Str} (f : Nat → Bool) : ((List.range z.cps.size).map fun i => f (z.cps.getD i 0)).all id = z.cps.toList.all f := by
  have e : (List.range z.cps.size).map (fun i => f (z.cps.getD i 0)) = z.cps.toList.map f := by
    apply List.ext_getElem?
    intro i
    rw [List.getElem?_map, List.getElem?_map]
    by_cases h : i < z.cps.size
    · rw [List.getElem?_range h, Array.getElem?_toList, Array.getElem?_eq_getElem h, Option.map_some, Option.map_some, Array.getD_eq_getD_getElem?, Array.getElem?_eq_getElem h]
      rfl
    · rw [List.getElem?_eq_none (l := List.range _) (by rw [List.length_range]; omega), List.getElem?_eq_none (l := z.cps.toList) (by rw [Array.length_toList]; omega)]
      rfl
  rw [e, List.all_map]
  rfl
theorem ok_is_name (Z : Px K mg) : FnOk P w K mg base CX0 1 Z.is_name.f Z.is_name.fd ["thing"] (sp1 K strOk fun x => .a (.bl x.isName)) := by
  refine Z.is_name.F.ok sc_is_name sp1_len (fun cdv A outer s H vs Q E hr h => ?_)
  obtain ⟨S, v, x, rfl, e, r, hx, q⟩ := h
  refine ⟨_, (pss_cons (ps_if (PW.pt (pw_or (pt_not (pt_val (pe_callB (call_isiK1 (K := K)) (by rfl) Z.bl.isinstance (by decide +kernel) (pa_cons (pv 0) (pa_cons (pe_bltn (v := .ty "str") (by rfl) Z.bl.str (by decide +kernel) rfl) pa_nil))))) (pw_or1 (pt_not (pt_chain op_le op_le pe_int (pe_callB (call_lenK (K := K)) (by rfl) Z.bl.len (by decide +kernel) (pa_cons (pv 0) pa_nil)) pe_int)))))
   (pss_one (ps_ret pe_bl))
   pss_nil)
  (pss_one (ps_ret (pe_and (pe_cmpR op_inSignK (pe_ix ix_str (pv 0) pe_int (fun _ _ => rfl)) (pe_glob (by rfl) Z.g_LETTERS Z.r_LETTERS) (by rfl)) (pe_one (pe_callB (cr_allK (K := K) rfl) (by rfl) Z.bl.all (by decide +kernel) (pa_cons (pe_lc (own := [("sign", 1)]) (g := gName 1) (tt := tYes) rfl sc_is_name.nd (pi_str (pv 0)) (blkOk_by (N := ["thing", "sign"]) (sc := defScope s_is_name) (own := [("sign", 1)]) (by decide +kernel)) (fun _ _ _ _ _ => pg_name (i := 1) sc_is_name.nd rfl (Or.inl rfl)) (fun _ _ _ _ _ => pts_nil) (fun _ _ _ _ _ => by exact (pe_cmpR op_inSignK (pv 1) (pe_glob (by rfl) Z.g_SIGNS Z.r_SIGNS) (by rfl)))) pa_nil))))))), ?_⟩
  have hv : Ev (tVar 0) (start ["thing", "sign"] [v]) S H (R K x) := ev_var rfl r
  have h1 := et_B (ev_isi (c := "str") hv (by decide) (by decide))
  by_cases hs : isSub x.ty "str" = true
  · obtain ⟨z, rfl⟩ := isStr_of hs
    have hx : z.length ≤ 100000 := hx
    have hl : Ev _ _ S H (Is (.int (z.length : Nat))) := ev_len hv (show (if z.length ≤ 100000 then some z.length else none) = some z.length by rw [if_pos hx])
    have h2 : EvT _ _ S H _ := et_test (chain (r := rI0 fun i j => .bl (decide (i ≤ j))) (r' := rI0 fun i j => .bl (decide (i ≤ j))) (ev_c (P := Is (.int 1)) rfl) hl (ev_c (P := Is (.int 8)) rfl) (a := decide ((1 : Int) ≤ (z.length : Nat))) (b := decide (((z.length : Nat) : Int) ≤ 8)) (fun x y S1 H1 g e1 e2 => op_val g.sub rfl fun Q q => ⟨1, _, e1, e2, q⟩) (fun x y S1 H1 g e1 e2 => op_val g.sub rfl fun Q q => ⟨_, 8, e1, e2, q⟩))
    have n1 : decide ((1 : Int) ≤ (z.length : Nat)) = decide (1 ≤ z.length) := by rw [decide_eq_decide]; omega
    have n8 : decide (((z.length : Nat) : Int) ≤ 8) = decide (z.length ≤ 8) := by rw [decide_eq_decide]; omega
    rw [n1, n8] at h2
    refine (et_or (et_not h1) fun _ => et_not h2).at e fun S1 H1 g => ?_
    rw [hs]
    cases hd : (decide (1 ≤ z.length) && decide (z.length ≤ 8)) with
    | false =>
      refine iteT ?_
      refine q _ S1 H1 g ?_
      exact rep_bl (show false = (_ && _ && _) by rw [hd]; rfl)
    | true =>
      refine iteF ?_
      have hd' := hd
      rw [Bool.and_eq_true, decide_eq_true_eq, decide_eq_true_eq] at hd'
      have hv1 : Ev (tVar 0) (start ["thing", "sign"] [v]) S1 H1 (Is (.str z)) := (hv.go g).Is
      have h0 : L2.atI z.cps.toList 0 = some (z.cps.getD 0 0) := atI_nat (j := 0) (by
        rw [Array.getElem?_toList, Array.getElem?_eq_getElem (show 0 < z.cps.size from hd'.1), Array.getD_eq_getD_getElem?, Array.getElem?_eq_getElem (show 0 < z.cps.size from hd'.1)]
        rfl)
      have a1 : Ev (tOp rInSign (tOp rIxS (tVar 0) (tC (.int 0))) (tC (.str letters))) (start ["thing", "sign"] [v]) S1 H1 (Is (.bl (decide (z.cps.getD 0 0 ∈ letters.cps.toList)))) :=
        ev_inSign (ev_ixS hv1 (ev_c (P := Is (.int 0)) rfl) hx h0) (ev_c (P := Is (.str letters)) rfl)
      have a2 := ev_all (K := K) (bs := (List.range z.cps.size).map fun i => decide (z.cps.getD i 0 ∈ signs.cps.toList)) (by
        rw [List.map_map]
        have := ev_lc (K := K) (tt := tYes) (te := tOp rInSign (tVar 1) (tC (.str signs))) (j := 1) (vs := [1]) (ei_str hv1) (by have := hd'.2; show z.length ≤ 50000; omega) (fun x => rfl) (fun _ => true) (fun i => .a (.bl (decide (z.cps.getD i 0 ∈ signs.cps.toList)))) (fun i u S2 H2 hi g p => et_yes)
          (fun i u S2 H2 hi g p _ => Is.R (ev_inSign (ev_var (P := Is _) rfl p) (ev_c (P := Is (.str signs)) rfl)))
        rw [filter_all] at this
        exact this)
      rw [str_all (fun c => decide (c ∈ signs.cps.toList))] at a2
      refine (ev_andV a1 fun _ => a2).at g.sub fun u S2 H2 g2 p => ?_
      have p : u = _ := p
      subst p
      refine q _ S2 H2 (g.trans g2) ?_
      exact rep_bl (show _ = (_ && _ && _) by rw [hd]; rfl)
  · refine (et_or (b := true) (et_not h1) fun z => ?_).at e fun S1 H1 g => ?_
    · rw [Bool.not_eq_true] at hs
      rw [hs] at z
      cases z
    · rw [Bool.not_eq_true] at hs
      rw [hs]
      refine iteT ?_
      refine q _ S1 H1 g ?_
      exact rep_bl (isName_no hs).symm
theorem isSeq_cases {x : T} (h : x.isSeq = true) : ∃ xs, x = .l xs ∨ x = .t xs := by
  cases x with
  | l xs => exact ⟨xs, .inl rfl⟩
  | t xs => exact ⟨xs, .inr rfl⟩
  | d _ => exact absurd h (by decide : ¬ (isSub "dict" "list" || isSub "dict" "tuple") = true)
  | a v =>
    have h : (isSub (tyOfV v) "list" || isSub (tyOfV v) "tuple") = true := h
    cases v <;> (revert h; intro h; cases h)
theorem ok_first_word (Z : Px K mg) : FnOk P w K mg base CX0 2 Z.first_word.f Z.first_word.fd ["thing"] (sp1 K (fun _ => True) fun x => .a (.str x.firstWord)) := by
  refine Z.first_word.F.ok sc_first_word sp1_len (fun cdv A outer s H vs Q E hr h => ?_)
  obtain ⟨S, v, x, rfl, e, r, -, q⟩ := h
  refine ⟨_, (pss_cons (ps_if (PW.pt (pw_and (pt_val (pe_call (ok_is_list Z) (hr.mono (by decide)) (by rfl) Z.is_list.g Z.is_list.F.kp Z.is_list.b .nil pass0 (pa_cons (pv 0) pa_nil))) (pw_and (pt_cmpR op_gt (pe_callB (call_lenK (K := K)) (by rfl) Z.bl.len (by decide +kernel) (pa_cons (pv 0) pa_nil)) pe_int (nomark _)) (pw_and1 (pt_val (pe_callB (call_isiK1 (K := K)) (by rfl) Z.bl.isinstance (by decide +kernel) (pa_cons (pe_ix (ixK (K := K)) (pv 0) pe_int (fun _ _ => rfl)) (pa_cons (pe_bltn (v := .ty "str") (by rfl) Z.bl.str (by decide +kernel) rfl) pa_nil))))))))
   (pss_one (ps_ret (pe_ix (ixK (K := K)) (pv 0) pe_int (fun _ _ => rfl))))
   pss_nil)
  (pss_one (ps_ret pe_str))), ?_⟩
  have hv : Ev (tVar 0) (start ["thing"] [v]) S H (R K x) := ev_var rfl r
  have c1 : EvT _ _ S H x.isSeq := et_B ((ev_call1 (E := E0) (ok := fun _ => True) (f := fun x => .a (.bl x.isSeq)) hv trivial).Is)
  have fin : ∀ (b : Bool) S1 H1, Grow S H S1 H1 → x.firstWord = (if b then x.firstWord else "") → (b = true → ∃ z zs, x = .l (.a (.str z) :: zs) ∨ x = .t (.a (.str z) :: zs)) → (if b = true then (tRet (tOp (rIx K) (tVar 0) (tC (.int 0)))) { nx := fun σ' H' => (tRet (tC (.str ""))) { nx := fun _ H' => Q .non H', rt := Q } σ' H', rt := Q } (start ["thing"] [v]) H1 else tNext { nx := fun σ' H' => (tRet (tC (.str ""))) { nx := fun _ H' => Q .non H', rt := Q } σ' H', rt := Q } (start ["thing"] [v]) H1) := by
    intro b S1 H1 g hb hx
    cases b with
    | false =>
      refine iteF ?_
      refine q _ S1 H1 g ?_
      show Rep K S1 (.str "") (.a (.str x.firstWord))
      rw [hb]
      exact .a rfl
    | true =>
      refine iteT ?_
      obtain ⟨z, zs, hx⟩ := hx rfl
      rcases hx with rfl | rfl
      · exact q_ret (ev_ixL (x := tS' z) (hv.go g) is_c' (atI_nat (j := 0) rfl)) g.sub fun u S2 H2 g2 r2 => q u S2 H2 (g.trans g2) r2
      · exact q_ret (ev_ixT (x := tS' z) (hv.go g) is_c' (atI_nat (j := 0) rfl)) g.sub fun u S2 H2 g2 r2 => q u S2 H2 (g.trans g2) r2
  by_cases hs : x.isSeq = true
  · obtain ⟨xs, hx⟩ := isSeq_cases hs
    have hl : x.len = some xs.length := by rcases hx with rfl | rfl <;> rfl
    have c2 : EvT _ _ S H (decide ((0 : Int) < (xs.length : Nat))) := et_test (ev_I0 (g := fun i j => .bl (decide (j < i))) (ev_len hv hl) is_c')
    by_cases h0 : xs = []
    · subst h0
      refine (et_and c1 fun _ => et_and (b := false) c2 fun z => by cases z).at e fun S1 H1 g => ?_
      rw [hs]
      refine fin false S1 H1 g ?_ fun z => by cases z
      rcases hx with rfl | rfl <;> rfl
    · obtain ⟨y, ys, rfl⟩ : ∃ y ys, xs = y :: ys := by
        cases xs with
        | nil => exact absurd rfl h0
        | cons y ys => exact ⟨y, ys, rfl⟩
      have hy : Ev (tOp (rIx K) (tVar 0) (tC (.int 0))) (start ["thing"] [v]) S H (R K y) := by
        rcases hx with rfl | rfl
        · exact ev_ixL hv is_c' (atI_nat (j := 0) rfl)
        · exact ev_ixT hv is_c' (atI_nat (j := 0) rfl)
      refine (et_and c1 fun _ => et_and c2 fun _ => et_B (ev_isi hy (by decide) (by decide))).at e fun S1 H1 g => ?_
      rw [hs, show decide ((0 : Int) < ((y :: ys).length : Nat)) = true from decide_eq_true (by rw [List.length_cons]; omega)]
      cases hb : isSub y.ty "str" with
      | false =>
        refine fin false S1 H1 g ?_ fun z => by cases z
        have : ∀ z, y ≠ .a (.str z) := fun z e => by rw [e] at hb; exact absurd hb (by decide : ¬ isSub "str" "str" = false)
        rcases hx with rfl | rfl
        · show (T.l (y :: ys)).firstWord = ("" : Str)
          unfold T.firstWord
          split
          · rename_i h
            injection h with h
            injection h with h _
            exact absurd h (this _)
          · rename_i h; cases h
          · rfl
        · show (T.t (y :: ys)).firstWord = ("" : Str)
          unfold T.firstWord
          split
          · rename_i h; cases h
          · rename_i h
            injection h with h
            injection h with h _
            exact absurd h (this _)
          · rfl
      | true =>
        obtain ⟨z, rfl⟩ := isStr_of hb
        exact fin true S1 H1 g rfl fun _ => ⟨z, ys, hx⟩
  · rw [Bool.not_eq_true] at hs
    refine (et_and (b := false) c1 fun z => by rw [hs] at z; cases z).at e fun S1 H1 g => ?_
    rw [hs]
    refine fin false S1 H1 g ?_ fun z => by cases z
    cases x with
    | l _ => cases hs
    | t _ => cases hs
    | a _ => rfl
    | d _ => rfl
end
end Uw
end
section
set_option Elab.async false
set_option linter.all false
set_option maxRecDepth 100000
namespace Uw
open PySem PySem.Spec PyProof.Rows L2 RZ
/-- a well, drawn from c times since its digits ended -/
def Well (H : Hp) (w : Addr) (c : Nat) : Prop := ∃ a b : Int, H w = some (.lst [.int a, .int b, .int c]) ∧ 0 ≤ b ∧ b ≤ 4294967296
section
variable {P : Program} {w : World} {K : PySem.W.Frag} {mg : Str → Option Value} {base : Heap}
variable {σ : L2.St} {S S' H H' : Hp} {ta tb tc te tx tl : TE}
/-- an item of a list that may change -/
theorem ev_ixV {p : Addr} {us : List V} {i : Int} {v : V} (hp : H p = some (.lst us)) (ha : Ev ta σ S H (Is (.ref p))) (hb : Ev tb σ S H (Is (.int i))) (hv : L2.atI us i = some v) : Ev (tOp (rIx K) ta tb) σ S H (Is v) :=
  ev_op ha hb fun u y S1 H1 g e e' => by
    have e : u = .ref p := e
    have e' : y = .int i := e'
    subst e e'
    exact op_val g.sub rfl fun Q q => .inl ⟨p, us, i, v, rfl, rfl, .inl (.inl (g.h _ _ hp)), hv, q⟩
theorem ev_int1 {i : Int} (h : Ev ta σ S H (Is (.int i))) : Ev (tCB (fun xs H Q => (∃ i, xs = [.int i] ∧ Q (.int i) H) ∨ ∃ k, xs = [.bl k] ∧ Q (.int (if k then 1 else 0)) H) (tCons ta tNil)) σ S H (Is (.int i)) := fun S1 H1 g Q q =>
  h S1 H1 g _ fun v S2 H2 g2 e => .inl ⟨i, congrArg (fun z => [z]) e, q _ S2 H2 g2 rfl⟩
theorem is_var {i : Nat} {v : V} (h : σ[i]? = some (some v)) : Ev (tVar i) σ S H (Is v) := ev_var h rfl
theorem is_c {v : V} : Ev (tC v) σ S H (Is v) := ev_c rfl
/-- the same step, from and to where an object that may change is another one -/
theorem Grow.upd {p : Addr} {o u : HO} (g : Grow S H S' H') (hs : S p = none) (hp : H p = some u) (nt : ∀ vs, u ≠ .tup vs := by intro _ h; cases h) : Grow S (upd H p o) S' (upd H' p o) :=
  ⟨fun a z q => by
    by_cases ha : a = p
    · subst ha; rw [upd_same] at q ⊢; exact q
    · rw [upd_ne ha] at q ⊢; exact g.h a z q, g.s, fun a z q => by
    have : a ≠ p := ne_of_none q (g.out hs hp nt)
    rw [upd_ne this]; exact g.sub a z q, fun a z q => by
    rcases g.new a z q with h | h | h
    · exact .inl h
    · have : a ≠ p := fun e => by rw [e, hp] at h; cases h
      exact .inr (.inl (by rw [upd_ne this]; exact h))
    · exact .inr (.inr h)⟩
def spDraw : Sp := fun vs H Q _ => ∃ (S : Hp) (w : Addr) (c : Nat) (m : Int), vs = [.ref w, .int m] ∧ Same S H ∧ S w = none ∧ Well H w c ∧ c ≤ 1099511627776 ∧ 1 ≤ m ∧ m ≤ 100000 ∧
  ∀ (d : Int) (c' : Nat) (o : List V) (S' H' : Hp), 0 ≤ d → d < m → c' ≤ c + 1 → Grow S (upd H w (.lst o)) S' H' → Well H' w c' → Q (.int d) H'
theorem ok__law_draw (Z : Px K mg) : FnOk P w K mg base CX0 1 Z._law_draw.f Z._law_draw.fd ["well", "many"] spDraw := by
  refine Z._law_draw.F.ok sc__law_draw (by rintro vs H Q E ⟨S, w, c, m, rfl, _⟩; rfl) (fun cdv A outer s H vs Q E hr h => ?_)
  obtain ⟨S, wl, c, m, rfl, e, hw, ⟨a, b, hH, hb, hb2⟩, hc, hm, hm2, q⟩ := h
  refine ⟨_, (pss_cons (ps_if (pt_cmpR op_gt (pe_ix (ixK (K := K)) (pv 0) pe_int (fun _ _ => rfl)) pe_int (nomark _))
   (pss_cons (ps_set (i := 2) sc__law_draw.nd rfl (.inl rfl) (pe_op op_mod (pe_callTy call_int1 (by rfl) Z.bl.int (by decide +kernel) (pa_cons (pe_ix (ixK (K := K)) (pv 0) pe_int (fun _ _ => rfl)) pa_nil)) (pv 1)))
  (pss_cons (ps_asg (pe_op op_fdiv (pe_ix (ixK (K := K)) (pv 0) pe_int (fun _ _ => rfl)) (pv 1)) (pg_sub (pv 0) pe_int set_list))
  (pss_one (ps_ret (pv 2)))))
   pss_nil)
  (pss_cons (ps_asg (pe_op op_add (pe_ix (ixK (K := K)) (pv 0) pe_int (fun _ _ => rfl)) pe_int) (pg_sub (pv 0) pe_int set_list))
  (pss_cons (ps_set (i := 3) sc__law_draw.nd rfl (.inl rfl) (pe_op op_mod (pe_op op_pow (pe_callTy call_int1 (by rfl) Z.bl.int (by decide +kernel) (pa_cons (pe_op op_add (pe_op op_add (pe_ix (ixK (K := K)) (pv 0) pe_int (fun _ _ => rfl)) (pe_op op_mul pe_int (pe_ix (ixK (K := K)) (pv 0) pe_int (fun _ _ => rfl)))) pe_int) pa_nil)) pe_int) pe_int))
  (pss_one (ps_ret (pe_op op_mod (pe_op op_fdiv (pe_op op_mod (pe_callTy call_int1 (by rfl) Z.bl.int (by decide +kernel) (pa_cons (pe_op op_mul (pe_op op_add (pv 3) (pe_op op_mul pe_int (pe_ix (ixK (K := K)) (pv 0) pe_int (fun _ _ => rfl)))) pe_int) pa_nil)) pe_int) pe_int) (pv 1))))))), ?_⟩
  have w0 : ∀ {σ S H b c}, σ[0]? = some (some (V.ref wl)) → H wl = some (.lst [.int a, .int b, .int c]) → Ev (tOp (rIx K) (tVar 0) (tC (.int 0))) σ S H (Is (.int a)) := fun h0 h => ev_ixV h (is_var h0) is_c (atI_nat (j := 0) rfl)
  refine (et_test (ev_I0 (g := fun i j => .bl (decide (j < i))) (w0 rfl hH) is_c)).at e fun S1 H1 g => ?_
  have hH1 := g.h _ _ hH
  cases hd : decide (0 < a) with
  | true =>
    refine iteT ?_
    refine (ev_I (g := fun i j => .int (i % j)) (ev_int1 (w0 rfl hH1)) (is_var rfl) (show 0 < m by omega)).at g.sub fun u S2 H2 g2 eu => ?_
    have hH2 := g2.h _ _ hH1
    refine (ev_I (g := fun i j => .int (i / j)) (w0 rfl hH2) (is_var rfl) (show (0 < m ∧ m < 1073741824) by omega)).at g2.sub fun u3 S3 H3 g3 eu3 => ?_
    have hH3 := g3.h _ _ hH2
    have eu : u = _ := eu
    have eu3 : u3 = _ := eu3
    subst eu eu3
    have gg := (g.trans g2).trans g3
    have hs3 : S3 wl = none := gg.out hw hH
    refine ⟨_, rfl, wl, _, 0, 0, rfl, rfl, hH3, rfl, ?_⟩
    refine ⟨_, rfl, ?_⟩
    exact q _ c _ S3 _ (Int.emod_nonneg _ (by omega)) (Int.emod_lt_of_pos _ (by omega)) (by omega) (gg.upd hw hH) ⟨a / m, b, upd_same, hb, hb2⟩
  | false =>
    refine iteF ?_
    have w2 : ∀ {σ S H b c}, σ[0]? = some (some (V.ref wl)) → H wl = some (.lst [.int a, .int b, .int c]) → Ev (tOp (rIx K) (tVar 0) (tC (.int 2))) σ S H (Is (.int c)) := fun h0 h => ev_ixV h (is_var h0) is_c (atI_nat (j := 2) rfl)
    have w1 : ∀ {σ S H b c}, σ[0]? = some (some (V.ref wl)) → H wl = some (.lst [.int a, .int b, .int c]) → Ev (tOp (rIx K) (tVar 0) (tC (.int 1))) σ S H (Is (.int b)) := fun h0 h => ev_ixV h (is_var h0) is_c (atI_nat (j := 1) rfl)
    refine (ev_I0 (g := fun i j => .int (i + j)) (w2 rfl hH1) is_c).at g.sub fun u S2 H2 g2 eu => ?_
    have eu : u = _ := eu
    subst eu
    have hH2 := g2.h _ _ hH1
    refine ⟨_, rfl, wl, _, 2, 2, rfl, rfl, hH2, rfl, ?_⟩
    have gg := g.trans g2
    have hs2 : S2 wl = none := gg.out hw hH
    let o2 : HO := .lst [.int a, .int b, .int ((c : Int) + 1)]
    have gu : Grow S (upd H wl o2) S2 (upd H2 wl o2) := gg.upd hw hH
    have hHu : (upd H2 wl o2) wl = some o2 := upd_same
    have k1 : Ev (tOp _ _ _) [some (V.ref wl), some (V.int m), none, none] S2 (upd H2 wl o2) (Is (.int (b + 8191 * ((c : Int) + 1) + 65537))) := ev_I0 (g := fun i j => .int (i + j)) (ev_I0 (g := fun i j => .int (i + j)) (w1 rfl hHu) (ev_I (g := fun i j => .int (i * j)) (C := CMul) (is_c (v := .int 8191)) (w2 rfl hHu) (.inl ⟨by decide, by decide⟩))) is_c
    have k2 := ev_I (g := fun i j => .int (i % j)) (C := fun _ j => 0 < j) (ev_I (g := fun i j => .int (i ^ j.toNat)) (C := CPow) (ev_int1 k1) (is_c (v := .int 5)) ⟨by decide, by decide, by omega⟩) (is_c (v := .int 2147483647)) (by decide)
    refine k2.at gu.sub fun u S3 H3 g3 eu => ?_
    have eu : u = _ := eu
    subst eu
    generalize hsp : (b + 8191 * ((c : Int) + 1) + 65537) ^ (5 : Int).toNat % 2147483647 = sp
    have sp0 : 0 ≤ sp := by rw [← hsp]; exact Int.emod_nonneg _ (by decide)
    have sp1 : sp < 2147483647 := by rw [← hsp]; exact Int.emod_lt_of_pos _ (by decide)
    have hH3 := g3.h _ _ hHu
    have k3 : Ev (tOp _ _ _) [some (V.ref wl), some (V.int m), none, some (V.int sp)] S3 H3 (Is (.int (sp + 7 * ((c : Int) + 1)))) := ev_I0 (g := fun i j => .int (i + j)) (is_var (i := 3) rfl) (ev_I (g := fun i j => .int (i * j)) (C := CMul) (is_c (v := .int 7)) (w2 rfl hH3) (.inl ⟨by decide, by decide⟩))
    have k4 := ev_I (g := fun i j => .int (i % j)) (C := fun _ j => 0 < j) (ev_int1 (ev_I (g := fun i j => .int (i * j)) (C := CMul) k3 (is_c (v := .int 48271)) (.inl ⟨by omega, by omega⟩))) (is_c (v := .int 2147483629)) (by decide)
    have k5 := ev_I (g := fun i j => .int (i % j)) (C := fun _ j => 0 < j) (ev_I (g := fun i j => .int (i / j)) (C := CDiv) k4 (is_c (v := .int 9)) ⟨by decide, by decide⟩) (is_var (v := .int m) (i := 1) rfl) (by omega)
    refine k5.at g3.sub fun u S4 H4 g4 eu => ?_
    have eu : u = _ := eu
    subst eu
    exact q _ (c + 1) [.int a, .int b, .int ((c : Int) + 1)] S4 H4 (Int.emod_nonneg _ (by omega)) (Int.emod_lt_of_pos _ (by omega)) (Nat.le_refl _) ((gu.trans g3).trans g4) ⟨a, b, by
      rw [g4.h _ _ hH3]
      rfl, hb, hb2⟩
/-- from (S, H) to (S', H'), where only the well at w has changed, by at most n draws -/
def Stp (S H : Hp) (w : Addr) (c n : Nat) (S' H' : Hp) (c' : Nat) : Prop := S w = none ∧ (∃ o, H w = some (.lst o)) ∧ (∃ o, Grow S (upd H w (.lst o)) S' H') ∧ Well H' w c' ∧ c' ≤ c + n
theorem Well.some {H : Hp} {w : Addr} {c : Nat} (h : Well H w c) : ∃ o, H w = some (.lst o) := by obtain ⟨a, b, h, _⟩ := h; exact ⟨_, h⟩
theorem Well.same {w : Addr} {c : Nat} (e : Same H H') (h : Well H w c) : Well H' w c := by obtain ⟨a, b, h, r⟩ := h; exact ⟨a, b, e _ _ h, r⟩
theorem Well.ne {w p : Addr} {c : Nat} {o : HO} (h : Well H w c) (hp : p ≠ w) : Well (upd H p o) w c := by obtain ⟨a, b, h, r⟩ := h; exact ⟨a, b, by rw [upd_ne hp.symm]; exact h, r⟩
theorem upd_self {p : Addr} {o : HO} (h : H p = some o) : upd H p o = H := by
  funext a
  by_cases ha : a = p
  · subst ha; rw [upd_same, h]
  · rw [upd_ne ha]
theorem Stp.out {w : Addr} {c n c' : Nat} (a : Stp S H w c n S' H' c') : S' w = none := by
  obtain ⟨h, ⟨o, ho⟩, ⟨u, g⟩, _⟩ := a
  exact g.out h upd_same
theorem Stp.sub {w : Addr} {c n c' : Nat} (a : Stp S H w c n S' H' c') : Same S' H' := by obtain ⟨_, _, ⟨_, g⟩, _⟩ := a; exact g.sub
theorem Stp.s {w : Addr} {c n c' : Nat} (a : Stp S H w c n S' H' c') : Same S S' := by obtain ⟨_, _, ⟨_, g⟩, _⟩ := a; exact g.s
theorem Stp.well {w : Addr} {c n c' : Nat} (a : Stp S H w c n S' H' c') : Well H' w c' := a.2.2.2.1
theorem Stp.le {w : Addr} {c n c' : Nat} (a : Stp S H w c n S' H' c') : c' ≤ c + n := a.2.2.2.2
/-- other objects that may change stand as they stood -/
theorem Stp.h {w p : Addr} {c n c' : Nat} {o : HO} (a : Stp S H w c n S' H' c') (hp : p ≠ w) (h : H p = some o) : H' p = some o := by
  obtain ⟨_, _, ⟨_, g⟩, _⟩ := a
  exact g.h _ _ (by rw [upd_ne hp]; exact h)
theorem Stp.keep {w p : Addr} {c n c' : Nat} {o : HO} (a : Stp S H w c n S' H' c') (hs : S p = none) (h : H p = some o) (nt : ∀ vs, o ≠ .tup vs := by intro _ h; cases h) : S' p = none := by
  by_cases hp : p = w
  · rw [hp]; exact a.out
  · obtain ⟨_, _, ⟨_, g⟩, _⟩ := a
    exact g.out hs (by rw [upd_ne hp]; exact h) nt
theorem Stp.of {w : Addr} {c : Nat} (g : Grow S H S' H') (hs : S w = none) (h : Well H w c) : Stp S H w c 0 S' H' c := by
  obtain ⟨o, ho⟩ := h.some
  exact ⟨hs, ⟨o, ho⟩, ⟨o, by rw [upd_self ho]; exact g⟩, h.same g.h, Nat.le_refl _⟩
theorem Stp.trans {S1 H1 S2 H2 : Hp} {w : Addr} {c n c1 n2 c2 : Nat} (a : Stp S H w c n S1 H1 c1) (b : Stp S1 H1 w c1 n2 S2 H2 c2) : Stp S H w c (n + n2) S2 H2 c2 := by
  obtain ⟨a1, a2, ⟨u, a3⟩, a4, a5⟩ := a
  obtain ⟨b1, b2, ⟨o, b3⟩, b4, b5⟩ := b
  refine ⟨a1, a2, ⟨o, ?_⟩, b4, by omega⟩
  have := a3.upd (o := .lst o) a1 upd_same
  rw [upd_upd] at this
  exact this.trans b3
theorem Stp.grow {S1 H1 S2 H2 : Hp} {w : Addr} {c n c1 : Nat} (a : Stp S H w c n S1 H1 c1) (g : Grow S1 H1 S2 H2) : Stp S H w c n S2 H2 c1 := a.trans (.of g a.out a.well)
theorem Stp.mono {w : Addr} {c n m c1 : Nat} (a : Stp S H w c n S' H' c1) (h : n ≤ m) : Stp S H w c m S' H' c1 := ⟨a.1, a.2.1, a.2.2.1, a.2.2.2.1, Nat.le_trans a.2.2.2.2 (by omega)⟩
/-- a call of _law_draw -/
theorem at_draw {w : Addr} {c : Nat} {m : Int} {E : XK} {Q : VK} (e : Same S H) (hs : S w = none) (hw : Well H w c) (hc : c ≤ 1000000000000) (h1 : Ev ta σ S H (Is (.ref w))) (h2 : Ev tb σ S H (Is (.int m))) (hm : 1 ≤ m) (hm2 : m ≤ 100000)
    (q : ∀ (d : Int) (c' : Nat) S' H', 0 ≤ d → d < m → Stp S H w c 1 S' H' c' → Q (.int d) H') : tCall spDraw [] E (tCons ta (tCons tb tNil)) σ H Q := by
  refine h1.at e fun u S1 H1 g1 eu => h2.go g1 |>.at g1.sub fun u2 S2 H2 g2 eu2 => ?_
  have eu : u = _ := eu
  have eu2 : u2 = _ := eu2
  subst eu eu2
  have g := g1.trans g2
  obtain ⟨o0, ho0⟩ := hw.some
  exact ⟨S2, w, c, m, rfl, g2.sub, g.out hs ho0, hw.same g.h, by omega, hm, hm2, fun d c' o S' H' h0 hd hcc gg ww => q d c' S' H' h0 hd ⟨hs, hw.some, ⟨o, (g.upd hs ho0).trans gg⟩, ww, hcc⟩⟩
/-- picks and the like: from a well and a tree to some tree of which P holds -/
def spW (K : PySem.W.Frag) (n : Nat) (ok : T → Prop) (P : T → T → Prop) : Sp := fun vs H Q _ => ∃ (S : Hp) (w : Addr) (c : Nat) (v : V) (x : T), vs = [.ref w, v] ∧ Same S H ∧ S w = none ∧ Well H w c ∧ c ≤ 999000000000 ∧ Rep K S v x ∧ ok x ∧
  ∀ (u : V) (y : T) (c' : Nat) S' H', Stp S H w c n S' H' c' → Rep K S' u y → P x y → Q u H'
theorem at_W {n : Nat} {ok : T → Prop} {R1 : T → T → Prop} {w : Addr} {c : Nat} {x : T} {E : XK} {Q : VK} (e : Same S H) (hs : S w = none) (hw : Well H w c) (hc : c ≤ 999000000000) (h1 : Ev ta σ S H (Is (.ref w))) (h2 : Ev tb σ S H (R K x)) (hx : ok x)
    (q : ∀ (u : V) (y : T) (c' : Nat) S' H', Stp S H w c n S' H' c' → Rep K S' u y → R1 x y → Q u H') : tCall (spW K n ok R1) [] E (tCons ta (tCons tb tNil)) σ H Q := by
  refine h1.at e fun u S1 H1 g1 eu => h2.go g1 |>.at g1.sub fun u2 S2 H2 g2 r => ?_
  have eu : u = _ := eu
  subst eu
  have g := g1.trans g2
  obtain ⟨o0, ho0⟩ := hw.some
  exact ⟨S2, w, c, u2, x, rfl, g2.sub, g.out hs ho0, hw.same g.h, hc, r, hx, fun v y c' S' H' st ry py => q v y c' S' H' (by have := (Stp.of g hs hw).trans st; rw [Nat.zero_add] at this; exact this) ry py⟩
theorem Rep.ref {v : V} {xs : List T} (r : Rep K S v (.l xs)) : ∃ p us, v = .ref p ∧ S p = some (.lst us) ∧ Reps K S us xs := by
  cases r with
  | l h r => exact ⟨_, _, rfl, h, r⟩
def okPick : T → Prop
  | .l xs => 1 ≤ xs.length ∧ xs.length ≤ 100000
  | _ => False
def inL : T → T → Prop
  | .l xs, y => y ∈ xs
  | _, _ => False
theorem ok__law_pick (Z : Px K mg) : FnOk P w K mg base CX0 2 Z._law_pick.f Z._law_pick.fd ["well", "some"] (spW K 1 okPick inL) := by
  refine Z._law_pick.F.ok sc__law_pick (by rintro vs H Q E ⟨S, w, c, v, x, rfl, _⟩; rfl) (fun cdv A outer s H vs Q E hr h => ?_)
  obtain ⟨S, wl, c, v, x, rfl, e, hw, hW, hc, r, hx, q⟩ := h
  refine ⟨_, (pss_one (ps_ret (pe_ix (ixK (K := K)) (pv 1) (pe_call (ok__law_draw Z) (hr.mono (by decide)) (by rfl) Z._law_draw.g Z._law_draw.F.kp Z._law_draw.b .nil pass0 (pa_cons (pv 0) (pa_cons (pe_callB (call_lenK (K := K)) (by rfl) Z.bl.len (by decide +kernel) (pa_cons (pv 1) pa_nil)) pa_nil))) (fun _ _ => rfl)))), ?_⟩
  cases x with
  | l xs =>
    obtain ⟨p, us, rfl, hp, rs⟩ := r.ref
    have hx : 1 ≤ xs.length ∧ xs.length ≤ 100000 := hx
    have hv : Ev (tVar 1) (start ["well", "some"] [.ref wl, .ref p]) S H (R K (.l xs)) := ev_var rfl r
    refine ⟨_, rfl, at_draw e hw hW (by omega) (is_var rfl) (ev_len hv rfl) (by omega) (by omega) fun d c' S' H' h0 hd st => ?_⟩
    obtain ⟨j, rfl⟩ : ∃ j : Nat, d = j := ⟨d.toNat, by omega⟩
    have hj : j < xs.length := by omega
    obtain ⟨v, hv, rv⟩ := (rs.same st.s).get (nth_get hj)
    exact .inl ⟨p, us, j, v, rfl, rfl, sqL st.sub (st.s _ _ hp), atI_nat hv, q v _ c' S' H' st rv (List.mem_of_getElem? (nth_get hj))⟩
  | _ => exact hx.elim
/-- an object that may change, and that was not there at the start -/
theorem Stp.mut {w p : Addr} {c n c1 : Nat} {o : HO} (a : Stp S H w c n S' H' c1) (hp : H p = none) (hs : S' p = none) : Stp S H w c n S' (upd H' p o) c1 := by
  obtain ⟨a1, a2, ⟨u, a3⟩, a4, a5⟩ := a
  have hne : p ≠ w := fun e => by obtain ⟨o, ho⟩ := a2; rw [e, ho] at hp; cases hp
  exact ⟨a1, a2, ⟨u, a3.mut (by rw [upd_ne hne]; exact hp) hs⟩, a4.ne hne, a5⟩
theorem Stp.freeze {w p : Addr} {c n c1 : Nat} {o : HO} (a : Stp S H w c n S' H' c1) (h0 : H p = none) (hs : S' p = none) (hp : H' p = some o) : Stp S H w c n (upd S' p o) H' c1 := by
  obtain ⟨a1, a2, ⟨u, a3⟩, a4, a5⟩ := a
  have hne : p ≠ w := fun e => by obtain ⟨o, ho⟩ := a2; rw [e, ho] at h0; cases h0
  exact ⟨a1, a2, ⟨u, a3.freeze (by rw [upd_ne hne]; exact h0) hs hp⟩, a4, a5⟩
theorem erase_perm {α : Type} : ∀ {l : List α} {j : Nat} {x : α}, l[j]? = some x → (x :: l.eraseIdx j).Perm l
  | [], j, x, h => by simp at h
  | a :: r, 0, x, h => by
    have h : a = x := Option.some.inj h
    subst h
    exact .refl _
  | a :: r, j + 1, x, h => (List.Perm.swap a x _).trans (.cons a (erase_perm (l := r) (j := j) h))
def T.items : T → List T
  | .l xs => xs
  | .t xs => xs
  | _ => []
def okMix : T → Prop
  | .l xs => xs.length ≤ 100
  | .t xs => xs.length ≤ 100
  | _ => False
theorem okMix.len {x : T} (h : okMix x) : x.items.length ≤ 100 ∧ (x = .l x.items ∨ x = .t x.items) := by
  cases x with
  | l xs => exact ⟨h, .inl rfl⟩
  | t xs => exact ⟨h, .inr rfl⟩
  | _ => exact h.elim
def isPerm (x y : T) : Prop := ∃ ys, y = .l ys ∧ ys.Perm x.items
theorem ok__law_mixed (Z : Px K mg) : FnOk P w K mg base CX0 2 Z._law_mixed.f Z._law_mixed.fd ["well", "some"] (spW K 100 okMix isPerm) := by
  refine Z._law_mixed.F.ok sc__law_mixed (by rintro vs H Q E ⟨S, w, c, v, x, rfl, _⟩; rfl) (fun cdv A outer s H vs Q E hr h => ?_)
  obtain ⟨S, wl, c, v, x, rfl, e, hw, hW, hc, r, hx, q⟩ := h
  obtain ⟨hlen, hx⟩ := okMix.len hx
  refine ⟨_, (pss_cons (ps_set (i := 2) sc__law_mixed.nd rfl (.inr rfl) (pe_callTy (call_listK (K := K)) (by rfl) Z.bl.list (by decide +kernel) (pa_cons (pv 1) pa_nil)))
  (pss_one (ps_ret (pe_lc (own := [("k", 3)]) (g := gName 3) (tt := tYes) rfl sc__law_mixed.nd (pi_range1 (by rfl) Z.bl.range (pa_cons (pe_callB (call_lenK (K := K)) (by rfl) Z.bl.len (by decide +kernel) (pa_cons (pv 2) pa_nil)) pa_nil)) (blkOk_by (N := ["well", "some", "left", "k"]) (sc := defScope s__law_mixed) (own := [("k", 3)]) (by decide +kernel)) (fun _ _ _ _ _ => pg_name (i := 3) sc__law_mixed.nd rfl (Or.inl rfl)) (fun _ _ _ _ _ => pts_nil) (fun _ _ _ _ _ => by exact (show PE _ _ (tBM K "list" rPopAt _ _) from pe_bm PySem.F.plainAttrs_list PySem.F.slot_list_pop PySem.F.type_list_pop mr_popAt (pv 2) (pa_cons (pe_call (ok__law_draw Z) (hr.mono (by decide)) (by rfl) Z._law_draw.g Z._law_draw.F.kp Z._law_draw.b .nil pass0 (pa_cons (pv 0) (pa_cons (pe_callB (call_lenK (K := K)) (by rfl) Z.bl.len (by decide +kernel) (pa_cons (pv 2) pa_nil)) pa_nil))) pa_nil))))))), ?_⟩
  have hv : Ev (tVar 1) (start ["well", "some", "left", "k"] [.ref wl, v]) S H (R K x) := ev_var rfl r
  -- left = list(some)
  refine hv.at e fun v1 S1 H1 g1 r1 => ?_
  have hwl1 : Well H1 wl c := hW.same g1.h
  have hw1 : S1 wl = none := by obtain ⟨o, ho⟩ := hW.some; exact g1.out hw ho
  obtain ⟨p, us, rfl, hpu, rs⟩ : ∃ p us, v1 = .ref p ∧ (SqL K H1 p us ∨ SqT K H1 p us) ∧ Reps K S1 us x.items := by
    rcases hx with hx | hx
    · rw [hx] at r1
      cases r1 with
      | l h r => exact ⟨_, _, rfl, .inl (sqL g1.sub h), r⟩
    · rw [hx] at r1
      cases r1 with
      | t h r => exact ⟨_, _, rfl, .inr (sqT g1.sub h), r⟩
  refine ⟨p, us, rfl, hpu, fun L hL => ?_⟩
  have hHL : H L = none := g1.h.free hL
  have hSL : S1 L = none := g1.sub.free hL
  have hLw : L ≠ wl := fun z => by obtain ⟨o, ho⟩ := hwl1.some; rw [z, ho] at hL; cases hL
  have st0 : Stp S H wl c 0 S1 (upd H1 L (.lst us)) c := (Stp.of g1 hw hW).mut hHL hSL
  have hus : us.length = x.items.length := rs.length
  -- range(len(left))
  refine ⟨.ref L, rfl, .ref L, us.length, rfl, ?_, us.length, rfl, by omega, by omega, fun D hD => ?_⟩
  · exact .inl ⟨us, .inl (.inl upd_same), rfl⟩
  have hDL : D ≠ L := fun z => by rw [z, upd_same] at hD; cases hD
  have hHD : H D = none := by rw [upd_ne hDL] at hD; exact g1.h.free hD
  have hSD : S1 D = none := by rw [upd_ne hDL] at hD; exact g1.sub.free hD
  refine lc_range (lo := 0) (n := us.length) (fun i H' => ∃ S' c' rest taken ur ut, Stp S H wl c i S' H' c' ∧ H' L = some (.lst ur) ∧ S' L = none ∧ H' D = some (.lst ut) ∧ S' D = none ∧ Reps K S' ur rest ∧ Reps K S' ut taken ∧ (taken ++ rest).Perm x.items ∧ taken.length = i)
    ⟨S1, c, x.items, [], us, [], st0.mut hHD hSD, by rw [upd_ne hDL.symm]; exact upd_same, hSL, upd_same, hSD, rs, .nil, .refl _, rfl⟩ (fun i H' hi hP => ?_) (fun H' hP => ?_)
  · obtain ⟨S', c', rest, taken, ur, ut, st, e1, e2, e3, e4, e5, e6, e7, e8⟩ := hP
    have hl : (taken ++ rest).length = x.items.length := e7.length_eq
    rw [List.length_append] at hl
    have hrl : 1 ≤ rest.length ∧ rest.length ≤ 100 := by omega
    refine ⟨rfl, ?_⟩
    show tBM K "list" rPopAt (tVar 2) _ _ H' _
    refine ⟨.ref L, rfl, .inl ⟨rfl, ur, .inl (.inl e1)⟩, ?_⟩
    have hlr : ur.length = rest.length := e5.length
    refine at_draw (S := S') (m := (ur.length : Nat)) st.sub st.out st.well (by have := st.le; omega) (is_var rfl) (fun S2 H2 g2 Q2 q2 => ⟨.ref L, rfl, .ref L, ur.length, rfl, .inl ⟨ur, .inl (.inl (g2.h _ _ e1)), rfl⟩, q2 _ S2 H2 (.refl g2.sub) rfl⟩) (by omega) (by omega) fun d c2 S2 H2 d0 dl st2 => ?_
    obtain ⟨j, rfl⟩ : ∃ j : Nat, d = j := ⟨d.toNat, by omega⟩
    have hj : j < rest.length := by omega
    have f1 : H2 L = some (.lst ur) := st2.h hLw e1
    have f2 : S2 L = none := st2.keep e2 e1
    have hDw : D ≠ wl := fun z => by obtain ⟨o, ho⟩ := hW.some; rw [z, ho] at hHD; cases hHD
    have f3 : H2 D = some (.lst ut) := st2.h hDw e3
    have f4 : S2 D = none := st2.keep e4 e3
    have e5' := e5.same st2.s
    have e6' := e6.same st2.s
    obtain ⟨y, hy, ry⟩ := e5'.get (nth_get hj)
    have hix : ixN ur.length ((j : Nat) : Int) = some j := by
      unfold ixN
      rw [if_pos (by omega), if_pos (by omega)]
      rfl
    have e9 : (taken ++ [nth rest j] ++ rest.eraseIdx j).Perm x.items := by
      rw [List.append_assoc]
      exact (List.Perm.append_left taken (erase_perm (nth_get hj))).trans e7
    have stt := (st.trans st2).mono (Nat.le_refl (i + 1))
    refine ⟨L, ur, j, j, y, rfl, rfl, f1, by omega, by omega, (ixN_seq hix).1, hy, ut, by rw [upd_ne hDL]; exact f3, ?_, S2, c2, rest.eraseIdx j, taken ++ [nth rest j], ur.eraseIdx j, ut ++ [y], ?_, ?_, f2, upd_same, f4, e5'.erase j, e6'.append (.one ry), e9, ?_⟩
    · have : ut.length = taken.length := e6.length
      exact szl (by omega)
    · exact (stt.mut hHL f2).mut hHD f4
    · rw [upd_ne hDL.symm]
      exact upd_same
    · rw [List.length_append, e8]
      rfl
  · obtain ⟨S', c', rest, taken, ur, ut, st, e1, e2, e3, e4, e5, e6, e7, e8⟩ := hP
    have hl : (taken ++ rest).length = x.items.length := e7.length_eq
    rw [List.length_append] at hl
    have h0 : rest = [] := List.eq_nil_of_length_eq_zero (by omega)
    subst h0
    rw [List.append_nil] at e7
    exact q _ (.l taken) c' (upd S' D (.lst ut)) H' ((st.freeze hHD e4 e3).mono (by omega)) (.l upd_same (e6.same (Same.new e4))) ⟨taken, rfl, e7⟩
end
end Uw
end
section
set_option Elab.async false
set_option linter.all false
set_option maxRecDepth 100000
namespace Uw
open PySem PySem.Spec PyProof.Rows L2 RZ
mutual
def T.deep : T → Nat
  | .a _ => 0
  | .l xs => deeps xs + 1
  | .t xs => deeps xs + 1
  | .d _ => 3
def deeps : List T → Nat
  | [] => 0
  | x :: xs => max x.deep (deeps xs)
end
theorem deep_nth : ∀ {xs : List T} {i : Nat}, i < xs.length → (nth xs i).deep ≤ deeps xs
  | [], i, h => by simp at h
  | x :: xs, 0, h => Nat.le_max_left _ _
  | x :: xs, i + 1, h => Nat.le_trans (deep_nth (xs := xs) (i := i) (by simpa using h)) (Nat.le_max_right _ _)
def T.isA : T → Bool
  | .a _ => true
  | _ => false
mutual
/-- dicts in it have flat values -/
def T.okS : T → Bool
  | .a _ => true
  | .l xs => okSs xs
  | .t xs => okSs xs
  | .d kvs => kvs.all fun kv => kv.2.isA
def okSs : List T → Bool
  | [] => true
  | x :: xs => x.okS && okSs xs
end
mutual
theorem okS_noD : ∀ {x : T}, x.noD = true → x.okS = true
  | .a _, _ => rfl
  | .l xs, h => okSs_noD (xs := xs) h
  | .t xs, h => okSs_noD (xs := xs) h
  | .d _, h => nomatch h
theorem okSs_noD : ∀ {xs : List T}, noDs xs = true → okSs xs = true
  | [], _ => rfl
  | x :: xs, h => by
    have h : (x.noD && noDs xs) = true := h
    rw [Bool.and_eq_true] at h
    show (x.okS && okSs xs) = true
    rw [okS_noD h.1, okSs_noD h.2]
    rfl
end
theorem okS_nth : ∀ {xs : List T} {i : Nat}, okSs xs = true → i < xs.length → (nth xs i).okS = true
  | [], i, _, h => by simp at h
  | x :: xs, 0, n, h => by
    have n : (x.okS && okSs xs) = true := n
    rw [Bool.and_eq_true] at n
    exact n.1
  | x :: xs, i + 1, n, h => by
    have n : (x.okS && okSs xs) = true := n
    rw [Bool.and_eq_true] at n
    exact okS_nth (xs := xs) (i := i) n.2 (by simpa using h)
/-- a dict's pairs -/
def itemsT (kvs : List (Key × T)) : List T := kvs.map fun kv => .t [.a (kV kv.1), kv.2]
theorem flat_kV (k : Key) : flatV (kV k) = true := by cases k <;> rfl
theorem kV_inj {a b : Key} (h : kV a = kV b) : a = b := by
  cases a <;> cases b <;> first | (cases h; rfl) | cases h
theorem itemsT_inj : ∀ {a b : List (Key × T)}, itemsT a = itemsT b → a = b
  | [], [], _ => rfl
  | [], _ :: _, h => by cases h
  | _ :: _, [], h => by cases h
  | (k, x) :: a, (k2, y) :: b, h => by
    have h : T.t [.a (kV k), x] :: itemsT a = T.t [.a (kV k2), y] :: itemsT b := h
    injection h with h1 h2
    injection h1 with h1
    injection h1 with h3 h4
    injection h4 with h4 _
    rw [kV_inj (T.a.inj h3), h4, itemsT_inj h2]
theorem items_ok : ∀ {kvs : List (Key × T)}, (kvs.all fun kv => kv.2.isA) = true → okSs (itemsT kvs) = true ∧ deeps (itemsT kvs) ≤ 1
  | [], _ => ⟨rfl, Nat.zero_le _⟩
  | (k, x) :: r, h => by
    rw [List.all_cons, Bool.and_eq_true] at h
    obtain ⟨i1, i2⟩ := items_ok h.2
    cases x with
    | a v =>
      refine ⟨?_, ?_⟩
      · show ((T.t [.a (kV k), .a v]).okS && okSs (itemsT r)) = true
        rw [i1]
        rfl
      · show max ((T.t [.a (kV k), .a v]).deep) (deeps (itemsT r)) ≤ 1
        exact Nat.max_le.mpr ⟨Nat.le_refl 1, i2⟩
    | l _ => cases h.1
    | t _ => cases h.1
    | d _ => cases h.1
open Classical in
noncomputable def T.same (x y : T) : Bool := decide (x = y)
mutual
/-- lists of at most 40000 items throughout -/
def T.sizes : T → Prop
  | .a _ => True
  | .l xs => xs.length ≤ 40000 ∧ sizess xs
  | .t xs => xs.length ≤ 40000 ∧ sizess xs
  | .d kvs => kvs.length ≤ 40000
def sizess : List T → Prop
  | [] => True
  | x :: xs => x.sizes ∧ sizess xs
end
theorem sizes_nth : ∀ {xs : List T} {i : Nat}, sizess xs → i < xs.length → (nth xs i).sizes
  | [], i, _, h => by simp at h
  | x :: xs, 0, n, h => n.1
  | x :: xs, i + 1, n, h => sizes_nth (xs := xs) (i := i) n.2 (by simpa using h)
section
variable {P : Program} {w : World} {K : PySem.W.Frag} {mg : Str → Option Value} {base : Heap}
variable {σ : L2.St} {S S' H H' : Hp} {ta tb tc te tx tl : TE}
theorem sizes_items : ∀ {kvs : List (Key × T)}, (kvs.all fun kv => kv.2.isA) = true → sizess (itemsT kvs)
  | [], _ => trivial
  | (k, x) :: r, h => by
    rw [List.all_cons, Bool.and_eq_true] at h
    refine ⟨⟨by show 2 ≤ 40000; decide, trivial, ?_, trivial⟩, sizes_items h.2⟩
    cases x with
    | a v => exact trivial
    | l _ => cases h.1
    | t _ => cases h.1
    | d _ => cases h.1
theorem reps_items : ∀ {ts : List Addr} {vvs : List (Key × V)} {kvs : List (Key × T)} {S S3 H' : Hp}, Paired (fun (t : Addr) (q : Key × V) => H' t = some (.tup [kV q.1, q.2])) ts vvs → Repk K S vvs kvs → (∀ t ∈ ts, S3 t = H' t) → Same S S3 → Reps K S3 (ts.map V.ref) (itemsT kvs)
  | [], _, _, _, _, _, h, r, _, _ => by
    cases h
    cases r
    exact .nil
  | t :: ts, _, _, S, S3, H', h, r, e, s => by
    cases h with
    | cons h ht =>
      cases r with
      | cons r q =>
        exact .cons (.t ((e _ List.mem_cons_self).trans h) (.cons (.a (flat_kV _)) (.cons (r.same s) .nil))) (reps_items ht q (fun t ht => e t (List.mem_cons_of_mem _ ht)) s)
theorem ev_items {kvs : List (Key × T)} (h : Ev ta σ S H (R K (.d kvs))) : Ev (LiI.tListItems ta) σ S H (R K (.l (itemsT kvs))) := fun S1 H1 g Q q => h S1 H1 g _ fun v S2 H2 g2 r => by
  cases r with
  | @d p vvs _ hp rk =>
    refine ⟨p, vvs, rfl, g2.sub _ _ hp, fun H' l ts hk hl ht hlt hL hP => ?_⟩
    let S3 : Hp := fun a => if a = l ∨ a ∈ ts then H' a else S2 a
    have new : ∀ a, (a = l ∨ a ∈ ts) → H2 a = none := fun a ha => ha.elim (fun e => e ▸ hl) (ht a)
    have at3 : ∀ a, (a = l ∨ a ∈ ts) → S3 a = H' a := fun a ha => if_pos ha
    have gs : Same S2 S3 := fun a u e => by
      show (if a = l ∨ a ∈ ts then H' a else S2 a) = some u
      rw [if_neg fun ha => by have := g2.sub _ _ e; rw [new a ha] at this; cases this]
      exact e
    have g3 : Grow S2 H2 S3 H' := ⟨hk, gs, fun a u e => by
      have e : (if a = l ∨ a ∈ ts then H' a else S2 a) = some u := e
      by_cases ha : a = l ∨ a ∈ ts
      · rw [if_pos ha] at e
        exact e
      · rw [if_neg ha] at e
        exact hk _ _ (g2.sub _ _ e), fun a u e => by
      by_cases ha : a = l ∨ a ∈ ts
      · exact .inr (.inl (new a ha))
      · have e : (if a = l ∨ a ∈ ts then H' a else S2 a) = some u := e
        rw [if_neg ha] at e
        exact .inl e⟩
    exact q (.ref l) S3 H' (g2.trans g3) (.l ((at3 l (.inl rfl)).trans hL) (reps_items hP rk (fun t ht => at3 t (.inr ht)) gs))
theorem isSub_flat (u : V) : isSub (T.a u).ty "dict" = false ∧ isSub (T.a u).ty "list" = false ∧ isSub (T.a u).ty "tuple" = false := by
  show isSub (tyOfV u) "dict" = false ∧ isSub (tyOfV u) "list" = false ∧ isSub (tyOfV u) "tuple" = false
  cases u <;> (show isSub _ _ = false ∧ isSub _ _ = false ∧ isSub _ _ = false) <;> exact ⟨rfl, rfl, rfl⟩
def isBl : V → Bool
  | .bl _ => true
  | _ => false
theorem isSub_bool (u : V) (h : flatV u = true) : isSub (T.a u).ty "bool" = isBl u := by
  show isSub (tyOfV u) "bool" = isBl u
  cases u <;> first | rfl | (cases h)
theorem scal_of {u b : V} (h : flatV u = true) (h2 : flatV b = true) (e : isBl u = isBl b) : scal u b = true := by
  cases u with
  | byt _ => cases h
  | flt _ => cases h
  | ref _ => cases h
  | ty _ => cases h
  | non =>
    cases b with
    | byt _ => cases h2
    | flt _ => cases h2
    | ref _ => cases h2
    | ty _ => cases h2
    | bl _ => rfl
    | _ => rfl
  | bl _ =>
    cases b with
    | bl _ => rfl
    | byt _ => cases h2
    | flt _ => cases h2
    | ref _ => cases h2
    | ty _ => cases h2
    | _ => cases e
  | int _ =>
    cases b with
    | byt _ => cases h2
    | flt _ => cases h2
    | ref _ => cases h2
    | ty _ => cases h2
    | bl _ => cases e
    | _ => rfl
  | str _ =>
    cases b with
    | byt _ => cases h2
    | flt _ => cases h2
    | ref _ => cases h2
    | ty _ => cases h2
    | bl _ => cases e
    | _ => rfl
open Classical in
theorem same_no {x y : T} (h : x ≠ y) : x.same y = false := by
  unfold T.same
  exact decide_eq_false h
open Classical in
theorem same_yes {x y : T} (h : x = y) : x.same y = true := by
  unfold T.same
  exact decide_eq_true h
theorem same_flat {u b : V} : decide (u = b) = (T.a u).same (.a b) := by
  by_cases h : u = b
  · rw [decide_eq_true h, same_yes (congrArg T.a h)]
  · rw [decide_eq_false h, same_no fun e => h (T.a.inj e)]
theorem nth_ext {xs ys : List T} (hl : xs.length = ys.length) (h : ∀ i, i < xs.length → nth xs i = nth ys i) : xs = ys := by
  apply List.ext_getElem?
  intro i
  by_cases hi : i < xs.length
  · rw [nth_get hi, nth_get (hl ▸ hi), h i hi]
  · rw [List.getElem?_eq_none (by omega), List.getElem?_eq_none (by omega)]
open Classical in
/-- the lists' comparison, item by item -/
theorem same_all {xs ys : List T} : (decide (xs.length = ys.length) && ((List.range (min xs.length ys.length)).map fun i => (nth xs i).same (nth ys i)).all id) = true ↔ xs = ys := by
  rw [Bool.and_eq_true, decide_eq_true_eq, List.all_map, List.all_eq_true]
  constructor
  · rintro ⟨hl, h⟩
    refine nth_ext hl fun i hi => ?_
    have := h i (List.mem_range.mpr (by omega))
    unfold T.same at this
    exact of_decide_eq_true this
  · rintro rfl
    exact ⟨rfl, fun i _ => same_yes rfl⟩
theorem same_lists {xs ys : List T} {f : List T → T} (hf : ∀ a b, f a = f b → a = b) : (decide (xs.length = ys.length) && ((List.range (min xs.length ys.length)).map fun i => (nth xs i).same (nth ys i)).all id) = (f xs).same (f ys) := by
  by_cases h : xs = ys
  · rw [same_all.mpr h, same_yes (congrArg f h)]
  · rw [same_no fun e => h (hf _ _ e), Bool.eq_false_iff]
    exact fun e => h (same_all.mp e)
/-- what holds of one level, for the levels beneath -/
theorem law_same_step (Z : Px K mg) (d : Nat) (hd : d ≤ 40) {ok : T → T → Prop}
    (ih : FnOk P w K mg base CX0 d Z._law_same.f Z._law_same.fd ["found", "due"] (sp2 K ok fun x y => .a (.bl (x.same y))))
    (hok : ∀ (x y : T) (xs ys : List T), (x = .l xs ∧ y = .l ys ∨ x = .t xs ∧ y = .t ys) → x.okS = true → y.okS = true → y.deep < d + 1 → x.sizes → y.sizes → ∀ i, i < xs.length → i < ys.length → ok (nth xs i) (nth ys i))
    (hokD : ∀ kx ky : List (Key × T), (T.d kx).okS = true → (T.d ky).okS = true → 3 < d + 1 → kx.length ≤ 40000 → ky.length ≤ 40000 → ok (.l (itemsT kx)) (.l (itemsT ky))) :
    FnOk P w K mg base CX0 (d + 1) Z._law_same.f Z._law_same.fd ["found", "due"] (sp2 K (fun x y => x.okS = true ∧ y.okS = true ∧ y.deep < d + 1 ∧ x.sizes ∧ y.sizes) fun x y => .a (.bl (x.same y))) := by
  refine Z._law_same.F.ok sc__law_same sp2_len (fun cdv A outer s H vs Q E hr h => ?_)
  obtain ⟨S, v, v2, x, y, rfl, e, r, r2, ⟨nx, ny, hdeep, zx, zy⟩, q⟩ := h
  refine ⟨_, (pss_cons (ps_if (pt_val (pe_callB (call_isiK1 (K := K)) (by rfl) Z.bl.isinstance (by decide +kernel) (pa_cons (pv 1) (pa_cons (pe_bltn (v := .ty "dict") (by rfl) Z.bl.dict (by decide +kernel) rfl) pa_nil))))
   (pss_one (ps_ret (pe_and (pe_callB (call_isiK1 (K := K)) (by rfl) Z.bl.isinstance (by decide +kernel) (pa_cons (pv 0) (pa_cons (pe_bltn (v := .ty "dict") (by rfl) Z.bl.dict (by decide +kernel) rfl) pa_nil))) (pe_one (pe_call ih hr (by rfl) Z._law_same.g Z._law_same.F.kp Z._law_same.b .nil pass0 (pa_cons (LiI.pe_listItems rfl (pv 0) (by rfl) Z.bl.list (by decide +kernel)) (pa_cons (LiI.pe_listItems rfl (pv 1) (by rfl) Z.bl.list (by decide +kernel)) pa_nil)))))))
   pss_nil)
  (pss_cons (ps_if (pt_val (pe_callB (call_isiTK (K := K)) (by rfl) Z.bl.isinstance (by decide +kernel) (pa_cons (pv 1) (pa_cons (pe_tup (pa_cons (pe_bltn (v := .ty "list") (by rfl) Z.bl.list (by decide +kernel) rfl) (pa_cons (pe_bltn (v := .ty "tuple") (by rfl) Z.bl.tuple (by decide +kernel) rfl) pa_nil))) pa_nil))))
   (pss_cons (ps_if (PW.pt (pw_or (pt_cmpR op_ne (pe_callB (call_isiK1 (K := K)) (by rfl) Z.bl.isinstance (by decide +kernel) (pa_cons (pv 0) (pa_cons (pe_bltn (v := .ty "list") (by rfl) Z.bl.list (by decide +kernel) rfl) pa_nil))) (pe_callB (call_isiK1 (K := K)) (by rfl) Z.bl.isinstance (by decide +kernel) (pa_cons (pv 1) (pa_cons (pe_bltn (v := .ty "list") (by rfl) Z.bl.list (by decide +kernel) rfl) pa_nil))) (nomark _)) (pw_or1 (pt_cmpR op_ne (pe_callB (call_isiK1 (K := K)) (by rfl) Z.bl.isinstance (by decide +kernel) (pa_cons (pv 0) (pa_cons (pe_bltn (v := .ty "tuple") (by rfl) Z.bl.tuple (by decide +kernel) rfl) pa_nil))) (pe_callB (call_isiK1 (K := K)) (by rfl) Z.bl.isinstance (by decide +kernel) (pa_cons (pv 1) (pa_cons (pe_bltn (v := .ty "tuple") (by rfl) Z.bl.tuple (by decide +kernel) rfl) pa_nil))) (nomark _)))))
   (pss_one (ps_ret pe_bl))
   pss_nil)
  (pss_one (ps_ret (pe_and (pe_cmpR op_eq (pe_callB (call_lenK (K := K)) (by rfl) Z.bl.len (by decide +kernel) (pa_cons (pv 0) pa_nil)) (pe_callB (call_lenK (K := K)) (by rfl) Z.bl.len (by decide +kernel) (pa_cons (pv 1) pa_nil)) (nomark _)) (pe_one (pe_callB (cr_allK (K := K) rfl) (by rfl) Z.bl.all (by decide +kernel) (pa_cons (pe_lc (own := [("one", 2), ("other", 3)]) (g := _) (tt := tYes) rfl sc__law_same.nd (pi_zipAK (K := K) (by rfl) Z.bl.zip (pa_cons (pv 0) (pa_cons (pv 1) pa_nil))) (blkOk_by (N := ["found", "due", "one", "other"]) (sc := defScope s__law_same) (own := [("one", 2), ("other", 3)]) (by decide +kernel)) (fun _ _ _ _ _ => (show PG _ _ (gTup K 2 _) from pg_tup (by rfl) (pgs_cons (pg_name (i := 2) sc__law_same.nd rfl (.inl rfl)) (pgs_cons (pg_name (i := 3) sc__law_same.nd rfl (.inl rfl)) pgs_nil)))) (fun _ _ _ _ _ => pts_nil) (fun _ _ _ _ _ => by exact (pe_call ih hr (by rfl) Z._law_same.g Z._law_same.F.kp Z._law_same.b .nil pass0 (pa_cons (pv 2) (pa_cons (pv 3) pa_nil))))) pa_nil)))))))
   pss_nil)
  (pss_cons (ps_if (PW.pt (pw_or (pt_val (pe_callB (call_isiTK (K := K)) (by rfl) Z.bl.isinstance (by decide +kernel) (pa_cons (pv 0) (pa_cons (pe_tup (pa_cons (pe_bltn (v := .ty "dict") (by rfl) Z.bl.dict (by decide +kernel) rfl) (pa_cons (pe_bltn (v := .ty "list") (by rfl) Z.bl.list (by decide +kernel) rfl) (pa_cons (pe_bltn (v := .ty "tuple") (by rfl) Z.bl.tuple (by decide +kernel) rfl) pa_nil)))) pa_nil)))) (pw_or1 (pt_cmpR op_ne (pe_callB (call_isiK1 (K := K)) (by rfl) Z.bl.isinstance (by decide +kernel) (pa_cons (pv 0) (pa_cons (pe_bltn (v := .ty "bool") (by rfl) Z.bl.bool (by decide +kernel) rfl) pa_nil))) (pe_callB (call_isiK1 (K := K)) (by rfl) Z.bl.isinstance (by decide +kernel) (pa_cons (pv 1) (pa_cons (pe_bltn (v := .ty "bool") (by rfl) Z.bl.bool (by decide +kernel) rfl) pa_nil))) (nomark _)))))
   (pss_one (ps_ret pe_bl))
   pss_nil)
  (pss_one (ps_ret (pe_cmpR op_eq (pv 0) (pv 1) (nomark _))))))), ?_⟩
  have hf : Ev (tVar 0) (start ["found", "due", "one", "other"] [v, v2]) S H (R K x) := ev_var rfl r
  have hu : Ev (tVar 1) (start ["found", "due", "one", "other"] [v, v2]) S H (R K y) := ev_var rfl r2
  -- isinstance(due, dict)
  refine (et_B (ev_isi hu (by decide) (by decide))).at e fun S1 H1 g1 => ?_
  cases yd : isSub y.ty "dict" with
  | true =>
    obtain ⟨ky, rfl⟩ : ∃ ky, y = .d ky := by
      cases y with
      | a b => rw [(isSub_flat b).1] at yd; cases yd
      | l _ => cases yd
      | t _ => cases yd
      | d ky => exact ⟨ky, rfl⟩
    refine iteT ?_
    have bd := (ev_isi (c := "dict") hf (by decide) (by decide)).go g1
    cases xd : isSub x.ty "dict" with
    | true =>
      obtain ⟨kx, rfl⟩ : ∃ kx, x = .d kx := by
        cases x with
        | a b0 => rw [(isSub_flat b0).1] at xd; cases xd
        | l _ => cases xd
        | t _ => cases xd
        | d kx => exact ⟨kx, rfl⟩
      rw [xd] at bd
      have c := ev_call2 (K := K) (E := E0) (ok := ok) (f := fun x y => .a (.bl (x.same y))) (ev_items (hf.go g1)) (ev_items (hu.go g1)) (hokD kx ky nx ny hdeep zx zy)
      refine (ev_andV bd fun _ => c.Is).at g1.sub fun u S2 H2 g2 eu => ?_
      have eu : u = _ := eu
      subst eu
      refine q _ S2 H2 (g1.trans g2) (rep_bl ?_)
      rw [Bool.true_and]
      by_cases hk : kx = ky
      · rw [hk, same_yes rfl, same_yes rfl]
      · rw [same_no fun e => hk (itemsT_inj (T.l.inj e)), same_no fun e => hk (T.d.inj e)]
    | false =>
      rw [xd] at bd
      refine (ev_andV (b := false) bd fun z => by cases z).at g1.sub fun u S2 H2 g2 eu => ?_
      have eu : u = _ := eu
      subst eu
      refine q _ S2 H2 (g1.trans g2) (rep_bl (same_no (fun e => ?_)).symm)
      subst e
      cases xd
  | false =>
  refine iteF ?_
  -- isinstance(due, (list, tuple))
  refine ((et_B (ev_isi2 hu (by decide) (by decide) (by decide) (by decide))).go g1).at g1.sub fun S2 H2 g2 => ?_
  have g := g1.trans g2
  by_cases hs : (isSub y.ty "list" || isSub y.ty "tuple") = true
  · rw [hs]
    refine iteT ?_
    have b1 := fun c hc hn => (ev_isi (c := c) hf hc hn).go g
    have b2 := fun c hc hn => (ev_isi (c := c) hu hc hn).go g
    have t1 := fun c hc hn => et_test (ev_ne (b1 c hc hn) (b2 c hc hn) rfl)
    refine ((et_or (t1 "list" (by decide) (by decide)) fun _ => t1 "tuple" (by decide) (by decide))).at g.sub fun S3 H3 g3 => ?_
    have gg := g.trans g3
    -- unlike kinds
    have no : (isSub x.ty "list" ≠ isSub y.ty "list" ∨ isSub x.ty "tuple" ≠ isSub y.ty "tuple") → x.same y = false := fun h => same_no fun e => by subst e; exact h.elim (fun h => h rfl) fun h => h rfl
    by_cases hk : isSub x.ty "list" = isSub y.ty "list" ∧ isSub x.ty "tuple" = isSub y.ty "tuple"
    · have z1 : (!decide (V.bl (isSub x.ty "list") = V.bl (isSub y.ty "list")) || !decide (V.bl (isSub x.ty "tuple") = V.bl (isSub y.ty "tuple"))) = false := by rw [hk.1, hk.2, decide_eq_true rfl, decide_eq_true rfl]; rfl
      rw [z1]
      refine iteF ?_
      obtain ⟨xs, ys, hxy, hlx, hly, hn1, hn2⟩ : ∃ xs ys, (x = .l xs ∧ y = .l ys ∨ x = .t xs ∧ y = .t ys) ∧ x.len = some xs.length ∧ y.len = some ys.length ∧ xs.length ≤ 40000 ∧ ys.length ≤ 40000 := by
        cases y with
        | a b => rw [(isSub_flat b).2.1, (isSub_flat b).2.2] at hs; cases hs
        | d _ => cases yd
        | l ys =>
          cases x with
          | l xs => exact ⟨xs, ys, .inl ⟨rfl, rfl⟩, rfl, rfl, zx.1, zy.1⟩
          | a b => have := hk.1; rw [(isSub_flat b).2.1] at this; cases this
          | t xs => cases hk.1
          | d _ => cases hk.1
        | t ys =>
          cases x with
          | t xs => exact ⟨xs, ys, .inr ⟨rfl, rfl⟩, rfl, rfl, zx.1, zy.1⟩
          | a b => have := hk.2; rw [(isSub_flat b).2.2] at this; cases this
          | l xs => cases hk.2
          | d _ => cases hk.2
      have l1 : Ev _ _ S3 H3 (Is (.bl (decide (V.int (xs.length : Nat) = V.int (ys.length : Nat))))) := ev_eq ((ev_len hf hlx).go gg) ((ev_len hu hly).go gg) rfl
      have zi : EvI (iZipA K (tCons (tVar 0) (tCons (tVar 1) tNil))) (start ["found", "due", "one", "other"] [v, v2]) S3 H3 (min xs.length ys.length) (fun i => Pr (R K (nth xs i)) (R K (nth ys i))) := by
        rcases hxy with ⟨rfl, rfl⟩ | ⟨rfl, rfl⟩
        · exact ei_zipL (hf.go gg) (hu.go gg)
        · exact ei_zipT (hf.go gg) (hu.go gg)
      have c1 := ev_lc2 (K := K) (tt := tYes) (te := tCall (sp2 K ok fun x y => .a (.bl (x.same y))) [] E0 (tCons (tVar 2) (tCons (tVar 3) tNil))) (j := 2) (k := 3) (vs := [2, 3]) zi (by omega) (fun _ _ => rfl) (fun _ => true) (fun i => .a (.bl ((nth xs i).same (nth ys i))))
        (fun i a b S4 H4 hi g4 pa pb => et_yes) (fun i a b S4 H4 hi g4 pa pb _ => ev_call2 (ev_var (P := R K _) rfl pa) (ev_var (P := R K _) rfl pb) (hok x y xs ys hxy nx ny hdeep zx zy i (by omega) (by omega)))
      rw [filter_all] at c1
      have c2 := ev_all (K := K) (bs := (List.range (min xs.length ys.length)).map fun i => (nth xs i).same (nth ys i)) (by rw [List.map_map]; exact c1)
      refine (ev_andV l1 fun _ => c2).at gg.sub fun u S4 H4 g4 eu => ?_
      have eu : u = _ := eu
      subst eu
      refine q _ S4 H4 (gg.trans g4) (rep_bl ?_)
      have hdl : decide (V.int (xs.length : Nat) = V.int (ys.length : Nat)) = decide (xs.length = ys.length) := by
        rw [decide_eq_decide]
        exact ⟨fun h => Int.ofNat.inj (V.int.inj h), fun h => by rw [h]⟩
      rw [hdl]
      rcases hxy with ⟨rfl, rfl⟩ | ⟨rfl, rfl⟩
      · exact same_lists (f := T.l) fun a b h => T.l.inj h
      · exact same_lists (f := T.t) fun a b h => T.t.inj h
    · have z1 : (!decide (V.bl (isSub x.ty "list") = V.bl (isSub y.ty "list")) || !decide (V.bl (isSub x.ty "tuple") = V.bl (isSub y.ty "tuple"))) = true := by
        rw [Bool.or_eq_true]
        by_cases h1 : isSub x.ty "list" = isSub y.ty "list"
        · refine .inr ?_
          rw [decide_eq_false fun h => hk ⟨h1, V.bl.inj h⟩]
          rfl
        · refine .inl ?_
          rw [decide_eq_false fun h => h1 (V.bl.inj h)]
          rfl
      rw [z1]
      refine iteT ?_
      refine q _ S3 H3 gg (rep_bl (no ?_).symm)
      by_cases h1 : isSub x.ty "list" = isSub y.ty "list"
      · exact .inr fun h => hk ⟨h1, h⟩
      · exact .inl h1
  · rw [Bool.not_eq_true] at hs
    rw [hs]
    refine iteF ?_
    obtain ⟨b, rfl, fb⟩ : ∃ b, y = .a b ∧ flatV b = true := by
      cases r2 with
      | a h => exact ⟨_, rfl, h⟩
      | l _ _ => cases hs
      | t _ _ => cases hs
      | d _ _ => cases yd
    have b0 := (ev_isi3 hf (by decide : "dict" ∈ dataTys) (by decide) (by decide : "list" ∈ dataTys) (by decide) (by decide : "tuple" ∈ dataTys) (by decide)).go g
    have b1 := (ev_isi hf (by decide : "bool" ∈ dataTys) (by decide)).go g
    have b2 := (ev_isi hu (by decide : "bool" ∈ dataTys) (by decide)).go g
    refine (et_or (et_B b0) fun _ => et_test (ev_ne b1 b2 rfl)).at g.sub fun S3 H3 g3 => ?_
    have gg := g.trans g3
    cases r with
    | l _ _ =>
      refine iteT ?_
      exact q _ S3 H3 gg (rep_bl (same_no (fun e => by cases e)).symm)
    | t _ _ =>
      refine iteT ?_
      exact q _ S3 H3 gg (rep_bl (same_no (fun e => by cases e)).symm)
    | d _ _ =>
      refine iteT ?_
      exact q _ S3 H3 gg (rep_bl (same_no (fun e => by cases e)).symm)
    | a fu =>
      rw [(isSub_flat v).1, (isSub_flat v).2.1, (isSub_flat v).2.2, isSub_bool v fu, isSub_bool b fb]
      by_cases hb : isBl v = isBl b
      · rw [hb, decide_eq_true rfl]
        refine iteF ?_
        refine (ev_eq (hf.go gg).Is (hu.go gg).Is (scal_of fu fb hb)).at gg.sub fun w S4 H4 g4 ew => ?_
        have ew : w = _ := ew
        subst ew
        exact q _ S4 H4 (gg.trans g4) (rep_bl same_flat)
      · rw [decide_eq_false fun h => hb (V.bl.inj h)]
        refine iteT ?_
        exact q _ S3 H3 gg (rep_bl (same_no fun e => hb (congrArg isBl (T.a.inj e))).symm)
def okSame (d : Nat) (x y : T) : Prop := x.okS = true ∧ y.okS = true ∧ y.deep < d ∧ x.sizes ∧ y.sizes
theorem deeps_of {xs : List T} {i : Nat} {y : T} {d : Nat} (h : y = .l xs ∨ y = .t xs) (hd : y.deep < d + 1) (hi : i < xs.length) : (nth xs i).deep < d := by
  have := deep_nth hi
  have h2 : y.deep = deeps xs + 1 := by rcases h with rfl | rfl <;> rfl
  omega
theorem ok__law_same (Z : Px K mg) : ∀ d, d ≤ 40 → FnOk P w K mg base CX0 (d + 1) Z._law_same.f Z._law_same.fd ["found", "due"] (sp2 K (okSame (d + 1)) fun x y => .a (.bl (x.same y)))
  | 0, hd => law_same_step Z 0 hd (ok := fun _ _ => False) ⟨sp2_len, fun A outer s H args us vs Q E hr e0 hb rv hsp => by obtain ⟨_, _, _, _, _, _, _, _, _, f, _⟩ := hsp; exact f.elim⟩
      (fun x y xs ys h nx ny hdp zx zy i h1 h2 => by
        have h2' : y.deep = deeps ys + 1 := by rcases h with ⟨_, rfl⟩ | ⟨_, rfl⟩ <;> rfl
        omega) fun kx ky nx ny h3 zx zy => by omega
  | d + 1, hd => law_same_step Z (d + 1) hd (ok__law_same Z d (by omega)) (fun x y xs ys h nx ny hdp zx zy i h1 h2 => by
      rcases h with ⟨rfl, rfl⟩ | ⟨rfl, rfl⟩
      · exact ⟨okS_nth nx h1, okS_nth ny h2, deeps_of (.inl rfl) hdp h2, sizes_nth zx.2 h1, sizes_nth zy.2 h2⟩
      · exact ⟨okS_nth nx h1, okS_nth ny h2, deeps_of (.inr rfl) hdp h2, sizes_nth zx.2 h1, sizes_nth zy.2 h2⟩) fun kx ky nx ny h3 zx zy =>
      ⟨(items_ok nx).1, (items_ok ny).1, by
        have := (items_ok ny).2
        show deeps (itemsT ky) + 1 < d + 1
        omega, ⟨by unfold itemsT; rw [List.length_map]; exact zx, sizes_items nx⟩, ⟨by unfold itemsT; rw [List.length_map]; exact zy, sizes_items ny⟩⟩
end
end Uw
end
section
set_option Elab.async false
set_option linter.all false
set_option maxRecDepth 100000
namespace Uw
open PySem PySem.Spec PyProof.Rows L2 RZ
section
variable {P : Program} {w : World} {K : PySem.W.Frag} {mg : Str → Option Value} {base : Heap}
variable {σ : L2.St} {S S' H H' : Hp} {ta tb tc te tx tl : TE}
/-- some int -/
def AnyI : Pd := ⟨fun _ v => ∃ i, v = .int i, fun _ h => h⟩
theorem Is.any {te : TE} {i : Int} (h : Ev te σ S H (Is (.int i))) : Ev te σ S H AnyI := h.imp fun _ _ e => ⟨i, e⟩
theorem ev_lenQ {a : Addr} {vs : List V} (h : SqL K S a vs) (ha : Ev ta σ S H (Is (.ref a))) : Ev (tCB (rLenA K) (tCons ta tNil)) σ S H (Is (.int (vs.length : Nat))) := fun S1 H1 g Q q =>
  ha S1 H1 g _ fun v S2 H2 g2 e => by
    have e : v = .ref a := e
    subst e
    exact ⟨_, _, rfl, .inl ⟨vs, ((g.s.trans g2.s).trans g2.sub).seq h, rfl⟩, q _ S2 H2 g2 rfl⟩
theorem ev_ixQ {a : Addr} {vs : List V} {i : Int} {v : V} (h : SqL K S a vs) (ha : Ev ta σ S H (Is (.ref a))) (hb : Ev tb σ S H (Is (.int i))) (hv : L2.atI vs i = some v) : Ev (tOp (rIx K) ta tb) σ S H (Is v) :=
  ev_op ha hb fun u y S1 H1 g e e' => by
    have e : u = .ref a := e
    have e' : y = .int i := e'
    subst e e'
    exact op_val g.sub rfl fun Q q => .inl ⟨a, vs, i, v, rfl, rfl, (g.s.trans g.sub).seq h, hv, q⟩
theorem ev_abs {i : Int} (h : Ev ta σ S H (Is (.int i))) : Ev (tCB (fun xs H Q => ∃ i, xs = [.int i] ∧ Q (.int (if i < 0 then -i else i)) H) (tCons ta tNil)) σ S H (Is (.int (if i < 0 then -i else i))) := fun S1 H1 g Q q =>
  h S1 H1 g _ fun v S2 H2 g2 e => ⟨i, congrArg (fun z => [z]) e, q _ S2 H2 g2 rfl⟩
/-- sum(script[:1]) -/
theorem ev_sum1 {a : Addr} {ns : List Int} (h : SqL K S a (ns.map V.int)) (ha : Ev ta σ S H (Is (.ref a))) : Ev (tCB (rSum K) (tCons (tSl (rSlA K) ta tNoPart (tPart (tC (.int 1)))) tNil)) σ S H (Is (.int (ns.take 1).sum)) := fun S1 H1 g Q q =>
  ha S1 H1 g _ fun v S2 H2 g2 e => ⟨1, rfl, by
    have e : v = .ref a := e
    subst e
    have gg := g.trans g2
    refine .inl ⟨a, ns.map V.int, rfl, (gg.s.trans gg.sub).seq h, fun p hp => ⟨p, ns.take 1, rfl, ?_, q _ S2 _ (g2.trans (.vol gg.sub hp)) rfl⟩⟩
    have hc : cutV (ns.map V.int) none (some 1) = (ns.take 1).map V.int := by
      rw [List.map_take]
      exact cutG_to (ns.map V.int) 1
    rw [hc]
    exact .inl (.inl upd_same)⟩
theorem ei_enumQ {a : Addr} {ns : List Int} (h : SqL K S a (ns.map V.int)) (ha : Ev ta σ S H (Is (.ref a))) : EvI (iEnum K (tCons ta tNil)) σ S H (ns.map V.int).length (fun i => Pr (Is (.int (i : Nat))) AnyI) := fun S1 H1 g Q q => ha S1 H1 g _ fun v S2 H2 g2 e => by
  have e : v = .ref a := e
  subst e
  have gg := g.trans g2
  have h2 := gg.s.seq h
  refine ⟨a, ns.map V.int, rfl, (gg.s.trans gg.sub).seq h, q _ S2 H2 g2 (wk_enum (it := fun _ => AnyI) h2 fun i hi => ?_)⟩
  rw [List.length_map] at hi
  exact ⟨.int ns[i], by rw [List.getElem?_map, List.getElem?_eq_getElem hi]; rfl, ns[i], rfl⟩
def spWell (K : PySem.W.Frag) : Sp := fun vs H Q _ => ∃ (S : Hp) (a : Addr) (ns : List Int) (place : Nat), vs = [.ref a, .int place] ∧ Same S H ∧ SqL K S a (ns.map V.int) ∧ ns.length ≤ 63 ∧ place ≤ 10 ∧
  ∀ (p : Addr) (S' H' : Hp), H p = none → Grow S H S' H' → S' p = none → Well H' p 0 → Q (.ref p) H'
theorem ok__law_well (Z : Px K mg) : FnOk P w K mg base CX0 1 Z._law_well.f Z._law_well.fd ["script", "place"] (spWell K) := by
  refine Z._law_well.F.ok sc__law_well (by rintro vs H Q E ⟨S, w, c, m, rfl, _⟩; rfl) (fun cdv A outer s H vs Q E hr h => ?_)
  obtain ⟨S, a, ns, place, rfl, e, hS, hlen, hpl, q⟩ := h
  refine ⟨_, (pss_cons (ps_set (i := 2) sc__law_well.nd rfl (.inl rfl) (pe_ifExp (pt_cmpR op_lt (pv 1) (pe_callB (call_lenK (K := K)) (by rfl) Z.bl.len (by decide +kernel) (pa_cons (pv 0) pa_nil)) (nomark _)) (pe_ix (ixK (K := K)) (pv 0) (pv 1) (fun _ _ => rfl)) (pe_op op_add (pe_op op_add (pe_op op_mod (pe_callTy call_int1 (by rfl) Z.bl.int (by decide +kernel) (pa_cons (pe_callB (cr_sumK (K := K) rfl) (by rfl) Z.bl.sum (by decide +kernel) (pa_cons (pe_slice (sl_anyK (K := K)) (pv 0) po_none (po_some pe_int)) pa_nil)) pa_nil)) pe_int) (pe_op op_mul pe_int (pv 1))) pe_int)))
  (pss_cons (ps_set (i := 3) sc__law_well.nd rfl (.inl rfl) pe_int)
  (pss_cons (ps_for PassesOwn.never rfl (pi_enumK (K := K) (by rfl) Z.bl.enumerate (pa_cons (pv 0) pa_nil)) (show PG _ _ (gTup K 2 _) from pg_tup (by rfl) (pgs_cons (pg_name (i := 4) sc__law_well.nd rfl (.inl rfl)) (pgs_cons (pg_name (i := 5) sc__law_well.nd rfl (.inl rfl)) pgs_nil)))
   (pss_one (ps_set (i := 3) sc__law_well.nd rfl (.inl rfl) (pe_op op_mod (pe_callTy call_int1 (by rfl) Z.bl.int (by decide +kernel) (pa_cons (pe_op op_add (pe_op op_add (pe_op op_mul (pv 3) pe_int) (pe_callB call_abs (by rfl) Z.bl.abs (by decide +kernel) (pa_cons (pv 5) pa_nil))) (pv 4)) pa_nil)) pe_int))))
  (pss_one (ps_ret (pe_lst (pa_cons (pe_ifExp (pt_cmpR op_ge (pv 2) (pe_op op_pow pe_int pe_int) (nomark _)) (pv 2) pe_int) (pa_cons (pe_op op_add (pe_op op_mod (pe_callTy call_int1 (by rfl) Z.bl.int (by decide +kernel) (pa_cons (pe_op op_add (pe_callB call_abs (by rfl) Z.bl.abs (by decide +kernel) (pa_cons (pv 2) pa_nil)) (pe_op op_mul pe_int (pv 3))) pa_nil)) pe_int) (pe_op op_mul pe_int (pv 1))) (pa_cons pe_int pa_nil))))))))), ?_⟩
  -- cell
  have hlt : Ev (tOp _ _ _) (start ["script", "place", "cell", "mixed", "at", "one"] [.ref a, .int place]) S H (Is (.bl (decide ((place : Int) < ((ns.map V.int).length : Nat))))) := ev_I0 (g := fun i j => .bl (decide (i < j))) (is_var (v := .int place) (i := 1) rfl) (ev_lenQ hS (is_var (i := 0) rfl))
  refine (ev_if (P := AnyI) (et_test hlt) (fun hb => ?_) fun _ => ?_).at e fun u S1 H1 g1 hu => ?_
  · rw [decide_eq_true_eq, List.length_map] at hb
    have hb : place < ns.length := by omega
    exact Is.any (ev_ixQ (v := .int ns[place]) hS (is_var rfl) (is_var rfl) (atI_nat (by rw [List.getElem?_map, List.getElem?_eq_getElem hb]; rfl)))
  · exact Is.any (ev_I0 (g := fun i j => .int (i + j)) (ev_I0 (g := fun i j => .int (i + j)) (ev_I (g := fun i j => .int (i % j)) (C := fun _ j => 0 < j) (ev_int1 (ev_sum1 hS (is_var rfl))) (is_c (v := .int 999983)) (by decide)) (ev_I (g := fun i j => .int (i * j)) (C := CMul) (is_c (v := .int 11)) (is_var rfl) (.inl ⟨by decide, by decide⟩))) (is_c (v := .int 5)))
  obtain ⟨cell, rfl⟩ := hu
  -- the loop
  refine at_for (ei_enumQ (g1.s.seq hS) (is_var (i := 0) rfl)) g1.sub fun S2 H2 g2 => ⟨fun i σ' S' H' => ∃ (m : Int) (y4 y5 : Option V), σ' = [some (.ref a), some (.int place), some (.int cell), some (.int m), y4, y5] ∧ 0 ≤ m ∧ m < 2147483629 ∧ Grow S H S' H' ∧ Same S2 S',
    fun i σ' S' H' ⟨m, y4, y5, _, _, _, g, s2⟩ => ⟨s2, g.sub⟩, ⟨0, none, none, rfl, by decide, by decide, g1.trans g2, Same.refl _⟩, fun i σ' S' H' x S3 H3 hi hP g3 px => ?_, fun σ' S' H' hP => ?_⟩
  · obtain ⟨m, y4, y5, rfl, m0, m1, g, s2⟩ := hP
    refine at_pair g3.sub px fun x1 x2 p1 p2 => ?_
    have p1 : x1 = .int (i : Nat) := p1
    obtain ⟨one, rfl⟩ := p2
    subst p1
    have k1 := ev_I (g := fun i j => .int (i % j)) (C := fun _ j => 0 < j) (S := S3) (H := H3) (σ := [some (.ref a), some (.int place), some (.int cell), some (.int m), some (.int (i : Nat)), some (.int one)]) (ev_int1 (ev_I0 (g := fun i j => .int (i + j)) (ev_I0 (g := fun i j => .int (i + j)) (ev_I (g := fun i j => .int (i * j)) (C := CMul) (is_var (i := 3) rfl) (is_c (v := .int 131)) (.inr ⟨by decide, by decide⟩)) (ev_abs (is_var (i := 5) rfl))) (is_var (i := 4) rfl))) (is_c (v := .int 2147483629)) (by decide)
    refine k1.at g3.sub fun u S4 H4 g4 eu => ?_
    have eu : u = _ := eu
    subst eu
    exact ⟨S4, _, _, _, rfl, Int.emod_nonneg _ (by decide), Int.emod_lt_of_pos _ (by decide), g.trans (g3.trans g4), s2.trans (g3.s.trans g4.s)⟩
  · obtain ⟨m, y4, y5, rfl, m0, m1, g, s2⟩ := hP
    have c1 : Ev (tOp _ _ _) [some (.ref a), some (.int place), some (.int cell), some (.int m), y4, y5] S' H' (Is (.bl (decide ((10 : Int) ^ (18 : Int).toNat ≤ cell)))) := ev_I0 (g := fun i j => .bl (decide (j ≤ i))) (is_var (i := 2) rfl) (ev_I (g := fun i j => .int (i ^ j.toNat)) (C := CPow) (is_c (v := .int 10)) (is_c (v := .int 18)) ⟨by decide, by decide, by decide⟩)
    have c2 : Ev _ _ S' H' AnyI := ev_if (et_test c1) (fun _ => Is.any (is_var (i := 2) (v := .int cell) rfl)) fun _ => Is.any (is_c (v := .int 0))
    have c3 := ev_I0 (g := fun i j => .int (i + j)) (S := S') (H := H') (σ := [some (.ref a), some (.int place), some (.int cell), some (.int m), y4, y5]) (ev_I (g := fun i j => .int (i % j)) (C := fun _ j => 0 < j) (ev_int1 (ev_I0 (g := fun i j => .int (i + j)) (ev_abs (is_var (i := 2) rfl)) (ev_I (g := fun i j => .int (i * j)) (C := CMul) (is_c (v := .int 31)) (is_var (i := 3) rfl) (.inl ⟨by decide, by decide⟩)))) (is_c (v := .int 2147483629)) (by decide)) (ev_I (g := fun i j => .int (i * j)) (C := CMul) (is_c (v := .int 17)) (is_var (i := 1) (v := .int place) rfl) (.inl ⟨by decide, by decide⟩))
    refine c2.at g.sub fun u S3 H3 g3 hu => (c3.go g3).at g3.sub fun u2 S4 H4 g4 hu2 => ?_
    obtain ⟨c0, rfl⟩ := hu
    have hu2 : u2 = _ := hu2
    subst hu2
    refine ⟨by show 3 ≤ sizeLine; decide, fun p hp => ?_⟩
    have gg := g.trans (g3.trans g4)
    refine q p S4 _ (gg.h.free hp) (gg.trans (.vol gg.sub hp)) (gg.sub.free hp) ⟨c0, _, upd_same, ?_, ?_⟩
    · have := Int.emod_nonneg ((if cell < 0 then -cell else cell) + 31 * m) (show (2147483629 : Int) ≠ 0 by decide)
      omega
    · have := Int.emod_lt_of_pos ((if cell < 0 then -cell else cell) + 31 * m) (show (0 : Int) < 2147483629 by decide)
      omega
end
end Uw
end
section
set_option Elab.async false
set_option linter.all false
set_option maxRecDepth 100000
namespace Uw
open PySem PySem.Spec PyProof.Rows L2 RZ
def names10 : List Str := ["a", "data", "kek", "kw2", "root", "x", "own", "made", "eightsgn", "eightsga"]
def names4 : List Str := ["x", "y", "data", "z9"]
/-- some of these texts, ascending, each once -/
def someOf (from' : List Str) (zs : List Str) : Prop := Up strO zs ∧ zs.Nodup ∧ ∀ z ∈ zs, z ∈ from'
theorem perm_map_inv {α β : Type} {f : α → β} : ∀ {xs : List α} {ys : List β}, ys.Perm (xs.map f) → ∃ zs : List α, ys = zs.map f ∧ zs.Perm xs := by
  intro xs ys h
  generalize he : xs.map f = l at h
  induction h generalizing xs with
  | nil =>
    cases xs with
    | nil => exact ⟨[], rfl, .refl _⟩
    | cons _ _ => cases he
  | cons x p ih =>
    cases xs with
    | nil => cases he
    | cons a r =>
      rw [List.map_cons] at he
      injection he with h1 h2
      obtain ⟨zs, rfl, hz⟩ := ih h2
      exact ⟨a :: zs, by rw [List.map_cons, h1], hz.cons a⟩
  | swap x y l =>
    match xs, he with
    | a :: b :: r, he =>
      rw [List.map_cons, List.map_cons] at he
      injection he with h1 h2
      injection h2 with h2 h3
      exact ⟨b :: a :: r, by rw [List.map_cons, List.map_cons, h1, h2, h3], .swap a b r⟩
    | [], he => cases he
    | [a], he => cases he
  | trans p1 p2 ih1 ih2 =>
    obtain ⟨zs, e, hz⟩ := ih2 he
    obtain ⟨zs', e', hz'⟩ := ih1 e.symm
    exact ⟨zs', e', hz'.trans hz⟩
theorem someOf_take {from' zs : List Str} (hn : from'.Nodup) (p : zs.Perm from') (k : Nat) : someOf from' (isort strO (zs.take k)) :=
  ⟨isort_up _, (isort_perm _).nodup_iff.mpr ((p.nodup_iff.mpr hn).sublist (List.take_sublist k zs)), fun z hz => p.mem_iff.mp (List.mem_of_mem_take ((isort_perm _).mem_iff.mp hz))⟩
section
variable {P : Program} {w : World} {K : PySem.W.Frag} {mg : Str → Option Value} {base : Heap}
variable {σ : L2.St} {S S' H H' : Hp} {ta tb tc te tx tl : TE}
def tStrs : List Str → TA
  | [] => tNil
  | z :: zs => tCons (tC (.str z)) (tStrs zs)
theorem ea_strs : ∀ (zs : List Str), EvA (tStrs zs) σ S H ((zs.map tS).map (R K))
  | [] => ea_nil
  | z :: zs => ea_cons (ev_c (.a rfl)) (ea_strs zs)
theorem ev_strs (zs : List Str) (hn : zs.length ≤ 100000) : Ev (tLst (tStrs zs)) σ S H (R K (.l (zs.map tS))) := ev_lst (ea_strs zs) (by rw [List.length_map]; exact hn)
theorem Stp.zero {w : Addr} {c n c' : Nat} {S1 H1 S2 H2 : Hp} (g : Grow S H S1 H1) (hs : S w = none) (hw : Well H w c) (b : Stp S1 H1 w c n S2 H2 c') : Stp S H w c n S2 H2 c' := by
  have := (Stp.of g hs hw).trans b
  rw [Nat.zero_add] at this
  exact this
def spBn (K : PySem.W.Frag) : Sp := fun vs H Q _ => ∃ (S : Hp) (w : Addr) (c m : Nat), vs = [.ref w, .int m] ∧ Same S H ∧ S w = none ∧ Well H w c ∧ c ≤ 998000000000 ∧ m ≤ 10 ∧
  ∀ (u : V) (zs : List Str) (c' : Nat) S' H', Stp S H w c 100 S' H' c' → Rep K S' u (.l (zs.map tS)) → someOf names10 zs → zs.length = m → Q u H'
theorem ok__law_b_names (Z : Px K mg) : FnOk P w K mg base CX0 3 Z._law_b_names.f Z._law_b_names.fd ["well", "many"] (spBn K) := by
  refine Z._law_b_names.F.ok sc__law_b_names (by rintro vs H Q E ⟨S, w, c, m, rfl, _⟩; rfl) (fun cdv A outer s H vs Q E hr h => ?_)
  obtain ⟨S, wl, c, m, rfl, e, hw, hW, hc, hm, q⟩ := h
  refine ⟨_, (pss_cons (ps_set (i := 2) sc__law_b_names.nd rfl (.inl rfl) (pe_lst (pa_cons pe_str (pa_cons pe_str (pa_cons pe_str (pa_cons pe_str (pa_cons pe_str (pa_cons pe_str (pa_cons pe_str (pa_cons pe_str (pa_cons pe_str (pa_cons pe_str pa_nil))))))))))))
  (pss_one (ps_ret (pe_callB (cr_sortedSK (K := K)) (by rfl) Z.bl.sorted (by decide +kernel) (pa_cons (pe_slice (sl_anyK (K := K)) (pe_call (ok__law_mixed Z) (hr.mono (by decide)) (by rfl) Z._law_mixed.g Z._law_mixed.F.kp Z._law_mixed.b .nil pass0 (pa_cons (pv 0) (pa_cons (pv 2) pa_nil))) po_none (po_some (pv 1))) pa_nil))))), ?_⟩
  refine q_set (ev_strs (K := K) names10 (by decide)) e fun u S1 H1 g1 r1 => ?_
  have hw1 : S1 wl = none := by obtain ⟨o, ho⟩ := hW.some; exact g1.out hw ho
  refine at_W (x := .l (names10.map tS)) g1.sub hw1 (hW.same g1.h) (by omega) (is_var rfl) (ev_var (P := R K _) rfl r1) (by show (names10.map tS).length ≤ 100; decide) fun u2 y c2 S2 H2 st r2 py => ?_
  obtain ⟨ys, rfl, hp⟩ := py
  obtain ⟨zs, rfl, hz⟩ := perm_map_inv (xs := names10) hp
  have hzl : zs.length = 10 := hz.length_eq
  have k : Ev (tCB (rSortedS K) (tCons (tSl (rSlA K) (tC u2) tNoPart (tPart (tVar 1))) tNil)) [some (.ref wl), some (.int m), some u] S2 H2 (R K (.l ((isort strO (zs.take m)).map tS))) := by
    refine ev_sortedS (xs := zs.take m) ?_ (by rw [List.length_take, hzl]; omega)
    have := ev_slAL (K := K) (lo := none) (hi := some (m : Int)) (ta := tC u2) (σ := [some (.ref wl), some (.int m), some u]) (ev_c r2 : Ev (tC u2) _ S2 H2 (R K (.l (zs.map tS)))) eo_none (eo_some (is_var (i := 1) rfl))
    rw [cutG_to, ← List.map_take] at this
    exact this
  refine k.at st.sub fun u3 S3 H3 g3 r3 => ?_
  exact q u3 _ c2 S3 H3 (Stp.zero g1 hw hW (st.grow g3)) r3 (someOf_take (by decide) hz m) (by rw [isort_len, List.length_take, hzl]; omega)
end
end Uw
end
section
set_option Elab.async false
set_option linter.all false
set_option maxRecDepth 100000
namespace Uw
open PySem PySem.Spec PyProof.Rows L2 RZ
/-- what may be a permit of these roles and labels -/
def okP (rs ls zs : List Str) : Prop :=
  (∃ w r, zs = [w, r] ∧ w ∈ (["make", "bring", "show", "seal", "open"] : List Str) ∧ r ∈ rs) ∨
  (∃ w r s, zs = [w, r, s] ∧ w ∈ (["copy", "wrap", "unwrap"] : List Str) ∧ r ∈ rs ∧ s ∈ rs) ∨
  (∃ r x s : Str, zs = (["derive", r, x, s] : List Str) ∧ r ∈ rs ∧ x ∈ ls ∧ s ∈ rs)
theorem okP_ne {rs ls zs : List Str} (h : okP rs ls zs) : zs ≠ [] := by
  rcases h with ⟨_, _, rfl, _⟩ | ⟨_, _, _, rfl, _⟩ | ⟨_, _, _, rfl, _⟩ <;> exact fun e => nomatch e
def shapesA : List (Str × Int) := [("make", 1), ("bring", 1), ("show", 1), ("copy", 2), ("derive", 3), ("wrap", 2), ("wrap", 2)]
def shapesB : List (Str × Int) := [("unwrap", 2), ("unwrap", 2), ("seal", 1), ("open", 1), ("derive", 3)]
def tSI (p : Str × Int) : T := .t [tS p.1, .a (.int p.2)]
theorem strOks {zs : List Str} (h : ∀ z ∈ zs, PyData.strOk z = true) : PyData.canLayAll0 (pys (zs.map tS)) = true := by
  induction zs with
  | nil => rfl
  | cons z zs ih =>
    show (PyData.canLay0 (.str z) && PyData.canLayAll0 (pys (zs.map tS))) = true
    rw [Bool.and_eq_true]
    exact ⟨h z List.mem_cons_self, ih fun y hy => h y (List.mem_cons_of_mem _ hy)⟩
theorem depth_strs (zs : List Str) : PyData.depthAll (pys (zs.map tS)) = 0 := by
  induction zs with
  | nil => rfl
  | cons z zs ih =>
    show max 0 (PyData.depthAll (pys (zs.map tS))) = 0
    rw [ih]
    rfl
theorem shaped_strs {zs : List Str} (h : ∀ z ∈ zs, PyData.strOk z = true) : SeqAt.shaped (T.l (zs.map tS)).py = true := by
  show (PyData.canLayAll0 (pys (zs.map tS)) && decide (PyData.depthAll (pys (zs.map tS)) + 1 ≤ 64)) = true
  rw [strOks h, depth_strs]
  rfl
theorem noD_strs (zs : List Str) : noDs (zs.map tS) = true := by
  induction zs with
  | nil => rfl
  | cons z zs ih => exact ih
theorem eqv_nil (zs : List Str) : PyData.eqv (T.l (zs.map tS)).py (T.l []).py = decide (zs = []) := by
  cases zs with
  | nil => rfl
  | cons z zs => rfl
section
variable {P : Program} {w : World} {K : PySem.W.Frag} {mg : Str → Option Value} {base : Heap}
variable {σ : L2.St} {S S' H H' : Hp} {ta tb tc te tx tl : TE}
def tSIs : List (Str × Int) → TA
  | [] => tNil
  | z :: zs => tCons (tTup (tCons (tC (.str z.1)) (tCons (tC (.int z.2)) tNil))) (tSIs zs)
theorem ea_SIs : ∀ (zs : List (Str × Int)), EvA (tSIs zs) σ S H ((zs.map tSI).map (R K))
  | [] => ea_nil
  | z :: zs => ea_cons (ev_tup (xs := [tS z.1, .a (.int z.2)]) (ea_two (ev_c (.a rfl)) (ev_c (.a rfl))) (by decide : 2 ≤ 100000)) (ea_SIs zs)
theorem ev_SIs (zs : List (Str × Int)) (hn : zs.length ≤ 100000) : Ev (tLst (tSIs zs)) σ S H (R K (.l (zs.map tSI))) := ev_lst (ea_SIs zs) (by rw [List.length_map]; exact hn)
/-- roles and labels as the law passes them -/
def okRL (rs ls : List Str) : Prop := rs ≠ [] ∧ rs.length ≤ 100 ∧ ls.length ≤ 100 ∧ ∀ z ∈ ls, PyData.strOk z = true
def spBp (K : PySem.W.Frag) : Sp := fun vs H Q _ => ∃ (S : Hp) (w : Addr) (c : Nat) (v1 v2 : V) (rs ls : List Str), vs = [.ref w, v1, v2] ∧ Same S H ∧ S w = none ∧ Well H w c ∧ c ≤ 998000000000 ∧ Rep K S v1 (.l (rs.map tS)) ∧ Rep K S v2 (.l (ls.map tS)) ∧ okRL rs ls ∧
  ∀ (u : V) (zs : List Str) (c' : Nat) S' H', Stp S H w c 4 S' H' c' → Rep K S' u (tT zs) → okP rs ls zs → Q u H'
theorem ok__law_b_permit (Z : Px K mg) : FnOk P w K mg base CX0 3 Z._law_b_permit.f Z._law_b_permit.fd ["well", "roles", "labels"] (spBp K) := by
  refine Z._law_b_permit.F.ok sc__law_b_permit (by rintro vs H Q E ⟨S, w, c, v1, v2, rs, ls, rfl, _⟩; rfl) (fun cdv A outer s H vs Q E hr h => ?_)
  obtain ⟨S, wl, c, v1, v2, rs, ls, rfl, e, hw, hW, hc, r1, r2, ⟨hr0, hrl, hll, hlo⟩, q⟩ := h
  refine ⟨_, (pss_cons (ps_set (i := 3) sc__law_b_permit.nd rfl (.inl rfl) (pe_lst (pa_cons (pe_tup (pa_cons pe_str (pa_cons pe_int pa_nil))) (pa_cons (pe_tup (pa_cons pe_str (pa_cons pe_int pa_nil))) (pa_cons (pe_tup (pa_cons pe_str (pa_cons pe_int pa_nil))) (pa_cons (pe_tup (pa_cons pe_str (pa_cons pe_int pa_nil))) (pa_cons (pe_tup (pa_cons pe_str (pa_cons pe_int pa_nil))) (pa_cons (pe_tup (pa_cons pe_str (pa_cons pe_int pa_nil))) (pa_cons (pe_tup (pa_cons pe_str (pa_cons pe_int pa_nil))) pa_nil)))))))))
  (pss_cons (ps_asg (pe_call (ok__law_pick Z) (hr.mono (by decide)) (by rfl) Z._law_pick.g Z._law_pick.F.kp Z._law_pick.b .nil pass0 (pa_cons (pv 0) (pa_cons (pe_op op_cat (pv 3) (pe_lst (pa_cons (pe_tup (pa_cons pe_str (pa_cons pe_int pa_nil))) (pa_cons (pe_tup (pa_cons pe_str (pa_cons pe_int pa_nil))) (pa_cons (pe_tup (pa_cons pe_str (pa_cons pe_int pa_nil))) (pa_cons (pe_tup (pa_cons pe_str (pa_cons pe_int pa_nil))) (pa_cons (pe_tup (pa_cons pe_str (pa_cons pe_int pa_nil))) pa_nil))))))) pa_nil))) (show PG _ _ (gTup K 2 _) from pg_tup (by rfl) (pgs_cons (pg_name (i := 4) sc__law_b_permit.nd rfl (.inl rfl)) (pgs_cons (pg_name (i := 5) sc__law_b_permit.nd rfl (.inl rfl)) pgs_nil))))
  (pss_cons (ps_par (i := 6) (j := 7) (by rfl) sc__law_b_permit.nd rfl rfl (by decide) rfl rfl (pa_cons (pe_call (ok__law_pick Z) (hr.mono (by decide)) (by rfl) Z._law_pick.g Z._law_pick.F.kp Z._law_pick.b .nil pass0 (pa_cons (pv 0) (pa_cons (pv 1) pa_nil))) (pa_cons (pe_call (ok__law_pick Z) (hr.mono (by decide)) (by rfl) Z._law_pick.g Z._law_pick.F.kp Z._law_pick.b .nil pass0 (pa_cons (pv 0) (pa_cons (pv 1) pa_nil))) pa_nil)) (by rfl))
  (pss_cons (ps_if (pt_cmpR op_eq (pv 5) pe_int (nomark _))
   (pss_one (ps_ret (pe_ifExp (pt_cmpR (op_neDK (K := K) hr.units) (pv 2) (pe_lst pa_nil) (nomark _)) (pe_tup (pa_cons pe_str (pa_cons (pv 6) (pa_cons (pe_call (ok__law_pick Z) (hr.mono (by decide)) (by rfl) Z._law_pick.g Z._law_pick.F.kp Z._law_pick.b .nil pass0 (pa_cons (pv 0) (pa_cons (pv 2) pa_nil))) (pa_cons (pv 7) pa_nil))))) (pe_tup (pa_cons pe_str (pa_cons (pv 6) (pa_cons (pv 7) pa_nil)))))))
   pss_nil)
  (pss_one (ps_ret (pe_ifExp (pt_cmpR op_eq (pv 5) pe_int (nomark _)) (pe_tup (pa_cons (pv 4) (pa_cons (pv 6) (pa_cons (pv 7) pa_nil)))) (pe_tup (pa_cons (pv 4) (pa_cons (pv 6) pa_nil)))))))))), ?_⟩
  refine q_set (ev_SIs (K := K) shapesA (by decide)) e fun u1 S1 H1 g1 p1 => ?_
  have hw1 : S1 wl = none := by obtain ⟨o, ho⟩ := hW.some; exact g1.out hw ho
  have hW1 := hW.same g1.h
  refine q_asg (at_W (x := .l (shapesA.map tSI ++ shapesB.map tSI)) g1.sub hw1 hW1 (by omega) (is_var rfl) (ev_cat (ev_var (P := R K _) rfl p1) (ev_SIs (K := K) shapesB (by decide)) (by decide)) (by show 1 ≤ (shapesA.map tSI ++ shapesB.map tSI).length ∧ (shapesA.map tSI ++ shapesB.map tSI).length ≤ 100000; decide) fun u2 y c2 S2 H2 st2 ry py => ?_)
  have py : y ∈ shapesA.map tSI ++ shapesB.map tSI := py
  rw [← List.map_append] at py
  obtain ⟨⟨word, many⟩, hp, rfl⟩ := List.mem_map.mp py
  obtain ⟨pt, rfl, hpt⟩ : ∃ pt, u2 = .ref pt ∧ S2 pt = some (.tup [.str word, .int many]) := by
    cases ry with
    | @t p vs _ h r =>
      obtain ⟨rfl, _⟩ := Reps.flat (ws := [.str word, .int many]) r
      exact ⟨p, rfl, h⟩
  refine ⟨pt, _, rfl, sqT st2.sub hpt, rfl, _, _, rfl, _, _, rfl, rfl, ?_⟩
  have hxr : okPick (.l (rs.map tS)) := ⟨by rw [List.length_map]; exact List.length_pos_iff.mpr hr0, by rw [List.length_map]; omega⟩
  have st2' := Stp.zero g1 hw hW st2
  -- r, s
  refine q_par (at_W (x := .l (rs.map tS)) st2.sub st2.out st2.well (by have := st2'.le; omega) (is_var rfl) (ev_var (P := R K _) rfl (r1.same st2'.s)) hxr fun u3 y3 c3 S3 H3 st3 ry3 py3 => ?_)
  have st3' := st2'.trans st3
  refine at_W (x := .l (rs.map tS)) st3.sub st3.out st3.well (by have := st3'.le; omega) (is_var rfl) (ev_var (P := R K _) rfl (r1.same st3'.s)) hxr fun u4 y4 c4 S4 H4 st4 ry4 py4 => ?_
  have st4' := st3'.trans st4
  obtain ⟨r, hr, rfl⟩ := List.mem_map.mp (show y3 ∈ rs.map tS from py3)
  obtain ⟨s, hs, rfl⟩ := List.mem_map.mp (show y4 ∈ rs.map tS from py4)
  obtain ⟨rfl, _⟩ := ry3.flat
  obtain ⟨rfl, _⟩ := ry4.flat
  refine ⟨_, _, rfl, ?_⟩
  have hm : many = 1 ∧ word ∈ (["make", "bring", "show", "seal", "open"] : List Str) ∨ many = 2 ∧ word ∈ (["copy", "wrap", "unwrap"] : List Str) ∨ many = 3 := by
    revert hp
    show (word, many) ∈ shapesA ++ shapesB → _
    intro hp
    have hall : ∀ p ∈ shapesA ++ shapesB, p.2 = 1 ∧ p.1 ∈ (["make", "bring", "show", "seal", "open"] : List Str) ∨ p.2 = 2 ∧ p.1 ∈ (["copy", "wrap", "unwrap"] : List Str) ∨ p.2 = 3 := by decide
    exact hall _ hp
  refine q_when (b := decide (V.int many = V.int 3)) (et_test (ev_eq (is_var (i := 5) rfl) is_c rfl)) st4.sub (fun hb S5 H5 g5 => ?_) fun hb S5 H5 g5 => ?_
  · have e2 : Rep K S5 v2 (.l (ls.map tS)) := r2.same (st4'.s.trans g5.s)
    have hv2 : Ev (tVar 2) [some (.ref wl), some v1, some v2, some u1, some (.str word), some (.int many), some (.str r), some (.str s)] S5 H5 (R K (.l (ls.map tS))) := ev_var rfl e2
    have t1 := et_test (ev_neD hv2 (ev_lst (xs := []) (ea_nil) (by decide)) (noD_strs ls) rfl (shaped_strs hlo) rfl)
    rw [eqv_nil] at t1
    refine q_retT ?_
    refine t1.at g5.sub fun S6 H6 g6 => ?_
    have st6 := st4'.grow (g5.trans g6)
    by_cases hl : ls = []
    · rw [decide_eq_true hl]
      refine iteF ?_
      refine (ev_tup (xs := [tS "copy", tS r, tS s]) (ea_cons (ev_c (.a rfl)) (ea_two (ev_var (P := R K _) rfl (.a rfl)) (ev_var (P := R K _) rfl (.a rfl)))) (by decide : 3 ≤ 100000)).at g6.sub fun u7 S7 H7 g7 r7 => ?_
      exact q u7 ["copy", r, s] c4 S7 H7 ((st6.grow g7).mono (by omega)) r7 (.inr (.inl ⟨"copy", r, s, rfl, by decide, hr, hs⟩))
    · rw [decide_eq_false hl]
      refine iteT ?_
      have hxl : okPick (.l (ls.map tS)) := ⟨by rw [List.length_map]; exact List.length_pos_iff.mpr hl, by rw [List.length_map]; omega⟩
      refine ⟨.str r, rfl, at_W (x := .l (ls.map tS)) g6.sub st6.out st6.well (by have := st6.le; omega) (is_var rfl) (ev_var (P := R K _) rfl (e2.same g6.s)) hxl fun u7 y7 c7 S7 H7 st7 ry7 py7 => ?_⟩
      obtain ⟨x, hx, rfl⟩ := List.mem_map.mp (show y7 ∈ ls.map tS from py7)
      obtain ⟨rfl, _⟩ := ry7.flat
      refine ⟨.str s, rfl, by show 4 ≤ sizeLine; decide, fun p hp => ?_⟩
      have st8 := (st6.trans st7).grow (.alloc (o := .tup [.str "derive", .str r, .str x, .str s]) st7.sub hp)
      exact q (.ref p) ["derive", r, x, s] c7 _ _ (st8.mono (by omega)) (.t upd_same (reps_of_strs ["derive", r, x, s])) (.inr (.inr ⟨r, x, s, rfl, hr, hx, hs⟩))
  · refine q_retT ?_
    refine (et_test (b := decide (V.int many = V.int 2)) (ev_eq (is_var (i := 5) rfl) is_c rfl)).at g5.sub fun S6 H6 g6 => ?_
    have st6 := st4'.grow (g5.trans g6)
    rcases hm with ⟨rfl, hm⟩ | ⟨rfl, hm⟩ | rfl
    · refine iteF ?_
      refine (ev_tup (xs := [tS word, tS r]) (ea_two (ev_var (P := R K _) rfl (.a rfl)) (ev_var (P := R K _) rfl (.a rfl))) (by decide : 2 ≤ 100000)).at g6.sub fun u7 S7 H7 g7 r7 => ?_
      exact q u7 [word, r] c4 S7 H7 ((st6.grow g7).mono (by omega)) r7 (.inl ⟨word, r, rfl, hm, hr⟩)
    · refine iteT ?_
      refine (ev_tup (xs := [tS word, tS r, tS s]) (ea_cons (ev_var (P := R K _) rfl (.a rfl)) (ea_two (ev_var (P := R K _) rfl (.a rfl)) (ev_var (P := R K _) rfl (.a rfl)))) (by decide : 3 ≤ 100000)).at g6.sub fun u7 S7 H7 g7 r7 => ?_
      exact q u7 [word, r, s] c4 S7 H7 ((st6.grow g7).mono (by omega)) r7 (.inr (.inl ⟨word, r, s, rfl, hm, hr, hs⟩))
    · exact absurd hb (by decide)
end
end Uw
end
section
set_option Elab.async false
set_option linter.all false
set_option maxRecDepth 100000
namespace Uw
open PySem PySem.Spec PyProof.Rows L2 RZ
theorem hu65 {k : Nat} {A : Around} (hr : Room k A) : A.units + 65 < cLine := by have := hr.un; omega
theorem eqv_strs : ∀ (zs ys : List Str), PyData.eqvAll (pys (zs.map tS)) (pys (ys.map tS)) = decide (zs = ys)
  | [], [] => rfl
  | [], _ :: _ => rfl
  | _ :: _, [] => rfl
  | z :: zs, y :: ys => by
    show ((z == y) && PyData.eqvAll (pys (zs.map tS)) (pys (ys.map tS))) = decide (z :: zs = y :: ys)
    rw [eqv_strs zs ys]
    by_cases h : z = y
    · subst h
      by_cases h2 : zs = ys
      · subst h2
        rw [decide_eq_true rfl, decide_eq_true rfl, beq_self_eq_true]
        rfl
      · rw [decide_eq_false h2, decide_eq_false fun e => h2 (List.cons.inj e).2, Bool.and_false]
    · rw [decide_eq_false fun e => h (List.cons.inj e).1, beq_eq_false_iff_ne.mpr h, Bool.false_and]
theorem any_tups (zs : List Str) : ∀ (xs : List (List Str)), ((pys (xs.map tT)).any fun z => PyData.eqv z (tT zs).py) = decide (zs ∈ xs)
  | [] => by rw [decide_eq_false (by simp)]; rfl
  | x :: xs => by
    show (PyData.eqvAll (pys (x.map tS)) (pys (zs.map tS)) || (pys (xs.map tT)).any fun z => PyData.eqv z (tT zs).py) = _
    rw [any_tups zs xs, eqv_strs]
    by_cases h : x = zs
    · subst h
      rw [decide_eq_true rfl, decide_eq_true List.mem_cons_self]
      rfl
    · rw [decide_eq_false h, Bool.false_or, decide_eq_decide]
      exact ⟨fun m => List.mem_cons_of_mem _ m, fun m => (List.mem_cons.mp m).resolve_left fun e => h e.symm⟩
theorem shaped_tup {zs : List Str} (h : ∀ z ∈ zs, PyData.strOk z = true) : SeqAt.shaped (tT zs).py = true := by
  show (PyData.canLayAll0 (pys (zs.map tS)) && decide (PyData.depthAll (pys (zs.map tS)) + 1 ≤ 64)) = true
  rw [strOks h, depth_strs]
  rfl
theorem shaped_tups : ∀ {xs : List (List Str)}, (∀ zs ∈ xs, ∀ z ∈ zs, PyData.strOk z = true) → PyData.canLayAll0 (pys (xs.map tT)) = true ∧ PyData.depthAll (pys (xs.map tT)) ≤ 1
  | [], _ => ⟨rfl, Nat.zero_le _⟩
  | x :: xs, h => by
    obtain ⟨h1, h2⟩ := shaped_tups (xs := xs) fun zs hz => h zs (List.mem_cons_of_mem _ hz)
    refine ⟨?_, ?_⟩
    · show (PyData.canLayAll0 (pys (x.map tS)) && PyData.canLayAll0 (pys (xs.map tT))) = true
      rw [strOks (h x List.mem_cons_self), h1]
      rfl
    · show max (PyData.depthAll (pys (x.map tS)) + 1) (PyData.depthAll (pys (xs.map tT))) ≤ 1
      rw [depth_strs]
      omega
theorem shaped_tupl {xs : List (List Str)} (h : ∀ zs ∈ xs, ∀ z ∈ zs, PyData.strOk z = true) : SeqAt.shaped (T.l (xs.map tT)).py = true := by
  show (PyData.canLayAll0 (pys (xs.map tT)) && decide (PyData.depthAll (pys (xs.map tT)) + 1 ≤ 64)) = true
  obtain ⟨h1, h2⟩ := shaped_tups h
  rw [h1, decide_eq_true (by omega)]
  rfl
theorem noD_tups : ∀ (xs : List (List Str)), noDs (xs.map tT) = true
  | [] => rfl
  | x :: xs => by
    show (noDs (x.map tS) && noDs (xs.map tT)) = true
    rw [noD_strs, noD_tups xs]
    rfl
theorem okP_str {rs ls zs : List Str} (hr : ∀ z ∈ rs, PyData.strOk z = true) (hl : ∀ z ∈ ls, PyData.strOk z = true) (h : okP rs ls zs) : ∀ z ∈ zs, PyData.strOk z = true := by
  have hw5 : ∀ w ∈ (["make", "bring", "show", "seal", "open"] : List Str), PyData.strOk w = true := by decide +kernel
  have hw3 : ∀ w ∈ (["copy", "wrap", "unwrap"] : List Str), PyData.strOk w = true := by decide +kernel
  rcases h with ⟨w, r, rfl, h1, h2⟩ | ⟨w, r, s, rfl, h1, h2, h3⟩ | ⟨r, x, s, rfl, h1, h2, h3⟩
  · intro z hz
    simp only [List.mem_cons, List.not_mem_nil, or_false] at hz
    rcases hz with rfl | rfl
    · exact hw5 _ h1
    · exact hr _ h2
  · intro z hz
    simp only [List.mem_cons, List.not_mem_nil, or_false] at hz
    rcases hz with rfl | rfl | rfl
    · exact hw3 _ h1
    · exact hr _ h2
    · exact hr _ h3
  · intro z hz
    simp only [List.mem_cons, List.not_mem_nil, or_false] at hz
    rcases hz with rfl | rfl | rfl | rfl
    · exact (by decide +kernel : PyData.strOk "derive" = true)
    · exact hr _ h1
    · exact hl _ h2
    · exact hr _ h3
section
variable {P : Program} {w : World} {K : PySem.W.Frag} {mg : Str → Option Value} {base : Heap}
variable {X : Cx} {σ : L2.St} {S S' H H' : Hp} {ta tb tc te tx tl : TE}
theorem op_notInDK (hu : X.A.units + 65 < cLine) (h : X.K = K := by rfl) : OpR X (compareOp .NotIn) (rNotInD K) := h ▸ op_notInD hu
theorem cr_sortedTK (h : X.K = K := by rfl) : CallR X (.builtin "sorted") (rSortedT K) := cr_sortedT h
/-- a raw book: roles, labels, permits, each ascending, each thing once -/
structure Raw where
  rs : List Str
  ls : List Str
  ps : List (List Str)
def Raw.t (b : Raw) : T := .t [.l (b.rs.map tS), .l (b.ls.map tS), .l (b.ps.map tT)]
structure Raw.Ok (b : Raw) (n : Nat) : Prop where
  rs : someOf names10 b.rs
  rne : b.rs ≠ []
  ls : someOf names4 b.ls
  up : Up tupO b.ps
  nd : b.ps.Nodup
  ok : ∀ p ∈ b.ps, okP b.rs b.ls p
  few : b.ps.length ≤ n
  pne : 1 ≤ n → b.ps ≠ []
theorem str10 : ∀ z ∈ names10, PyData.strOk z = true := by decide +kernel
theorem str4 : ∀ z ∈ names4, PyData.strOk z = true := by decide +kernel
theorem someOf_len {from' zs : List Str} (h : someOf from' zs) : zs.length ≤ from'.length := by
  have := List.Nodup.length_le_of_subset h.2.1 (fun z hz => h.2.2 z hz)
  exact this
def spBb (K : PySem.W.Frag) : Sp := fun vs H Q _ => ∃ (S : Hp) (w : Addr) (c a b m : Nat), vs = [.ref w, .int a, .int b, .int m] ∧ Same S H ∧ S w = none ∧ Well H w c ∧ c ≤ 997000000000 ∧ 1 ≤ a ∧ a ≤ 10 ∧ b ≤ 4 ∧ m ≤ 60 ∧
  ∀ (u : V) (r : Raw) (c' : Nat) S' H', Stp S H w c 1000 S' H' c' → Rep K S' u r.t → r.Ok m → Q u H'
theorem ok__law_b_book (Z : Px K mg) : FnOk P w K mg base CX0 4 Z._law_b_book.f Z._law_b_book.fd ["well", "roles", "labels", "many"] (spBb K) := by
  refine Z._law_b_book.F.ok sc__law_b_book (by rintro vs H Q E ⟨S, w, c, a, b, m, rfl, _⟩; rfl) (fun cdv A outer s H vs Q E hr h => ?_)
  obtain ⟨S, wl, c, a, b, m, rfl, e, hw, hW, hc, ha, ha2, hb, hm, q⟩ := h
  refine ⟨_, (pss_cons (ps_par (i := 4) (j := 5) (by rfl) sc__law_b_book.nd rfl rfl (by decide) rfl rfl (pa_cons (pe_call (ok__law_b_names Z) (hr.mono (by decide)) (by rfl) Z._law_b_names.g Z._law_b_names.F.kp Z._law_b_names.b .nil pass0 (pa_cons (pv 0) (pa_cons (pv 1) pa_nil))) (pa_cons (pe_callB (cr_sortedSK (K := K)) (by rfl) Z.bl.sorted (by decide +kernel) (pa_cons (pe_slice (sl_anyK (K := K)) (pe_call (ok__law_mixed Z) (hr.mono (by decide)) (by rfl) Z._law_mixed.g Z._law_mixed.F.kp Z._law_mixed.b .nil pass0 (pa_cons (pv 0) (pa_cons (pe_lst (pa_cons pe_str (pa_cons pe_str (pa_cons pe_str (pa_cons pe_str pa_nil))))) pa_nil))) po_none (po_some (pv 2))) pa_nil)) pa_nil)) (by rfl))
  (pss_cons (ps_set (i := 6) sc__law_b_book.nd rfl (.inl rfl) (pe_lst pa_nil))
  (pss_cons (ps_for PassesOwn.never rfl (pi_range1 (by rfl) Z.bl.range (pa_cons (pe_ifExp (pt_cmpR (op_neDK (K := K) hr.units) (pv 4) (pe_lst pa_nil) (nomark _)) (pv 3) pe_int) pa_nil)) (pg_name (i := 7) sc__law_b_book.nd rfl (.inl rfl))
   (pss_cons (ps_set (i := 8) sc__law_b_book.nd rfl (.inl rfl) (pe_call (ok__law_b_permit Z) (hr.mono (by decide)) (by rfl) Z._law_b_permit.g Z._law_b_permit.F.kp Z._law_b_permit.b .nil pass0 (pa_cons (pv 0) (pa_cons (pv 4) (pa_cons (pv 5) pa_nil)))))
  (pss_one (ps_expr (show PE _ _ (tBM K "list" rExtend _ _) from pe_bm PySem.F.plainAttrs_list PySem.F.slot_list_extend PySem.F.type_list_extend mr_extend (pv 6) (pa_cons (pe_ifExp (pt_cmpR (op_notInDK (K := K) (hu65 hr)) (pv 8) (pv 6) (by rfl)) (pe_lst (pa_cons (pv 8) pa_nil)) (pe_lst pa_nil)) pa_nil))))))
  (pss_one (ps_ret (pe_tup (pa_cons (pv 4) (pa_cons (pv 5) (pa_cons (pe_callB (cr_sortedTK (K := K)) (by rfl) Z.bl.sorted (by decide +kernel) (pa_cons (pv 6) pa_nil)) pa_nil))))))))), ?_⟩
  -- held, marks
  refine q_par ?_
  refine ⟨.ref wl, rfl, .int a, rfl, S, wl, c, a, rfl, e, hw, hW, by omega, ha2, fun u1 rs c1 S1 H1 st1 r1 hrs hrl => ?_⟩
  have hm4 : Ev (tLst (tStrs names4)) (start ["well", "roles", "labels", "many", "held", "marks", "found", "turn", "one"] [.ref wl, .int a, .int b, .int m]) S1 H1 (R K (.l (names4.map tS))) := ev_strs names4 (by decide)
  refine at_W (x := .l (names4.map tS)) st1.sub st1.out st1.well (by have := st1.le; omega) (is_var rfl) hm4 (by show (names4.map tS).length ≤ 100; decide) fun u2 y c2 S2 H2 st2 r2 py => ?_
  obtain ⟨ys, rfl, hp⟩ := py
  obtain ⟨zs, rfl, hz⟩ := perm_map_inv (xs := names4) hp
  have hzl : zs.length = 4 := hz.length_eq
  have st2' := st1.trans st2
  have k : Ev (tCB (rSortedS K) (tCons (tSl (rSlA K) (tC u2) tNoPart (tPart (tVar 2))) tNil)) (start ["well", "roles", "labels", "many", "held", "marks", "found", "turn", "one"] [.ref wl, .int a, .int b, .int m]) S2 H2 (R K (.l ((isort strO (zs.take b)).map tS))) := by
    refine ev_sortedS (xs := zs.take b) ?_ (by rw [List.length_take, hzl]; omega)
    have := ev_slAL (K := K) (lo := none) (hi := some (b : Int)) (ta := tC u2) (σ := start ["well", "roles", "labels", "many", "held", "marks", "found", "turn", "one"] [.ref wl, .int a, .int b, .int m]) (ev_c r2 : Ev (tC u2) _ S2 H2 (R K (.l (zs.map tS)))) eo_none (eo_some (is_var (i := 2) rfl))
    rw [cutG_to, ← List.map_take] at this
    exact this
  refine k.at st2.sub fun u3 S3 H3 g3 r3 => ?_
  have st3 := st2'.grow g3
  generalize hls : isort strO (zs.take b) = ls at r3
  have hlo : someOf names4 ls := by rw [← hls]; exact someOf_take (by decide) hz b
  refine ⟨_, _, rfl, ?_⟩
  have r1' := r1.same (st2.s.trans g3.s)
  have hrne : rs ≠ [] := fun z => by rw [z] at hrl; simp at hrl; omega
  have hlslen : ls.length ≤ 4 := someOf_len hlo
  have hrslen : rs.length ≤ 10 := someOf_len hrs
  have hstr_r : ∀ z ∈ rs, PyData.strOk z = true := fun z hz => str10 z (hrs.2.2 z hz)
  have hstr_l : ∀ z ∈ ls, PyData.strOk z = true := fun z hz => str4 z (hlo.2.2 z hz)
  -- found = []
  refine q_asg ⟨Nat.zero_le _, fun F hF => ?_⟩
  have hHF : H F = none := by
    cases hh : H F with
    | none => rfl
    | some o =>
      have hFw : F ≠ wl := fun z => by obtain ⟨o, ho⟩ := st3.well.some; rw [z, ho] at hF; cases hF
      rw [st3.h hFw hh] at hF
      cases hF
  have hS3F : S3 F = none := st3.sub.free hF
  have hFw : F ≠ wl := fun z => by obtain ⟨o, ho⟩ := st3.well.some; rw [z, ho] at hF; cases hF
  have st4 := st3.mut (o := .lst []) hHF hS3F
  let σ0 : L2.St := [some (.ref wl), some (.int a), some (.int b), some (.int m), some u1, some u3, some (.ref F), none, none]
  have hv : Ev (tVar 4) σ0 S3 (upd H3 F (.lst [])) (R K (.l (rs.map tS))) := ev_var rfl r1'
  have tcond := et_test (ev_neD hv (ev_lst (xs := []) ea_nil (by decide)) (noD_strs rs) rfl (shaped_strs hstr_r) rfl)
  rw [eqv_nil, decide_eq_false hrne] at tcond
  have rng : Ev (tIf _ (tVar 3) (tC (.int 0))) σ0 S3 (upd H3 F (.lst [])) (Is (.int m)) := ev_if tcond (fun _ => is_var rfl) fun z => by cases z
  refine at_for (D := { nx := _, rt := _ }) (ei_range1 rng ⟨by omega, by omega⟩) st4.sub fun S5 H5 g5 => ⟨fun i σ' S' H' => ∃ (c' : Nat) (ps : List (List Str)) (us : List V) (y7 y8 : Option V), σ' = [some (.ref wl), some (.int a), some (.int b), some (.int m), some u1, some u3, some (.ref F), y7, y8] ∧
      Stp S H wl c (204 + 4 * i) S' H' c' ∧ S' F = none ∧ H' F = some (.lst us) ∧ Reps K S' us (ps.map tT) ∧ Same S5 S' ∧ ps.Nodup ∧ (∀ p ∈ ps, okP rs ls p) ∧ ps.length ≤ i ∧ (1 ≤ i → ps ≠ []),
    fun i σ' S' H' ⟨c', ps, us, y7, y8, h1, h2, h3, h4, h5, h6, h7⟩ => ⟨h6, h2.sub⟩, ?_, fun i σ' S' H' x S6 H6 hi hP g6 px => ?_, fun σ' S' H' hP => ?_⟩
  · refine ⟨c2, [], [], none, none, rfl, (st4.grow g5).mono (by omega), ?_, ?_, .nil, Same.refl _, .nil, fun p hp => by simp at hp, Nat.le_refl _, fun z => by omega⟩
    · exact g5.out hS3F upd_same
    · exact g5.h _ _ upd_same
  · obtain ⟨c', ps, us, y7, y8, rfl, st, hF1, hF2, rps, s5, hnd, hok, hlen, hne0⟩ := hP
    have hi : i < m := by omega
    have st6 := st.grow g6
    have hF3 : S6 F = none := g6.out hF1 hF2
    have hF4 : H6 F = some (.lst us) := g6.h _ _ hF2
    have sAll : Same S3 S6 := (g5.s.trans s5).trans g6.s
    -- one = _law_b_permit(well, held, marks)
    refine q_asg ⟨.ref wl, rfl, u1, rfl, u3, rfl, S6, wl, c', u1, u3, rs, ls, rfl, g6.sub, st6.out, st6.well, by have := st6.le; omega, r1'.same sAll, r3.same sAll, ⟨hrne, by omega, by omega, hstr_l⟩, fun uo zs c7 S7 H7 st7 rz hz => ?_⟩
    have st7' := st6.trans st7
    have hF5 : S7 F = none := st7.keep hF3 hF4
    have hF6 : H7 F = some (.lst us) := st7.h hFw hF4
    have rps7 := rps.same (g6.s.trans st7.s)
    have hps : ∀ p ∈ ps, ∀ z ∈ p, PyData.strOk z = true := fun p hp => okP_str hstr_r hstr_l (hok p hp)
    have hzs := okP_str hstr_r hstr_l hz
    -- the condition
    have cond : EvT (tTest (tOp (rNotInD K) (tVar 8) (tVar 6))) [some (.ref wl), some (.int a), some (.int b), some (.int m), some u1, some u3, some (.ref F), some x, some uo] S7 H7 (!decide (zs ∈ ps)) := by
      refine et_test (ev_op (P1 := R K (tT zs)) (P2 := Is (.ref F)) (ev_var rfl rz) (is_var rfl) fun x1 y1 S8 H8 g8 e1 e2 => ?_)
      have e2 : y1 = .ref F := e2
      subst e2
      refine op_val g8.sub rfl fun Q q => ⟨(tT zs).py, pys (ps.map tT), Rep.dp g8.sub e1 (noD_strs zs), .lst (.inl (.inl (g8.h _ _ hF6))) (Reps.dp g8.sub (rps7.same g8.s) (noD_tups ps)), shaped_tup hzs, shaped_tupl hps, ?_⟩
      rw [any_tups]
      exact q
    refine ⟨.ref F, rfl, .inl ⟨rfl, us, .inl (.inl hF6)⟩, ?_⟩
    -- [one] if .. else []
    refine cond.at st7.sub fun S8 H8 g8 => ?_
    have st8 := st7'.grow g8
    have hF7 : S8 F = none := g8.out hF5 hF6
    have hF8 : H8 F = some (.lst us) := g8.h _ _ hF6
    have rps8 := rps7.same g8.s
    have hlu : us.length = ps.length := by rw [rps8.length, List.length_map]
    by_cases hin : zs ∈ ps
    · rw [decide_eq_true hin]
      refine iteF ⟨Nat.zero_le _, fun L hL => ?_⟩
      have hLF : L ≠ F := fun z => by rw [z, hF8] at hL; cases hL
      have st9 := st8.grow (.alloc (o := .lst []) g8.sub hL)
      have hF9 : (upd S8 L (.lst [])) F = none := by rw [upd_ne hLF.symm]; exact hF7
      refine ⟨F, L, us, [], rfl, rfl, by rw [upd_ne hLF.symm]; exact hF8, upd_same, by rw [hlu]; exact sz (by show ps.length + 0 ≤ 100000; omega), ?_⟩
      refine ⟨_, c7, ps, us ++ [], some x, some uo, rfl, (st9.mut hHF hF9).mono (by omega), hF9, upd_same, ?_, (s5.trans (g6.s.trans (st7.s.trans g8.s))).trans (Same.new (g8.sub.free hL)), hnd, hok, by omega, fun _ z => by rw [z] at hin; simp at hin⟩
      rw [List.append_nil]
      exact rps8.same (Same.new (g8.sub.free hL))
    · rw [decide_eq_false hin]
      refine iteT ⟨uo, rfl, by show 1 ≤ sizeLine; decide, fun L hL => ?_⟩
      have hLF : L ≠ F := fun z => by rw [z, hF8] at hL; cases hL
      have st9 := st8.grow (.alloc (o := .lst [uo]) g8.sub hL)
      have hF9 : (upd S8 L (.lst [uo])) F = none := by rw [upd_ne hLF.symm]; exact hF7
      have sL : Same S8 (upd S8 L (.lst [uo])) := Same.new (g8.sub.free hL)
      refine ⟨F, L, us, [uo], rfl, rfl, by rw [upd_ne hLF.symm]; exact hF8, upd_same, by rw [hlu]; exact sz (by show ps.length + 1 ≤ 100000; omega), ?_⟩
      refine ⟨_, c7, ps ++ [zs], us ++ [uo], some x, some uo, rfl, (st9.mut hHF hF9).mono (by omega), hF9, upd_same, ?_, (s5.trans (g6.s.trans (st7.s.trans g8.s))).trans sL, ?_, fun p hp => ?_, by rw [List.length_append]; show ps.length + 1 ≤ i + 1; omega, fun _ z => by simp at z⟩
      · rw [List.map_append]
        exact (rps8.same sL).append (.one ((rz.same g8.s).same sL))
      · exact List.nodup_append.mpr ⟨hnd, List.pairwise_singleton _ _, fun a1 h1 b1 h2 => by
          rw [List.mem_singleton] at h2
          subst h2
          exact fun e => hin (e ▸ h1)⟩
      · rcases List.mem_append.mp hp with hp | hp
        · exact hok p hp
        · rw [List.mem_singleton] at hp
          subst hp
          exact hz
  · obtain ⟨c', ps, us, y7, y8, rfl, st, hF1, hF2, rps, s5, hnd, hok, hlen, hne0⟩ := hP
    -- freeze found
    have stF := st.freeze (o := .lst us) hHF hF1 hF2
    have sF : Same S' (upd S' F (.lst us)) := Same.new hF1
    have sAll : Same S3 (upd S' F (.lst us)) := (g5.s.trans s5).trans sF
    have k6 : Ev (tCB (rSortedT K) (tCons (tVar 6) tNil)) [some (.ref wl), some (.int a), some (.int b), some (.int m), some u1, some u3, some (.ref F), y7, y8] (upd S' F (.lst us)) H' (R K (.l ((isort tupO ps).map tT))) := ev_sortedT (ev_var (P := R K _) rfl (.l upd_same (rps.same sF))) (by omega) fun p hp => okP_ne (hok p hp)
    refine q_ret (ev_tup (xs := [.l (rs.map tS), .l (ls.map tS), .l ((isort tupO ps).map tT)]) (ea_cons (ev_var (P := R K _) rfl (r1'.same sAll)) (ea_two (ev_var (P := R K _) rfl (r3.same sAll)) k6)) (by decide : 3 ≤ 100000)) stF.sub fun u9 S9 H9 g9 r9 => ?_
    refine q u9 ⟨rs, ls, isort tupO ps⟩ c' S9 H9 ((stF.grow g9).mono (by omega)) r9 ⟨hrs, hrne, hlo, isort_up _, (isort_perm _).nodup_iff.mpr hnd, fun p hp => hok p ((isort_perm _).mem_iff.mp hp), ?_, fun hm1 z => hne0 (by omega) (by
      have z : isort tupO ps = [] := z
      have := isort_len (O := tupO) ps
      rw [z] at this
      exact List.length_eq_zero_iff.mp this.symm)⟩
    show (isort tupO ps).length ≤ m
    rw [isort_len]
    omega
end
end Uw
end
section
set_option Elab.async false
set_option linter.all false
set_option maxRecDepth 100000
namespace Uw
open PySem PySem.Spec PyProof.Rows L2 RZ
def strOf' : T → Option Str
  | .a (.str z) => some z
  | _ => none
def strsOf (xs : List T) : List Str := xs.filterMap strOf'
theorem strsOf_map (zs : List Str) : strsOf (zs.map tS) = zs := by
  induction zs with
  | nil => rfl
  | cons z zs ih =>
    show strsOf (tS z :: zs.map tS) = z :: zs
    unfold strsOf at ih ⊢
    rw [List.filterMap_cons]
    show z :: _ = _
    rw [ih]
def T.areNames (x : T) : Bool := x.isSeq && (x.items.all T.isName && decide (strsOf x.items).Nodup)
def namesSize (x : T) : Prop := x.items.length < 4000 ∧ ∀ y ∈ x.items, strOk y
theorem names_are : ∀ {xs : List T}, xs.all T.isName = true → ∃ zs : List Str, xs = zs.map tS
  | [], _ => ⟨[], rfl⟩
  | x :: xs, h => by
    rw [List.all_cons, Bool.and_eq_true] at h
    obtain ⟨zs, rfl⟩ := names_are h.2
    cases x with
    | a v =>
      cases v with
      | str z => exact ⟨z :: zs, rfl⟩
      | _ => cases h.1
    | _ => cases h.1
section
variable {P : Program} {w : World} {K : PySem.W.Frag} {mg : Str → Option Value} {base : Heap}
variable {X : Cx} {σ : L2.St} {S S' H H' : Hp} {ta tb tc te tx tl : TE}
theorem ei_seqX {x : T} (hx : x.isSeq = true) (h : Ev tl σ S H (R K x)) : EvI (iSeq K tl) σ S H x.items.length (fun i => R K (nth x.items i)) := by
  obtain ⟨xs, rfl | rfl⟩ := isSeq_cases hx
  · exact ei_seqL h
  · exact ei_seqT h
theorem len_seq {x : T} (hx : x.isSeq = true) : x.len = some x.items.length := by
  obtain ⟨xs, rfl | rfl⟩ := isSeq_cases hx <;> rfl
theorem ok_are_names (Z : Px K mg) : FnOk P w K mg base CX0 2 Z.are_names.f Z.are_names.fd ["thing"] (sp1 K namesSize fun x => .a (.bl x.areNames)) := by
  refine Z.are_names.F.ok sc_are_names sp1_len (fun cdv A outer s H vs Q E hr h => ?_)
  obtain ⟨S, v, x, rfl, e, r, ⟨hlen, hstr⟩, q⟩ := h
  refine ⟨_, (pss_cons (ps_if (PW.pt (pw_or (pt_not (pt_val (pe_call (ok_is_list Z) (hr.mono (by decide)) (by rfl) Z.is_list.g Z.is_list.F.kp Z.is_list.b .nil pass0 (pa_cons (pv 0) pa_nil)))) (pw_or1 (pt_not (pt_val (pe_callB (cr_allK (K := K) rfl) (by rfl) Z.bl.all (by decide +kernel) (pa_cons (pe_lc (own := [("name", 1)]) (g := gName 1) (tt := tYes) rfl sc_are_names.nd (pi_seqK (K := K) (pv 0)) (blkOk_by (N := ["thing", "name"]) (sc := defScope s_are_names) (own := [("name", 1)]) (by decide +kernel)) (fun _ _ _ _ _ => pg_name (i := 1) sc_are_names.nd rfl (Or.inl rfl)) (fun _ _ _ _ _ => pts_nil) (fun _ _ _ _ _ => by exact (pe_call (ok_is_name Z) (hr.mono (by decide)) (by rfl) Z.is_name.g Z.is_name.F.kp Z.is_name.b .nil pass0 (pa_cons (pv 1) pa_nil)))) pa_nil)))))))
   (pss_one (ps_ret pe_bl))
   pss_nil)
  (pss_one (ps_ret (pe_cmpR op_eq (pe_lenSetS (K := K) rfl (by rfl) Z.bl.len (by rfl) Z.bl.set (pv 0)) (pe_callB (call_lenK (K := K)) (by rfl) Z.bl.len (by decide +kernel) (pa_cons (pv 0) pa_nil)) (nomark _))))), ?_⟩
  have hv : Ev (tVar 0) (start ["thing", "name"] [v]) S H (R K x) := ev_var rfl r
  have c1 : EvT _ _ S H x.isSeq := et_B ((ev_call1 (E := E0) (ok := fun _ => True) (f := fun x => .a (.bl x.isSeq)) hv trivial).Is)
  by_cases hs : x.isSeq = true
  · have m := ev_map (K := K) (te := tCall (sp1 K strOk fun x => .a (.bl x.isName)) [] E0 (tCons (tVar 1) tNil)) (j := 1) (vs := [1]) (fun y => .a (.bl y.isName)) (ei_seqX hs hv) (by omega) (fun _ => rfl) fun y u S1 H1 hy g ry => ev_call1 (ev_var (P := R K _) rfl ry) (hstr y hy)
    have c2 := ev_all (K := K) (bs := x.items.map T.isName) (by rw [List.map_map]; exact m)
    rw [List.all_map, show (id ∘ T.isName) = T.isName from rfl] at c2
    refine q_when (et_or (et_not c1) fun _ => et_not (et_B c2)) e (fun hb S1 H1 g => ?_) fun hb S1 H1 g => ?_
    · refine q _ S1 H1 g (rep_bl ?_)
      unfold T.areNames
      rw [hs] at hb ⊢
      have hb : x.items.all T.isName = false := by
        cases h : x.items.all T.isName with
        | false => rfl
        | true => rw [h] at hb; cases hb
      rw [hb]
      rfl
    · have hb : x.items.all T.isName = true := by
        cases h : x.items.all T.isName with
        | true => rfl
        | false => rw [h, hs] at hb; cases hb
      obtain ⟨zs, hz⟩ := names_are hb
      have hx : x = .l (zs.map tS) ∨ x = .t (zs.map tS) := by
        obtain ⟨xs, rfl | rfl⟩ := isSeq_cases hs
        · exact .inl (congrArg T.l hz)
        · exact .inr (congrArg T.t hz)
      have hzl : x.items.length = zs.length := by rw [hz, List.length_map]
      refine q_ret (ev_eq (ev_lenSetS (hv.go g) hx (by omega)) (ev_len (hv.go g) (len_seq hs)) rfl) g.sub fun u S2 H2 g2 eu => ?_
      have eu : u = _ := eu
      subst eu
      refine q _ S2 H2 (g.trans g2) (rep_bl ?_)
      unfold T.areNames
      rw [hs, hb, hz, strsOf_map, List.length_map, Bool.true_and, Bool.true_and, decide_eq_decide]
      constructor
      · intro h
        exact dcount_all.mp (Int.ofNat.inj (V.int.inj h))
      · intro h
        rw [dcount_all.mpr h]
  · rw [Bool.not_eq_true] at hs
    refine q_when (b := true) (EvT.is (et_or (b := true) (et_not c1) fun z => by rw [hs] at z; cases z) (by rw [hs]; rfl)) e (fun _ S1 H1 g => ?_) fun z => by cases z
    refine q _ S1 H1 g (rep_bl ?_)
    unfold T.areNames
    rw [hs]
    rfl
end
end Uw
end
section
set_option Elab.async false
set_option linter.all false
set_option maxRecDepth 100000
namespace Uw
open PySem PySem.Spec PyProof.Rows L2 RZ
def isKnown : T → Bool
  | .a (.str z) => z == "known"
  | _ => false
def T.okRoles (x : T) : Bool := x.areNames && !(x.items.any isKnown)
theorem inV_strs (z : Str) (zs : List Str) : inV (.str z) (zs.map V.str) = decide (z ∈ zs) := by
  unfold inV
  rw [List.any_map]
  by_cases h : z ∈ zs
  · rw [decide_eq_true h, List.any_eq_true]
    exact ⟨z, h, beq_self_eq_true z⟩
  · rw [decide_eq_false h, List.any_eq_false]
    intro y hy e
    have e : (y == z) = true := e
    rw [beq_iff_eq] at e
    exact h (e ▸ hy)
theorem any_known (zs : List Str) : (zs.map tS).any isKnown = decide (("known" : Str) ∈ zs) := by
  rw [List.any_map]
  by_cases h : ("known" : Str) ∈ zs
  · rw [decide_eq_true h, List.any_eq_true]
    exact ⟨_, h, beq_self_eq_true _⟩
  · rw [decide_eq_false h, List.any_eq_false]
    intro y hy e
    have e : (y == ("known" : Str)) = true := e
    rw [beq_iff_eq] at e
    exact h (e ▸ hy)
/-- names, and their texts -/
theorem areNames_strs {x : T} (h : x.areNames = true) : x.isSeq = true ∧ ∃ zs : List Str, x.items = zs.map tS ∧ (x = .l (zs.map tS) ∨ x = .t (zs.map tS)) ∧ (∀ z ∈ zs, isNameS z = true) ∧ zs.Nodup := by
  unfold T.areNames at h
  rw [Bool.and_eq_true, Bool.and_eq_true] at h
  obtain ⟨zs, hz⟩ := names_are h.2.1
  refine ⟨h.1, zs, hz, ?_, fun z hm => ?_, ?_⟩
  · obtain ⟨xs, rfl | rfl⟩ := isSeq_cases h.1
    · exact .inl (congrArg T.l hz)
    · exact .inr (congrArg T.t hz)
  · have := h.2.1
    rw [hz, List.all_map, List.all_eq_true] at this
    exact this z hm
  · have := h.2.2
    rw [hz, strsOf_map, decide_eq_true_eq] at this
    exact this
section
variable {P : Program} {w : World} {K : PySem.W.Frag} {mg : Str → Option Value} {base : Heap}
variable {X : Cx} {σ : L2.St} {S S' H H' : Hp} {ta tb tc te tx tl : TE}
/-- goes on, or raises with the very object -/
def spNeed (K : PySem.W.Frag) (C : Addr) (f : Str) (good : T → Bool) : Sp := fun vs H Q E => ∃ (S : Hp) (v : V) (x : T), vs = [v] ∧ Same S H ∧ Rep K S v x ∧ namesSize x ∧
  (good x = true → ∀ S' H', Grow S H S' H' → Q .non H') ∧ (good x = false → ∀ d S' H', Grow S H S' H' → H' d = some (.xd [(f, v)]) → E (.ref C) (some d) H')
theorem spNeed_len {C : Addr} {f : Str} {good : T → Bool} : ∀ vs H Q E, spNeed K C f good vs H Q E → vs.length = 1 := by
  rintro vs H Q E ⟨S, v, x, rfl, _⟩; rfl
theorem ev_names {E : XK} {x : T} (h : Ev ta σ S H (R K x)) (hx : namesSize x) : EvT (tB (tCall (sp1 K namesSize fun x => .a (.bl x.areNames)) [] E (tCons ta tNil))) σ S H x.areNames := et_B ((ev_call1 (f := fun x => .a (.bl x.areNames)) h hx).Is)
theorem ok_need_roles (Z : Px K mg) : FnOk P w K mg base (L2.CX P w) 3 Z.need_roles.f Z.need_roles.fd ["roles"] (spNeed K Z.BadRoles.C "roles" T.okRoles) := by
  refine Z.need_roles.F.okX sc_need_roles spNeed_len (fun cdv A outer s H vs Q E hr h => ?_)
  obtain ⟨S, v, x, rfl, e, r, hx, q1, q2⟩ := h
  refine ⟨_, (pss_one (ps_if (PW.pt (pw_or (pt_not (pt_val (pe_call (ok_are_names Z) (hr.mono (by decide)) (by rfl) Z.are_names.g Z.are_names.F.kp Z.are_names.b .nil pass0 (pa_cons (pv 0) pa_nil)))) (pw_or1 (pt_cmpR (op_inK (K := K)) pe_str (pv 0) (by rfl)))))
   (pss_one (ps_raise rfl (takes_of rfl rfl rfl rfl) (pmk_er Z.BadRoles (ok_BadRoles Z) (hr.mono (by decide)) (pa_cons (pv 0) pa_nil) (by rfl))))
   pss_nil)), ?_⟩
  have hv : Ev (tVar 0) (start ["roles"] [v]) S H (R K x) := ev_var rfl r
  have hv' : Ev (tVar 0) (start ["roles"] [v]) S H (Is v) := is_var rfl
  have out : x.okRoles = false → ∀ S1 H1, Grow S H S1 H1 → tMkO Z.BadRoles.C (spIni K Z.BadRoles.C "roles") [] (tCons (tVar 0) tNil) (start ["roles"] [v]) H1 (fun cls d H' => E cls d H') := fun hb S1 H1 g =>
    at_raise Z.BadRoles.T Z.BadRoles.no (hv'.go g) g.sub fun u S2 H2 d g2 eu hd => by
      have eu : u = v := eu
      subst eu
      exact q2 hb d S2 _ ((g.trans g2).trans (.vol g2.sub hd)) upd_same
  have c1 := ev_names (E := E0) hv hx
  cases hn : x.areNames with
  | false =>
    refine s_when (b := true) (EvT.is (et_or (b := true) (et_not c1) fun z => by rw [hn] at z; cases z) (by rw [hn]; rfl)) e (fun _ S1 H1 g => ?_) fun z => by cases z
    exact out (by unfold T.okRoles; rw [hn]; rfl) S1 H1 g
  | true =>
    obtain ⟨hs, zs, hz, hx2, _, _⟩ := areNames_strs hn
    have c2 : Ev (tOp (rIn K false) (tC (.str "known")) (tVar 0)) (start ["roles"] [v]) S H (Is (.bl (decide (("known" : Str) ∈ zs)))) := by
      rw [← inV_strs]
      refine ev_in (neg := false) (ev_c (P := R K (.a (.str "known"))) (.a rfl)) hv fun S1 u r => ?_
      rw [← map_tS]
      rcases hx2 with rfl | rfl
      · exact .inl r
      · exact .inr r
    have hk : x.okRoles = !decide (("known" : Str) ∈ zs) := by
      unfold T.okRoles
      rw [hn, hz, any_known]
      rfl
    refine s_when (et_or (et_not c1) fun _ => et_test c2) e (fun hb S1 H1 g => ?_) fun hb S1 H1 g => ?_
    · refine out ?_ S1 H1 g
      rw [hn] at hb
      rw [hk, show decide (("known" : Str) ∈ zs) = true from hb]
      rfl
    · refine q1 ?_ S1 H1 g
      rw [hn] at hb
      rw [hk, show decide (("known" : Str) ∈ zs) = false from hb]
      rfl
theorem ok_need_labels (Z : Px K mg) : FnOk P w K mg base (L2.CX P w) 3 Z.need_labels.f Z.need_labels.fd ["labels"] (spNeed K Z.BadLabels.C "labels" T.areNames) := by
  refine Z.need_labels.F.okX sc_need_labels spNeed_len (fun cdv A outer s H vs Q E hr h => ?_)
  obtain ⟨S, v, x, rfl, e, r, hx, q1, q2⟩ := h
  refine ⟨_, (pss_one (ps_if (pt_not (pt_val (pe_call (ok_are_names Z) (hr.mono (by decide)) (by rfl) Z.are_names.g Z.are_names.F.kp Z.are_names.b .nil pass0 (pa_cons (pv 0) pa_nil))))
   (pss_one (ps_raise rfl (takes_of rfl rfl rfl rfl) (pmk_er Z.BadLabels (ok_BadLabels Z) (hr.mono (by decide)) (pa_cons (pv 0) pa_nil) (by rfl))))
   pss_nil)), ?_⟩
  have hv : Ev (tVar 0) (start ["labels"] [v]) S H (R K x) := ev_var rfl r
  have hv' : Ev (tVar 0) (start ["labels"] [v]) S H (Is v) := is_var rfl
  refine s_when (et_not (ev_names (E := E0) hv hx)) e (fun hb S1 H1 g => ?_) fun hb S1 H1 g => q1 (by cases h : x.areNames <;> rw [h] at hb <;> first | rfl | cases hb) S1 H1 g
  refine at_raise Z.BadLabels.T Z.BadLabels.no (hv'.go g) g.sub fun u S2 H2 d g2 eu hd => ?_
  have eu : u = v := eu
  subst eu
  exact q2 (by cases h : x.areNames <;> rw [h] at hb <;> first | rfl | cases hb) d S2 _ ((g.trans g2).trans (.vol g2.sub hd)) upd_same
end
end Uw
end
section
set_option Elab.async false
set_option linter.all false
set_option maxRecDepth 100000
namespace Uw
open PySem PySem.Spec PyProof.Rows L2 RZ
def tO : Option (List Str) → T
  | none => .a .non
  | some zs => tT zs
/-- the first place that is nothing, or stood ahead -/
def badFrom (i : Nat) (seen : List (List Str)) : List (Option (List Str)) → Option Nat
  | [] => none
  | none :: _ => some i
  | some zs :: r => if zs ∈ seen then some i else badFrom (i + 1) (seen ++ [zs]) r
def keyT (zs : List Str) : List Key := zs.map Sum.inr
theorem keyT_kV (zs : List Str) : (keyT zs).map kV = zs.map V.str := by
  unfold keyT
  rw [List.map_map]
  rfl
theorem keyT_inj {a b : List Str} (h : keyT a = keyT b) : a = b := by
  unfold keyT at h
  induction a generalizing b with
  | nil =>
    cases b with
    | nil => rfl
    | cons _ _ => simp at h
  | cons x xs ih =>
    cases b with
    | nil => simp at h
    | cons y ys =>
      rw [List.map_cons, List.map_cons] at h
      injection h with h1 h2
      rw [Sum.inr.inj h1, ih h2]
/-- a dict of these tuples, each with True -/
def tabT (xs : List (List Str)) : List (List Key × V) := xs.map fun z => (keyT z, V.bl true)
theorem valT (xs : List (List Str)) (z : List Str) : valV (tabT xs) (keyT z) = if z ∈ xs then some (.bl true) else none := by
  induction xs with
  | nil => rfl
  | cons x xs ih =>
    unfold valV tabT at ih ⊢
    rw [List.map_cons, List.find?_cons]
    by_cases h : x = z
    · subst h
      rw [show decide ((keyT x, V.bl true).1 = keyT x) = true from decide_eq_true rfl, if_pos List.mem_cons_self]
      rfl
    · rw [show decide ((keyT x, V.bl true).1 = keyT z) = false from decide_eq_false fun e => h (keyT_inj e)]
      show Option.map _ _ = _
      rw [ih]
      by_cases hm : z ∈ xs
      · rw [if_pos hm, if_pos (List.mem_cons_of_mem _ hm)]
      · rw [if_neg hm, if_neg fun m => hm ((List.mem_cons.mp m).resolve_left fun e => h e.symm)]
theorem putT {xs : List (List Str)} {z : List Str} (h : z ∉ xs) : putK (tabT xs) (keyT z) (.bl true) = tabT (xs ++ [z]) := by
  unfold putK
  have : ((tabT xs).any fun kv => decide (kv.1 = keyT z)) = false := by
    rw [List.any_eq_false]
    intro kv hkv e
    unfold tabT at hkv
    obtain ⟨y, hy, rfl⟩ := List.mem_map.mp hkv
    have e : keyT y = keyT z := of_decide_eq_true e
    exact h (keyT_inj e ▸ hy)
  rw [this, if_neg Bool.false_ne_true]
  unfold tabT
  rw [List.map_append]
  rfl
theorem nth_map {α : Type} {f : α → T} {xs : List α} {i : Nat} (h : i < xs.length) : nth (xs.map f) i = f xs[i] := by
  have := nth_get (xs := xs.map f) (i := i) (by rw [List.length_map]; exact h)
  rw [List.getElem?_map, List.getElem?_eq_getElem h] at this
  exact (Option.some.inj this).symm
section
variable {P : Program} {w : World} {K : PySem.W.Frag} {mg : Str → Option Value} {base : Heap}
variable {X : Cx} {σ : L2.St} {S S' H H' : Hp} {ta tb tc te tx tl : TE}
/-- an index, or nothing -/
def wv : Option Nat → V
  | none => .non
  | some i => .int (i : Nat)
def spWrong (K : PySem.W.Frag) : Sp := fun vs H Q _ => ∃ (S : Hp) (v : V) (os : List (Option (List Str))), vs = [v] ∧ Same S H ∧ Rep K S v (.l (os.map tO)) ∧ os.length ≤ 10000 ∧
  (∀ S' H', Grow S H S' H' → Q (wv (badFrom 0 [] os)) H')
theorem ok_first_wrong (Z : Px K mg) : FnOk P w K mg base CX0 1 Z.first_wrong.f Z.first_wrong.fd ["rows"] (spWrong K) := by
  refine Z.first_wrong.F.ok sc_first_wrong (by rintro vs H Q E ⟨S, v, os, rfl, _⟩; rfl) (fun cdv A outer s H vs Q E hr h => ?_)
  obtain ⟨S, v, os, rfl, e, r, hlen, q1⟩ := h
  refine ⟨_, (pss_cons (ps_set (i := 1) sc_first_wrong.nd rfl (.inl rfl) pe_dnewT)
  (pss_cons (ps_for PassesOwn.never rfl (pi_enumK (K := K) (by rfl) Z.bl.enumerate (pa_cons (pv 0) pa_nil)) (show PG _ _ (gTup K 2 _) from pg_tup (by rfl) (pgs_cons (pg_name (i := 2) sc_first_wrong.nd rfl (.inl rfl)) (pgs_cons (pg_name (i := 3) sc_first_wrong.nd rfl (.inl rfl)) pgs_nil)))
   (pss_cons (ps_if (PW.pt (pw_or (pt_cmpR op_isNK (pv 3) pe_non (nomark _)) (pw_or1 (pt_cmp (pc_din (hu_of hr) (pv 3) (pv 1))))))
   (pss_one (ps_ret (pv 2)))
   pss_nil)
  (pss_one (ps_dput (hu_of hr) (pv 1) (pv 3) pe_bl rfl))))
  (pss_one (ps_ret pe_non)))), ?_⟩
  refine q_asg fun D hD => ?_
  have hSD : S D = none := e.free hD
  have g0 : Grow S H S (upd H D (.dT [])) := .vol e hD
  refine at_for (ei_enumL (ev_var (P := R K (.l (os.map tO))) (i := 0) rfl r)) g0.sub fun S1 H1 g1 => ⟨fun i σ' S' H' => ∃ (zss : List (List Str)) (y2 y3 : Option V), σ' = [some v, some (.ref D), y2, y3] ∧ Grow S H S' H' ∧ S' D = none ∧ H' D = some (.dT (tabT zss)) ∧ zss.length = i ∧ badFrom 0 [] os = badFrom i zss (os.drop i) ∧ Same S1 S',
    fun i σ' S' H' ⟨zss, y2, y3, h1, h2, h3, h4, h5, h6, h7⟩ => ⟨h7, h2.sub⟩, ?_, fun i σ' S' H' x S2 H2 hi hP g2 px => ?_, fun σ' S' H' hP => ?_⟩
  · exact ⟨[], none, none, rfl, g0.trans g1, g1.out hSD upd_same, g1.h _ _ upd_same, rfl, rfl, Same.refl _⟩
  · obtain ⟨zss, y2, y3, rfl, g, hs, hh, hz, hbad, s1⟩ := hP
    rw [List.length_map] at hi
    refine at_pair g2.sub px fun a b pa pb => ?_
    have pa : a = .int (i : Nat) := pa
    subst pa
    rw [nth_map hi] at pb
    have gg := g.trans g2
    have hs2 : S2 D = none := g2.out hs hh
    have hh2 : H2 D = some (.dT (tabT zss)) := g2.h _ _ hh
    have hdrop : os.drop i = os[i] :: os.drop (i + 1) := (List.getElem_cons_drop hi).symm
    rw [hdrop] at hbad
    let σ2 : L2.St := [some v, some (.ref D), some (.int (i : Nat)), some b]
    have out : badFrom 0 [] os = some i → ∀ S3 H3, Grow S H S3 H3 → Q (.int (i : Nat)) H3 := fun hb S3 H3 g3 => by
      have := q1 S3 H3 g3
      rw [hb] at this
      exact this
    cases ho : os[i] with
    | none =>
      rw [ho] at pb hbad
      have t1 : EvT (tTest (tOp rIsNo (tVar 3) (tC .non))) σ2 S2 H2 true := et_test (ev_isN (x := .a .non) (ev_var (P := R K _) rfl pb))
      refine q_when (b := true) (EvT.is (et_or (b := true) t1 fun z => by cases z) rfl) g2.sub (fun _ S3 H3 g3 => ?_) fun z => by cases z
      exact q_ret (is_var (v := .int (i : Nat)) (i := 2) rfl : Ev (tVar 2) σ2 S3 H3 (Is (.int (i : Nat)))) g3.sub fun u S4 H4 g4 eu => by
        have eu : u = .int (i : Nat) := eu
        subst eu
        exact out hbad S4 H4 ((gg.trans g3).trans g4)
    | some zs =>
      rw [ho] at pb hbad
      obtain ⟨pt, rfl, hpt⟩ : ∃ pt, b = .ref pt ∧ S2 pt = some (.tup (zs.map V.str)) := by
        cases (show Rep K S2 b (tT zs) from pb) with
        | @t p vs _ h r =>
          have e := reps_strs r
          subst e
          exact ⟨p, rfl, h⟩
      have t1 : EvT (tTest (tOp rIsNo (tVar 3) (tC .non))) σ2 S2 H2 false := et_test (ev_isN (x := tT zs) (ev_var (P := R K _) rfl pb))
      have key : ∀ {H3 : Hp}, Same S2 H3 → H3 pt = some (.tup ((keyT zs).map kV)) := fun e3 => by rw [keyT_kV]; exact e3 _ _ hpt
      have t2 : EvT (tB (tDIn (tVar 3) (tVar 1))) σ2 S2 H2 (decide (zs ∈ zss)) := fun S3 H3 g3 Q3 q3 => by
        refine ⟨.ref pt, rfl, .ref D, rfl, D, _, rfl, DGet.t (g3.h _ _ hh2) (key (g3.s.trans g3.sub)), _, rfl, ?_⟩
        rw [valT]
        have hq := q3 S3 H3 (.refl g3.sub)
        by_cases hm : zs ∈ zss
        · rw [if_pos hm]
          rw [decide_eq_true hm] at hq
          exact hq
        · rw [if_neg hm]
          rw [decide_eq_false hm] at hq
          exact hq
      refine q_when (et_or t1 fun _ => t2) g2.sub (fun hb S3 H3 g3 => ?_) fun hb S3 H3 g3 => ?_
      · have hm : zs ∈ zss := of_decide_eq_true hb
        refine q_ret (is_var (v := .int (i : Nat)) (i := 2) rfl : Ev (tVar 2) σ2 S3 H3 (Is (.int (i : Nat)))) g3.sub fun u S4 H4 g4 eu => ?_
        have eu : u = .int (i : Nat) := eu
        subst eu
        refine out ?_ S4 H4 ((gg.trans g3).trans g4)
        rw [hbad]
        unfold badFrom
        rw [if_pos hm]
      · have hm : zs ∉ zss := of_decide_eq_false hb
        have hh3 := g3.h _ _ hh2
        have hs3 := g3.out hs2 hh2
        have hlt : (tabT zss).length < sizeLine := by
          unfold tabT
          rw [List.length_map]
          exact szl (by omega)
        refine ⟨.ref D, rfl, .ref pt, rfl, D, _, rfl, DPut.t hh3 (key (g3.s.trans g3.sub)) hlt, ?_⟩
        rw [putT hm]
        refine ⟨S3, zss ++ [zs], _, _, rfl, (gg.trans g3).mut hD hs3, hs3, upd_same, by rw [List.length_append, hz]; rfl, ?_, s1.trans (g2.s.trans g3.s)⟩
        rw [hbad]
        conv => lhs; unfold badFrom
        rw [if_neg hm]
  · obtain ⟨zss, y2, y3, rfl, g, hs, hh, hz, hbad, s1⟩ := hP
    have hn : badFrom 0 [] os = none := by
      rw [hbad, List.length_map, List.drop_length]
      rfl
    have := q1 S' H' g
    rw [hn] at this
    exact this
def spUnlike (K : PySem.W.Frag) (C : Addr) : Sp := fun vs H Q E => ∃ (S : Hp) (v : V) (os : List (Option (List Str))), vs = [v] ∧ Same S H ∧ Rep K S v (.l (os.map tO)) ∧ os.length ≤ 10000 ∧
  (badFrom 0 [] os = none → ∀ S' H', Grow S H S' H' → Q .non H') ∧ (∀ i, badFrom 0 [] os = some i → ∀ d S' H', Grow S H S' H' → H' d = some (.xd [("index", .int (i : Nat))]) → E (.ref C) (some d) H')
theorem ok_need_unlike (Z : Px K mg) : FnOk P w K mg base (L2.CX P w) 3 Z.need_unlike.f Z.need_unlike.fd ["rows"] (spUnlike K Z.BadPermits.C) := by
  refine Z.need_unlike.F.okX sc_need_unlike (by rintro vs H Q E ⟨S, v, os, rfl, _⟩; rfl) (fun cdv A outer s H vs Q E hr h => ?_)
  obtain ⟨S, v, os, rfl, e, r, hlen, q1, q2⟩ := h
  refine ⟨_, (pss_cons (ps_set (i := 1) sc_need_unlike.nd rfl (.inl rfl) (pe_call (ok_first_wrong Z) (hr.mono (by decide)) (by rfl) Z.first_wrong.g Z.first_wrong.F.kp Z.first_wrong.b .nil pass0 (pa_cons (pv 0) pa_nil)))
  (pss_one (ps_if (pt_cmpR op_notNK (pv 1) pe_non (nomark _))
   (pss_one (ps_raise rfl (takes_of rfl rfl rfl rfl) (pmk_er Z.BadPermits (ok_BadPermits Z) (hr.mono (by decide)) (pa_cons (pv 1) pa_nil) (by rfl))))
   pss_nil))), ?_⟩
  refine (ev_var (P := R K (.l (os.map tO))) (i := 0) (σ := [some v, none]) rfl r).at e fun u S1 H1 g1 r1 => ⟨S1, u, os, rfl, g1.sub, r1, hlen, fun S2 H2 g2 => ?_⟩
  have g := g1.trans g2
  have t1 : EvT (tTest (tOp rNotNo (tVar 1) (tC .non))) [some v, some (wv (badFrom 0 [] os))] S2 H2 ((badFrom 0 [] os).isSome) := by
    have := ev_notN (K := K) (x := .a (wv (badFrom 0 [] os))) (ev_var (P := R K _) (i := 1) (σ := [some v, some (wv (badFrom 0 [] os))]) (S := S2) (H := H2) rfl (.a (by cases badFrom 0 [] os <;> rfl)))
    exact EvT.is (et_test this) (by cases badFrom 0 [] os <;> rfl)
  dsimp only [gName]
  refine s_when t1 g2.sub (fun hb S3 H3 g3 => ?_) fun hb S3 H3 g3 => ?_
  · obtain ⟨i, hi⟩ := Option.isSome_iff_exists.mp hb
    refine at_raise Z.BadPermits.T Z.BadPermits.no (is_var (v := wv (badFrom 0 [] os)) (i := 1) rfl : Ev (tVar 1) _ S3 H3 (Is (wv (badFrom 0 [] os)))) g3.sub fun u S4 H4 d g4 eu hd => ?_
    have eu : u = wv (badFrom 0 [] os) := eu
    subst eu
    rw [hi]
    exact q2 i hi d S4 _ (((g.trans g3).trans g4).trans (.vol g4.sub hd)) upd_same
  · refine q1 ?_ S3 H3 (g.trans g3)
    cases hn : badFrom 0 [] os with
    | none => rfl
    | some i => rw [hn] at hb; cases hb
end
end Uw
end
section
set_option Elab.async false
set_option linter.all false
set_option maxRecDepth 100000
namespace Uw
open PySem PySem.Spec PyProof.Rows L2 RZ
/-- the kinds of names behind a permit's word -/
def kindsOf (z : Str) : Option (List Str) :=
  if z ∈ (["make", "bring", "show", "seal", "open"] : List Str) then some ["role"]
  else if z ∈ (["copy", "wrap", "unwrap"] : List Str) then some ["role", "role"]
  else if z = "derive" then some ["role", "label", "role"] else none
def okAt (rs ls : List Str) (k : Str) : T → Bool
  | .a (.str z) => decide (z ∈ if k = "role" then rs else ls)
  | _ => false
def allAt (rs ls : List Str) : List Str → List T → Bool
  | [], _ => true
  | _ :: _, [] => true
  | k :: ks, x :: xs => okAt rs ls k x && allAt rs ls ks xs
def readP (rs ls : List Str) (x : T) : Option (List Str) := match kindsOf x.firstWord with
  | none => none
  | some ks => if x.items.length = ks.length + 1 ∧ allAt rs ls ks (x.items.drop 1) = true then some (strsOf x.items) else none
theorem allAt_get {rs ls : List Str} : ∀ {ks : List Str} {xs : List T}, ks.length = xs.length → (allAt rs ls ks xs = true ↔ ∀ (i : Nat) (k : Str) (x : T), ks[i]? = some k → xs[i]? = some x → okAt rs ls k x = true)
  | [], [], _ => ⟨fun _ i k x h => by simp at h, fun _ => rfl⟩
  | [], _ :: _, h => nomatch h
  | _ :: _, [], h => nomatch h
  | k :: ks, x :: xs, h => by
    have ih := allAt_get (rs := rs) (ls := ls) (ks := ks) (xs := xs) (Nat.succ.inj h)
    show (okAt rs ls k x && allAt rs ls ks xs) = true ↔ _
    rw [Bool.and_eq_true, ih]
    constructor
    · rintro ⟨h1, h2⟩ i k' x' e1 e2
      cases i with
      | zero =>
        have e1 : k = k' := Option.some.inj e1
        have e2 : x = x' := Option.some.inj e2
        subst e1 e2
        exact h1
      | succ i => exact h2 i k' x' e1 e2
    · intro h
      exact ⟨h 0 k x rfl rfl, fun i k' x' e1 e2 => h (i + 1) k' x' e1 e2⟩
theorem okAt_str {rs ls : List Str} {k : Str} {x : T} (h : okAt rs ls k x = true) : ∃ z, x = tS z := by
  cases x with
  | a v =>
    cases v with
    | str z => exact ⟨z, rfl⟩
    | _ => cases h
  | _ => cases h
theorem strs_all {xs : List T} (h : ∀ x ∈ xs, ∃ z, x = tS z) : xs = (strsOf xs).map tS := by
  induction xs with
  | nil => rfl
  | cons x xs ih =>
    obtain ⟨z, rfl⟩ := h x List.mem_cons_self
    have := ih fun y hy => h y (List.mem_cons_of_mem _ hy)
    have e : strsOf (tS z :: xs) = z :: strsOf xs := rfl
    rw [e, List.map_cons, ← this]
theorem kinds_none : kindsOf "" = none := by decide +kernel
theorem firstWord_kinds {x : T} {ks : List Str} (h : kindsOf x.firstWord = some ks) : x.isSeq = true ∧ x.items ≠ [] ∧ x.items[0]? = some (tS x.firstWord) := by
  have no : ∀ {z : Str}, z = "" → kindsOf z ≠ some ks := fun e h => by rw [e, kinds_none] at h; cases h
  unfold T.firstWord at h ⊢
  split at h
  · exact ⟨rfl, List.cons_ne_nil _ _, rfl⟩
  · exact ⟨rfl, List.cons_ne_nil _ _, rfl⟩
  · exact absurd h (no rfl)
/-- the module's table -/
structure Pt (K : PySem.W.Frag) (w : World) (mg : Str → Option Value) where
  a : Addr
  g : mg "PERMITS" = some (.ref a)
  k : ∀ z : Str, ∃ o, KGet K w a z o ∧ ((o = none ∧ kindsOf z = none) ∨ ∃ p ks, o = some (.ref p) ∧ kindsOf z = some ks ∧ ∀ H, SqT K H p (ks.map V.str))
/-- names, and their texts -/
def strSeq (x : T) (zs : List Str) : Prop := x = .l (zs.map tS) ∨ x = .t (zs.map tS)
def okRead (x y z : T) : Prop := (∃ zs, strSeq x zs) ∧ (∃ zs, strSeq y zs) ∧ z.items.length ≤ 50000
def readF (x y z : T) : T := tO (readP (strsOf x.items) (strsOf y.items) z)
theorem strSeq.strs {x : T} {zs : List Str} (h : strSeq x zs) : strsOf x.items = zs := by
  rcases h with rfl | rfl <;> exact strsOf_map zs
section
variable {P : Program} {w : World} {K : PySem.W.Frag} {mg : Str → Option Value} {base : Heap}
variable {X : Cx} {σ : L2.St} {S S' H H' : Hp} {ta tb tc te tx tl : TE}
theorem ev_lenT {p : Addr} {ws : List V} (h : Ev ta σ S H (Is (.ref p))) (hp : ∀ H, SqT K H p ws) : Ev (tCB (rLenA K) (tCons ta tNil)) σ S H (Is (.int (ws.length : Nat))) := fun S1 H1 g Q q => h S1 H1 g _ fun v S2 H2 g2 e => by
  have e : v = .ref p := e
  subst e
  exact ⟨.ref p, ws.length, rfl, .inr ⟨ws, hp H2, rfl⟩, q _ S2 H2 g2 rfl⟩
theorem ev_isNV {v : V} (h : Ev ta σ S H (Is v)) : Ev (tOp rIsNo ta (tC .non)) σ S H (Is (.bl (decide (v = .non)))) :=
  ev_op h (ev_c (P := Is .non) rfl) fun u y S1 H1 g e e' => by
    have e : u = v := e
    have e' : y = .non := e'
    subst e e'
    exact op_val g.sub rfl fun Q q => ⟨rfl, q⟩
theorem wk_zipM {n : Look K} {p b : Addr} {ws us : List V} {ys : List T} (hp : ∀ H, SqT K H p ws) (hq : ∀ {H'}, Same S H' → n.q H' b us) (r : Reps K S us ys) : Wk (ItzK (lookT K) n p b) S (min ws.length ys.length) (fun i => Pr (Is (ws.getD i .non)) (R K (nth ys i))) where
  go := fun {S' H'} i e e' hi => by
    obtain ⟨u, hu, _⟩ := r.get (nth_get (show i < ys.length by omega))
    exact ⟨ws, us, _, u, hp _, hq (e.trans e'), List.getElem?_eq_getElem (show i < ws.length by omega), hu⟩
  yld := fun {S' H'} i x H2 e e' hi y => by
    obtain ⟨u, hu, ru⟩ := r.get (nth_get (show i < ys.length by omega))
    obtain ⟨D, a1, b1, rfl, hD, rfl, f1, f2⟩ := y
    have e1 : ws[i]? = some a1 := f1 ws (hp _)
    have e2 : us[i]? = some b1 := f2 us (hq (e.trans e'))
    rw [hu] at e2
    cases e2
    refine ⟨upd S' D (.tup [_, _]), .alloc e' hD, D, _, _, rfl, upd_same, ?_, (ru.same e).same (Same.new (e'.free hD))⟩
    show a1 = ws.getD i .non
    rw [List.getD_eq_getElem?_getD, e1]
    rfl
  stop := fun {S' H'} e e' => ⟨ws, us, hp _, hq (e.trans e'), by
    have := r.length
    omega⟩
theorem ei_zipM {p : Addr} {ws : List V} {y : T} (h : Ev ta σ S H (Is (.ref p))) (hp : ∀ H, SqT K H p ws) (h2 : Ev tb σ S H (R K y)) (hy : y.isSeq = true) : EvI (iZipM K (tCons ta (tCons tb tNil))) σ S H (min ws.length y.items.length) (fun i => Pr (Is (ws.getD i .non)) (R K (nth y.items i))) := fun S1 H1 g Q q =>
  h S1 H1 g _ fun v S2 H2 g2 e => h2 S2 H2 (g.trans g2) _ fun u S3 H3 g3 r => by
    have e : v = .ref p := e
    subst e
    obtain ⟨xs, rfl | rfl⟩ := isSeq_cases hy
    · cases r with
      | @l p2 us _ h r => exact ⟨p, p2, ws, us, lookL K, rfl, hp _, sqL g3.sub h, q _ S3 H3 (g2.trans g3) (wk_zipM hp (fun e => sqL e h) r)⟩
    · cases r with
      | @t p2 us _ h r => exact ⟨p, p2, ws, us, lookT K, rfl, hp _, sqT g3.sub h, q _ S3 H3 (g2.trans g3) (wk_zipM hp (fun e => sqT e h) r)⟩
theorem ev_kget (Y : Pt K w mg) {z : Str} (h : Ev ta σ S H (Is (.str z))) : Ev (tKGet K w (tC (.ref Y.a)) ta) σ S H ⟨fun _ v => (v = .non ∧ kindsOf z = none) ∨ ∃ p ks, v = .ref p ∧ kindsOf z = some ks ∧ ∀ H, SqT K H p (ks.map V.str), fun _ h => h⟩ := fun S1 H1 g Q q => by
  obtain ⟨o, hk, ho⟩ := Y.k z
  refine ⟨Y.a, rfl, ⟨z, o, hk⟩, h S1 H1 g _ fun v S2 H2 g2 e => ⟨z, o, e, hk, q _ S2 H2 g2 ?_⟩⟩
  rcases ho with ⟨rfl, hn⟩ | ⟨p, ks, rfl, hks, hp⟩
  · exact .inl ⟨rfl, hn⟩
  · exact .inr ⟨p, ks, rfl, hks, hp⟩
theorem ev_tupOf {x : T} {xs : List T} (h : Ev ta σ S H (R K x)) (hx : x = .l xs ∨ x = .t xs) : Ev (tCB (rTupA K) (tCons ta tNil)) σ S H (R K (.t xs)) := fun S1 H1 g Q q => h S1 H1 g _ fun v S2 H2 g2 r => by
  rcases hx with rfl | rfl
  · cases r with
    | @l p us _ h r => exact ⟨p, us, rfl, .inl ⟨sqL g2.sub h, fun l hl => q _ (upd S2 l (.tup us)) _ (g2.trans (.alloc g2.sub hl)) (.t upd_same (r.same (Same.new (g2.sub.free hl))))⟩⟩
  · cases r with
    | @t p us _ h r => exact ⟨p, us, rfl, .inr ⟨sqT g2.sub h, q _ S2 H2 g2 (.t h r)⟩⟩
def strSeqP (K : PySem.W.Frag) (zs : List Str) : Pd := ⟨fun S v => Rep K S v (.l ((zs.map V.str).map T.a)) ∨ Rep K S v (.t ((zs.map V.str).map T.a)), fun e h => h.imp (Rep.same e) (Rep.same e)⟩
theorem strSeqR {x : T} {zs : List Str} (h : strSeq x zs) {S : Hp} {v : V} (r : Rep K S v x) : (strSeqP K zs).P S v := by
  rcases h with rfl | rfl
  · exact .inl (map_tS zs ▸ r)
  · exact .inr (map_tS zs ▸ r)
theorem ok_read_permit (Z : Px K mg) (Y : Pt K w mg) : FnOk P w K mg base CX0 3 Z.read_permit.f Z.read_permit.fd ["roles", "labels", "thing"] (sp3 K okRead readF) := by
  refine Z.read_permit.F.ok sc_read_permit sp3_len (fun cdv A outer s H vs Q E hr h => ?_)
  obtain ⟨S, v, v2, v3, x, y, z, rfl, e, rx, ry, rz, ⟨⟨rs, hrs⟩, ⟨ls, hls⟩, hln⟩, q⟩ := h
  refine ⟨_, (pss_cons (ps_set (i := 3) sc_read_permit.nd rfl (.inl rfl) (pe_kget (pe_glob (v := .ref Y.a) (by rfl) Y.g rfl) (pe_call (ok_first_word Z) (hr.mono (by decide)) (by rfl) Z.first_word.g Z.first_word.F.kp Z.first_word.b .nil pass0 (pa_cons (pv 2) pa_nil)) ⟨by rfl, by rfl, by rfl, by rfl⟩))
  (pss_cons (ps_if (PW.pt (pw_or (pt_cmpR op_isNK (pv 3) pe_non (nomark _)) (pw_or1 (pt_cmpR op_ne (pe_callB (call_lenK (K := K)) (by rfl) Z.bl.len (by decide +kernel) (pa_cons (pv 2) pa_nil)) (pe_op op_add (pe_callB (call_lenK (K := K)) (by rfl) Z.bl.len (by decide +kernel) (pa_cons (pv 3) pa_nil)) pe_int) (nomark _)))))
   (pss_one (ps_ret pe_non))
   pss_nil)
  (pss_cons (ps_for PassesOwn.never rfl (pi_zipM (K := K) (by rfl) Z.bl.zip (pa_cons (pv 3) (pa_cons (pe_slice (sl_anyK (K := K)) (pv 2) (po_some pe_int) po_none) pa_nil))) (show PG _ _ (gTup K 2 _) from pg_tup (by rfl) (pgs_cons (pg_name (i := 4) sc_read_permit.nd rfl (.inl rfl)) (pgs_cons (pg_name (i := 5) sc_read_permit.nd rfl (.inl rfl)) pgs_nil)))
   (pss_one (ps_if (PW.pt (pw_or (pt_not (pt_val (pe_callB (call_isiK1 (K := K)) (by rfl) Z.bl.isinstance (by decide +kernel) (pa_cons (pv 5) (pa_cons (pe_bltn (v := .ty "str") (by rfl) Z.bl.str (by decide +kernel) rfl) pa_nil))))) (pw_or1 (pt_cmpR (op_notInK (K := K)) (pv 5) (pe_ifExp (pt_cmpR op_eq (pv 4) pe_str (nomark _)) (pv 0) (pv 1)) (by rfl)))))
   (pss_one (ps_ret pe_non))
   pss_nil)))
  (pss_one (ps_ret (pe_callTy (call_tupleK (K := K)) (by rfl) Z.bl.tuple (by decide +kernel) (pa_cons (pv 2) pa_nil))))))), ?_⟩
  have rn : readP rs ls z = none → ∀ S', Rep K S' .non (readF x y z) := fun h S' => by
    unfold readF
    rw [hrs.strs, hls.strs, h]
    exact .a rfl
  have hfw : Ev (tCall (sp1 K (fun _ => True) fun x => .a (.str x.firstWord)) [] E0 (tCons (tVar 2) tNil)) (start ["roles", "labels", "thing", "shape", "kind", "name"] [v, v2, v3]) S H (Is (.str z.firstWord)) := (ev_call1 (ok := fun _ => True) (f := fun x => .a (.str x.firstWord)) (ev_var (P := R K z) rfl rz) trivial).Is
  refine q_set (ev_kget Y hfw) e fun sh S1 H1 g1 hsh => ?_
  let σ1 : L2.St := [some v, some v2, some v3, some sh, none, none]
  have t1 : EvT (tTest (tOp rIsNo (tVar 3) (tC .non))) σ1 S1 H1 (decide (sh = .non)) := et_test (ev_isNV (is_var rfl))
  rcases hsh with ⟨rfl, hn⟩ | ⟨p, ks, rfl, hks, hp⟩
  · refine q_when (b := true) (EvT.is (et_or (b := true) t1 fun z => by cases z) rfl) g1.sub (fun _ S2 H2 g2 => ?_) fun z => by cases z
    refine q _ S2 H2 (g1.trans g2) (rn ?_ S2)
    unfold readP
    rw [hn]
  obtain ⟨hzs, hne, h0⟩ := firstWord_kinds hks
  have hz1 : Ev (tVar 2) σ1 S1 H1 (R K z) := ev_var rfl (rz.same g1.s)
  have t2 := et_test (ev_ne (ev_len hz1 (len_seq hzs)) (ev_I0 (g := fun i j => .int (i + j)) (ev_lenT (ta := tVar 3) (is_var rfl) hp) (is_c' (v := .int 1))) rfl)
  have rp : readP rs ls z = if z.items.length = ks.length + 1 ∧ allAt rs ls ks (z.items.drop 1) = true then some (strsOf z.items) else none := by
    unfold readP
    rw [hks]
  refine q_when (et_or t1 fun _ => t2) g1.sub (fun hb S2 H2 g2 => ?_) fun hb S2 H2 g2 => ?_
  · refine q _ S2 H2 (g1.trans g2) (rn ?_ S2)
    rw [rp, if_neg]
    rintro ⟨hl, _⟩
    rw [List.length_map, hl] at hb
    have hb : (!decide (V.int ((ks.length + 1 : Nat) : Int) = V.int ((ks.length : Nat) + 1 : Int))) = true := hb
    rw [decide_eq_true (show V.int ((ks.length + 1 : Nat) : Int) = V.int ((ks.length : Nat) + 1 : Int) by rw [Int.natCast_add]; rfl)] at hb
    cases hb
  have hl : z.items.length = ks.length + 1 := by
    rw [List.length_map] at hb
    have hb : (!decide (V.int ((z.items.length : Nat) : Int) = V.int ((ks.length : Nat) + 1 : Int))) = false := hb
    rw [Bool.not_eq_false', decide_eq_true_eq] at hb
    have := V.int.inj hb
    omega
  obtain ⟨y1, hy1, hy2, hsl⟩ : ∃ y1 : T, y1.isSeq = true ∧ y1.items = z.items.drop 1 ∧ Ev (tSl (rSlA K) (tVar 2) (tPart (tC (.int 1))) tNoPart) σ1 S2 H2 (R K y1) := by
    obtain ⟨xs, rfl | rfl⟩ := isSeq_cases hzs
    · exact ⟨.l (xs.drop 1), rfl, rfl, cutG_from xs 1 ▸ ev_slAL (hz1.go g2) (eo_some is_c') eo_none⟩
    · refine ⟨.t (xs.drop 1), rfl, rfl, cutG_from xs 1 ▸ ev_slAT (hz1.go g2) (eo_some is_c') eo_none fun h => ?_⟩
      have h := h.1
      have hl : xs.length = ks.length + 1 := hl
      rw [HT.sIx_nat] at h
      omega
  have hly : y1.items.length = ks.length := by rw [hy2, List.length_drop]; omega
  have gg2 := g1.trans g2
  refine at_for (ei_zipM (ta := tVar 3) (is_var rfl) hp hsl hy1) g2.sub fun S3 H3 g3 => ⟨fun i σ' S' H' => ∃ y4 y5, σ' = [some v, some v2, some v3, some (.ref p), y4, y5] ∧ Grow S H S' H' ∧ Same S3 S' ∧ ∀ (j : Nat) (k : Str) (x : T), j < i → ks[j]? = some k → y1.items[j]? = some x → okAt rs ls k x = true,
    fun i σ' S' H' ⟨y4, y5, _, h2, h3, _⟩ => ⟨h3, h2.sub⟩, ⟨none, none, rfl, gg2.trans g3, Same.refl _, fun j k x hj => absurd hj (Nat.not_lt_zero _)⟩, fun i σ' S' H' x4 S4 H4 hi hP g4 px => ?_, fun σ' S' H' hP => ?_⟩
  · obtain ⟨y4, y5, rfl, g, s3, hall⟩ := hP
    rw [List.length_map, hly, Nat.min_self] at hi
    refine at_pair g4.sub px fun a b pa pb => ?_
    have hk : ks[i]? = some ks[i] := List.getElem?_eq_getElem hi
    have hx : y1.items[i]? = some (nth y1.items i) := nth_get (by omega)
    have pa : a = .str ks[i] := by
      have pa : a = (ks.map V.str).getD i .non := pa
      rw [pa, List.getD_eq_getElem?_getD, List.getElem?_map, hk]
      rfl
    subst pa
    have gg := g.trans g4
    have hb' : Ev (tVar 5) [some v, some v2, some v3, some (.ref p), some (.str ks[i]), some b] S4 H4 (R K (nth y1.items i)) := ev_var rfl pb
    have u1 := et_not (et_B (ev_isi (c := "str") hb' (by decide) (by decide)))
    have bad : okAt rs ls ks[i] (nth y1.items i) = false → ∀ S5 H5, Grow S4 H4 S5 H5 → Q .non H5 := fun hbad S5 H5 g5 => by
      refine q _ S5 H5 (gg.trans g5) (rn ?_ S5)
      rw [rp, if_neg]
      rintro ⟨_, h2⟩
      rw [← hy2] at h2
      rw [(allAt_get hly.symm).mp h2 i _ _ hk hx] at hbad
      cases hbad
    cases hs : isSub (nth y1.items i).ty "str" with
    | false =>
      rw [hs] at u1
      refine s_when (b := true) (EvT.is (et_or (b := true) u1 fun z => by cases z) rfl) g4.sub (fun _ S5 H5 g5 => ?_) fun z => by cases z
      refine bad ?_ S5 H5 g5
      cases hn : okAt rs ls ks[i] (nth y1.items i) with
      | false => rfl
      | true =>
        obtain ⟨zz, hzz⟩ := okAt_str hn
        rw [hzz] at hs
        exact absurd hs (by decide : ¬ isSub "str" "str" = false)
    | true =>
      rw [hs] at u1
      obtain ⟨zz, hzz⟩ := isStr_of hs
      rw [hzz] at hb' bad hx
      have hw : Ev (tIf (tTest (tOp rEq (tVar 4) (tC (.str "role")))) (tVar 0) (tVar 1)) [some v, some v2, some v3, some (.ref p), some (.str ks[i]), some b] S4 H4 (strSeqP K (if ks[i] = "role" then rs else ls)) := by
        refine ev_if (et_test (ev_eq (is_var (v := .str ks[i]) rfl) (is_c' (v := .str "role")) rfl)) (fun h => ?_) fun h => ?_
        · rw [if_pos (V.str.inj (of_decide_eq_true h))]
          exact ev_var rfl (strSeqR hrs (rx.same gg.s))
        · rw [if_neg fun z => of_decide_eq_false h (congrArg V.str z)]
          exact ev_var rfl (strSeqR hls (ry.same gg.s))
      have u2 := et_test (ev_in (neg := true) hb' hw fun _ _ h => h)
      rw [inV_strs] at u2
      refine s_when (et_or u1 fun _ => u2) g4.sub (fun hb S5 H5 g5 => ?_) fun hb S5 H5 g5 => ?_
      · refine bad ?_ S5 H5 g5
        have hb : (!decide (zz ∈ if ks[i] = "role" then rs else ls)) = true := hb
        show decide (zz ∈ if ks[i] = "role" then rs else ls) = false
        revert hb
        cases decide (zz ∈ if ks[i] = "role" then rs else ls) <;> simp
      · refine ⟨S5, _, _, rfl, gg.trans g5, s3.trans (g4.s.trans g5.s), fun j k x hj h1 h2 => ?_⟩
        by_cases hji : j < i
        · exact hall j k x hji h1 h2
        · have hji : j = i := by omega
          subst hji
          rw [hk] at h1
          cases h1
          rw [hx] at h2
          cases h2
          have hb : (!decide (zz ∈ if ks[j] = "role" then rs else ls)) = false := hb
          show decide (zz ∈ if ks[j] = "role" then rs else ls) = true
          revert hb
          cases decide (zz ∈ if ks[j] = "role" then rs else ls) <;> simp
  · obtain ⟨y4, y5, rfl, g, s3, hall⟩ := hP
    rw [List.length_map, hly, Nat.min_self] at hall
    have ha : allAt rs ls ks (z.items.drop 1) = true := by
      rw [← hy2]
      exact (allAt_get hly.symm).mpr fun i k x h1 h2 => hall i k x (List.getElem?_eq_some_iff.mp h1).1 h1 h2
    rw [if_pos ⟨hl, ha⟩] at rp
    obtain ⟨xs, hx⟩ := isSeq_cases hzs
    have hxs : z.items = xs := by rcases hx with rfl | rfl <;> rfl
    refine q_ret (ev_tupOf (ev_var (P := R K z) rfl (rz.same g.s)) hx) g.sub fun u S5 H5 g5 ru => q u S5 H5 (g.trans g5) ?_
    have : readF x y z = .t xs := by
      unfold readF
      rw [hrs.strs, hls.strs, rp, hxs]
      show T.t ((strsOf xs).map tS) = .t xs
      rw [← strs_all]
      intro w hw
      obtain ⟨i, hi⟩ := List.mem_iff_getElem?.mp hw
      cases i with
      | zero => exact ⟨_, (Option.some.inj (h0.symm.trans (hxs ▸ hi))).symm⟩
      | succ i =>
        have hi' : y1.items[i]? = some w := by rw [hy2, hxs, List.getElem?_drop, Nat.add_comm]; exact hi
        have hlt : i < ks.length := by
          have := (List.getElem?_eq_some_iff.mp hi').1
          omega
        exact okAt_str (hall i _ w hlt (List.getElem?_eq_getElem hlt) hi')
    rw [this]
    exact ru
end
end Uw
end
section
set_option Elab.async false
set_option linter.all false
set_option maxRecDepth 100000
namespace Uw
open PySem PySem.Spec PyProof.Rows L2 RZ
def isP (x y z : T) : Bool := (readP (strsOf x.items) (strsOf y.items) z).isSome
/-- both are names; or the wrong one is told of -/
def spBoth (K : PySem.W.Frag) (C1 C2 : Addr) (x y : T) (v1 v2 : V) (S H : Hp) (Q : Hp → Hp → Prop) (E : XK) : Prop := Rep K S v1 x ∧ Rep K S v2 y ∧ namesSize x ∧ namesSize y ∧
  (x.okRoles = true → y.areNames = true → ∀ S' H', Grow S H S' H' → Q S' H') ∧
  (x.okRoles = false → ∀ d S' H', Grow S H S' H' → H' d = some (.xd [("roles", v1)]) → E (.ref C1) (some d) H') ∧
  (x.okRoles = true → y.areNames = false → ∀ d S' H', Grow S H S' H' → H' d = some (.xd [("labels", v2)]) → E (.ref C2) (some d) H')
def spIsP (K : PySem.W.Frag) (C1 C2 : Addr) : Sp := fun vs H Q E => ∃ (S : Hp) (v1 v2 v3 : V) (x y z : T), vs = [v1, v2, v3] ∧ Same S H ∧ Rep K S v3 z ∧ z.items.length ≤ 50000 ∧ spBoth K C1 C2 x y v1 v2 S H (fun _ H' => Q (.bl (isP x y z)) H') E
theorem okRoles_names {x : T} (h : x.okRoles = true) : x.areNames = true := by
  unfold T.okRoles at h
  rw [Bool.and_eq_true] at h
  exact h.1
theorem names_seq {x : T} (h : x.areNames = true) : ∃ zs, strSeq x zs := let ⟨_, zs, _, hx, _⟩ := areNames_strs h; ⟨zs, hx⟩
section
variable {P : Program} {w : World} {K : PySem.W.Frag} {mg : Str → Option Value} {base : Heap}
theorem tO_isNon (o : Option (List Str)) : (!(tO o).isNon) = o.isSome := by cases o <;> rfl
theorem ok_is_permit (Z : Px K mg) (Y : Pt K w mg) : FnOk P w K mg base (L2.CX P w) 4 Z.is_permit.f Z.is_permit.fd ["roles", "labels", "thing"] (spIsP K Z.BadRoles.C Z.BadLabels.C) := by
  refine Z.is_permit.F.okX sc_is_permit (by rintro vs H Q E ⟨S, v1, v2, v3, x, y, z, rfl, _⟩; rfl) (fun cdv A outer s H vs Q E hr h => ?_)
  obtain ⟨S, v1, v2, v3, x, y, z, rfl, e, rz, hz, rx, ry, nx, ny, q, q1, q2⟩ := h
  refine ⟨_, (pss_cons (ps_expr (pe_call (ok_need_roles Z) (hr.mono (by decide)) (by rfl) Z.need_roles.g Z.need_roles.F.kp Z.need_roles.b .nil (passes_call (takes_of rfl rfl rfl rfl) (fun _ _ _ _ h => h)) (pa_cons (pv 0) pa_nil)))
  (pss_cons (ps_expr (pe_call (ok_need_labels Z) (hr.mono (by decide)) (by rfl) Z.need_labels.g Z.need_labels.F.kp Z.need_labels.b .nil (passes_call (takes_of rfl rfl rfl rfl) (fun _ _ _ _ h => h)) (pa_cons (pv 1) pa_nil)))
  (pss_one (ps_ret (pe_cmpR op_notNK (pe_call (ok_read_permit Z Y) (hr.mono (by decide)) (by rfl) Z.read_permit.g Z.read_permit.F.kp Z.read_permit.b .nil pass0 (pa_cons (pv 0) (pa_cons (pv 1) (pa_cons (pv 2) pa_nil)))) pe_non (nomark _)))))), ?_⟩
  refine ⟨v1, rfl, S, v1, x, rfl, e, rx, nx, fun h1 S1 H1 g1 => ?_, fun h1 d S1 H1 g1 hd => q1 h1 d S1 H1 g1 hd⟩
  refine ⟨v2, rfl, S1, v2, y, rfl, g1.sub, ry.same g1.s, ny, fun h2 S2 H2 g2 => ?_, fun h2 d S2 H2 g2 hd => q2 h1 h2 d S2 H2 (g1.trans g2) hd⟩
  have gg := g1.trans g2
  have c := ev_notN (ev_call3 (K := K) (E := E0) (ok := okRead) (f := readF) (ta := tVar 0) (tb := tVar 1) (tc := tVar 2) (σ := start ["roles", "labels", "thing"] [v1, v2, v3]) (S := S2) (H := H2) (ev_var rfl (rx.same gg.s)) (ev_var rfl (ry.same gg.s)) (ev_var rfl (rz.same gg.s)) ⟨names_seq (okRoles_names h1), names_seq h2, hz⟩)
  refine q_ret c gg.sub fun u S3 H3 g3 eu => ?_
  have eu : u = _ := eu
  rw [show (!(readF x y z).isNon) = isP x y z from tO_isNon _] at eu
  subst eu
  exact q h1 h2 S3 H3 (gg.trans g3)
end
end Uw
end
section
set_option Elab.async false
set_option linter.all false
set_option maxRecDepth 100000
namespace Uw
open PySem PySem.Spec PyProof.Rows L2 RZ
/-- a dict of texts, each with True -/
def tabK (xs : List Str) : List (Key × V) := xs.map fun z => (Sum.inr z, V.bl true)
theorem putKk {xs : List Str} {z : Str} (h : z ∉ xs) : putK (tabK xs) (Sum.inr z) (.bl true) = tabK (xs ++ [z]) := by
  unfold putK
  have : ((tabK xs).any fun kv => decide (kv.1 = Sum.inr z)) = false := by
    rw [List.any_eq_false]
    intro kv hkv e
    unfold tabK at hkv
    obtain ⟨y, hy, rfl⟩ := List.mem_map.mp hkv
    have e : (Sum.inr y : Key) = Sum.inr z := of_decide_eq_true e
    exact h (Sum.inr.inj e ▸ hy)
  rw [this, if_neg Bool.false_ne_true]
  unfold tabK
  rw [List.map_append]
  rfl
def IsK (xs : List Str) : Pd := ⟨fun S v => ∃ p, v = .ref p ∧ S p = some (.dK (tabK xs)), fun e ⟨p, h1, h2⟩ => ⟨p, h1, e _ _ h2⟩⟩
def IsT (xs : List (List Str)) : Pd := ⟨fun S v => ∃ p, v = .ref p ∧ S p = some (.dT (tabT xs)), fun e ⟨p, h1, h2⟩ => ⟨p, h1, e _ _ h2⟩⟩
section
variable {K : PySem.W.Frag} {σ : L2.St} {S H : Hp} {wi : TI} {j : Nat} {vs : List Nat}
/-- {x: True for x in ..}: the table tab of the first i stands behind i turns -/
theorem ev_dc {o : HO} {n : Nat} {it : Nat → Pd} (tab : Nat → HO) (h0 : tab 0 = o) (ht : ∀ i vs, tab i ≠ .tup vs) (hi : EvI wi σ S H n it) (hw : ∀ x, wipe ((wipe σ vs).set j (some x)) vs = wipe σ vs) (hj : ∀ x, ((wipe σ vs).set j (some x))[j]? = some (some x))
    (put : ∀ i D x S1 H1, i < n → Same S1 H1 → (it i).P S1 x → H1 D = some (tab i) → DPut H1 D x (.bl true) (upd H1 D (tab (i + 1)))) :
    Ev (tDcA o wi (gName j) tYes (tVar j) (tC (.bl true)) vs) σ S H ⟨fun S v => ∃ p, v = .ref p ∧ S p = some (tab n), fun e ⟨p, h1, h2⟩ => ⟨p, h1, e _ _ h2⟩⟩ := fun S0 H0 g0 Q q => hi S0 H0 g0 _ fun J S1 H1 g1 W D hD => by
  subst h0
  have hS : S1 D = none := g1.sub.free hD
  refine ⟨fun i m H' => m = n - i ∧ i ≤ n ∧ ∃ S', Grow S1 H1 S' H' ∧ S' D = none ∧ H' D = some (tab i), ⟨n, by simp, Nat.zero_le _, S1, .vol g1.sub hD, hS, upd_same⟩, ?_⟩
  rintro i m H' ⟨rfl, hin, S', g, hs, hh⟩
  by_cases hlt : i < n
  · refine .inr ⟨W.go i g.s g.sub hlt, fun H3 => ∃ S3, Grow S1 H1 S3 H3 ∧ S3 D = none ∧ H3 D = some (tab (i + 1)), fun H3 p => ⟨n - (i + 1), by omega, rfl, hlt, p⟩, fun x H2 y => ?_⟩
    obtain ⟨S2, g2, px⟩ := W.yld i x H2 g.s g.sub hlt y
    have hs2 := g2.out hs hh (ht i)
    have hh2 := g2.h _ _ hh
    refine ⟨hw x, iteT (B := ∃ S3, Grow S1 H1 S3 H2 ∧ S3 D = none ∧ H2 D = some (tab (i + 1))) ⟨x, hj x, _, put i D x S2 H2 hlt g2.sub px hh2, S2, (g.trans g2).mut hD hs2, hs2, upd_same⟩⟩
  · have e : i = n := by omega
    subst e
    exact .inl ⟨W.stop g.s g.sub, q _ (upd S' D (tab i)) H' (g1.trans (g.freeze hD hs hh)) ⟨D, rfl, upd_same⟩⟩
theorem take_new {α : Type} {xs : List α} {i : Nat} (nd : xs.Nodup) (h : i < xs.length) : xs[i] ∉ xs.take i := by
  intro hm
  obtain ⟨j, hj⟩ := List.mem_iff_getElem?.mp hm
  rw [List.getElem?_take] at hj
  by_cases hji : j < i
  · rw [if_pos hji] at hj
    obtain ⟨hl, e⟩ := List.getElem?_eq_some_iff.mp hj
    exact absurd e (List.pairwise_iff_getElem.mp nd j i hl h hji)
  · rw [if_neg hji] at hj
    cases hj
theorem take_next {α : Type} {xs : List α} {i : Nat} (h : i < xs.length) : xs.take (i + 1) = xs.take i ++ [xs[i]] := by
  rw [List.take_add_one, List.getElem?_eq_getElem h]
  rfl
theorem ev_dcK {xs : List Str} (hi : EvI wi σ S H (xs.map tS).length (fun i => R K (nth (xs.map tS) i))) (hn : xs.length ≤ 50000) (nd : xs.Nodup) (hw : ∀ x, wipe ((wipe σ vs).set j (some x)) vs = wipe σ vs) (hj : ∀ x, ((wipe σ vs).set j (some x))[j]? = some (some x)) :
    Ev (tDcA (.dK []) wi (gName j) tYes (tVar j) (tC (.bl true)) vs) σ S H (IsK xs) := by
  refine (ev_dc (fun i => .dK (tabK (xs.take i))) rfl (fun i vs h => nomatch h) hi hw hj fun i D x S1 H1 hi e px hD => ?_).imp fun S v ⟨p, h1, h2⟩ => ⟨p, h1, by rw [h2, List.length_map, List.take_length]⟩
  rw [List.length_map] at hi
  rw [nth_map hi] at px
  have ex : x = .str xs[i] := (Rep.flat px).1
  subst ex
  have := DPut.k (k := Sum.inr xs[i]) (v := .bl true) hD (szl (by unfold tabK; rw [List.length_map, List.length_take]; omega))
  rw [putKk (take_new nd hi), ← take_next hi] at this
  exact this
theorem ev_dcT {xs : List (List Str)} (hi : EvI wi σ S H (xs.map tT).length (fun i => R K (nth (xs.map tT) i))) (hn : xs.length ≤ 50000) (nd : xs.Nodup) (hw : ∀ x, wipe ((wipe σ vs).set j (some x)) vs = wipe σ vs) (hj : ∀ x, ((wipe σ vs).set j (some x))[j]? = some (some x)) :
    Ev (tDcA (.dT []) wi (gName j) tYes (tVar j) (tC (.bl true)) vs) σ S H (IsT xs) := by
  refine (ev_dc (fun i => .dT (tabT (xs.take i))) rfl (fun i vs h => nomatch h) hi hw hj fun i D x S1 H1 hi e px hD => ?_).imp fun S v ⟨p, h1, h2⟩ => ⟨p, h1, by rw [h2, List.length_map, List.take_length]⟩
  rw [List.length_map] at hi
  rw [nth_map hi] at px
  obtain ⟨pt, rfl, hpt⟩ : ∃ pt, x = .ref pt ∧ S1 pt = some (.tup (xs[i].map V.str)) := by
    cases (show Rep K S1 x (tT xs[i]) from px) with
    | @t p vs _ h r =>
      have e := reps_strs r
      subst e
      exact ⟨p, rfl, h⟩
  have := DPut.t (k := keyT xs[i]) (v := .bl true) hD (by rw [keyT_kV]; exact e _ _ hpt) (szl (by unfold tabT; rw [List.length_map, List.length_take]; omega))
  rw [putT (take_new nd hi), ← take_next hi] at this
  exact this
end
end Uw
end
section
set_option Elab.async false
set_option linter.all false
set_option maxRecDepth 100000
namespace Uw
open PySem PySem.Spec PyProof.Rows L2 RZ
abbrev s_Book___init__ : Stmt := inClass (topS 16) 0
theorem sc_Book___init__ : FnScope ["self", "roles", "labels", "permits", "rows", "thing", "role", "label", "permit"] ["self", "roles", "labels", "permits"] (defScope s_Book___init__) := ⟨rfl, rfl, rfl, by decide +kernel, rfl, by decide +kernel, by decide +kernel⟩
abbrev s_Book_all_roles : Stmt := inClass (topS 16) 1
theorem sc_Book_all_roles : FnScope ["self"] ["self"] (defScope s_Book_all_roles) := ⟨rfl, rfl, rfl, by decide +kernel, rfl, by decide +kernel, by decide +kernel⟩
abbrev s_Book_all_labels : Stmt := inClass (topS 16) 2
theorem sc_Book_all_labels : FnScope ["self"] ["self"] (defScope s_Book_all_labels) := ⟨rfl, rfl, rfl, by decide +kernel, rfl, by decide +kernel, by decide +kernel⟩
abbrev s_Book_all_permits : Stmt := inClass (topS 16) 3
theorem sc_Book_all_permits : FnScope ["self"] ["self"] (defScope s_Book_all_permits) := ⟨rfl, rfl, rfl, by decide +kernel, rfl, by decide +kernel, by decide +kernel⟩
abbrev s_Book___eq__ : Stmt := inClass (topS 16) 7
theorem sc_Book___eq__ : FnScope ["self", "other"] ["self", "other"] (defScope s_Book___eq__) := ⟨rfl, rfl, rfl, by decide +kernel, rfl, by decide +kernel, by decide +kernel⟩
/-- a method of the class at C -/
structure Md (K : PySem.W.Frag) (C : Addr) (x qual : Str) (st : Stmt) (ps : List Str) where
  f : Addr
  fd : FuncData
  F : Fun K x qual st f fd
  b : Binds K fd ps []
  m : Meth K C x f
structure Bk (K : PySem.W.Frag) (mg : Str → Option Value) where
  C : Addr
  g : mg "Book" = some (.ref C)
  c : Cls K C
  fI : Addr
  fd : FuncData
  F : Fun K "__init__" "Book.__init__" s_Book___init__ fI fd
  b : Binds K fd ["self", "roles", "labels", "permits"] []
  M : Mk K C fI
  nR : NoAttr K C "_roles"
  nL : NoAttr K C "_labels"
  nP : NoAttr K C "_permits"
  all_roles : Md K C "all_roles" "Book.all_roles" s_Book_all_roles ["self"]
  all_labels : Md K C "all_labels" "Book.all_labels" s_Book_all_labels ["self"]
  all_permits : Md K C "all_permits" "Book.all_permits" s_Book_all_permits ["self"]
  eq : Md K C "__eq__" "Book.__eq__" s_Book___eq__ ["self", "other"]
inductive Bo where
  | roles | labels | permits (i : Nat) | ok (rs ls : List Str) (ps : List (List Str))
/-- what Book(a, b, c) comes to -/
def bookOf (a b c : T) : Bo :=
  if a.okRoles = false then .roles else if b.areNames = false then .labels else if c.isSeq = false then .permits 0
  else match badFrom 0 [] (c.items.map (readP (strsOf a.items) (strsOf b.items))) with
    | some i => .permits i
    | none => .ok (isort strO (strsOf a.items)) (isort strO (strsOf b.items)) (isort tupO ((c.items.map (readP (strsOf a.items) (strsOf b.items))).filterMap id))
/-- a book as it stands -/
def IsBook (C : Addr) (rs ls : List Str) (ps : List (List Str)) : Pd := ⟨fun S v => ∃ x dx a b c, v = .ref x ∧ S x = some (.ins C dx [("_roles", .ref a), ("_labels", .ref b), ("_permits", .ref c)]) ∧ S a = some (.dK (tabK rs)) ∧ S b = some (.dK (tabK ls)) ∧ S c = some (.dT (tabT ps)),
  fun e ⟨x, dx, a, b, c, h1, h2, h3, h4, h5⟩ => ⟨x, dx, a, b, c, h1, e _ _ h2, e _ _ h3, e _ _ h4, e _ _ h5⟩⟩
def permitsSize (c : T) : Prop := c.items.length ≤ 10000 ∧ ∀ z ∈ c.items, z.items.length ≤ 50000
/-- what a call may bring, from what stood ahead -/
def bookEnds (C CR CL CP : Addr) (a b c : T) (v1 v2 : V) (S H0 : Hp) (Q : Hp → Hp → List Str → List Str → List (List Str) → Prop) (E : XK) : Prop := match bookOf a b c with
  | .roles => ∀ d S' H', Grow S H0 S' H' → H' d = some (.xd [("roles", v1)]) → E (.ref CR) (some d) H'
  | .labels => ∀ d S' H', Grow S H0 S' H' → H' d = some (.xd [("labels", v2)]) → E (.ref CL) (some d) H'
  | .permits i => ∀ d S' H', Grow S H0 S' H' → H' d = some (.xd [("index", .int (i : Nat))]) → E (.ref CP) (some d) H'
  | .ok rs ls ps => ∀ S' H', Grow S H0 S' H' → Q S' H' rs ls ps
def spBook (K : PySem.W.Frag) (C CR CL CP : Addr) : Sp := fun vs H Q E => ∃ (S H0 : Hp) (x dx : Addr) (v1 v2 v3 : V) (a b c : T), vs = [.ref x, v1, v2, v3] ∧ H = upd (upd H0 dx (.own x)) x (.ins C dx []) ∧ H0 x = none ∧ H0 dx = none ∧ dx ≠ x ∧ Same S H0 ∧
  Rep K S v1 a ∧ Rep K S v2 b ∧ Rep K S v3 c ∧ namesSize a ∧ namesSize b ∧ permitsSize c ∧ a.items.length < 64 ∧ b.items.length < 64 ∧
  bookEnds C CR CL CP a b c v1 v2 S H0 (fun S' H' rs ls ps => (IsBook C rs ls ps).P S' (.ref x) → Q .non H') E
theorem badFrom_none : ∀ {os : List (Option (List Str))} {seen : List (List Str)} {i : Nat}, badFrom i seen os = none → seen.Nodup → os = (os.filterMap id).map some ∧ (seen ++ os.filterMap id).Nodup
  | [], seen, i, _, nd => ⟨rfl, by rw [List.filterMap_nil, List.append_nil]; exact nd⟩
  | none :: r, _, _, h, _ => nomatch h
  | some zs :: r, seen, i, h, nd => by
    unfold badFrom at h
    by_cases hm : zs ∈ seen
    · rw [if_pos hm] at h
      cases h
    · rw [if_neg hm] at h
      have nd' : (seen ++ [zs]).Nodup := List.nodup_append.mpr ⟨nd, List.nodup_cons.mpr ⟨List.not_mem_nil, List.nodup_nil⟩, fun a ha b hb e => hm ((List.mem_singleton.mp hb) ▸ e ▸ ha)⟩
      obtain ⟨h1, h2⟩ := badFrom_none h nd'
      have e : (some zs :: r).filterMap id = zs :: r.filterMap id := rfl
      rw [e]
      refine ⟨by rw [List.map_cons, ← h1], ?_⟩
      rw [List.append_assoc] at h2
      exact h2
theorem readP_ne {rs ls : List Str} {z : T} {zs : List Str} (h : readP rs ls z = some zs) : zs ≠ [] := by
  unfold readP at h
  split at h
  · cases h
  · rename_i ks hks
    split at h
    · rename_i hc
      cases h
      obtain ⟨hs, hne, h0⟩ := firstWord_kinds hks
      intro he
      cases hi : z.items with
      | nil => exact hne hi
      | cons y ys =>
        rw [hi] at h0 he
        have h0 : y = tS z.firstWord := Option.some.inj h0
        subst h0
        cases he
    · cases h
section
variable {P : Program} {w : World} {K : PySem.W.Frag} {mg : Str → Option Value} {base : Heap}
theorem q_fld {σ : L2.St} {S H : Hp} {tv tx : TE} {tz : TS} {D : Ends} {Pp : Pd} {f : Str} (h : Ev tv σ S H Pp) (e : Same S H)
    (k : ∀ y S2 H2, Grow S H S2 H2 → Pp.P S2 y → tx σ H2 fun x H3 => ∃ a C dx fs, x = .ref a ∧ H3 a = some (.ins C dx fs) ∧ Cls K C ∧ NoAttr K C f ∧ fs.length < 1000 ∧ tz D σ (upd H3 a (.ins C dx (putF f y fs)))) : tSeq (sFld K tx tv f) tz D σ H := h.at e k
theorem s_fld {σ : L2.St} {S H : Hp} {tv tx : TE} {D : Ends} {Pp : Pd} {f : Str} (h : Ev tv σ S H Pp) (e : Same S H)
    (k : ∀ y S2 H2, Grow S H S2 H2 → Pp.P S2 y → tx σ H2 fun x H3 => ∃ a C dx fs, x = .ref a ∧ H3 a = some (.ins C dx fs) ∧ Cls K C ∧ NoAttr K C f ∧ fs.length < 1000 ∧ D.nx σ (upd H3 a (.ins C dx (putF f y fs)))) : sFld K tx tv f D σ H := h.at e k
theorem ok_init (Z : Px K mg) (Y : Pt K w mg) (B : Bk K mg) : FnOk P w K mg base (L2.CX P w) 4 B.fI B.fd ["self", "roles", "labels", "permits"] (spBook K B.C Z.BadRoles.C Z.BadLabels.C Z.BadPermits.C) := by
  refine B.F.okX sc_Book___init__ (by rintro vs H Q E ⟨S, H0, x, dx, v1, v2, v3, a, b, c, rfl, _⟩; rfl) (fun cdv A outer s H vs Q E hr h => ?_)
  obtain ⟨S, H0, x, dx, v1, v2, v3, a, b, c, rfl, rfl, hx, hdx, hne, e0, ra, rb, rc, na, nb, nc, la, lb, q⟩ := h
  refine ⟨_, (pss_cons (ps_expr (pe_call (ok_need_roles Z) (hr.mono (by decide)) (by rfl) Z.need_roles.g Z.need_roles.F.kp Z.need_roles.b .nil (passes_call (takes_of rfl rfl rfl rfl) (fun _ _ _ _ h => h)) (pa_cons (pv 1) pa_nil)))
  (pss_cons (ps_expr (pe_call (ok_need_labels Z) (hr.mono (by decide)) (by rfl) Z.need_labels.g Z.need_labels.F.kp Z.need_labels.b .nil (passes_call (takes_of rfl rfl rfl rfl) (fun _ _ _ _ h => h)) (pa_cons (pv 2) pa_nil)))
  (pss_cons (ps_if (pt_not (pt_val (pe_call (ok_is_list Z) (hr.mono (by decide)) (by rfl) Z.is_list.g Z.is_list.F.kp Z.is_list.b .nil pass0 (pa_cons (pv 3) pa_nil))))
   (pss_one (ps_raise rfl (takes_of rfl rfl rfl rfl) (pmk_er Z.BadPermits (ok_BadPermits Z) (hr.mono (by decide)) (pa_cons pe_int pa_nil) (by rfl))))
   pss_nil)
  (pss_cons (ps_setLc (i := 4) (own := [("thing", 5)]) (g := gName 5) (tt := tYes) rfl sc_Book___init__.nd rfl rfl (sw_true rfl rfl rfl (by decide +kernel)) (pi_seqK (K := K) (pv 3)) (blkOk_by (N := ["self", "roles", "labels", "permits", "rows", "thing", "role", "label", "permit"]) (sc := defScope s_Book___init__) (own := [("thing", 5)]) (by decide +kernel)) (fun _ _ _ _ _ => pg_name (i := 5) sc_Book___init__.nd rfl (Or.inl rfl)) (fun _ _ _ _ _ => pts_nil) (fun _ _ _ _ _ => by exact (pe_call (ok_read_permit Z Y) (hr.mono (by decide)) (by rfl) Z.read_permit.g Z.read_permit.F.kp Z.read_permit.b .nil pass0 (pa_cons (pv 1) (pa_cons (pv 2) (pa_cons (pv 5) pa_nil))))))
  (pss_cons (ps_expr (pe_call (ok_need_unlike Z) (hr.mono (by decide)) (by rfl) Z.need_unlike.g Z.need_unlike.F.kp Z.need_unlike.b .nil (passes_call (takes_of rfl rfl rfl rfl) (fun _ _ _ _ h => h)) (pa_cons (pv 4) pa_nil)))
  (pss_cons (ps_fld (pv 0) (pe_dcA (own := [("role", 6)]) (g := gName 6) (tt := tYes) (fun h b => dk_empty h b) rfl (hu_of hr) sc_Book___init__.nd (pi_seqK (K := K) (pe_callB (cr_sortedA (K := K)) (by rfl) Z.bl.sorted (by decide +kernel) (pa_cons (pv 1) pa_nil))) (blkOk_by (N := ["self", "roles", "labels", "permits", "rows", "thing", "role", "label", "permit"]) (sc := defScope s_Book___init__) (own := [("role", 6)]) (by decide +kernel)) (fun _ _ _ _ _ => pg_name (i := 6) sc_Book___init__.nd rfl (Or.inl rfl)) (fun _ _ _ _ _ => pts_nil) (fun _ _ _ _ _ => by exact (pv 6)) (fun _ _ _ _ _ => by exact pe_bl)) (by rfl))
  (pss_cons (ps_fld (pv 0) (pe_dcA (own := [("label", 7)]) (g := gName 7) (tt := tYes) (fun h b => dk_empty h b) rfl (hu_of hr) sc_Book___init__.nd (pi_seqK (K := K) (pe_callB (cr_sortedA (K := K)) (by rfl) Z.bl.sorted (by decide +kernel) (pa_cons (pv 2) pa_nil))) (blkOk_by (N := ["self", "roles", "labels", "permits", "rows", "thing", "role", "label", "permit"]) (sc := defScope s_Book___init__) (own := [("label", 7)]) (by decide +kernel)) (fun _ _ _ _ _ => pg_name (i := 7) sc_Book___init__.nd rfl (Or.inl rfl)) (fun _ _ _ _ _ => pts_nil) (fun _ _ _ _ _ => by exact (pv 7)) (fun _ _ _ _ _ => by exact pe_bl)) (by rfl))
  (pss_one (ps_fld (pv 0) (pe_dcA (own := [("permit", 8)]) (g := gName 8) (tt := tYes) (fun h b => dt_empty h b) rfl (hu_of hr) sc_Book___init__.nd (pi_seqK (K := K) (pe_callB (cr_sortedTK (K := K)) (by rfl) Z.bl.sorted (by decide +kernel) (pa_cons (pv 4) pa_nil))) (blkOk_by (N := ["self", "roles", "labels", "permits", "rows", "thing", "role", "label", "permit"]) (sc := defScope s_Book___init__) (own := [("permit", 8)]) (by decide +kernel)) (fun _ _ _ _ _ => pg_name (i := 8) sc_Book___init__.nd rfl (Or.inl rfl)) (fun _ _ _ _ _ => pts_nil) (fun _ _ _ _ _ => by exact (pv 8)) (fun _ _ _ _ _ => by exact pe_bl)) (by rfl)))))))))), ?_⟩
  let He : Hp := upd (upd H0 dx (.own x)) x (.ins B.C dx [])
  have hne' : (upd H0 dx (.own x)) x = none := (upd_ne (Ne.symm hne)).trans hx
  have g0 : Grow S H0 S He := (Grow.vol e0 hdx).trans (.vol (Grow.vol e0 hdx).sub hne')
  have hex : He x = some (.ins B.C dx []) := upd_same
  have hSx : S x = none := e0.free hx
  refine ⟨v1, rfl, S, v1, a, rfl, g0.sub, ra, na, fun h1 S1 H1 g1 => ?_, fun h1 d S1 H1 g1 hd => ?_⟩
  rotate_left
  · have eb : bookOf a b c = .roles := if_pos h1
    unfold bookEnds at q
    rw [eb] at q
    exact q d S1 H1 (g0.trans g1) hd
  refine ⟨v2, rfl, S1, v2, b, rfl, g1.sub, rb.same g1.s, nb, fun h2 S2 H2 g2 => ?_, fun h2 d S2 H2 g2 hd => ?_⟩
  rotate_left
  · have eb : bookOf a b c = .labels := (if_neg (by rw [h1]; decide)).trans (if_pos h2)
    unfold bookEnds at q
    rw [eb] at q
    exact q d S2 H2 (g0.trans (g1.trans g2)) hd
  have gg2 := g1.trans g2
  have eb3 : bookOf a b c = _ := (if_neg (by rw [h1]; decide)).trans (if_neg (by rw [h2]; decide))
  have hv3 : Ev (tVar 3) (start ["self", "roles", "labels", "permits", "rows", "thing", "role", "label", "permit"] [.ref x, v1, v2, v3]) S2 H2 (R K c) := ev_var rfl (rc.same gg2.s)
  dsimp only
  refine q_when (et_not (et_B ((ev_call1 (E := E0) (ok := fun _ => True) (f := fun x => .a (.bl x.isSeq)) hv3 trivial).Is))) gg2.sub (fun hb S3 H3 g3 => ?_) fun hb S3 H3 g3 => ?_
  · have hc : c.isSeq = false := by
      revert hb
      cases c.isSeq <;> simp
    refine at_raise Z.BadPermits.T Z.BadPermits.no (is_c' (v := .int 0)) g3.sub fun u S4 H4 d g4 eu hd => ?_
    have eu : u = .int 0 := eu
    subst eu
    have eb : bookOf a b c = .permits 0 := eb3.trans (if_pos hc)
    unfold bookEnds at q
    rw [eb] at q
    exact q d S4 _ (((g0.trans gg2).trans (g3.trans g4)).trans (.vol g4.sub hd)) upd_same
  have hc : c.isSeq = true := by
    revert hb
    cases c.isSeq <;> simp
  have eb4 : bookOf a b c = _ := eb3.trans (if_neg (by rw [hc]; decide))
  obtain ⟨sa, zs, hz, hza, _, zn⟩ := areNames_strs (okRoles_names h1)
  obtain ⟨sb, ws, hw, hwb, _, wn⟩ := areNames_strs h2
  have ez : strsOf a.items = zs := by rw [hz, strsOf_map]
  have ew : strsOf b.items = ws := by rw [hw, strsOf_map]
  rw [ez, ew] at eb4
  have gg3 := gg2.trans g3
  let σ0 : L2.St := start ["self", "roles", "labels", "permits", "rows", "thing", "role", "label", "permit"] [.ref x, v1, v2, v3]
  have m := ev_map (K := K) (σ := σ0) (te := tCall (sp3 K okRead readF) [] E0 (tCons (tVar 1) (tCons (tVar 2) (tCons (tVar 5) tNil)))) (j := 5) (vs := [5]) (readF a b) (ei_seqX hc (hv3.go g3)) (by have := nc.1; omega) (fun _ => rfl) fun z u S4 H4 hzm g4 rz =>
    ev_call3 (ev_var rfl (ra.same (gg3.s.trans g4.s))) (ev_var rfl (rb.same (gg3.s.trans g4.s))) (ev_var rfl rz) ⟨⟨zs, hza⟩, ⟨ws, hwb⟩, nc.2 z hzm⟩
  refine q_set m g3.sub fun v4 S4 H4 g4 r4 => ?_
  have eos : c.items.map (readF a b) = (c.items.map (readP zs ws)).map tO := by
    rw [List.map_map]
    refine List.map_congr_left fun z _ => ?_
    show tO (readP (strsOf a.items) (strsOf b.items) z) = tO (readP zs ws z)
    rw [ez, ew]
  have r4 : Rep K S4 v4 (.l ((c.items.map (readP zs ws)).map tO)) := eos ▸ r4
  have gg4 := gg3.trans g4
  refine ⟨v4, rfl, S4, v4, _, rfl, g4.sub, r4, by rw [List.length_map]; exact nc.1, fun hn S5 H5 g5 => ?_, fun i hi d S5 H5 g5 hd => ?_⟩
  rotate_left
  · have eb : bookOf a b c = .permits i := by
      rw [eb4, hi]
    unfold bookEnds at q
    rw [eb] at q
    exact q d S5 H5 (g0.trans (gg4.trans g5)) hd
  have eb : bookOf a b c = .ok (isort strO zs) (isort strO ws) (isort tupO ((c.items.map (readP zs ws)).filterMap id)) := by
    rw [eb4, hn]
  unfold bookEnds at q
  rw [eb] at q
  obtain ⟨hos, hnd⟩ := badFrom_none hn List.nodup_nil
  rw [List.nil_append] at hnd
  have hps : ∀ ps ∈ (c.items.map (readP zs ws)).filterMap id, ps ≠ [] := fun ps hp => by
    obtain ⟨o, ho, e⟩ := List.mem_filterMap.mp hp
    have e : o = some ps := e
    subst e
    obtain ⟨z, _, e⟩ := List.mem_map.mp ho
    exact readP_ne e
  have hpl : ((c.items.map (readP zs ws)).filterMap id).length ≤ 10000 := by
    have := congrArg List.length hos
    rw [List.length_map, List.length_map] at this
    have := nc.1
    omega
  generalize (c.items.map (readP zs ws)).filterMap id = ps at hos hnd hps hpl q
  have gg5 := gg4.trans g5
  let σ1 : L2.St := [some (.ref x), some v1, some v2, some v3, some v4, none, none, none, none]
  have lz : zs.length < 64 := by rw [hz, List.length_map] at la; exact la
  have lw : ws.length < 64 := by rw [hw, List.length_map] at lb; exact lb
  have dR := ev_dcK (K := K) (S := S5) (H := H5) (σ := σ1) (vs := [6]) (j := 6) (ei_seqL (ev_sortedA (ta := tVar 1) (ev_var rfl (ra.same gg5.s)) hza lz)) (by rw [(isort_perm (O := strO) zs).length_eq]; omega) ((isort_perm (O := strO) zs).nodup_iff.mpr zn) (fun _ => rfl) (fun _ => rfl)
  dsimp only
  refine q_fld dR g5.sub fun y S6 H6 g6 ⟨pR, ey, hR⟩ => ?_
  subst ey
  have gg6 := gg5.trans g6
  refine ⟨.ref x, rfl, x, B.C, dx, [], rfl, gg6.h x _ hex, B.c, B.nR, by decide, ?_⟩
  have k6 := (g0.trans gg6).mut (o := .ins B.C dx (putF "_roles" (.ref pR) [])) hx (gg6.out hSx hex)
  have dL := ev_dcK (K := K) (S := S6) (H := upd H6 x (.ins B.C dx (putF "_roles" (.ref pR) []))) (σ := σ1) (vs := [7]) (j := 7) (ei_seqL (ev_sortedA (ta := tVar 2) (ev_var rfl (rb.same k6.s)) hwb lw)) (by rw [(isort_perm (O := strO) ws).length_eq]; omega) ((isort_perm (O := strO) ws).nodup_iff.mpr wn) (fun _ => rfl) (fun _ => rfl)
  refine q_fld dL k6.sub fun y S7 H7 g7 ⟨pL, ey, hL⟩ => ?_
  subst ey
  refine ⟨.ref x, rfl, x, B.C, dx, _, rfl, g7.h x _ upd_same, B.c, B.nL, (show 1 < 1000 by decide), ?_⟩
  have k7 := (k6.trans g7).mut (o := .ins B.C dx (putF "_labels" (.ref pL) (putF "_roles" (.ref pR) []))) hx (g7.out (gg6.out hSx hex) upd_same)
  have r4' : Rep K S7 v4 (.l (ps.map tT)) := by
    have := r4.same ((g5.s.trans g6.s).trans g7.s)
    rw [hos, List.map_map] at this
    exact this
  have dP := ev_dcT (K := K) (S := S7) (H := upd H7 x (.ins B.C dx (putF "_labels" (.ref pL) (putF "_roles" (.ref pR) [])))) (σ := σ1) (vs := [8]) (j := 8) (ei_seqL (ev_sortedT (ta := tVar 4) (ev_var rfl r4') (by omega) hps)) (by rw [(isort_perm (O := tupO) ps).length_eq]; omega) ((isort_perm (O := tupO) ps).nodup_iff.mpr hnd) (fun _ => rfl) (fun _ => rfl)
  refine s_fld dP k7.sub fun y S8 H8 g8 ⟨pP, ey, hP⟩ => ?_
  subst ey
  refine ⟨.ref x, rfl, x, B.C, dx, _, rfl, g8.h x _ upd_same, B.c, B.nP, (show 2 < 1000 by decide), ?_⟩
  have s8 : S8 x = none := g8.out (g7.out (gg6.out hSx hex) upd_same) upd_same
  have k8 := (k7.trans g8).mut (o := .ins B.C dx (putF "_permits" (.ref pP) (putF "_labels" (.ref pL) (putF "_roles" (.ref pR) [])))) hx s8
  refine q _ _ (k8.freeze hx s8 upd_same) ⟨x, dx, pR, pL, pP, rfl, upd_same, ?_, ?_, ?_⟩
  · exact (Same.new s8) _ _ ((g7.s.trans g8.s) _ _ hR)
  · exact (Same.new s8) _ _ (g8.s _ _ hL)
  · exact (Same.new s8) _ _ hP
end
end Uw
end
section
set_option Elab.async false
set_option linter.all false
set_option maxRecDepth 100000
namespace Uw
open PySem PySem.Spec PyProof.Rows L2 RZ
def rListK : List V → Hp → VK → Prop := fun xs H Q => ∃ (a : Addr) (kvs : List (Key × V)), xs = [.ref a] ∧ Rd H a (.dK kvs) ∧ ∀ p, H p = none → Q (.ref p) (upd H p (.lst (kvs.map fun kv => kV kv.1)))
def rListT : List V → Hp → VK → Prop := fun xs H Q => ∃ d kvs, xs = [V.ref d] ∧ Rd H d (.dT kvs) ∧ ∀ p bs, H p = none → IsKeys H kvs bs → Q (.ref p) (upd H p (.lst (bs.map V.ref)))
theorem call_listDK {X : Cx} {K : PySem.W.Frag} (hc : X.calm = true := by rfl) (hk : X.K = K := by rfl) : CallR X (.type "list") rListK := call_listD hc
theorem call_listDT {X : Cx} {K : PySem.W.Frag} (hc : X.calm = true := by rfl) (hk : X.K = K := by rfl) : CallR X (.type "list") rListT := call_list_dT hc
/-- what a method tells of a book -/
def spTell (K : PySem.W.Frag) (C : Addr) (f : List Str → List Str → List (List Str) → T) : Sp := fun vs H Q _ => ∃ (S : Hp) (v : V) (rs ls : List Str) (ps : List (List Str)), vs = [v] ∧ Same S H ∧ (IsBook C rs ls ps).P S v ∧ ∀ u S' H', Grow S H S' H' → Rep K S' u (f rs ls ps) → (∀ l, u = .ref l → H l = none) → Q u H'
/-- a new thing -/
def NewR (K : PySem.W.Frag) (H0 : Hp) (x : T) : Pd := ⟨fun S v => Rep K S v x ∧ ∀ l, v = .ref l → H0 l = none, fun e h => ⟨h.1.same e, h.2⟩⟩
theorem spTell_len {K : PySem.W.Frag} {C : Addr} {f : List Str → List Str → List (List Str) → T} : ∀ vs H Q E, spTell K C f vs H Q E → vs.length = 1 := by
  rintro vs H Q E ⟨S, v, rs, ls, ps, rfl, _⟩
  rfl
section
variable {P : Program} {w : World} {K : PySem.W.Frag} {mg : Str → Option Value} {base : Heap}
variable {σ : L2.St} {S H : Hp} {ta : TE} {rs ls : List Str} {ps : List (List Str)}
theorem ev_roles (B : Bk K mg) (h : Ev ta σ S H (IsBook B.C rs ls ps)) : Ev (tFld K ta "_roles") σ S H (IsK rs) := fun S1 H1 g Q q => h S1 H1 g _ fun v S2 H2 g2 ⟨x, dx, a, b, c, e, h1, h2, h3, h4⟩ =>
  ⟨x, B.C, dx, _, .ref a, e, g2.sub _ _ h1, B.c, B.nR, rfl, q _ S2 H2 g2 ⟨a, rfl, h2⟩⟩
theorem ev_labels (B : Bk K mg) (h : Ev ta σ S H (IsBook B.C rs ls ps)) : Ev (tFld K ta "_labels") σ S H (IsK ls) := fun S1 H1 g Q q => h S1 H1 g _ fun v S2 H2 g2 ⟨x, dx, a, b, c, e, h1, h2, h3, h4⟩ =>
  ⟨x, B.C, dx, _, .ref b, e, g2.sub _ _ h1, B.c, B.nL, rfl, q _ S2 H2 g2 ⟨b, rfl, h3⟩⟩
theorem ev_permits (B : Bk K mg) (h : Ev ta σ S H (IsBook B.C rs ls ps)) : Ev (tFld K ta "_permits") σ S H (IsT ps) := fun S1 H1 g Q q => h S1 H1 g _ fun v S2 H2 g2 ⟨x, dx, a, b, c, e, h1, h2, h3, h4⟩ =>
  ⟨x, B.C, dx, _, .ref c, e, g2.sub _ _ h1, B.c, B.nP, rfl, q _ S2 H2 g2 ⟨c, rfl, h4⟩⟩
theorem ev_listK {xs : List Str} (h : Ev ta σ S H (IsK xs)) : Ev (tCB rListK (tCons ta tNil)) σ S H (NewR K H (.l (xs.map tS))) := fun S1 H1 g Q q => h S1 H1 g _ fun v S2 H2 g2 ⟨p, e, hp⟩ => by
  subst e
  refine ⟨p, tabK xs, rfl, .inl (g2.sub _ _ hp), fun l hl => ?_⟩
  have e : (tabK xs).map (fun kv => kV kv.1) = xs.map V.str := by
    unfold tabK
    rw [List.map_map]
    rfl
  rw [e]
  refine q _ (upd S2 l (.lst (xs.map V.str))) _ (g2.trans (.alloc g2.sub hl)) ⟨.l upd_same ?_, fun l2 e => by cases e; exact (g.trans g2).h.free hl⟩
  rw [map_tS]
  exact .of_flat (all_flat_strs _)
/-- the tuples stand for ever -/
theorem see_keys : ∀ {xs : List (List Str)} {bs : List Addr} {S0 H0 S H : Hp}, Grow S0 H0 S H → IsKeys H (tabT xs) bs → ∃ S', Grow S0 H0 S' H ∧ Same S S' ∧ Reps K S' (bs.map V.ref) (xs.map tT)
  | [], [], _, _, S, H, g, .nil => ⟨S, g, Same.refl _, .nil⟩
  | x :: xs, b :: bs, _, _, S, H, g, .cons h r => by
    obtain ⟨S', g', s', rr⟩ := see_keys g r
    have hb : H b = some (.tup ((keyT x).map kV)) := h
    rw [keyT_kV] at hb
    have g2 := g'.seen hb
    have ss : Same S' (upd S' b (.tup (x.map V.str))) := fun a u q => by
      by_cases ha : a = b
      · subst ha
        rw [upd_same, ← hb, g'.sub _ _ q]
      · rw [upd_ne ha]
        exact q
    refine ⟨_, g2, s'.trans ss, .cons (.t upd_same ?_) (rr.same ss)⟩
    rw [map_tS]
    exact .of_flat (all_flat_strs _)
theorem ev_listT {xs : List (List Str)} (h : Ev ta σ S H (IsT xs)) : Ev (tCB rListT (tCons ta tNil)) σ S H (NewR K H (.l (xs.map tT))) := fun S1 H1 g Q q => h S1 H1 g _ fun v S2 H2 g2 ⟨p, e, hp⟩ => by
  subst e
  refine ⟨p, tabT xs, rfl, .inl (g2.sub _ _ hp), fun l bs hl hk => ?_⟩
  obtain ⟨S3, g3, s3, rr⟩ := see_keys (K := K) g2 hk
  exact q _ (upd S3 l (.lst (bs.map V.ref))) _ (g3.trans (.alloc g3.sub hl)) ⟨.l upd_same (rr.same (Same.new (g3.sub.free hl))), fun l2 e => by cases e; exact (g.trans g3).h.free hl⟩
theorem ok_all_roles (Z : Px K mg) (B : Bk K mg) : FnOk P w K mg base CX0 1 B.all_roles.f B.all_roles.fd ["self"] (spTell K B.C fun rs _ _ => .l (rs.map tS)) := by
  refine B.all_roles.F.ok sc_Book_all_roles spTell_len (fun cdv A outer s H vs Q E hr h => ?_)
  obtain ⟨S, v, rs, ls, ps, rfl, e, hb, q⟩ := h
  refine ⟨_, (pss_one (ps_ret (pe_callTy (call_listDK (K := K)) (by rfl) Z.bl.list (by decide +kernel) (pa_cons (pe_fld (pv 0) rfl) pa_nil)))), ?_⟩
  exact q_ret (ev_listK (ev_roles B (ev_var (P := IsBook B.C rs ls ps) rfl hb))) e fun u S1 H1 g r => q u S1 H1 g r.1 r.2
theorem ok_all_labels (Z : Px K mg) (B : Bk K mg) : FnOk P w K mg base CX0 1 B.all_labels.f B.all_labels.fd ["self"] (spTell K B.C fun _ ls _ => .l (ls.map tS)) := by
  refine B.all_labels.F.ok sc_Book_all_labels spTell_len (fun cdv A outer s H vs Q E hr h => ?_)
  obtain ⟨S, v, rs, ls, ps, rfl, e, hb, q⟩ := h
  refine ⟨_, (pss_one (ps_ret (pe_callTy (call_listDK (K := K)) (by rfl) Z.bl.list (by decide +kernel) (pa_cons (pe_fld (pv 0) rfl) pa_nil)))), ?_⟩
  exact q_ret (ev_listK (ev_labels B (ev_var (P := IsBook B.C rs ls ps) rfl hb))) e fun u S1 H1 g r => q u S1 H1 g r.1 r.2
theorem ok_all_permits (Z : Px K mg) (B : Bk K mg) : FnOk P w K mg base CX0 1 B.all_permits.f B.all_permits.fd ["self"] (spTell K B.C fun _ _ ps => .l (ps.map tT)) := by
  refine B.all_permits.F.ok sc_Book_all_permits spTell_len (fun cdv A outer s H vs Q E hr h => ?_)
  obtain ⟨S, v, rs, ls, ps, rfl, e, hb, q⟩ := h
  refine ⟨_, (pss_one (ps_ret (pe_callTy (call_listDT (K := K)) (by rfl) Z.bl.list (by decide +kernel) (pa_cons (pe_fld (pv 0) rfl) pa_nil)))), ?_⟩
  exact q_ret (ev_listT (ev_permits B (ev_var (P := IsBook B.C rs ls ps) rfl hb))) e fun u S1 H1 g r => q u S1 H1 g r.1 r.2
end
end Uw
end
section
set_option Elab.async false
set_option linter.all false
set_option maxRecDepth 100000
namespace Uw
open PySem PySem.Spec PyProof.Rows L2 RZ
def sameL {α : Type} [DecidableEq α] (xs ys : List α) : Bool := decide (xs.length = ys.length) && xs.all fun x => decide (x ∈ ys)
theorem valK (xs : List Str) (z : Str) : valV (tabK xs) (Sum.inr z) = if z ∈ xs then some (.bl true) else none := by
  induction xs with
  | nil => rfl
  | cons x xs ih =>
    unfold valV tabK at ih ⊢
    rw [List.map_cons, List.find?_cons]
    by_cases h : x = z
    · subst h
      rw [show decide (((Sum.inr x : Key), V.bl true).1 = Sum.inr x) = true from decide_eq_true rfl, if_pos List.mem_cons_self]
      rfl
    · rw [show decide (((Sum.inr x : Key), V.bl true).1 = Sum.inr z) = false from decide_eq_false fun e => h (Sum.inr.inj e)]
      show Option.map _ _ = _
      rw [ih]
      by_cases hm : z ∈ xs
      · rw [if_pos hm, if_pos (List.mem_cons_of_mem _ hm)]
      · rw [if_neg hm, if_neg fun m => hm ((List.mem_cons.mp m).resolve_left fun e => h e.symm)]
theorem hits_tab {A : Around} {s : Shared} {ys : List Str} {vb : List (Key × Value)} (rb : KV (tabK ys) vb) : ∀ {xs : List Str} {va : List (Key × Value)}, KV (tabK xs) va → PySem.W.KeqHits A s vb va (xs.all fun x => decide (x ∈ ys))
  | [], _, .nil => .nil
  | x :: xs, (k, v) :: va, .cons hd t => by
    obtain ⟨h1, h2⟩ := hd
    have h1 : (Sum.inr x : Key) = k := h1
    have h2 : v = .bool true := h2
    subst h1 h2
    have rv := rb.val (Sum.inr x)
    rw [valK] at rv
    rw [List.all_cons]
    by_cases hm : x ∈ ys
    · rw [if_pos hm] at rv
      obtain ⟨y, hy, ry⟩ := rv.some_of
      have ry : y = .bool true := ry
      subst ry
      rw [decide_eq_true hm]
      exact .hit hy (SeqAt.EqAt.same _) (hits_tab rb t)
    · rw [if_neg hm] at rv
      rw [decide_eq_false hm, Bool.false_and]
      refine .miss ?_
      revert rv
      cases valueAt vb (Sum.inr x) with
      | none => intro _; rfl
      | some u => intro r; exact r.elim
theorem kt_tab {H : Hp} : ∀ {xs : List (List Str)} {qs : List (List Key × Addr × Value)}, KT H (tabT xs) qs → qs.map Prod.fst = xs.map keyT ∧ ∀ q ∈ qs, q.2.2 = .bool true
  | [], _, .nil => ⟨rfl, fun q h => nomatch h⟩
  | x :: xs, q :: qs, .cons hd t => by
    obtain ⟨h1, _, h3⟩ := hd
    have h1 : keyT x = q.1 := h1
    have h3 : q.2.2 = .bool true := h3
    obtain ⟨e1, e2⟩ := kt_tab t
    refine ⟨by rw [List.map_cons, List.map_cons, e1, h1], fun p hp => ?_⟩
    rcases List.mem_cons.mp hp with rfl | hp
    · exact h3
    · exact e2 p hp
theorem all_keys {κ β : Type} [DecidableEq κ] {f : List Str → κ} (inj : ∀ a b, f a = f b → a = b) {xs ys : List (List Str)} {qs : List (κ × β)} {ks : List κ} (e1 : qs.map Prod.fst = xs.map f) (e2 : ks = ys.map f) : (qs.all fun q => decide (q.1 ∈ ks)) = xs.all fun x => decide (x ∈ ys) := by
  have : (qs.all fun q => decide (q.1 ∈ ks)) = (qs.map Prod.fst).all fun k => decide (k ∈ ks) := by
    rw [List.all_map]
    rfl
  rw [this, e1, e2, List.all_map]
  congr 1
  funext x
  show decide (f x ∈ ys.map f) = decide (x ∈ ys)
  rw [decide_eq_decide]
  constructor
  · intro h
    obtain ⟨y, hy, e⟩ := List.mem_map.mp h
    exact inj _ _ e ▸ hy
  · exact fun h => List.mem_map.mpr ⟨x, h, rfl⟩
/-- two tables, of texts or of tuples -/
def rEqTab : R2 := fun x y H Q => (∃ a b xs ys, x = .ref a ∧ y = .ref b ∧ H a = some (.dK (tabK xs)) ∧ H b = some (.dK (tabK ys)) ∧ Q (.bl (sameL xs ys)) H) ∨
  ∃ a b xs ys, x = .ref a ∧ y = .ref b ∧ H a = some (.dT (tabT xs)) ∧ H b = some (.dT (tabT ys)) ∧ Q (.bl (sameL xs ys)) H
theorem len_tabK (xs : List Str) : (tabK xs).length = xs.length := List.length_map ..
theorem len_tabT (xs : List (List Str)) : (tabT xs).length = xs.length := List.length_map ..
theorem op_eqTab {X : Cx} (hu : X.A.units + 1 < cLine) : OpR X (compareOp .Eq) rEqTab := by
  intro pins s σ H x y v u Q I rx ry h
  rcases h with ⟨a, b, xs, ys, rfl, rfl, ea, eb, q⟩ | ⟨a, b, xs, ys, rfl, rfl, ea, eb, q⟩
  · have ev : v = Value.ref a := rx
    have eu : u = Value.ref b := ry
    subst ev eu
    obtain ⟨_, la, va, ra, da⟩ := dk_of I.hok ea
    obtain ⟨_, lb, vb, rb, db⟩ := dk_of I.hok eb
    have na := ra.length
    have nb := rb.length
    rw [len_tabK] at na nb
    refine PySem.W.keq_eq (knd := mixKind X.prog X.w) la lb da db (Nat.lt_of_succ_lt hu) (fun _ => hits_tab rb ra) (fin_bl I q ?_)
    unfold sameL
    rw [na, nb]
    rfl
  · have ev : v = Value.ref a := rx
    have eu : u = Value.ref b := ry
    subst ev eu
    obtain ⟨_, la, va, ra, da⟩ := dt_of I.hok ea
    obtain ⟨_, lb, vb, rb, db⟩ := dt_of I.hok eb
    have na := Paired.length ra
    have nb := Paired.length rb
    rw [len_tabT] at na nb
    obtain ⟨e1, t1⟩ := kt_tab ra
    obtain ⟨e2, t2⟩ := kt_tab rb
    refine eq_true (knd := tupleKind (mixKind X.prog X.w)) la lb da db (tupleKind_room_in1 hu) (Nat.lt_of_succ_lt hu) t1 t2 (fin_bl I q ?_)
    have ek := all_keys (fun a b => keyT_inj) e1 e2
    unfold sameL
    rw [na, nb]
    congr 1
    refine Eq.trans ?_ (ek.symm.trans ?_)
    · congr 1
      funext x
      exact decide_eq_decide.mpr Iff.rfl
    · congr 1
/-- what the class tells of its own kind and of others -/
structure BkE (K : PySem.W.Frag) (C : Addr) : Prop where
  ha : PySem.W.findIn K (.ref C) "__class__" = some (some (.builtin "object.__class__"))
  hn : PySem.W.specialIn K (.builtin "object.__class__") "__get__" = some (some (.builtin "getset_descriptor.__get__"))
  htk : PySem.W.takesIn K (.builtin "object.__class__") = some true
  hm : PySem.W.mroIn K C (.type "object") = some true
  kB : PySem.W.kitOne K (.ref C) (.ref C) = some true
  kI : PySem.W.kitOne K (.type "int") (.ref C) = some false
  kT : PySem.W.kitOne K (.type "tuple") (.ref C) = some false
  ne : PySem.W.findIn K (.ref C) "__ne__" = some (some (.builtin "object.__ne__"))
  nI : PySem.W.notFirst K C (.type "int") = true
  nT : PySem.W.notFirst K C (.type "tuple") = true
def sameB (rs ls : List Str) (ps : List (List Str)) (rs' ls' : List Str) (ps' : List (List Str)) : Bool := sameL rs rs' && (sameL ls ls' && sameL ps ps')
/-- a book, an int, a tuple; what a book == it tells -/
inductive EqTo (K : PySem.W.Frag) (C : Addr) (S : Hp) (rs ls : List Str) (ps : List (List Str)) : V → Bool → Prop
  | book {v : V} (rs' ls' : List Str) (ps' : List (List Str)) (h : (IsBook C rs' ls' ps').P S v) : EqTo K C S rs ls ps v (sameB rs ls ps rs' ls' ps')
  | int (i : Int) : EqTo K C S rs ls ps (.int i) false
  | tup {v : V} (xs : List T) (r : Rep K S v (.t xs)) : EqTo K C S rs ls ps v false
def spEqB (K : PySem.W.Frag) (C : Addr) : Sp := fun vs H Q _ => ∃ (S : Hp) (v1 v2 : V) (rs ls : List Str) (ps : List (List Str)) (b : Bool), vs = [v1, v2] ∧ Same S H ∧ (IsBook C rs ls ps).P S v1 ∧ EqTo K C S rs ls ps v2 b ∧ ∀ S' H', Grow S H S' H' → Q (.bl b) H'
section
variable {P : Program} {w : World} {K : PySem.W.Frag} {mg : Str → Option Value} {base : Heap}
variable {σ : L2.St} {S H : Hp} {ta tb : TE}
theorem ev_eqK {xs ys : List Str} (ha : Ev ta σ S H (IsK xs)) (hb : Ev tb σ S H (IsK ys)) : Ev (tOp rEqTab ta tb) σ S H (Is (.bl (sameL xs ys))) :=
  ev_op ha hb fun u v S1 H1 g ⟨p, e, hp⟩ ⟨p2, e2, hp2⟩ => op_val g.sub rfl fun Q q => .inl ⟨p, p2, xs, ys, e, e2, g.sub _ _ hp, g.sub _ _ hp2, q⟩
theorem ev_eqT {xs ys : List (List Str)} (ha : Ev ta σ S H (IsT xs)) (hb : Ev tb σ S H (IsT ys)) : Ev (tOp rEqTab ta tb) σ S H (Is (.bl (sameL xs ys))) :=
  ev_op ha hb fun u v S1 H1 g ⟨p, e, hp⟩ ⟨p2, e2, hp2⟩ => op_val g.sub rfl fun Q q => .inr ⟨p, p2, xs, ys, e, e2, g.sub _ _ hp, g.sub _ _ hp2, q⟩
theorem ev_isC {C : Addr} {v : V} {t : Value} {b : Bool} (h : Ev ta σ S H (Is v)) (ty : ∀ H1, Same S H1 → TyX K H1 v t) (k : PySem.W.kitOne K t (.ref C) = some b) : Ev (tCB (rIsi K) (tCons ta (tCons (tC (.ref C)) tNil))) σ S H (Is (.bl b)) := fun S1 H1 g Q q => h S1 H1 g _ fun u S2 H2 g2 e => by
  have e : u = v := e
  subst e
  exact ⟨u, .ref C, t, .ref C, b, rfl, .own C, ty H2 ((g.trans g2).s.trans g2.sub), k, q _ S2 H2 g2 rfl⟩
theorem ok_eq (Z : Px K mg) (B : Bk K mg) (F : BkE K B.C) : FnOk P w K mg base CX0 1 B.eq.f B.eq.fd ["self", "other"] (spEqB K B.C) := by
  refine B.eq.F.ok sc_Book___eq__ (by rintro vs H Q E ⟨S, v1, v2, rs, ls, ps, b, rfl, _⟩; rfl) (fun cdv A outer s H vs Q E hr h => ?_)
  obtain ⟨S, v1, v2, rs, ls, ps, b, rfl, e, hb, ho, q⟩ := h
  refine ⟨_, (pss_one (ps_ret (pe_and (pe_callB (call_isiK1 (K := K)) (by rfl) Z.bl.isinstance (by decide +kernel) (pa_cons (pv 1) (pa_cons (pe_glob (v := .ref B.C) (by rfl) B.g rfl) pa_nil))) (pe_and (pe_cmpR (op_eqTab (hu_of hr)) (pe_fld (pv 0) rfl) (pe_fld (pv 1) rfl) (nomark _)) (pe_and (pe_cmpR (op_eqTab (hu_of hr)) (pe_fld (pv 0) rfl) (pe_fld (pv 1) rfl) (nomark _)) (pe_one (pe_cmpR (op_eqTab (hu_of hr)) (pe_fld (pv 0) rfl) (pe_fld (pv 1) rfl) (nomark _)))))))), ?_⟩
  have h1 : Ev (tVar 0) (start ["self", "other"] [v1, v2]) S H (IsBook B.C rs ls ps) := ev_var rfl hb
  have h2 : Ev (tVar 1) (start ["self", "other"] [v1, v2]) S H (Is v2) := is_var rfl
  cases ho with
  | book rs' ls' ps' h =>
    have h2' : Ev (tVar 1) (start ["self", "other"] [v1, v2]) S H (IsBook B.C rs' ls' ps') := ev_var rfl h
    obtain ⟨x, dx, a, b, c, rfl, hx, _⟩ := h
    have c0 := ev_isC (C := B.C) h2 (fun H1 s => .base (.ins (s _ _ hx) B.c F.ha F.hn F.htk F.hm)) F.kB
    refine q_ret (ev_andV c0 fun _ => ev_andV (ev_eqK (ev_roles B h1) (ev_roles B h2')) fun _ => ev_andV (ev_eqK (ev_labels B h1) (ev_labels B h2')) fun _ => ev_eqT (ev_permits B h1) (ev_permits B h2')) e fun u S1 H1 g eu => ?_
    have eu : u = .bl (true && sameB rs ls ps rs' ls' ps') := eu
    rw [Bool.true_and] at eu
    subst eu
    exact q S1 H1 g
  | int i =>
    have c0 := ev_isC (C := B.C) h2 (fun H1 s => .base (.int i)) F.kI
    refine q_ret (ev_andV (b := true) c0 fun z => by cases z) e fun u S1 H1 g eu => ?_
    have eu : u = .bl false := eu
    subst eu
    exact q S1 H1 g
  | tup xs r =>
    obtain ⟨p, us, rfl, hp⟩ : ∃ p us, v2 = .ref p ∧ S p = some (.tup us) := by
      cases r with
      | t h r => exact ⟨_, _, rfl, h⟩
    have c0 := ev_isC (C := B.C) h2 (fun H1 s => .base (.tup (s _ _ hp))) F.kT
    refine q_ret (ev_andV (b := true) c0 fun z => by cases z) e fun u S1 H1 g eu => ?_
    have eu : u = .bl false := eu
    subst eu
    exact q S1 H1 g
end
end Uw
end
section
set_option Elab.async false
set_option linter.all false
set_option maxRecDepth 100000
namespace Uw
open PySem PySem.Spec PyProof.Rows L2 RZ
theorem perm_of_sub {α : Type} [DecidableEq α] : ∀ {xs ys : List α}, xs.Nodup → (∀ x ∈ xs, x ∈ ys) → ys.length ≤ xs.length → xs.Perm ys
  | [], ys, _, _, hl => by
    have : ys = [] := List.eq_nil_of_length_eq_zero (by simpa using hl)
    subst this
    exact .nil
  | x :: xs, ys, nd, hs, hl => by
    have hx := hs x List.mem_cons_self
    have hp := List.perm_cons_erase hx
    obtain ⟨h1, h2⟩ := List.nodup_cons.mp nd
    have ih := perm_of_sub (ys := ys.erase x) h2 (fun z hz => (List.mem_erase_of_ne (show z ≠ x from fun e => h1 (e ▸ hz))).mpr (hs z (List.mem_cons_of_mem _ hz))) (by
      have := hp.length_eq
      rw [List.length_cons] at this hl
      omega)
    exact (ih.cons x).trans hp.symm
theorem sameL_perm {α : Type} [DecidableEq α] {xs ys : List α} (nd : xs.Nodup) : sameL xs ys = true ↔ xs.Perm ys := by
  unfold sameL
  rw [Bool.and_eq_true, decide_eq_true_eq, List.all_eq_true]
  constructor
  · rintro ⟨h1, h2⟩
    exact perm_of_sub nd (fun x hx => of_decide_eq_true (h2 x hx)) (Nat.le_of_eq h1.symm)
  · intro p
    exact ⟨p.length_eq, fun x hx => decide_eq_true (p.mem_iff.mp hx)⟩
/-- risen lists are the same tables just when they are the same lists -/
theorem sameL_S {xs ys : List Str} (hx : Up strO xs) (hy : Up strO ys) (nd : xs.Nodup) : sameL xs ys = decide (xs = ys) := by
  rw [Bool.eq_iff_iff, sameL_perm nd, decide_eq_true_eq]
  exact ⟨fun p => up_uniq (O := strO) p hx hy, fun e => e ▸ .refl _⟩
theorem sameL_T {xs ys : List (List Str)} (hx : Up tupO xs) (hy : Up tupO ys) (nd : xs.Nodup) : sameL xs ys = decide (xs = ys) := by
  rw [Bool.eq_iff_iff, sameL_perm nd, decide_eq_true_eq]
  exact ⟨fun p => up_uniq (O := tupO) p hx hy, fun e => e ▸ .refl _⟩
theorem same_book {rs ls rs' ls' : List Str} {ps ps' : List (List Str)} (h1 : Up strO rs) (h2 : Up strO ls) (h3 : Up tupO ps) (k1 : Up strO rs') (k2 : Up strO ls') (k3 : Up tupO ps') (n1 : rs.Nodup) (n2 : ls.Nodup) (n3 : ps.Nodup) :
    sameB rs ls ps rs' ls' ps' = decide (rs = rs' ∧ ls = ls' ∧ ps = ps') := by
  unfold sameB
  rw [sameL_S h1 k1 n1, sameL_S h2 k2 n2, sameL_T h3 k3 n3, Bool.eq_iff_iff, Bool.and_eq_true, Bool.and_eq_true, decide_eq_true_eq, decide_eq_true_eq, decide_eq_true_eq, decide_eq_true_eq]
end Uw
end
section
set_option Elab.async false
set_option linter.all false
set_option maxRecDepth 100000
namespace Uw
open PySem PySem.Spec PyProof.Rows L2 RZ
theorem isSome_readP (rs ls : List Str) (z : T) : (readP rs ls z).isSome = match kindsOf z.firstWord with
    | none => false
    | some ks => decide (z.items.length = ks.length + 1) && allAt rs ls ks (z.items.drop 1) := by
  unfold readP
  cases kindsOf z.firstWord with
  | none => rfl
  | some ks =>
    show Option.isSome (if _ then _ else _) = (decide (z.items.length = ks.length + 1) && allAt rs ls ks (z.items.drop 1))
    by_cases h : z.items.length = ks.length + 1
    · cases ha : allAt rs ls ks (z.items.drop 1) with
      | true =>
        rw [if_pos ⟨h, rfl⟩, decide_eq_true h]
        rfl
      | false =>
        rw [if_neg (fun z => by cases z.2), decide_eq_true h]
        rfl
    · rw [if_neg (fun z => h z.1), decide_eq_false h]
      rfl
theorem kinds5 {z : Str} (h : z ∈ (["make", "bring", "show", "seal", "open"] : List Str)) : kindsOf z = some (["role"] : List Str) := if_pos h
theorem kindsC {z : Str} (h : z ∉ (["make", "bring", "show", "seal", "open"] : List Str)) (h2 : z ∈ (["copy", "wrap", "unwrap"] : List Str)) : kindsOf z = some (["role", "role"] : List Str) := (if_neg h).trans (if_pos h2)
theorem kindsD : kindsOf "derive" = some (["role", "label", "role"] : List Str) := by decide +kernel
theorem kinds0 {z : Str} (h : z ∉ (["make", "bring", "show", "seal", "open"] : List Str)) (h2 : z ∉ (["copy", "wrap", "unwrap"] : List Str)) (h3 : z ≠ "derive") : kindsOf z = none := (if_neg h).trans ((if_neg h2).trans (if_neg h3))
theorem apart : ∀ z ∈ (["copy", "wrap", "unwrap"] : List Str), z ∉ (["make", "bring", "show", "seal", "open"] : List Str) := by decide +kernel
def okIn (zs : List Str) : T → Bool
  | .a (.str z) => decide (z ∈ zs)
  | _ => false
theorem okAt_role (rs ls : List Str) (y : T) : okAt rs ls "role" y = okIn rs y := by
  cases y with
  | a v => cases v <;> rfl
  | _ => rfl
theorem okAt_label (rs ls : List Str) (y : T) : okAt rs ls "label" y = okIn ls y := by
  cases y with
  | a v => cases v <;> rfl
  | _ => rfl
theorem kinds_len {z : Str} {ks : List Str} (h : kindsOf z = some ks) : 1 ≤ ks.length := by
  unfold kindsOf at h
  split at h
  · cases h; decide
  · split at h
    · cases h; decide
    · split at h
      · cases h; decide
      · cases h
section
variable {P : Program} {w : World} {K : PySem.W.Frag} {mg : Str → Option Value} {base : Heap}
variable {σ : L2.St} {S H : Hp} {ta tb : TE}
/-- isinstance(y, str) and y in a list of texts -/
theorem ev_okIn {y : T} {zs : List Str} (h : Ev ta σ S H (R K y)) (h2 : Ev tb σ S H (R K (.l (zs.map tS)))) : Ev (tAndV (tCB (rIsi K) (tCons ta (tCons (tC (.ty "str")) tNil))) (tOp (rIn K false) ta tb)) σ S H (Is (.bl (okIn zs y))) := by
  have c1 := ev_isi (c := "str") h (by decide) (by decide)
  cases hs : isSub y.ty "str" with
  | true =>
    obtain ⟨z, rfl⟩ := isStr_of hs
    rw [hs] at c1
    have c2 : Ev (tOp (rIn K false) ta tb) σ S H (Is (.bl (decide (z ∈ zs)))) := by
      rw [← inV_strs]
      exact ev_inL (neg := false) h (map_tS zs ▸ h2)
    exact ev_andV c1 fun _ => c2
  | false =>
    rw [hs] at c1
    have : okIn zs y = (false && true) := by
      cases y with
      | a v =>
        cases v with
        | str z => exact absurd hs (by decide : ¬ isSub "str" "str" = false)
        | _ => rfl
      | _ => rfl
    rw [this]
    exact ev_andV c1 fun z => by cases z
theorem ev_item {z y : T} {xs : List T} {i : Nat} (hx : z = .l xs ∨ z = .t xs) (h : Ev ta σ S H (R K z)) (hi : xs[i]? = some y) : Ev (tOp (rIx K) ta (tC (.int (i : Nat)))) σ S H (R K y) := by
  rcases hx with rfl | rfl
  · exact ev_ixL h is_c' (atI_nat hi)
  · exact ev_ixT h is_c' (atI_nat hi)
theorem ev_inC {z : Str} (zs : List Str) (h : Ev ta σ S H (R K (tS z))) (hn : zs.length ≤ 100000) : Ev (tOp (rIn K false) ta (tTup (tStrs zs))) σ S H (Is (.bl (decide (z ∈ zs)))) := by
  rw [← inV_strs]
  refine ev_inT (neg := false) h ?_
  rw [← map_tS]
  exact ev_tup (ea_strs zs) (by rw [List.length_map]; exact hn)
/-- a part that does not begin at 0 -/
theorem ev_cutS {z : T} {xs : List T} {lo hi : Nat} (hx : z = .l xs ∨ z = .t xs) (h : Ev ta σ S H (R K z)) (hlo : 1 ≤ lo) (hn : 1 ≤ xs.length) : ∃ s : T, (s = .l (cutG xs (some (lo : Int)) (some (hi : Int))) ∨ s = .t (cutG xs (some (lo : Int)) (some (hi : Int)))) ∧ Ev (tSl (rSlA K) ta (tPart (tC (.int (lo : Nat)))) (tPart (tC (.int (hi : Nat))))) σ S H (R K s) := by
  rcases hx with rfl | rfl
  · exact ⟨_, .inl rfl, ev_slAL h (eo_some is_c') (eo_some is_c')⟩
  · refine ⟨_, .inr rfl, ev_slAT h (eo_some is_c') (eo_some is_c') fun hh => ?_⟩
    have := hh.1
    rw [HT.sIx_nat] at this
    omega
def okLawP (x y z : T) : Prop := (∃ zs : List Str, x = .l (zs.map tS)) ∧ (∃ zs : List Str, y = .l (zs.map tS)) ∧ z.items.length ≤ 50000
theorem ok__law_is_permit (Z : Px K mg) : FnOk P w K mg base CX0 1 Z._law_is_permit.f Z._law_is_permit.fd ["roles", "labels", "thing"] (sp3 K okLawP fun x y z => .a (.bl (readP (strsOf x.items) (strsOf y.items) z).isSome)) := by
  refine Z._law_is_permit.F.ok sc__law_is_permit sp3_len (fun cdv A outer s H vs Q E hr h => ?_)
  obtain ⟨S, v1, v2, v3, x, y, z, rfl, e, rx, ry, rz, ⟨⟨rs, rfl⟩, ⟨ls, rfl⟩, hz⟩, q⟩ := h
  refine ⟨_, (pss_cons (ps_if (PW.pt (pw_or (pt_not (pt_val (pe_callB (call_isiTK (K := K)) (by rfl) Z.bl.isinstance (by decide +kernel) (pa_cons (pv 2) (pa_cons (pe_tup (pa_cons (pe_bltn (v := .ty "list") (by rfl) Z.bl.list (by decide +kernel) rfl) (pa_cons (pe_bltn (v := .ty "tuple") (by rfl) Z.bl.tuple (by decide +kernel) rfl) pa_nil))) pa_nil))))) (pw_or (pt_cmpR op_lt (pe_callB (call_lenK (K := K)) (by rfl) Z.bl.len (by decide +kernel) (pa_cons (pv 2) pa_nil)) pe_int (nomark _)) (pw_or1 (pt_not (pt_val (pe_callB (call_isiK1 (K := K)) (by rfl) Z.bl.isinstance (by decide +kernel) (pa_cons (pe_ix (ixK (K := K)) (pv 2) pe_int (fun _ _ => rfl)) (pa_cons (pe_bltn (v := .ty "str") (by rfl) Z.bl.str (by decide +kernel) rfl) pa_nil)))))))))
   (pss_one (ps_ret pe_bl))
   pss_nil)
  (pss_cons (ps_if (pt_cmpR op_eq (pe_ix (ixK (K := K)) (pv 2) pe_int (fun _ _ => rfl)) pe_str (nomark _))
   (pss_cons (ps_set (i := 3) sc__law_is_permit.nd rfl (.inl rfl) (pe_lst (pa_cons (pe_slice (sl_anyK (K := K)) (pv 2) (po_some pe_int) (po_some pe_int)) (pa_cons (pe_slice (sl_anyK (K := K)) (pv 2) (po_some pe_int) (po_some pe_int)) pa_nil))))
  (pss_cons (ps_set (i := 4) sc__law_is_permit.nd rfl (.inl rfl) (pe_and (pe_cmpR op_eq (pe_callB (call_lenK (K := K)) (by rfl) Z.bl.len (by decide +kernel) (pa_cons (pv 2) pa_nil)) pe_int (nomark _)) (pe_and (pe_callB (call_isiK1 (K := K)) (by rfl) Z.bl.isinstance (by decide +kernel) (pa_cons (pe_ix (ixK (K := K)) (pv 2) pe_int (fun _ _ => rfl)) (pa_cons (pe_bltn (v := .ty "str") (by rfl) Z.bl.str (by decide +kernel) rfl) pa_nil))) (pe_one (pe_cmpR (op_inK (K := K)) (pe_ix (ixK (K := K)) (pv 2) pe_int (fun _ _ => rfl)) (pv 1) (by rfl))))))
  (pss_one (ps_ret (pe_and (pv 4) (pe_one (pe_callB (cr_allK (K := K) rfl) (by rfl) Z.bl.all (by decide +kernel) (pa_cons (pe_lc (own := [("one", 5)]) (g := gName 5) (tt := tYes) rfl sc__law_is_permit.nd (pi_seqK (K := K) (pv 3)) (blkOk_by (N := ["roles", "labels", "thing", "some", "is_so", "one"]) (sc := defScope s__law_is_permit) (own := [("one", 5)]) (by decide +kernel)) (fun _ _ _ _ _ => pg_name (i := 5) sc__law_is_permit.nd rfl (Or.inl rfl)) (fun _ _ _ _ _ => pts_nil) (fun _ _ _ _ _ => by exact (pe_and (pe_callB (call_isiK1 (K := K)) (by rfl) Z.bl.isinstance (by decide +kernel) (pa_cons (pe_ix (ixK (K := K)) (pv 5) pe_int (fun _ _ => rfl)) (pa_cons (pe_bltn (v := .ty "str") (by rfl) Z.bl.str (by decide +kernel) rfl) pa_nil))) (pe_one (pe_cmpR (op_inK (K := K)) (pe_ix (ixK (K := K)) (pv 5) pe_int (fun _ _ => rfl)) (pv 0) (by rfl)))))) pa_nil))))))))
   pss_nil)
  (pss_cons (ps_if (PW.pt (pw_and (pt_cmpR (op_inK (K := K)) (pe_ix (ixK (K := K)) (pv 2) pe_int (fun _ _ => rfl)) (pe_tup (pa_cons pe_str (pa_cons pe_str (pa_cons pe_str (pa_cons pe_str (pa_cons pe_str pa_nil)))))) (by rfl)) (pw_and1 (pt_cmpR op_eq (pe_callB (call_lenK (K := K)) (by rfl) Z.bl.len (by decide +kernel) (pa_cons (pv 2) pa_nil)) pe_int (nomark _)))))
   (pss_one (ps_ret (pe_and (pe_callB (call_isiK1 (K := K)) (by rfl) Z.bl.isinstance (by decide +kernel) (pa_cons (pe_ix (ixK (K := K)) (pv 2) pe_int (fun _ _ => rfl)) (pa_cons (pe_bltn (v := .ty "str") (by rfl) Z.bl.str (by decide +kernel) rfl) pa_nil))) (pe_one (pe_cmpR (op_inK (K := K)) (pe_ix (ixK (K := K)) (pv 2) pe_int (fun _ _ => rfl)) (pv 0) (by rfl))))))
   pss_nil)
  (pss_cons (ps_if (PW.pt (pw_and (pt_cmpR (op_inK (K := K)) (pe_ix (ixK (K := K)) (pv 2) pe_int (fun _ _ => rfl)) (pe_tup (pa_cons pe_str (pa_cons pe_str (pa_cons pe_str pa_nil)))) (by rfl)) (pw_and1 (pt_cmpR op_eq (pe_callB (call_lenK (K := K)) (by rfl) Z.bl.len (by decide +kernel) (pa_cons (pv 2) pa_nil)) pe_int (nomark _)))))
   (pss_one (ps_ret (pe_callB (cr_allK (K := K) rfl) (by rfl) Z.bl.all (by decide +kernel) (pa_cons (pe_lc (own := [("one", 5)]) (g := gName 5) (tt := tYes) rfl sc__law_is_permit.nd (pi_seqK (K := K) (pe_slice (sl_anyK (K := K)) (pv 2) (po_some pe_int) po_none)) (blkOk_by (N := ["roles", "labels", "thing", "some", "is_so", "one"]) (sc := defScope s__law_is_permit) (own := [("one", 5)]) (by decide +kernel)) (fun _ _ _ _ _ => pg_name (i := 5) sc__law_is_permit.nd rfl (Or.inl rfl)) (fun _ _ _ _ _ => pts_nil) (fun _ _ _ _ _ => by exact (pe_and (pe_callB (call_isiK1 (K := K)) (by rfl) Z.bl.isinstance (by decide +kernel) (pa_cons (pv 5) (pa_cons (pe_bltn (v := .ty "str") (by rfl) Z.bl.str (by decide +kernel) rfl) pa_nil))) (pe_one (pe_cmpR (op_inK (K := K)) (pv 5) (pv 0) (by rfl)))))) pa_nil))))
   pss_nil)
  (pss_one (ps_ret pe_bl)))))), ?_⟩
  have q : ∀ (u : V) (S' H' : Hp), Grow S H S' H' → Rep K S' u (.a (.bl (readP rs ls z).isSome)) → Q u H' := fun u S' H' g r => q u S' H' g (by
    show Rep K S' u (.a (.bl (readP (strsOf (rs.map tS)) (strsOf (ls.map tS)) z).isSome))
    rw [strsOf_map, strsOf_map]
    exact r)
  have hv : Ev (tVar 2) (start ["roles", "labels", "thing", "some", "is_so", "one"] [v1, v2, v3]) S H (R K z) := ev_var rfl rz
  have h0 : Ev (tVar 0) (start ["roles", "labels", "thing", "some", "is_so", "one"] [v1, v2, v3]) S H (R K (.l (rs.map tS))) := ev_var rfl rx
  have h1 : Ev (tVar 1) (start ["roles", "labels", "thing", "some", "is_so", "one"] [v1, v2, v3]) S H (R K (.l (ls.map tS))) := ev_var rfl ry
  have no : (readP rs ls z).isSome = false → ∀ S' H', Grow S H S' H' → Q (.bl false) H' := fun hb S' H' g => q _ S' H' g (rep_bl hb.symm)
  have c1 := et_not (et_B (ev_isi2 (c := "list") (d := "tuple") hv (by decide) (by decide) (by decide) (by decide)))
  rw [show (isSub z.ty "list" || isSub z.ty "tuple") = z.isSeq from rfl] at c1
  cases hs : z.isSeq with
  | false =>
    rw [hs] at c1
    refine q_when (b := true) (EvT.is (et_or (b := true) c1 fun h => by cases h) rfl) e (fun _ S1 H1 g => no ?_ S1 H1 g) fun z => by cases z
    rw [isSome_readP]
    cases hk : kindsOf z.firstWord with
    | none => rfl
    | some ks =>
      have := (firstWord_kinds hk).1
      rw [hs] at this
      cases this
  | true =>
  rw [hs] at c1
  obtain ⟨xs, hx⟩ := isSeq_cases hs
  have hxi : z.items = xs := by rcases hx with rfl | rfl <;> rfl
  have c2 := et_test (ev_I0 (g := fun i j => .bl (decide (i < j))) (ev_len hv (len_seq hs)) (is_c' (v := .int 2)))
  rw [hxi] at c2
  by_cases hl : xs.length < 2
  · rw [decide_eq_true (show ((xs.length : Nat) : Int) < 2 by omega)] at c2
    refine q_when (b := true) (EvT.is (et_or c1 fun _ => et_or (b := true) c2 fun h => by cases h) rfl) e (fun _ S1 H1 g => no ?_ S1 H1 g) fun z => by cases z
    rw [isSome_readP]
    cases hk : kindsOf z.firstWord with
    | none => rfl
    | some ks =>
      have := kinds_len hk
      show (decide (z.items.length = ks.length + 1) && _) = false
      rw [hxi, decide_eq_false (by omega)]
      rfl
  rw [decide_eq_false (show ¬ ((xs.length : Nat) : Int) < 2 by omega)] at c2
  obtain ⟨y0, y1, ys, rfl⟩ : ∃ y0 y1 ys, xs = y0 :: y1 :: ys := by
    match xs, hl with
    | [], hl => exact absurd (show ([] : List T).length < 2 by decide) hl
    | [_], hl => exact absurd (show 1 < 2 by decide) hl
    | y0 :: y1 :: ys, _ => exact ⟨y0, y1, ys, rfl⟩
  have i0 : ∀ {S1 H1}, Grow S H S1 H1 → Ev (tOp (rIx K) (tVar 2) (tC (.int 0))) (start ["roles", "labels", "thing", "some", "is_so", "one"] [v1, v2, v3]) S1 H1 (R K y0) := fun g => ev_item (i := 0) hx (hv.go g) rfl
  have c3 := et_not (et_B (ev_isi (c := "str") (i0 (.refl e)) (by decide) (by decide)))
  cases hy : isSub y0.ty "str" with
  | false =>
    rw [hy] at c3
    refine q_when (et_or c1 fun _ => et_or c2 fun _ => c3) e (fun _ S1 H1 g => no ?_ S1 H1 g) fun z => by cases z
    rw [isSome_readP]
    cases hk : kindsOf z.firstWord with
    | none => rfl
    | some ks =>
      have := (firstWord_kinds hk).2.2
      rw [hxi] at this
      have this : y0 = tS z.firstWord := Option.some.inj this
      rw [this] at hy
      exact absurd hy (by decide : ¬ isSub "str" "str" = false)
  | true =>
  rw [hy] at c3
  obtain ⟨w0, rfl⟩ := isStr_of hy
  have fw : z.firstWord = w0 := by rcases hx with rfl | rfl <;> rfl
  rw [isSome_readP, fw, hxi] at q no
  refine q_when (et_or c1 fun _ => et_or c2 fun _ => c3) e (fun z => by cases z) fun _ S1 H1 g1 => ?_
  have d1 := et_test (ev_eq ((i0 g1).Is) (is_c' (v := .str "derive")) rfl)
  by_cases hd : w0 = "derive"
  · subst hd
    rw [decide_eq_true rfl] at d1
    refine q_when d1 g1.sub (fun _ S2 H2 g2 => ?_) fun z => by cases z
    have g02 := g1.trans g2
    obtain ⟨s1, hs1, k1⟩ := ev_cutS (lo := 1) (hi := 2) hx (hv.go g02) (by decide) (by rw [List.length_cons]; omega)
    obtain ⟨s2, hs2, k2⟩ := ev_cutS (lo := 3) (hi := 4) hx (hv.go g02) (by decide) (by rw [List.length_cons]; omega)
    refine q_set (ev_lst (xs := [s1, s2]) (ea_two k1 k2) (show 2 ≤ 100000 by decide)) g2.sub fun v4 S3 H3 g3 r4 => ?_
    have g03 := g02.trans g3
    let σ3 : L2.St := [some v1, some v2, some v3, some v4, none, none]
    have hv3 : Ev (tVar 2) σ3 S3 H3 (R K z) := ev_var rfl (rz.same g03.s)
    have c4 := ev_eq (ev_len hv3 (len_seq hs)) (is_c' (v := .int 4)) rfl
    rw [hxi] at c4
    by_cases h4 : ys.length = 2
    · obtain ⟨y2, y3, rfl⟩ : ∃ y2 y3, ys = [y2, y3] := by
        match ys, h4 with
        | [y2, y3], _ => exact ⟨y2, y3, rfl⟩
      have c5 : Ev _ σ3 S3 H3 (Is (.bl (true && okIn ls y2))) := ev_andV c4 fun _ => ev_okIn (ev_item (i := 2) hx hv3 rfl) (ev_var (i := 1) rfl (ry.same g03.s))
      refine q_set c5 g3.sub fun v5 S4 H4 g4 e5 => ?_
      have e5 : v5 = _ := e5
      subst e5
      have g04 := g03.trans g4
      let σ4 : L2.St := [some v1, some v2, some v3, some v4, some (.bl (true && okIn ls y2)), none]
      have hs1 : s1 = .l [y1] ∨ s1 = .t [y1] := hs1
      have hs2 : s2 = .l [y3] ∨ s2 = .t [y3] := hs2
      have r4' : Rep K S4 v4 (.l [s1, s2]) := r4.same g4.s
      have m := ev_map (K := K) (σ := σ4) (S := S4) (H := H4) (xs := [s1, s2]) (te := tAndV (tCB (rIsi K) (tCons (tOp (rIx K) (tVar 5) (tC (.int 0))) (tCons (tC (.ty "str")) tNil))) (tOp (rIn K false) (tOp (rIx K) (tVar 5) (tC (.int 0))) (tVar 0))) (j := 5) (vs := [5]) (fun s => .a (.bl (okIn rs (nth s.items 0)))) (ei_seqL (tl := tVar 3) (ev_var rfl r4')) (by show 2 ≤ 50000; decide) (fun _ => rfl) fun s u S5 H5 hm g5 ru => by
        have hsm : ∃ y, s = .l [y] ∨ s = .t [y] := by
          rcases List.mem_cons.mp hm with rfl | hm
          · exact ⟨_, hs1⟩
          · rw [List.mem_singleton] at hm
            subst hm
            exact ⟨_, hs2⟩
        obtain ⟨y, hy⟩ := hsm
        have : nth s.items 0 = y := by rcases hy with rfl | rfl <;> rfl
        rw [this]
        exact Is.R (ev_okIn (ev_item (i := 0) hy (ev_var (P := R K s) rfl ru) rfl) (ev_var (i := 0) rfl (rx.same (g04.s.trans g5.s))))
      have al := ev_all (K := K) (bs := [s1, s2].map fun s => okIn rs (nth s.items 0)) (by rw [List.map_map]; exact m)
      refine q_ret (ev_andV (is_var (v := .bl (true && okIn ls y2)) (i := 4) rfl) fun _ => al) g4.sub fun u S5 H5 g5 eu => ?_
      have eu : u = _ := eu
      subst eu
      refine q _ S5 H5 (g04.trans g5) (rep_bl ?_)
      have n1 : nth s1.items 0 = y1 := by rcases hs1 with rfl | rfl <;> rfl
      have n2 : nth s2.items 0 = y3 := by rcases hs2 with rfl | rfl <;> rfl
      rw [kindsD]
      show ((true && okIn ls y2) && (okIn rs (nth s1.items 0) && (okIn rs (nth s2.items 0) && true))) = (true && (okAt rs ls "role" y1 && (okAt rs ls "label" y2 && (okAt rs ls "role" y3 && true))))
      rw [n1, n2, okAt_role, okAt_label, okAt_role]
      cases okIn ls y2 <;> cases okIn rs y1 <;> cases okIn rs y3 <;> rfl
    · have hne : decide (V.int (((T.a (.str "derive")) :: y1 :: ys : List T).length : Nat) = V.int 4) = false := decide_eq_false fun h => by
        have := V.int.inj h
        rw [List.length_cons, List.length_cons] at this
        omega
      rw [hne] at c4
      have c5 : Ev _ σ3 S3 H3 (Is (.bl (false && true))) := ev_andV (tb := tAndV (tCB (rIsi K) (tCons (tOp (rIx K) (tVar 2) (tC (.int 2))) (tCons (tC (.ty "str")) tNil))) (tOp (rIn K false) (tOp (rIx K) (tVar 2) (tC (.int 2))) (tVar 1))) c4 fun z => by cases z
      refine q_set c5 g3.sub fun v5 S4 H4 g4 e5 => ?_
      have e5 : v5 = .bl false := e5
      subst e5
      refine q_ret (ev_andV (b := true) (is_var (v := .bl false) (i := 4) rfl) fun z => by cases z) g4.sub fun u S5 H5 g5 eu => ?_
      have eu : u = .bl false := eu
      subst eu
      refine no ?_ S5 H5 (g03.trans (g4.trans g5))
      rw [kindsD]
      show (decide (ys.length + 1 + 1 = 3 + 1) && _) = false
      rw [decide_eq_false (by omega)]
      rfl
  rw [decide_eq_false fun h => hd (V.str.inj h)] at d1
  refine q_when d1 g1.sub (fun z => by cases z) fun _ S2 H2 g2 => ?_
  have g02 := g1.trans g2
  have hv2 : Ev (tVar 2) (start ["roles", "labels", "thing", "some", "is_so", "one"] [v1, v2, v3]) S2 H2 (R K z) := hv.go g02
  have len : ∀ {S3 H3} (n : Nat), Grow S2 H2 S3 H3 → Ev (tOp rEq (tCB (rLenA K) (tCons (tVar 2) tNil)) (tC (.int (n : Nat)))) (start ["roles", "labels", "thing", "some", "is_so", "one"] [v1, v2, v3]) S3 H3 (Is (.bl (decide (ys.length + 2 = n)))) := fun n g => by
    have c := ev_eq (ev_len (hv2.go g) (len_seq hs)) (is_c' (v := .int (n : Nat))) rfl
    rw [hxi] at c
    have : decide (V.int ((T.a (.str w0) :: y1 :: ys).length : Nat) = V.int (n : Nat)) = decide (ys.length + 2 = n) := by
      rw [decide_eq_decide]
      constructor
      · intro h
        have := V.int.inj h
        rw [List.length_cons, List.length_cons] at this
        omega
      · rintro rfl
        rfl
    rw [this] at c
    exact c
  have e5 := et_and (et_test (ev_inC (z := w0) (["make", "bring", "show", "seal", "open"] : List Str) (i0 g02) (by decide))) fun _ => et_test (len 2 (.refl g2.sub))
  refine q_when e5 g2.sub (fun hb S3 H3 g3 => ?_) fun hb S3 H3 g3 => ?_
  · rw [Bool.and_eq_true, decide_eq_true_eq, decide_eq_true_eq] at hb
    have hy0 : ys = [] := List.eq_nil_of_length_eq_zero (by omega)
    subst hy0
    have g03 := g02.trans g3
    refine q_ret (ev_okIn (ev_item (i := 1) hx (hv.go g03) rfl) (h0.go g03)) g3.sub fun u S4 H4 g4 eu => ?_
    have eu : u = _ := eu
    subst eu
    refine q _ S4 H4 (g03.trans g4) (rep_bl ?_)
    rw [kinds5 hb.1]
    show okIn rs y1 = (true && (okAt rs ls "role" y1 && true))
    rw [okAt_role]
    cases okIn rs y1 <;> rfl
  have g03 := g02.trans g3
  have e3 := et_and (et_test (ev_inC (z := w0) (["copy", "wrap", "unwrap"] : List Str) (i0 g03) (by decide))) fun _ => et_test (len 3 g3)
  refine q_when e3 g3.sub (fun hb2 S4 H4 g4 => ?_) fun hb2 S4 H4 g4 => ?_
  · rw [Bool.and_eq_true, decide_eq_true_eq, decide_eq_true_eq] at hb2
    obtain ⟨y2, rfl⟩ : ∃ y2, ys = [y2] := by
      match ys, hb2.2 with
      | [y2], _ => exact ⟨y2, rfl⟩
    have n5 := apart w0 hb2.1
    have g04 := g03.trans g4
    obtain ⟨s1, hs1, k1⟩ : ∃ s1 : T, (s1 = .l [y1, y2] ∨ s1 = .t [y1, y2]) ∧ Ev (tSl (rSlA K) (tVar 2) (tPart (tC (.int 1))) tNoPart) (start ["roles", "labels", "thing", "some", "is_so", "one"] [v1, v2, v3]) S4 H4 (R K s1) := by
      rcases hx with rfl | rfl
      · exact ⟨_, .inl rfl, ev_slAL (hv.go g04) (eo_some (is_c' (v := .int 1))) eo_none⟩
      · exact ⟨_, .inr rfl, ev_slAT (hv.go g04) (eo_some (is_c' (v := .int 1))) eo_none fun hh => absurd hh.1 (show ¬ HT.sIx 3 0 (some 1) = 0 by decide)⟩
    have k1' : EvI (iSeq K (tSl (rSlA K) (tVar 2) (tPart (tC (.int 1))) tNoPart)) (start ["roles", "labels", "thing", "some", "is_so", "one"] [v1, v2, v3]) S4 H4 [y1, y2].length (fun i => R K (nth [y1, y2] i)) := by
      rcases hs1 with rfl | rfl
      · exact ei_seqL k1
      · exact ei_seqT k1
    have m := ev_map (K := K) (te := tAndV (tCB (rIsi K) (tCons (tVar 5) (tCons (tC (.ty "str")) tNil))) (tOp (rIn K false) (tVar 5) (tVar 0))) (j := 5) (vs := [5]) (fun y => .a (.bl (okIn rs y))) k1' (by show 2 ≤ 50000; decide) (fun _ => rfl) fun y u S5 H5 hm g5 ru =>
      Is.R (ev_okIn (ev_var (P := R K y) rfl ru) (ev_var (i := 0) rfl (rx.same (g04.s.trans g5.s))))
    have al := ev_all (K := K) (bs := [y1, y2].map (okIn rs)) (by rw [List.map_map]; exact m)
    refine q_ret al g4.sub fun u S5 H5 g5 eu => ?_
    have eu : u = _ := eu
    subst eu
    refine q _ S5 H5 (g04.trans g5) (rep_bl ?_)
    rw [kindsC n5 hb2.1]
    show (okIn rs y1 && (okIn rs y2 && true)) = (true && (okAt rs ls "role" y1 && (okAt rs ls "role" y2 && true)))
    rw [okAt_role, okAt_role]
    cases okIn rs y1 <;> cases okIn rs y2 <;> rfl
  · refine no ?_ S4 H4 (g03.trans g4)
    by_cases m5 : w0 ∈ (["make", "bring", "show", "seal", "open"] : List Str)
    · rw [decide_eq_true m5, Bool.true_and, decide_eq_false_iff_not] at hb
      rw [kinds5 m5]
      show (decide (ys.length + 1 + 1 = 1 + 1) && _) = false
      rw [decide_eq_false (by omega)]
      rfl
    · by_cases m3 : w0 ∈ (["copy", "wrap", "unwrap"] : List Str)
      · rw [decide_eq_true m3, Bool.true_and, decide_eq_false_iff_not] at hb2
        rw [kindsC m5 m3]
        show (decide (ys.length + 1 + 1 = 2 + 1) && _) = false
        rw [decide_eq_false (by omega)]
        rfl
      · rw [kinds0 m5 m3 hd]
end
end Uw
end
section
set_option Elab.async false
set_option linter.all false
set_option maxRecDepth 100000
namespace Uw
open PySem PySem.Spec PyProof.Rows L2 RZ
mutual
/-- lists for tuples, all through -/
def T.loose : T → T
  | .a v => .a v
  | .l xs => .l (looses xs)
  | .t xs => .l (looses xs)
  | .d kvs => .d kvs
def looses : List T → List T
  | [] => []
  | x :: xs => x.loose :: looses xs
end
/-- of what is stable: the lists that H0 had not, and all that is no list -/
def frs (H0 S : Hp) : Hp := fun p => match S p with
  | some (.lst vs) => if (H0 p).isNone then some (.lst vs) else none
  | o => o
theorem frs_same {H0 S S' : Hp} (e : Same S S') : Same (frs H0 S) (frs H0 S') := fun p u h => by
  unfold frs at h ⊢
  cases q : S p with
  | none => rw [q] at h; cases h
  | some o =>
    rw [q] at h
    rw [e p o q]
    exact h
theorem frs_old {H0 H1 S : Hp} (e : ∀ p, H1 p = none → H0 p = none) : Same (frs H1 S) (frs H0 S) := fun p u h => by
  unfold frs at h ⊢
  cases q : S p with
  | none => rw [q] at h; cases h
  | some o =>
    rw [q] at h
    cases o with
    | lst vs =>
      have h : (if (H1 p).isNone then some (HO.lst vs) else none) = some u := h
      show (if (H0 p).isNone then some (HO.lst vs) else none) = some u
      cases hq : H1 p with
      | none =>
        rw [hq] at h
        rw [e p hq]
        exact h
      | some o => rw [hq] at h; cases h
    | _ => exact h
theorem Stp.back {S H S' H' : Hp} {w : Addr} {c n c' : Nat} (a : Stp S H w c n S' H' c') (p : Addr) (h : H' p = none) : H p = none := by
  obtain ⟨_, ⟨o, ho⟩, ⟨u, g⟩, _⟩ := a
  have h2 := g.h.free h
  by_cases hp : p = w
  · subst hp; rw [upd_same] at h2; cases h2
  · rw [upd_ne hp] at h2; exact h2
theorem paired_snoc {α β : Type} {F : α → β → Prop} {xs : List α} {ys : List β} {x : α} {y : β} (h : Paired F xs ys) (r : F x y) : Paired F (xs ++ [x]) (ys ++ [y]) := by
  induction h with
  | nil => exact .cons r .nil
  | cons a t ih => exact .cons a ih
theorem paired_imp {α β : Type} {F G : α → β → Prop} {xs : List α} {ys : List β} (h : Paired F xs ys) (i : ∀ x y, F x y → G x y) : Paired G xs ys := by
  induction h with
  | nil => exact .nil
  | cons a t ih => exact .cons (i _ _ a) ih
theorem Repk.keys {K : PySem.W.Frag} {S : Hp} : ∀ {vvs : List (Key × V)} {kvs : List (Key × T)}, Repk K S vvs kvs → vvs.map (·.1) = kvs.map (·.1)
  | _, _, .nil => rfl
  | _, _, .cons (k := k) _ q => congrArg (k :: ·) (Repk.keys q)
theorem loose_flat {y : T} {v : V} (h : y.loose = .a v) : y = .a v := by
  cases y with
  | a w => exact h
  | l _ => cases h
  | t _ => cases h
  | d _ => cases h
theorem frs_le {H0 S : Hp} : Same (frs H0 S) S := fun p u h => by
  unfold frs at h
  cases q : S p with
  | none => rw [q] at h; cases h
  | some o =>
    rw [q] at h
    cases o with
    | lst vs =>
      have h : (if (H0 p).isNone then some (HO.lst vs) else none) = some u := h
      cases hq : (H0 p).isNone with
      | true => rw [hq] at h; exact h
      | false => rw [hq] at h; cases h
    | _ => exact h
theorem frs_lst {H0 S : Hp} {p : Addr} {vs : List V} (h : S p = some (.lst vs)) (n : H0 p = none) : frs H0 S p = some (.lst vs) := by
  unfold frs
  rw [h]
  show (if (H0 p).isNone then some (HO.lst vs) else none) = _
  rw [n]
  rfl
theorem frs_oth {H0 S : Hp} {p : Addr} {o : HO} (h : S p = some o) (n : ∀ vs, o ≠ .lst vs) : frs H0 S p = some o := by
  unfold frs
  rw [h]
  cases o with
  | lst vs => exact absurd rfl (n vs)
  | _ => rfl
section
variable {P : Program} {w : World} {K : PySem.W.Frag} {mg : Str → Option Value} {base : Heap}
/-- as spW, with a bound of its own on what was drawn; all lists are new -/
def spL (K : PySem.W.Frag) (n b : Nat) (ok : T → Prop) (P : T → T → Prop) : Sp := fun vs H Q _ => ∃ (S : Hp) (w : Addr) (c : Nat) (v : V) (x : T), vs = [.ref w, v] ∧ Same S H ∧ S w = none ∧ Well H w c ∧ c ≤ b ∧ Rep K S v x ∧ ok x ∧
  ∀ (u : V) (y : T) (c' : Nat) S' H', Stp S H w c n S' H' c' → Rep K (frs H S') u y → P x y → Q u H'
theorem at_L {σ : L2.St} {S H : Hp} {ta tb : TE} {n b : Nat} {ok : T → Prop} {R1 : T → T → Prop} {w : Addr} {c : Nat} {x : T} {E : XK} {Q : VK} (e : Same S H) (hs : S w = none) (hw : Well H w c) (hc : c ≤ b) (h1 : Ev ta σ S H (Is (.ref w))) (h2 : Ev tb σ S H (R K x)) (hx : ok x)
    (q : ∀ (u : V) (y : T) (c' : Nat) S' H', Stp S H w c n S' H' c' → Rep K (frs H S') u y → R1 x y → Q u H') : tCall (spL K n b ok R1) [] E (tCons ta (tCons tb tNil)) σ H Q := by
  refine h1.at e fun u S1 H1 g1 eu => h2.go g1 |>.at g1.sub fun u2 S2 H2 g2 r => ?_
  have eu : u = _ := eu
  subst eu
  have g := g1.trans g2
  obtain ⟨o0, ho0⟩ := hw.some
  exact ⟨S2, w, c, u2, x, rfl, g2.sub, g.out hs ho0, hw.same g.h, hc, r, hx, fun v y c' S' H' st ry py => q v y c' S' H' (by have := (Stp.of g hs hw).trans st; rw [Nat.zero_add] at this; exact this) (ry.same (frs_old fun p hp => g.h.free hp)) py⟩
theorem looses_app : ∀ xs ys : List T, looses (xs ++ ys) = looses xs ++ looses ys
  | [], _ => rfl
  | x :: xs, ys => congrArg (x.loose :: ·) (looses_app xs ys)
def okLoose (ok : T → Prop) : T → Prop
  | .a _ => True
  | .l xs => xs.length ≤ 100 ∧ ∀ x ∈ xs, ok x
  | .t xs => xs.length ≤ 100 ∧ ∀ x ∈ xs, ok x
  | .d kvs => kvs.length ≤ 1 ∧ ∀ kv ∈ kvs, ok kv.2 ∧ ∃ z u, kv = (Sum.inr z, .a u)
theorem law_loose_step (Z : Px K mg) (d n b b2 : Nat) (hd : 2 ≤ d) {ok : T → Prop} (hn : b + 100 * n + 100 ≤ b2) (hb2 : b2 ≤ 990000000000)
    (ih : FnOk P w K mg base CX0 d Z._law_loose.f Z._law_loose.fd ["well", "thing"] (spL K n b2 ok fun x y => y.loose = x.loose)) :
    FnOk P w K mg base CX0 (d + 1) Z._law_loose.f Z._law_loose.fd ["well", "thing"] (spL K (100 * n + 100) b (okLoose ok) fun x y => y.loose = x.loose) := by
  refine Z._law_loose.F.ok sc__law_loose (by rintro vs H Q E ⟨S, w, c, v, x, rfl, _⟩; rfl) (fun cdv A outer s H vs Q E hr h => ?_)
  obtain ⟨S, wl, c, v, x, rfl, e, hw, hW, hc, r, hx, q⟩ := h
  refine ⟨_, (pss_cons (ps_if (pt_val (pe_callB (call_isiK1 (K := K)) (by rfl) Z.bl.isinstance (by decide +kernel) (pa_cons (pv 1) (pa_cons (pe_bltn (v := .ty "dict") (by rfl) Z.bl.dict (by decide +kernel) rfl) pa_nil))))
   (pss_one (ps_ret (pe_callTy (call_dictP rfl) (by rfl) Z.bl.dict (by decide +kernel) (pa_cons (pe_lc (own := [("key", 3)]) (g := gName 3) (tt := tYes) rfl sc__law_loose.nd (pi_seqK (K := K) (pe_call (ok__law_mixed Z) (hr.mono (by omega)) (by rfl) Z._law_mixed.g Z._law_mixed.F.kp Z._law_mixed.b .nil pass0 (pa_cons (pv 0) (pa_cons (pe_callTy (call_listDK (K := K)) (by rfl) Z.bl.list (by decide +kernel) (pa_cons (pv 1) pa_nil)) pa_nil)))) (blkOk_by (N := ["well", "thing", "found", "key", "one"]) (sc := defScope s__law_loose) (own := [("key", 3)]) (by decide +kernel)) (fun _ _ _ _ _ => pg_name (i := 3) sc__law_loose.nd rfl (Or.inl rfl)) (fun _ _ _ _ _ => pts_nil) (fun _ _ _ _ _ => by exact (pe_tup (pa_cons (pv 3) (pa_cons (pe_call ih hr (by rfl) Z._law_loose.g Z._law_loose.F.kp Z._law_loose.b .nil pass0 (pa_cons (pv 0) (pa_cons (pe_dget (hu_of hr) (pv 1) (pv 3) (fun _ _ => rfl)) pa_nil))) pa_nil))))) pa_nil))))
   pss_nil)
  (pss_cons (ps_if (pt_not (pt_val (pe_callB (call_isiTK (K := K)) (by rfl) Z.bl.isinstance (by decide +kernel) (pa_cons (pv 1) (pa_cons (pe_tup (pa_cons (pe_bltn (v := .ty "list") (by rfl) Z.bl.list (by decide +kernel) rfl) (pa_cons (pe_bltn (v := .ty "tuple") (by rfl) Z.bl.tuple (by decide +kernel) rfl) pa_nil))) pa_nil)))))
   (pss_one (ps_ret (pv 1)))
   pss_nil)
  (pss_cons (ps_setLc (i := 2) (own := [("one", 4)]) (g := gName 4) (tt := tYes) rfl sc__law_loose.nd rfl rfl (sw_true rfl rfl rfl (by decide +kernel)) (pi_seqK (K := K) (pv 1)) (blkOk_by (N := ["well", "thing", "found", "key", "one"]) (sc := defScope s__law_loose) (own := [("one", 4)]) (by decide +kernel)) (fun _ _ _ _ _ => pg_name (i := 4) sc__law_loose.nd rfl (Or.inl rfl)) (fun _ _ _ _ _ => pts_nil) (fun _ _ _ _ _ => by exact (pe_call ih hr (by rfl) Z._law_loose.g Z._law_loose.F.kp Z._law_loose.b .nil pass0 (pa_cons (pv 0) (pa_cons (pv 4) pa_nil)))))
  (pss_one (ps_ret (pe_ifExp (pt_cmpR op_eq (pe_call (ok__law_draw Z) (hr.mono (by omega)) (by rfl) Z._law_draw.g Z._law_draw.F.kp Z._law_draw.b .nil pass0 (pa_cons (pv 0) (pa_cons pe_int pa_nil))) pe_int (nomark _)) (pv 2) (pe_callTy (call_tupleK (K := K)) (by rfl) Z.bl.tuple (by decide +kernel) (pa_cons (pv 2) pa_nil)))))))), ?_⟩
  have hv : Ev (tVar 1) (start ["well", "thing", "found", "key", "one"] [.ref wl, v]) S H (R K x) := ev_var rfl r
  have c1 := et_B (ev_isi (c := "dict") hv (by decide) (by decide))
  cases nd : isSub x.ty "dict" with
  | true =>
    rw [nd] at c1
    obtain ⟨kvs, rfl⟩ : ∃ kvs, x = .d kvs := by
      cases x with
      | a b =>
        cases r with
        | a h => rw [(isSub_flat _).1] at nd; cases nd
      | l _ => cases nd
      | t _ => cases nd
      | d kvs => exact ⟨kvs, rfl⟩
    refine q_when c1 e (fun _ S1 H1 g1 => ?_) fun z => by cases z
    have rD0 : Rep K S1 v (.d kvs) := r.same g1.s
    cases rD0 with
    | @d pd vvs _ hpd rkv =>
    have hkl : vvs.map (·.1) = kvs.map (·.1) := rkv.keys
    have hlen : vvs.length = kvs.length := by have := congrArg List.length hkl; rwa [List.length_map, List.length_map] at this
    have hx1 : kvs.length ≤ 1 := hx.1
    have kl : Ev (tCB rListK (tCons (tVar 1) tNil)) (start ["well", "thing", "found", "key", "one"] [.ref wl, .ref pd]) S1 H1 (R K (.l ((vvs.map fun kv => kV kv.1).map T.a))) := fun S2 H2 g2 Q2 q2 => by
      refine ⟨.ref pd, rfl, pd, vvs, rfl, .inl (g2.sub _ _ (g2.s _ _ hpd)), fun l hl => q2 _ (upd S2 l (.lst (vvs.map fun kv => kV kv.1))) _ (.alloc g2.sub hl) (.l upd_same (.of_flat ?_))⟩
      rw [List.all_map]
      exact List.all_eq_true.mpr fun kv _ => flat_kV kv.1
    have st1 := Stp.of g1 hw hW
    refine Or.inl ?_
    refine at_W (S := S1) (x := .l ((vvs.map fun kv => kV kv.1).map T.a)) g1.sub st1.out st1.well (by omega) (is_var rfl) kl (by show (((vvs.map fun kv => kV kv.1).map T.a).length ≤ 100); rw [List.length_map, List.length_map]; omega) fun u2 y2 c2 S2 H2 st2 r2 py => ?_
    obtain ⟨ys, rfl, hp⟩ := py
    obtain rfl : ys = (vvs.map fun kv => kV kv.1).map T.a := by
      match vvs, hlen, hx1, hp with
      | [], _, _, hp => exact List.perm_nil.mp hp
      | [kv], _, _, hp => exact List.perm_singleton.mp hp
      | _ :: _ :: _, hlen, hx1, _ => simp at hlen; omega
    cases r2 with
    | @l pk vk _ hpk rk =>
    obtain ⟨rfl, _⟩ := rk.flat
    have W := wk_list (K := K) hpk rk
    refine ⟨pk, rfl, ⟨_, sqL st2.sub hpk⟩, fun D hD => ?_⟩
    have st12 := st1.trans st2
    have hDw : D ≠ wl := fun z => by obtain ⟨o, ho⟩ := st2.well.some; rw [z, ho] at hD; cases hD
    have hHD : H D = none := st12.back D hD
    have hSD : S2 D = none := st2.sub.free hD
    rw [List.length_map, List.length_map] at W
    refine ⟨fun i m H' => m = vvs.length - i ∧ i ≤ vvs.length ∧ ∃ S' c' ps, Stp S H wl c (0 + 100 + i * n) S' H' c' ∧ Same S2 S' ∧ H' D = some (.lst (ps.map V.ref)) ∧ S' D = none ∧ Paired (fun (p : Addr) (kv : Key × V) => S' p = some (.tup [kV kv.1, kv.2])) ps (vvs.take i) ∧ ps.length = i,
      ⟨vvs.length, by simp, Nat.zero_le _, S2, c2, [], (st12.mut hHD hSD).mono (by omega), Same.refl _, upd_same, hSD, .nil, rfl⟩, ?_⟩
    rintro i m H4 ⟨rfl, hin, S4, c4, ps, st4, s4, h4, d4, p4, l4⟩
    by_cases hlt : i < vvs.length
    · refine .inr ⟨W.go i s4 st4.sub hlt, fun H' => ∃ S' c' ps, Stp S H wl c (0 + 100 + (i + 1) * n) S' H' c' ∧ Same S2 S' ∧ H' D = some (.lst (ps.map V.ref)) ∧ S' D = none ∧ Paired (fun (p : Addr) (kv : Key × V) => S' p = some (.tup [kV kv.1, kv.2])) ps (vvs.take (i + 1)) ∧ ps.length = i + 1, fun H' p => ⟨vvs.length - (i + 1), by omega, rfl, hlt, p⟩, fun u H5 y => ?_⟩
      obtain ⟨S5, g5, pu⟩ := W.yld i u H5 s4 st4.sub hlt y
      have st5 := st4.grow g5
      have hi0 : i = 0 := by omega
      subst hi0
      obtain ⟨kv, rfl⟩ : ∃ kv, vvs = [kv] := by
        match vvs, hlen, hx1, hlt with
        | [kv], _, _, _ => exact ⟨kv, rfl⟩
        | _ :: _ :: _, hlen, hx1, _ => simp at hlen; omega
      obtain ⟨kt, rfl⟩ : ∃ kt, kvs = [kt] := by
        match kvs, hlen with
        | [kt], _ => exact ⟨kt, rfl⟩
      obtain ⟨hok, z, u0, rfl⟩ := hx.2 kt List.mem_cons_self
      cases rkv with
      | @cons k v0 _ _ _ rv _ =>
      obtain ⟨rfl, fl0⟩ := rv.flat
      have pu : Rep K S5 u (.a (kV (Sum.inr z))) := pu
      obtain ⟨rfl, _⟩ := pu.flat
      have h5 := g5.h _ _ h4
      have d5 := g5.out d4 h4
      have hpd5 : S5 pd = some (.dK [(Sum.inr z, v0)]) := st2.s.trans (s4.trans g5.s) _ _ hpd
      refine ⟨rfl, ?_⟩
      unfold tYes
      dsimp only
      first | rw [if_pos rfl] | skip
      refine ⟨kV (Sum.inr z), rfl, ?_⟩
      have vg : Ev (tDGet (tVar 1) (tVar 3)) [some (.ref wl), some (.ref pd), none, some (kV (Sum.inr z)), none] S5 H5 (R K (.a v0)) := fun S6 H6 g6 Q6 q6 => by
        refine ⟨.ref pd, rfl, kV (Sum.inr z), rfl, pd, v0, rfl, ?_, q6 _ S6 H6 (.refl g6.sub) (.a fl0)⟩
        have := DGet.k (k := Sum.inr z) (g6.sub _ _ (g6.s _ _ hpd5))
        rw [show valV [((Sum.inr z : Key), v0)] (Sum.inr z) = some v0 by unfold valV; rw [List.find?_cons, decide_eq_true rfl]; rfl] at this
        exact this
      refine at_L (x := .a v0) (S := S5) st5.sub st5.out st5.well (by have := st5.le; omega) (is_var rfl) vg hok fun u2 y2 c6 S6 H6 st6 ry py => ?_
      have py : y2.loose = T.a v0 := py
      obtain rfl := loose_flat py
      obtain ⟨rfl, _⟩ := ry.flat
      have h6 := st6.h hDw h5
      have d6 := st6.keep d5 h5
      refine ⟨(by show 2 ≤ sizeLine; decide), fun p hp => ?_⟩
      have hpD : D ≠ p := fun z => by rw [z] at h6; rw [hp] at h6; cases h6
      have ga : Grow S6 H6 (upd S6 p (.tup [kV (Sum.inr z), u2])) (upd H6 p (.tup [kV (Sum.inr z), u2])) := .alloc st6.sub hp
      have st7 := (st5.trans st6).grow ga
      refine ⟨ps.map V.ref, by rw [upd_ne hpD]; exact h6, szl (by rw [List.length_map]; omega), upd S6 p (.tup [kV (Sum.inr z), u2]), c6, ps ++ [p], (st7.mut hHD (by rw [upd_ne hpD]; exact d6)).mono (by omega), s4.trans (g5.s.trans (st6.s.trans ga.s)), by rw [upd_same, List.map_append]; rfl, by rw [upd_ne hpD]; exact d6, ?_, by rw [List.length_append, l4]; rfl⟩
      have e0 : ps = [] := List.length_eq_zero_iff.mp l4
      subst e0
      exact .cons upd_same .nil
    · have ei : i = vvs.length := by omega
      subst ei
      rw [List.take_length] at p4
      refine .inl ⟨W.stop s4 st4.sub, ?_⟩
      refine ⟨D, ps, vvs, rfl, .inl (.inl h4), paired_imp p4 fun p kv hp => sqT st4.sub hp, fun l hl => ?_⟩
      have em : mergeK [] vvs = vvs := by
        match vvs, hlen, hx1 with
        | [], _, _ => rfl
        | [kv], _, _ => rfl
        | _ :: _ :: _, hlen, hx1 => simp at hlen; omega
      rw [em]
      have hb : vvs.length * n ≤ 1 * n := Nat.mul_le_mul (by omega) (Nat.le_refl n)
      refine q _ (.d kvs) c4 _ _ ((st4.grow (.alloc st4.sub hl)).mono (by omega)) (.d (frs_oth upd_same (by intro _ z; cases z)) ?_) rfl
      match kvs, vvs, rkv, hx with
      | [], _, .nil, _ => exact .nil
      | [kt], _, .cons rv .nil, hx =>
        obtain ⟨_, z, u0, rfl⟩ := hx.2 kt List.mem_cons_self
        obtain ⟨rfl, f⟩ := rv.flat
        exact .cons (.a f) .nil
      | _ :: _ :: _, _, _, hx => exact absurd hx.1 (by simp)
  | false =>
  rw [nd] at c1
  refine q_when c1 e (fun z => by cases z) fun _ S1 H1 g1 => ?_
  have c2 := et_not (et_B (ev_isi2 (c := "list") (d := "tuple") (hv.go g1) (by decide) (by decide) (by decide) (by decide)))
  rw [show (isSub x.ty "list" || isSub x.ty "tuple") = x.isSeq from rfl] at c2
  cases hs : x.isSeq with
  | false =>
    rw [hs] at c2
    refine q_when c2 g1.sub (fun _ S2 H2 g2 => ?_) fun z => by cases z
    refine ⟨v, rfl, q v x c S2 H2 ((Stp.of (g1.trans g2) hw hW).mono (by omega)) (by
      cases r with
      | a h => exact .a h
      | l _ _ => cases hs
      | t _ _ => cases hs
      | d _ _ => cases nd) rfl⟩
  | true =>
  rw [hs] at c2
  refine q_when c2 g1.sub (fun z => by cases z) fun _ S2 H2 g2 => ?_
  have g12 := g1.trans g2
  obtain ⟨xs, hxs⟩ := isSeq_cases hs
  have hi : x.items = xs := by rcases hxs with rfl | rfl <;> rfl
  have hok : xs.length ≤ 100 ∧ ∀ x ∈ xs, ok x := by rcases hxs with rfl | rfl <;> exact hx
  have st0 := Stp.of g12 hw hW
  refine (ei_seqX hs (hv.go g12)) S2 H2 (.refl g12.sub) _ fun J S3 H3 g3 W D hD => ?_
  rw [hi] at W
  have st3 := st0.grow g3
  have hDw : D ≠ wl := fun z => by obtain ⟨o, ho⟩ := st3.well.some; rw [z, ho] at hD; cases hD
  have hHD : H D = none := g12.h.free (g3.h.free hD)
  have hSD : S3 D = none := g3.sub.free hD
  refine ⟨fun i m H' => m = xs.length - i ∧ i ≤ xs.length ∧ ∃ S' c' us taken, Stp S H wl c (i * n) S' H' c' ∧ Same S3 S' ∧ H' D = some (.lst us) ∧ S' D = none ∧ Reps K (frs H S') us taken ∧ taken.length = i ∧ looses taken = looses (xs.take i), ⟨xs.length, by simp, Nat.zero_le _, S3, c, [], [], (st3.mut hHD hSD).mono (by omega), Same.refl _, upd_same, hSD, .nil, rfl, rfl⟩, ?_⟩
  rintro i m H4 ⟨rfl, hin, S4, c4, us, taken, st4, s4, h4, d4, r4, l4, e4⟩
  by_cases hlt : i < xs.length
  · refine .inr ⟨W.go i s4 st4.sub hlt, fun H' => ∃ S' c' us taken, Stp S H wl c ((i + 1) * n) S' H' c' ∧ Same S3 S' ∧ H' D = some (.lst us) ∧ S' D = none ∧ Reps K (frs H S') us taken ∧ taken.length = i + 1 ∧ looses taken = looses (xs.take (i + 1)), fun H' p => ⟨xs.length - (i + 1), by omega, rfl, hlt, p⟩, fun u H5 y => ?_⟩
    obtain ⟨S5, g5, pu⟩ := W.yld i u H5 s4 st4.sub hlt y
    have st5 := st4.grow g5
    have hb : i * n ≤ 100 * n := Nat.mul_le_mul (by omega) (Nat.le_refl n)
    have h5 := g5.h _ _ h4
    have d5 := g5.out d4 h4
    have hlen : us.length = taken.length := r4.length
    refine ⟨rfl, ?_⟩
    unfold tYes
    dsimp only
    first | rw [if_pos rfl] | skip
    refine at_L (x := nth xs i) (S := S5) st5.sub st5.out st5.well (by have := st5.le; omega) (is_var rfl) (ev_var (P := R K _) rfl pu) (hok.2 _ (List.mem_of_getElem? (nth_get hlt))) fun u2 y2 c6 S6 H6 st6 ry py => ?_
    have h6 := st6.h hDw h5
    have d6 := st6.keep d5 h5
    refine ⟨us, h6, szl (by omega), S6, c6, us ++ [u2], taken ++ [y2], ((st5.trans st6).mut hHD d6).mono (by rw [Nat.succ_mul]; exact Nat.le_refl _), s4.trans (g5.s.trans st6.s), upd_same, d6, (r4.same (frs_same (g5.s.trans st6.s))).append (.one (ry.same (frs_old st5.back))), by rw [List.length_append, l4]; rfl, ?_⟩
    have en : nth xs i = xs[i] := Option.some.inj ((nth_get hlt).symm.trans (List.getElem?_eq_getElem hlt))
    rw [take_next hlt, looses_app, looses_app, e4]
    have py : y2.loose = (nth xs i).loose := py
    rw [en] at py
    show looses (xs.take i) ++ [y2.loose] = looses (xs.take i) ++ [xs[i].loose]
    rw [py]
  · have ei : i = xs.length := by omega
    subst ei
    rw [List.take_length] at e4
    refine .inl ⟨W.stop s4 st4.sub, ?_⟩
    have hb : xs.length * n ≤ 100 * n := Nat.mul_le_mul (by omega) (Nat.le_refl n)
    have st6 := st4.freeze hHD d4 h4
    have rD : Rep K (frs H (upd S4 D (.lst us))) (.ref D) (.l taken) := .l (frs_lst upd_same hHD) (r4.same (frs_same (Same.new d4)))
    have lo : (T.l taken).loose = x.loose := by
      have : x.loose = .l (looses xs) := by rcases hxs with rfl | rfl <;> rfl
      rw [this]
      exact congrArg T.l e4
    dsimp only [gName]
    refine at_draw (S := upd S4 D (.lst us)) (m := 2) st6.sub st6.out st6.well (by have := st6.le; omega) (is_var rfl) is_c' (by decide) (by decide) fun d7 c7 S7 H7 k0 k1 st7 => ⟨rfl, decide (V.int d7 = V.int 0), rfl, ?_⟩
    have stt := (st6.trans st7).mono (show xs.length * n + 1 ≤ 100 * n + 100 by omega)
    cases decide (V.int d7 = V.int 0) with
    | true => exact ⟨.ref D, rfl, q _ _ c7 S7 H7 stt (rD.same (frs_same st7.s)) lo⟩
    | false =>
      have rD' : Rep K (frs H S7) (.ref D) (.l taken) := rD.same (frs_same st7.s)
      cases rD' with
      | @l _ vs _ hD' rs' =>
      have hD2 : S7 D = some (.lst vs) := frs_le _ _ hD'
      have hS7 := st7.sub
      refine ⟨.ref D, rfl, D, vs, rfl, .inl ⟨sqL hS7 hD2, fun l hl => ?_⟩⟩
      exact q _ _ c7 _ _ (stt.grow (.alloc hS7 hl)) (.t (frs_oth upd_same (by intro _ z; cases z)) (rs'.same (frs_same (Same.new (hS7.free hl))))) lo
/-- at most k lists within one another, none with a dict in it -/
def okL : Nat → T → Prop
  | 0 => okLoose fun _ => False
  | k + 1 => okLoose (okL k)
def cntL : Nat → Nat
  | 0 => 100
  | k + 1 => 100 * cntL k + 100
def bndL (k : Nat) : Nat := 980000000000 - k * 20000000000
theorem cnt_le : ∀ k, k ≤ 3 → cntL k ≤ 101010100 := by
  intro k hk
  match k, hk with
  | 0, _ => decide
  | 1, _ => decide
  | 2, _ => decide
  | 3, _ => decide
theorem ok__law_loose (Z : Px K mg) : ∀ k, k ≤ 4 → FnOk P w K mg base CX0 (k + 3) Z._law_loose.f Z._law_loose.fd ["well", "thing"] (spL K (cntL k) (bndL k) (okL k) fun x y => y.loose = x.loose)
  | 0, _ => law_loose_step Z 2 0 (bndL 0) 990000000000 (Nat.le_refl 2) (ok := fun _ => False) (by decide) (by decide)
      ⟨by rintro vs H Q E ⟨S, w, c, v, x, rfl, _⟩; rfl, fun A outer s H args us vs Q E hr e0 hb rv hsp => by obtain ⟨_, _, _, _, _, _, _, _, _, _, _, f, _⟩ := hsp; exact f.elim⟩
  | k + 1, hk => law_loose_step Z (k + 3) (cntL k) (bndL (k + 1)) (bndL k) (by omega) (by
      have := cnt_le k (by omega)
      unfold bndL
      omega) (by unfold bndL; omega) (ok__law_loose Z k (by omega))
end
end Uw
end
section
set_option Elab.async false
set_option linter.all false
set_option maxRecDepth 100000
namespace Uw
open PySem PySem.Spec PyProof.Rows L2 RZ
/-! ### what tells nothing of lists for tuples -/
theorem looses_map : ∀ xs : List T, looses xs = xs.map T.loose
  | [] => rfl
  | x :: xs => congrArg (x.loose :: ·) (looses_map xs)
theorem items_lo (a : T) : a.loose.items = looses a.items := by cases a <;> rfl
theorem isSeq_lo (a : T) : a.loose.isSeq = a.isSeq := by cases a <;> rfl
theorem okAt_lo (rs ls : List Str) (k : Str) (a : T) : okAt rs ls k a.loose = okAt rs ls k a := by cases a <;> rfl
theorem isName_lo (a : T) : a.loose.isName = a.isName := by cases a <;> rfl
theorem isKnown_lo (a : T) : isKnown a.loose = isKnown a := by cases a <;> rfl
theorem strOf_lo (a : T) : strOf' a.loose = strOf' a := by cases a <;> rfl
theorem firstWord_lo (a : T) : a.loose.firstWord = a.firstWord := by
  have one : ∀ (y : T) (ys : List T), (T.l (y.loose :: looses ys)).firstWord = (T.l (y :: ys)).firstWord := fun y ys => by
    cases y with
    | a v => cases v <;> rfl
    | _ => rfl
  have two : ∀ (y : T) (ys : List T), (T.t (y :: ys)).firstWord = (T.l (y :: ys)).firstWord := fun y ys => by
    cases y with
    | a v => cases v <;> rfl
    | _ => rfl
  cases a with
  | a v => rfl
  | d _ => rfl
  | l xs =>
    cases xs with
    | nil => rfl
    | cons y ys => exact one y ys
  | t xs =>
    cases xs with
    | nil => rfl
    | cons y ys => exact (one y ys).trans (two y ys).symm
theorem strsOf_lo (xs : List T) : strsOf (looses xs) = strsOf xs := by
  rw [looses_map]
  unfold strsOf
  rw [List.filterMap_map]
  congr 1
  funext a
  exact strOf_lo a
theorem allAt_lo (rs ls : List Str) : ∀ (ks : List Str) (xs : List T), allAt rs ls ks (looses xs) = allAt rs ls ks xs
  | [], xs => by cases xs <;> rfl
  | k :: ks, [] => rfl
  | k :: ks, x :: xs => by
    show (okAt rs ls k x.loose && allAt rs ls ks (looses xs)) = (okAt rs ls k x && allAt rs ls ks xs)
    rw [okAt_lo, allAt_lo rs ls ks xs]
theorem drop_lo (xs : List T) (n : Nat) : (looses xs).drop n = looses (xs.drop n) := by rw [looses_map, looses_map, List.map_drop]
theorem len_lo (xs : List T) : (looses xs).length = xs.length := by rw [looses_map, List.length_map]
theorem readP_lo (rs ls : List Str) (a : T) : readP rs ls a.loose = readP rs ls a := by
  unfold readP
  rw [firstWord_lo, items_lo, len_lo, strsOf_lo]
  cases kindsOf a.firstWord with
  | none => rfl
  | some ks =>
    show (if _ then _ else _) = (if _ then _ else _)
    rw [drop_lo, allAt_lo]
theorem areNames_lo (a : T) : a.loose.areNames = a.areNames := by
  unfold T.areNames
  rw [isSeq_lo, items_lo, strsOf_lo, looses_map, List.all_map]
  congr 2
  congr 1
  funext x
  exact isName_lo x
theorem okRoles_lo (a : T) : a.loose.okRoles = a.okRoles := by
  unfold T.okRoles
  rw [areNames_lo, items_lo, looses_map, List.any_map]
  congr 2
  congr 1
  funext x
  exact isKnown_lo x
theorem bookOf_lo (a b c : T) : bookOf a.loose b.loose c.loose = bookOf a b c := by
  unfold bookOf
  rw [okRoles_lo, areNames_lo, isSeq_lo, items_lo, items_lo, items_lo, strsOf_lo, strsOf_lo]
  have : (looses c.items).map (readP (strsOf a.items) (strsOf b.items)) = c.items.map (readP (strsOf a.items) (strsOf b.items)) := by
    rw [looses_map, List.map_map]
    exact List.map_congr_left fun x _ => readP_lo _ _ x
  rw [this]
/-- so what is told of two that loosen to the same is the same -/
theorem bookOf_same {a b c a' b' c' : T} (h1 : a'.loose = a.loose) (h2 : b'.loose = b.loose) (h3 : c'.loose = c.loose) : bookOf a' b' c' = bookOf a b c := by
  rw [← bookOf_lo a' b' c', h1, h2, h3, bookOf_lo]
theorem isP_same {a b c a' b' c' : T} (h1 : a'.loose = a.loose) (h2 : b'.loose = b.loose) (h3 : c'.loose = c.loose) : isP a' b' c' = isP a b c := by
  have f : ∀ a b c : T, isP a.loose b.loose c.loose = isP a b c := fun a b c => by
    unfold isP
    rw [readP_lo, items_lo, items_lo, strsOf_lo, strsOf_lo]
  rw [← f a' b' c', h1, h2, h3, f]
end Uw
end
section
set_option Elab.async false
set_option linter.all false
set_option maxRecDepth 100000
namespace Uw
open PySem PySem.Spec PyProof.Rows L2 RZ
/-! ### the order of roles, labels and permits; books that stand, permits that are refused -/
theorem okAt_perm {rs rs' ls ls' : List Str} (h : rs.Perm rs') (h2 : ls.Perm ls') (k : Str) (x : T) : okAt rs ls k x = okAt rs' ls' k x := by
  cases x with
  | a v =>
    cases v with
    | str z =>
      show decide (z ∈ if k = "role" then rs else ls) = decide (z ∈ if k = "role" then rs' else ls')
      rw [decide_eq_decide]
      by_cases hk : k = "role"
      · rw [if_pos hk, if_pos hk]
        exact h.mem_iff
      · rw [if_neg hk, if_neg hk]
        exact h2.mem_iff
    | _ => rfl
  | _ => rfl
theorem allAt_perm {rs rs' ls ls' : List Str} (h : rs.Perm rs') (h2 : ls.Perm ls') : ∀ (ks : List Str) (xs : List T), allAt rs ls ks xs = allAt rs' ls' ks xs
  | [], xs => by cases xs <;> rfl
  | k :: ks, [] => rfl
  | k :: ks, x :: xs => by
    show (okAt rs ls k x && allAt rs ls ks xs) = (okAt rs' ls' k x && allAt rs' ls' ks xs)
    rw [okAt_perm h h2, allAt_perm h h2]
theorem readP_perm {rs rs' ls ls' : List Str} (h : rs.Perm rs') (h2 : ls.Perm ls') (x : T) : readP rs ls x = readP rs' ls' x := by
  unfold readP
  cases kindsOf x.firstWord with
  | none => rfl
  | some ks =>
    show (if _ then _ else _) = (if _ then _ else _)
    rw [allAt_perm h h2]
theorem names_l (zs : List Str) : (T.l (zs.map tS)).areNames = (zs.all isNameS && decide zs.Nodup) := by
  show (true && ((zs.map tS).all T.isName && decide (strsOf (zs.map tS)).Nodup)) = _
  rw [strsOf_map, List.all_map, Bool.true_and]
  rfl
theorem areNames_perm {zs ws : List Str} (h : zs.Perm ws) : (T.l (zs.map tS)).areNames = (T.l (ws.map tS)).areNames := by
  rw [names_l, names_l, Bool.eq_iff_iff, Bool.and_eq_true, Bool.and_eq_true, List.all_eq_true, List.all_eq_true, decide_eq_true_eq, decide_eq_true_eq]
  exact ⟨fun ⟨a, b⟩ => ⟨fun x hx => a x (h.mem_iff.mpr hx), h.nodup_iff.mp b⟩, fun ⟨a, b⟩ => ⟨fun x hx => a x (h.mem_iff.mp hx), h.nodup_iff.mpr b⟩⟩
theorem okRoles_perm {zs ws : List Str} (h : zs.Perm ws) : (T.l (zs.map tS)).okRoles = (T.l (ws.map tS)).okRoles := by
  unfold T.okRoles
  rw [areNames_perm h]
  show (_ && !(zs.map tS).any isKnown) = (_ && !(ws.map tS).any isKnown)
  rw [any_known, any_known]
  congr 2
  rw [decide_eq_decide]
  exact h.mem_iff
theorem badFrom_ok : ∀ {ps seen : List (List Str)} {i : Nat}, (seen ++ ps).Nodup → badFrom i seen (ps.map some) = none
  | [], _, _, _ => rfl
  | p :: ps, seen, i, nd => by
    show (if p ∈ seen then some i else badFrom (i + 1) (seen ++ [p]) (ps.map some)) = none
    have hm : p ∉ seen := fun h => by
      have := (List.nodup_append.mp nd).2.2 p h p List.mem_cons_self
      exact this rfl
    rw [if_neg hm]
    refine badFrom_ok ?_
    rw [List.append_assoc]
    exact nd
theorem badFrom_at {o : Option (List Str)} {rest : List (Option (List Str))} : ∀ {ps seen : List (List Str)} {i : Nat}, (seen ++ ps).Nodup → (∀ z, o = some z → z ∈ seen ++ ps) → badFrom i seen (ps.map some ++ o :: rest) = some (i + ps.length)
  | [], seen, i, _, ho => by
    rw [List.append_nil] at ho
    cases o with
    | none => rfl
    | some z => exact if_pos (ho z rfl)
  | p :: ps, seen, i, nd, ho => by
    show (if p ∈ seen then some i else badFrom (i + 1) (seen ++ [p]) (ps.map some ++ o :: rest)) = _
    have hm : p ∉ seen := fun h => by
      have := (List.nodup_append.mp nd).2.2 p h p List.mem_cons_self
      exact this rfl
    rw [if_neg hm, badFrom_at (by rw [List.append_assoc]; exact nd) (fun z hz => by rw [List.append_assoc]; exact ho z hz), List.length_cons]
    congr 1
    omega
theorem some_id : ∀ ps : List (List Str), (ps.map some).filterMap id = ps
  | [] => rfl
  | p :: ps => congrArg (p :: ·) (some_id ps)
theorem bookOf_ok {a b c : T} {ps : List (List Str)} (h1 : a.okRoles = true) (h2 : b.areNames = true) (h3 : c.isSeq = true) (h : c.items.map (readP (strsOf a.items) (strsOf b.items)) = ps.map some) (nd : ps.Nodup) :
    bookOf a b c = .ok (isort strO (strsOf a.items)) (isort strO (strsOf b.items)) (isort tupO ps) := by
  unfold bookOf
  rw [if_neg (by rw [h1]; decide), if_neg (by rw [h2]; decide), if_neg (by rw [h3]; decide), h, badFrom_ok (seen := []) nd, some_id]
theorem bookOf_bad {a b c : T} {ps : List (List Str)} {o : Option (List Str)} {rest : List (Option (List Str))} (h1 : a.okRoles = true) (h2 : b.areNames = true) (h3 : c.isSeq = true)
    (h : c.items.map (readP (strsOf a.items) (strsOf b.items)) = ps.map some ++ o :: rest) (nd : ps.Nodup) (ho : ∀ z, o = some z → z ∈ ps) : bookOf a b c = .permits ps.length := by
  unfold bookOf
  rw [if_neg (by rw [h1]; decide), if_neg (by rw [h2]; decide), if_neg (by rw [h3]; decide), h, badFrom_at (seen := []) nd ho]
  show Bo.permits (0 + ps.length) = _
  rw [Nat.zero_add]
theorem bookOf_roles {a b c : T} (h : a.okRoles = false) : bookOf a b c = .roles := if_pos h
theorem bookOf_labels {a b c : T} (h1 : a.okRoles = true) (h : b.areNames = false) : bookOf a b c = .labels := (if_neg (by rw [h1]; decide)).trans (if_pos h)
theorem bookOf_none {a b c : T} (h1 : a.okRoles = true) (h2 : b.areNames = true) (h : c.isSeq = false) : bookOf a b c = .permits 0 := (if_neg (by rw [h1]; decide)).trans ((if_neg (by rw [h2]; decide)).trans (if_pos h))
end Uw
end
section
set_option Elab.async false
set_option linter.all false
set_option maxRecDepth 100000
set_option maxHeartbeats 2000000
namespace Uw
open PySem PySem.Spec PyProof.Rows L2 RZ
/-- what is made of an error: by the first clause that names its class: (class, word, field) -/
def mets (K : PySem.W.Frag) : List (Addr × Str × Str) → Value → Option Addr → Hp → VK → Prop
  | [], _, _, _, _ => False
  | (C, word, f) :: r, cls, d, H, Q => ∃ b, PySem.W.exmOne K cls (.ref C) = some b ∧
      (b = true → cls = .ref C ∧ ∃ (dd : Addr) (fs : List (Str × V)) (v : V), d = some dd ∧ H dd = some (.xd fs) ∧ fs.lookup f = some v ∧ ∀ p, H p = none → Q (.ref p) (upd H p (.lst [.str word, v]))) ∧ (b = false → mets K r cls d H Q)
/-- what _law_met makes of a lambda's reading -/
def TMet (K : PySem.W.Frag) (cl : List (Addr × Str × Str)) : (XK → Hp → VK → Prop) → Hp → VK → Prop := fun tl H Q =>
  ∀ (E : XK) (Qv : VK), (∀ cls d H', mets K cl cls d H' Q → E cls d H') → (∀ v H', (∀ p, H' p = none → Q (.ref p) (upd H' p (.lst [.str "told", v]))) → Qv v H') → tl E H Qv
def metT (C : Addr) (word f : Str) : Addr → Value → Option Addr → TS := fun a cls d => tRet (tLst (tCons (tC (.str word)) (tCons (tXf a cls d C f (tVar 1)) tNil)))
def metL (cl : List (Addr × Str × Str)) : List ClAs := cl.map fun c => (Value.ref c.1, 1, metT c.1 c.2.1 c.2.2)
theorem mets_as {K : PySem.W.Frag} {D : Ends} {Q : VK} {f : V} {o : Option V} : ∀ {cl : List (Addr × Str × Str)} {cls : Value} {d : Option Addr} {H : Hp}, mets K cl cls d H Q → D.rt = Q → wAses K (fun _ _ _ _ => False) D (metL cl) cls d [some f, o] H
  | [], _, _, _, h, _ => h.elim
  | (C, word, fd) :: r, cls, d, H, ⟨b, h1, h2, h3⟩, e => by
    refine ⟨b, h1, fun hb a ha => ?_, fun hb => mets_as (h3 hb) e⟩
    obtain ⟨ec, dd, fs, v, ed, hd, hl, q⟩ := h2 hb
    show tLst _ [some f, some (.ref a)] H D.rt
    rw [e]
    exact ⟨.ref a, rfl, rfl, ec, dd, fs, v, ed, hd, hl, (by show 2 ≤ sizeLine; decide), q⟩
section
variable {X : Cx}
/-- of one of the errors what its class tells -/
theorem Er.xf {K : PySem.W.Frag} {mg : Str → Option Value} {x qual f : Str} {st : Stmt} (Y : Er K mg x qual f st) : XfC K Y.C := ⟨Y.ga, Y.gg, Y.T.exC, Y.hd⟩
def metC {K : PySem.W.Frag} {mg : Str → Option Value} (Z : Px K mg) : List (Addr × Str × Str) := [(Z.BadRoles.C, "roles", "roles"), (Z.BadLabels.C, "labels", "labels"), (Z.BadPermits.C, "permits", "index")]
theorem met_gives (Z : Px X.K X.mg) {g : Addr} (cdg : Value) : GivesS X ["ask", "e"] "_law_met" (defScope s__law_met) g cdg (defBody s__law_met) "ask" (TMet X.K (metC Z)) := by
  intro f c' s H Q tl act hc h
  refine ⟨_, pss_one (ps_try_ases (X := (catcher X ["ask", "e"] "_law_met" (defScope s__law_met) g cdg s H).nox) (l := metL (metC Z)) (Wout := fun _ _ _ _ => False)
    (tb := fun W => tRet (tLst (tCons (tC (.str "told")) (tCons (fun σZ HZ Q => σZ[0]? = some (some (.ref f)) ∧ HZ c' = some (LamX.CodeO c' (lamQ X)) ∧ tl (fun cls d H' => W cls d σZ H') HZ Q) tNil))))
    rfl rfl sc__law_met.nd LamX.takes0 (fun W pn xe tk _ => ?_) (.cons rfl rfl ⟨rfl, rfl, .inl Z.BadRoles.m⟩ (fun a ob cls d pn hz hf => pss_one (ps_ret (pe_lst (pa_cons pe_str (pa_cons (pe_xf Z.BadRoles.xf Z.BadRoles.no hz hf (pv 1)) pa_nil))))) (.cons rfl rfl ⟨rfl, rfl, .inl Z.BadLabels.m⟩ (fun a ob cls d pn hz hf => pss_one (ps_ret (pe_lst (pa_cons pe_str (pa_cons (pe_xf Z.BadLabels.xf Z.BadLabels.no hz hf (pv 1)) pa_nil))))) (.cons rfl rfl ⟨rfl, rfl, .inl Z.BadPermits.m⟩ (fun a ob cls d pn hz hf => pss_one (ps_ret (pe_lst (pa_cons pe_str (pa_cons (pe_xf Z.BadPermits.xf Z.BadPermits.no hz hf (pv 1)) pa_nil))))) .nil)))), ?_⟩
  · exact pss_one (ps_ret (pe_lst (pa_cons pe_str (pa_cons (act W pn xe _ _ tk) pa_nil))))
  · refine ⟨rfl, hc, ?_⟩
    exact h _ _ (fun cls d H' hm => mets_as hm rfl) fun v H' q => ⟨(by show 2 ≤ sizeLine; decide), q⟩

end
end Uw
end
section
set_option Elab.async false
set_option linter.all false
set_option maxRecDepth 100000
set_option maxHeartbeats 2000000
namespace Uw
open PySem PySem.Spec PyProof.Rows L2 RZ
/-! ### where lambdas are made: the well at w and the table at P change, and nothing else -/
def NoTb (S : Hp) : Prop := ∀ a ps, S a ≠ some (.tbl ps)
def noT (S : Hp) : Hp := fun a => match S a with
  | some (.tbl _) => none
  | o => o
theorem noT_tb (S : Hp) : NoTb (noT S) := fun a ps h => by
  unfold noT at h
  split at h
  · cases h
  · rename_i hn
    exact hn _ h
theorem noT_of {S : Hp} {a : Addr} {o : HO} (h : S a = some o) (n : ∀ ps, o ≠ .tbl ps) : noT S a = some o := by
  unfold noT
  rw [h]
  split
  · rename_i ps e
    exact absurd (Option.some.inj e) (n ps)
  · rfl
theorem noT_le {S : Hp} : Same (noT S) S := fun a o h => by
  unfold noT at h
  split at h
  · cases h
  · exact h
theorem noT_none {S : Hp} {a : Addr} (h : S a = none) : noT S a = none := by
  cases e : noT S a with
  | none => rfl
  | some o => rw [noT_le _ _ e] at h; cases h
mutual
theorem Rep.noT {K : PySem.W.Frag} {S : Hp} {v : V} {x : T} : Rep K S v x → Rep K (noT S) v x
  | .a h => .a h
  | .l h r => .l (noT_of h (by intro _ z; cases z)) r.noT
  | .t h r => .t (noT_of h (by intro _ z; cases z)) r.noT
  | .d h r => .d (noT_of h (by intro _ z; cases z)) r.noT
theorem Reps.noT {K : PySem.W.Frag} {S : Hp} {vs : List V} {xs : List T} : Reps K S vs xs → Reps K (noT S) vs xs
  | .nil => .nil
  | .cons r q => .cons r.noT q.noT
theorem Repk.noT {K : PySem.W.Frag} {S : Hp} {vs : List (Key × V)} {xs : List (Key × T)} : Repk K S vs xs → Repk K (noT S) vs xs
  | .nil => .nil
  | .cons r q => .cons r.noT q.noT
end
/-- free, or of those that change -/
def Fr (w P : Addr) (H : Hp) (a : Addr) : Prop := a = w ∨ a = P ∨ H a = none ∨ ∃ ps, H a = some (.tbl ps)
structure St (w P : Addr) (q : Str) (S H : Hp) (c : Nat) : Prop where
  sub : Same S H
  ow : S w = none
  op : S P = none
  well : Well H w c
  tab : LamX.TabS H P q
  nt : NoTb S
structure Mv (w P : Addr) (S H S' H' : Hp) : Prop where
  s : Same S S'
  keep : ∀ a o, H a = some o → a ≠ w → a ≠ P → (∀ ps, o ≠ .tbl ps) → H' a = some o
  back : ∀ a, H' a = none → Fr w P H a
  new : ∀ a o, S' a = some o → S a = some o ∨ Fr w P H a ∨ ∃ vs, o = .tup vs
section
variable {K : PySem.W.Frag} {mg : Str → Option Value} {w P : Addr} {q : Str} {S H S' H' S2 H2 : Hp} {c n c' : Nat}
theorem Mv.refl : Mv w P S H S H := ⟨Same.refl _, fun _ _ h _ _ _ => h, fun _ h => .inr (.inr (.inl h)), fun _ _ h => .inl h⟩
theorem Mv.up (a : Mv w P S H S' H') {x : Addr} (hx : Fr w P H' x) : Fr w P H x := by
  rcases hx with h | h | h | ⟨ps, h⟩
  · exact .inl h
  · exact .inr (.inl h)
  · exact a.back x h
  · cases e : H x with
    | none => exact .inr (.inr (.inl e))
    | some o =>
      by_cases ht : ∃ ps, o = .tbl ps
      · obtain ⟨ps, rfl⟩ := ht
        exact .inr (.inr (.inr ⟨ps, e⟩))
      · by_cases h1 : x = w
        · exact .inl h1
        · by_cases h2 : x = P
          · exact .inr (.inl h2)
          · have := a.keep x o e h1 h2 fun ps z => ht ⟨ps, z⟩
            rw [h] at this
            cases this
            exact absurd ⟨ps, rfl⟩ ht
theorem Mv.trans (a : Mv w P S H S' H') (b : Mv w P S' H' S2 H2) : Mv w P S H S2 H2 :=
  ⟨a.s.trans b.s, fun x o h h1 h2 nt => b.keep x o (a.keep x o h h1 h2 nt) h1 h2 nt, fun x h => a.up (b.back x h), fun x o h => by
    rcases b.new x o h with h | h | h
    · exact a.new x o h
    · exact .inr (.inl (a.up h))
    · exact .inr (.inr h)⟩
/-- an object of one's own that may change -/
theorem Mv.out (a : Mv w P S H S' H') (e' : Same S' H') {D : Addr} {o : HO} (hs : S D = none) (hh : H D = some o) (h1 : D ≠ w) (h2 : D ≠ P) (nt : ∀ ps, o ≠ .tbl ps := by intro _ z; cases z) (nu : ∀ vs, o ≠ .tup vs := by intro _ z; cases z) : S' D = none := by
  cases e : S' D with
  | none => rfl
  | some u =>
    rcases a.new D u e with h | (h | h | h | ⟨ps, h⟩) | ⟨vs, rfl⟩
    · rw [hs] at h; cases h
    · exact absurd h h1
    · exact absurd h h2
    · rw [hh] at h; cases h
    · rw [hh] at h; cases h; exact absurd rfl (nt _)
    · have := (a.keep D o hh h1 h2 nt).symm.trans (e' _ _ e)
      cases this
      exact absurd rfl (nu _)
theorem St.nw (st : St w P q S H c) : ∃ l, H w = some (.lst l) := st.well.some
theorem St.npw (st : St w P q S H c) : P ≠ w := fun z => by
  obtain ⟨l, hl⟩ := st.nw
  obtain ⟨ps, hp, _⟩ := st.tab
  rw [z, hl] at hp
  cases hp
theorem St.grow (st : St w P q S H c) (g : Grow S H S' H') : St w P q (noT S') H' c ∧ Mv w P S H (noT S') H' := by
  obtain ⟨l, hl⟩ := st.nw
  obtain ⟨ps, hp, _⟩ := st.tab
  have s : Same S (noT S') := fun a o h => noT_of (g.s _ _ h) fun ps z => st.nt a ps (z ▸ h)
  refine ⟨⟨fun a o h => g.sub _ _ (noT_le _ _ h), noT_none (g.out st.ow hl), noT_none (g.out st.op hp), st.well.same g.h, st.tab.ext g.h, noT_tb _⟩, s, fun a o h _ _ _ => g.h _ _ h, fun a h => .inr (.inr (.inl (g.h.free h))), fun a o h => ?_⟩
  rcases g.new a o (noT_le _ _ h) with h | h | h
  · exact .inl h
  · exact .inr (.inl (.inr (.inr (.inl h))))
  · exact .inr (.inr h)
theorem St.stp (st : St w P q S H c) (a : Stp S H w c n S' H' c') : St w P q (noT S') H' c' ∧ Mv w P S H (noT S') H' := by
  obtain ⟨l, hl⟩ := st.nw
  obtain ⟨ps, hp, ht, hc⟩ := st.tab
  have npw := st.npw
  have s : Same S (noT S') := fun a' o h => noT_of (a.s _ _ h) fun ps z => st.nt a' ps (z ▸ h)
  have keep : ∀ x o, H x = some o → x ≠ w → H' x = some o := fun x o h h1 => a.h h1 h
  refine ⟨⟨fun x o h => a.sub _ _ (noT_le _ _ h), noT_none a.out, noT_none (a.keep st.op hp), a.well, ⟨ps, keep P _ hp npw, ht, fun pos cv h => ?_⟩, noT_tb _⟩, s, fun x o h h1 _ _ => keep x o h h1, fun x h => .inr (.inr (.inl (a.back x h))), fun x o h => ?_⟩
  · obtain ⟨c0, e0, h0⟩ := hc pos cv h
    refine ⟨c0, e0, keep c0 _ h0 fun z => ?_⟩
    rw [z, hl] at h0
    cases h0
  · obtain ⟨_, _, ⟨u, g⟩, _⟩ := a
    rcases g.new x o (noT_le _ _ h) with h | h | h
    · exact .inl h
    · by_cases hx : x = w
      · exact .inr (.inl (.inl hx))
      · rw [upd_ne hx] at h
        exact .inr (.inl (.inr (.inr (.inl h))))
    · exact .inr (.inr h)
theorem St.ext {H1 : Hp} (st : St w P q S H c) (e : LamX.ExtN H H1) (t : LamX.Tabs [(P, q)] H1) : St w P q S H1 c ∧ Mv w P S H S H1 := by
  obtain ⟨l, hl⟩ := st.nw
  refine ⟨⟨fun a o h => e a o (st.sub _ _ h) fun ps z => st.nt a ps (z ▸ h), st.ow, st.op, ?_, t (P, q) (List.mem_singleton.mpr rfl), st.nt⟩, Same.refl _, fun a o h _ _ nt => e a o h nt, fun a h => ?_, fun a o h => .inl h⟩
  · obtain ⟨a, b, h, r⟩ := st.well
    exact ⟨a, b, e _ _ h (by intro _ z; cases z), r⟩
  · cases q2 : H a with
    | none => exact .inr (.inr (.inl q2))
    | some o =>
      by_cases ht : ∃ ps, o = .tbl ps
      · obtain ⟨ps, rfl⟩ := ht
        exact .inr (.inr (.inr ⟨ps, q2⟩))
      · have := e a o q2 fun ps z => ht ⟨ps, z⟩
        rw [h] at this
        cases this
/-- an object of one's own changed -/
theorem St.mut {D : Addr} {o o2 : HO} (st : St w P q S H c) (hs : S D = none) (hh : H D = some o) (h1 : D ≠ w) (h2 : D ≠ P) (n1 : ∀ ps, o ≠ .tbl ps := by intro _ z; cases z) (n2 : o ≠ LamX.CodeO D q := by intro z; cases z) : St w P q S (upd H D o2) c := by
  obtain ⟨ps, hp, ht, hc⟩ := st.tab
  refine ⟨fun a u h => ?_, st.ow, st.op, st.well.ne h1, ⟨ps, by rw [upd_ne (Ne.symm h2)]; exact hp, ht, fun pos cv h => ?_⟩, st.nt⟩
  · rw [upd_ne fun z => by rw [z, hs] at h; cases h]
    exact st.sub _ _ h
  · obtain ⟨c0, e0, h0⟩ := hc pos cv h
    refine ⟨c0, e0, ?_⟩
    by_cases hD : c0 = D
    · subst hD
      rw [hh] at h0
      exact absurd (Option.some.inj h0) n2
    · rw [upd_ne hD]
      exact h0
theorem Mv.mut {S0 H0 : Hp} {D : Addr} {o2 : HO} (a : Mv w P S0 H0 S H) (h0 : H0 D = none) : Mv w P S0 H0 S (upd H D o2) :=
  ⟨a.s, fun x u h h1 h2 nt => by
    rw [upd_ne fun z => by rw [z, h0] at h; cases h]
    exact a.keep x u h h1 h2 nt, fun x h => by
    by_cases hx : x = D
    · subst hx; rw [upd_same] at h; cases h
    · rw [upd_ne hx] at h; exact a.back x h, a.new⟩
/-- facts of which error a clause takes -/
structure Exm (Z : Px K mg) : Prop where
  RR : PySem.W.exmOne K (.ref Z.BadRoles.C) (.ref Z.BadRoles.C) = some true
  LR : PySem.W.exmOne K (.ref Z.BadLabels.C) (.ref Z.BadRoles.C) = some false
  LL : PySem.W.exmOne K (.ref Z.BadLabels.C) (.ref Z.BadLabels.C) = some true
  PR : PySem.W.exmOne K (.ref Z.BadPermits.C) (.ref Z.BadRoles.C) = some false
  PL : PySem.W.exmOne K (.ref Z.BadPermits.C) (.ref Z.BadLabels.C) = some false
  PP : PySem.W.exmOne K (.ref Z.BadPermits.C) (.ref Z.BadPermits.C) = some true
/-- an error of the class at C with its field f is told by the word -/
def Told (K : PySem.W.Frag) (cl : List (Addr × Str × Str)) (C : Addr) (f word : Str) : Prop :=
  ∀ (d : Addr) (v : V) (H' : Hp) (Q : VK), H' d = some (.xd [(f, v)]) → (∀ p, H' p = none → Q (.ref p) (upd H' p (.lst [.str word, v]))) → mets K cl (.ref C) (some d) H' Q
theorem look1 (f : Str) (v : V) : List.lookup f [(f, v)] = some v := by
  rw [List.lookup_cons, beq_self_eq_true]
theorem told_roles {Z : Px K mg} (X : Exm Z) : Told K (metC Z) Z.BadRoles.C "roles" "roles" := fun d v H' Q h q =>
  ⟨true, X.RR, fun _ => ⟨rfl, d, _, v, rfl, h, look1 _ _, q⟩, fun z => by cases z⟩
theorem told_labels {Z : Px K mg} (X : Exm Z) : Told K (metC Z) Z.BadLabels.C "labels" "labels" := fun d v H' Q h q =>
  ⟨false, X.LR, fun z => (by cases z), fun _ => ⟨true, X.LL, fun _ => ⟨rfl, d, _, v, rfl, h, look1 _ _, q⟩, fun z => by cases z⟩⟩
theorem told_permits {Z : Px K mg} (X : Exm Z) : Told K (metC Z) Z.BadPermits.C "index" "permits" := fun d v H' Q h q =>
  ⟨false, X.PR, fun z => (by cases z), fun _ => ⟨false, X.PL, fun z => (by cases z), fun _ => ⟨true, X.PP, fun _ => ⟨rfl, d, _, v, rfl, h, look1 _ _, q⟩, fun z => by cases z⟩⟩⟩
/-- _law_met of a lambda that raises -/
theorem at_raised {cl : List (Addr × Str × Str)} {C : Addr} {f word : Str} {x : T} {σ : L2.St} {t : XK → TE} {Q : VK} (tt : Told K cl C f word) (st : St w P q S H c)
    (call : ∀ (H1 : Hp) (E : XK) (Qv : VK), Same S H1 → (∀ (d : Addr) (v : V) S' H', Grow S H1 S' H' → Rep K S' v x → H' d = some (.xd [(f, v)]) → E (.ref C) (some d) H') → t E σ H1 Qv)
    (go : ∀ (u : V) S' H', St w P q S' H' c → Mv w P S H S' H' → Rep K S' u (.l [.a (.str word), x]) → Q u H') : LamX.tLam [(P, q)] (TMet K cl) t σ H Q := by
  refine ⟨fun p hp => by rw [List.mem_singleton.mp hp]; exact st.tab, fun H1 ext tabs E Qv he hv => ?_⟩
  obtain ⟨st1, mv1⟩ := st.ext ext tabs
  refine call H1 E Qv st1.sub fun d v S' H' g r hd => he _ _ _ (tt d v H' Q hd fun p hp => ?_)
  have g2 := g.trans (.alloc (o := .lst [.str word, v]) g.sub hp)
  obtain ⟨st2, mv2⟩ := st1.grow g2
  exact go _ _ _ st2 (mv1.trans mv2) (Rep.noT (.l upd_same (.cons (.a rfl) (.cons (r.same (Same.new (g.sub.free hp))) .nil))))
end
end Uw
end
section
set_option Elab.async false
set_option linter.all false
set_option maxRecDepth 100000
namespace Uw
open PySem PySem.Spec PyProof.Rows L2 RZ
section
variable {K : PySem.W.Frag} {mg : Str → Option Value} {σ : L2.St} {S H : Hp} {ta tb tc : TE} {a b c : T} {E : XK} {Q : VK}
/-- Book(a, b, c) -/
theorem at_Book (Z : Px K mg) (B : Bk K mg) (e : Same S H) (ha : Ev ta σ S H (R K a)) (hb : Ev tb σ S H (R K b)) (hc : Ev tc σ S H (R K c)) (na : namesSize a) (nb : namesSize b) (nc : permitsSize c) (la : a.items.length < 64) (lb : b.items.length < 64)
    (kR : bookOf a b c = .roles → ∀ (d : Addr) (v : V) S' H', Grow S H S' H' → Rep K S' v a → H' d = some (.xd [("roles", v)]) → E (.ref Z.BadRoles.C) (some d) H')
    (kL : bookOf a b c = .labels → ∀ (d : Addr) (v : V) S' H', Grow S H S' H' → Rep K S' v b → H' d = some (.xd [("labels", v)]) → E (.ref Z.BadLabels.C) (some d) H')
    (kP : ∀ i, bookOf a b c = .permits i → ∀ (d : Addr) S' H', Grow S H S' H' → H' d = some (.xd [("index", .int (i : Nat))]) → E (.ref Z.BadPermits.C) (some d) H')
    (kO : ∀ rs ls ps, bookOf a b c = .ok rs ls ps → ∀ (v : V) S' H', Grow S H S' H' → (IsBook B.C rs ls ps).P S' v → Q v H') :
    tMake B.C (spBook K B.C Z.BadRoles.C Z.BadLabels.C Z.BadPermits.C) [] E (tCons ta (tCons tb (tCons tc tNil))) σ H Q := by
  refine ha.at e fun v1 S1 H1 g1 r1 => (hb.go g1).at g1.sub fun v2 S2 H2 g2 r2 => (hc.go (g1.trans g2)).at g2.sub fun v3 S3 H3 g3 r3 => fun x dx hx hdx hne => ?_
  have g := (g1.trans g2).trans g3
  have r1' := r1.same (g2.s.trans g3.s)
  have r2' := r2.same g3.s
  refine ⟨S3, H3, x, dx, v1, v2, v3, a, b, c, rfl, rfl, hx, hdx, hne, g3.sub, r1', r2', r3, na, nb, nc, la, lb, ?_⟩
  unfold bookEnds
  split
  · rename_i h
    exact fun d S' H' gg hd => kR h d v1 S' H' (g.trans gg) (r1'.same gg.s) hd
  · rename_i h
    exact fun d S' H' gg hd => kL h d v2 S' H' (g.trans gg) (r2'.same gg.s) hd
  · rename_i i h
    exact fun d S' H' gg hd => kP i h d S' H' (g.trans gg) hd
  · rename_i rs ls ps h
    exact fun S' H' gg hb => ⟨rfl, kO rs ls ps h (.ref x) S' H' (g.trans gg) hb⟩
/-- is_permit(a, b, c) -/
theorem at_isP (Z : Px K mg) (e : Same S H) (ha : Ev ta σ S H (R K a)) (hb : Ev tb σ S H (R K b)) (hc : Ev tc σ S H (R K c)) (na : namesSize a) (nb : namesSize b) (nc : c.items.length ≤ 50000)
    (kR : a.okRoles = false → ∀ (d : Addr) (v : V) S' H', Grow S H S' H' → Rep K S' v a → H' d = some (.xd [("roles", v)]) → E (.ref Z.BadRoles.C) (some d) H')
    (kL : a.okRoles = true → b.areNames = false → ∀ (d : Addr) (v : V) S' H', Grow S H S' H' → Rep K S' v b → H' d = some (.xd [("labels", v)]) → E (.ref Z.BadLabels.C) (some d) H')
    (kO : a.okRoles = true → b.areNames = true → ∀ S' H', Grow S H S' H' → Q (.bl (isP a b c)) H') :
    tCall (spIsP K Z.BadRoles.C Z.BadLabels.C) [] E (tCons ta (tCons tb (tCons tc tNil))) σ H Q := by
  refine ha.at e fun v1 S1 H1 g1 r1 => (hb.go g1).at g1.sub fun v2 S2 H2 g2 r2 => (hc.go (g1.trans g2)).at g2.sub fun v3 S3 H3 g3 r3 => ?_
  have g := (g1.trans g2).trans g3
  have r1' := r1.same (g2.s.trans g3.s)
  have r2' := r2.same g3.s
  exact ⟨S3, v1, v2, v3, a, b, c, rfl, g3.sub, r3, nc, r1', r2', na, nb, fun h1 h2 S' H' gg => kO h1 h2 S' H' (g.trans gg), fun h1 d S' H' gg hd => kR h1 d v1 S' H' (g.trans gg) (r1'.same gg.s) hd,
    fun h1 h2 d S' H' gg hd => kL h1 h2 d v2 S' H' (g.trans gg) (r2'.same gg.s) hd⟩
end
end Uw
end
section
set_option Elab.async false
set_option linter.all false
set_option maxRecDepth 100000
set_option maxHeartbeats 2000000
namespace Uw
open PySem PySem.Spec PyProof.Rows L2 RZ
section
variable {K : PySem.W.Frag} {mg : Str → Option Value} {w P : Addr} {q : Str} {S H S' H' S0 H0 : Hp} {c n c' : Nat} {σ : L2.St} {ta tb tc te : TE} {x y : T}
theorem St.np (st : St w P q S H c) {D : Addr} (h : H D = none) : D ≠ w ∧ D ≠ P := by
  obtain ⟨l, hl⟩ := st.nw
  obtain ⟨ps, hp, _⟩ := st.tab
  exact ⟨fun z => (by rw [z, hl] at h; cases h), fun z => (by rw [z, hp] at h; cases h)⟩
/-- a new object that may change -/
theorem St.add {D : Addr} {o : HO} (st : St w P q S H c) (h : H D = none) : St w P q S (upd H D o) c := by
  obtain ⟨h1, h2⟩ := st.np h
  obtain ⟨ps, hp, ht, hc⟩ := st.tab
  refine ⟨fun a u e => ?_, st.ow, st.op, st.well.ne h1, ⟨ps, by rw [upd_ne (Ne.symm h2)]; exact hp, ht, fun pos cv e => ?_⟩, st.nt⟩
  · rw [upd_ne fun z => by have := st.sub _ _ e; rw [z, h] at this; cases this]
    exact st.sub _ _ e
  · obtain ⟨c0, e0, h0⟩ := hc pos cv e
    exact ⟨c0, e0, by rw [upd_ne fun z => by rw [z, h] at h0; cases h0]; exact h0⟩
theorem Mv.add {D : Addr} {o : HO} (h : H D = none) : Mv w P S H S (upd H D o) :=
  ⟨Same.refl _, fun a u e _ _ _ => by rw [upd_ne fun z => by rw [z, h] at e; cases e]; exact e, fun a e => by
    by_cases ha : a = D
    · subst ha; exact .inr (.inr (.inl h))
    · rw [upd_ne ha] at e; exact .inr (.inr (.inl e)), fun a u e => .inl e⟩
/-- what may change stands from now on -/
theorem St.freeze {D : Addr} {o : HO} (st : St w P q S H c) (hs : S D = none) (hh : H D = some o) (h1 : D ≠ w) (h2 : D ≠ P) (nt : ∀ ps, o ≠ .tbl ps := by intro _ z; cases z) : St w P q (upd S D o) H c :=
  ⟨fun a u e => by
    by_cases ha : a = D
    · subst ha; rw [upd_same] at e; cases e; exact hh
    · rw [upd_ne ha] at e; exact st.sub _ _ e, by rw [upd_ne (Ne.symm h1)]; exact st.ow, by rw [upd_ne (Ne.symm h2)]; exact st.op, st.well, st.tab, fun a ps e => by
    by_cases ha : a = D
    · subst ha; rw [upd_same] at e; cases e; exact nt _ rfl
    · rw [upd_ne ha] at e; exact st.nt _ _ e⟩
theorem Mv.freeze {D : Addr} {o : HO} (a : Mv w P S0 H0 S H) (h0 : Fr w P H0 D) (hs : S D = none) : Mv w P S0 H0 (upd S D o) H :=
  ⟨a.s.trans (Same.new hs), a.keep, a.back, fun x u e => by
    by_cases hx : x = D
    · subst hx; exact .inr (.inl h0)
    · rw [upd_ne hx] at e; exact a.new x u e⟩
theorem Mv.mutF {D : Addr} {o2 : HO} (a : Mv w P S0 H0 S H) (h0 : Fr w P H0 D) : Mv w P S0 H0 S (upd H D o2) :=
  ⟨a.s, fun x u h h1 h2 nt => by
    rw [upd_ne fun z => ?_]
    · exact a.keep x u h h1 h2 nt
    · subst z
      rcases h0 with e | e | e | ⟨ps, e⟩
      · exact h1 e
      · exact h2 e
      · rw [h] at e; cases e
      · rw [h] at e; cases e; exact nt _ rfl, fun x h => by
    by_cases hx : x = D
    · subst hx; rw [upd_same] at h; cases h
    · rw [upd_ne hx] at h; exact a.back x h, a.new⟩
/-- a term that hands back y, wherever the reps in S0 stand -/
def Mt (K : PySem.W.Frag) (w P : Addr) (q : Str) (S0 : Hp) (t : TE) (σ : L2.St) (y : T) : Prop := ∀ (S H : Hp) (c : Nat) (Q : VK), Same S0 S → St w P q S H c → (∀ (u : V) S' H', St w P q S' H' c → Mv w P S H S' H' → Rep K S' u y → Q u H') → t σ H Q
theorem Mt.same (h : Mt K w P q S0 te σ y) (e : Same S0 S) : Mt K w P q S te σ y := fun S1 H1 c Q e1 => h S1 H1 c Q (e.trans e1)
theorem okS_two {y : T} (h : y.okS = true) : (T.l [y, y]).okS = true := by
  show (y.okS && (y.okS && true)) = true
  rw [h]
  rfl
theorem same_two {y : T} (h : y.okS = true) (hd : y.deep < 7) (hz : y.sizes) : okSame 9 (.l [y, y]) (.l [y, y]) := by
  refine ⟨okS_two h, okS_two h, ?_, ⟨by show 2 ≤ 40000; decide, hz, hz, trivial⟩, ⟨by show 2 ≤ 40000; decide, hz, hz, trivial⟩⟩
  show max y.deep (max y.deep 0) + 1 < 9
  omega
/-- found = [t1]; found.append(t2); if not _law_same(found, due): return False -/
theorem body_refused {t1 t2 due : TE} {D : Ends} {y : T} (m1 : Mt K w P q S0 t1 σ y) (m2 : ∀ F : Addr, Mt K w P q S0 t2 (σ.set 7 (some (.ref F))) y) (hy : y.okS = true) (hd : y.deep < 7) (hz : y.sizes) (hlen : 7 < σ.length)
    (hdue : ∀ (F : Addr) (S H : Hp), Same S0 S → Ev due (σ.set 7 (some (.ref F))) S H (R K (.l [y, y]))) (st : St w P q S H c) (e0 : Same S0 S)
    (k : ∀ (F : Addr) S' H', St w P q S' H' c → Mv w P S H S' H' → D.nx (σ.set 7 (some (.ref F))) H') :
    tSeq (tAsg (tLst (tCons t1 tNil)) (gName 7)) (tSeq (tDrop (tBM K "list" rAppend (tVar 7) (tCons t2 tNil))) (tIfS (tNot (tB (tCall (sp2 K (okSame (8 + 1)) fun x y => T.a (V.bl (x.same y))) [] E0 (tCons (tVar 7) (tCons due tNil))))) (tRet (tC (V.bl false))) tNext)) D σ H := by
  refine m1 S H c _ e0 st fun u1 S1 H1 st1 mv1 r1 => ⟨by show 1 ≤ sizeLine; decide, fun F hF => ?_⟩
  obtain ⟨hFw, hFP⟩ := st1.np hF
  have hS1F : S1 F = none := st1.sub.free hF
  have st2 := st1.add (o := .lst [u1]) hF
  have mv2 := mv1.trans (Mv.add (S := S1) (o := .lst [u1]) hF)
  have get7 : (σ.set 7 (some (V.ref F)))[7]? = some (some (V.ref F)) := by rw [List.getElem?_set, if_pos rfl, if_pos hlen]
  refine ⟨.ref F, get7, .inl ⟨rfl, [u1], .inl (.inl upd_same)⟩, ?_⟩
  refine m2 F S1 _ c _ (e0.trans mv1.s) st2 fun u2 S3 H3 st3 mv3 r2 => ?_
  have hF3 : H3 F = some (.lst [u1]) := mv3.keep F _ upd_same hFw hFP (by intro _ z; cases z)
  have hS3F : S3 F = none := mv3.out st3.sub hS1F upd_same hFw hFP
  refine ⟨F, [u1], u2, rfl, rfl, hF3, (by show 1 < sizeLine; decide), ?_⟩
  have st4 := st3.mut (o2 := .lst [u1, u2]) hS3F hF3 hFw hFP
  have st5 := st4.freeze (D := F) hS3F upd_same hFw hFP
  have frF : Fr w P H F := mv1.back F hF
  have mv5 : Mv w P S H (upd S3 F (.lst [u1, u2])) (upd H3 F (.lst [u1, u2])) := ((mv2.trans mv3).mutF frF).freeze frF hS3F
  let S5 : Hp := upd S3 F (.lst [u1, u2])
  let H5 : Hp := upd H3 F (.lst [u1, u2])
  have rF : Rep K S5 (.ref F) (.l [y, y]) := .l upd_same (.cons ((r1.same mv3.s).same (Same.new hS3F)) (.cons (r2.same (Same.new hS3F)) .nil))
  have same := ev_call2 (K := K) (E := E0) (ok := okSame (8 + 1)) (f := fun x y => T.a (V.bl (x.same y))) (ta := tVar 7) (tb := due) (σ := σ.set 7 (some (.ref F))) (S := S5) (H := H5) (ev_var get7 rF) (hdue F S5 H5 (e0.trans mv5.s)) (same_two hy hd hz)
  have test := et_not (et_B same.Is)
  rw [same_yes rfl] at test
  refine s_when test st5.sub (fun z => by cases z) fun _ S6 H6 g6 => ?_
  obtain ⟨st6, mv6⟩ := st5.grow g6
  exact k F _ H6 st6 (mv5.trans mv6)
/-- if not _law_same(t1, due): return False -/
theorem body_met {t1 due : TE} {D : Ends} {y : T} (m1 : Mt K w P q S0 t1 σ y) (ok : okSame 9 y y) (hdue : ∀ (S H : Hp), Same S0 S → Ev due σ S H (R K y)) (st : St w P q S H c) (e0 : Same S0 S)
    (k : ∀ S' H', St w P q S' H' c → Mv w P S H S' H' → D.nx σ H') :
    tIfS (tNot (tB (tCall (sp2 K (okSame (8 + 1)) fun x y => T.a (V.bl (x.same y))) [] E0 (tCons t1 (tCons due tNil))))) (tRet (tC (V.bl false))) tNext D σ H := by
  refine m1 S H c _ e0 st fun u1 S1 H1 st1 mv1 r1 => (hdue S1 H1 (e0.trans mv1.s)).at st1.sub fun u2 S2 H2 g2 r2 => ?_
  refine ⟨S2, u1, u2, y, y, rfl, g2.sub, r1.same g2.s, r2, ok, fun v S3 H3 g3 r3 => ?_⟩
  have r3 : Rep K S3 v (.a (.bl (y.same y))) := r3
  rw [same_yes rfl] at r3
  obtain ⟨rfl, _⟩ := r3.flat
  obtain ⟨st3, mv3⟩ := st1.grow (g2.trans g3)
  exact ⟨true, rfl, k _ H3 st3 (mv1.trans mv3)⟩
theorem end_met {t1 due : TE} {D : Ends} {y : T} (m1 : Mt K w P q S0 t1 σ y) (ok : okSame 9 y y) (hdue : ∀ (S H : Hp), Same S0 S → Ev due σ S H (R K y)) (st : St w P q S H c) (e0 : Same S0 S)
    (k : ∀ S' H', St w P q S' H' c → Mv w P S H S' H' → D.rt (.bl true) H') :
    tRet (tCall (sp2 K (okSame (8 + 1)) fun x y => T.a (V.bl (x.same y))) [] E0 (tCons t1 (tCons due tNil))) D σ H := by
  refine m1 S H c _ e0 st fun u1 S1 H1 st1 mv1 r1 => (hdue S1 H1 (e0.trans mv1.s)).at st1.sub fun u2 S2 H2 g2 r2 => ?_
  refine ⟨S2, u1, u2, y, y, rfl, g2.sub, r1.same g2.s, r2, ok, fun v S3 H3 g3 r3 => ?_⟩
  have r3 : Rep K S3 v (.a (.bl (y.same y))) := r3
  rw [same_yes rfl] at r3
  obtain ⟨rfl, _⟩ := r3.flat
  obtain ⟨st3, mv3⟩ := st1.grow (g2.trans g3)
  exact k _ H3 st3 (mv1.trans mv3)
/-- what may be handed to Book and is_permit here -/
structure Fit (a b : T) : Prop where
  na : namesSize a
  nb : namesSize b
  la : a.items.length < 64
  lb : b.items.length < 64
section
variable {a b d : T}
abbrev tMetBook (K : PySem.W.Frag) (Z : Px K mg) (B : Bk K mg) (P : Addr) (q : Str) (ta tb tc : TE) : TE := LamX.tLam [(P, q)] (TMet K (metC Z)) fun E => tMake B.C (spBook K B.C Z.BadRoles.C Z.BadLabels.C Z.BadPermits.C) [] E (tCons ta (tCons tb (tCons tc tNil)))
abbrev tMetIsP (K : PySem.W.Frag) (Z : Px K mg) (P : Addr) (q : Str) (ta tb tc : TE) : TE := LamX.tLam [(P, q)] (TMet K (metC Z)) fun E => tCall (spIsP K Z.BadRoles.C Z.BadLabels.C) [] E (tCons ta (tCons tb (tCons tc tNil)))
theorem mt_bookR {Z : Px K mg} (B : Bk K mg) (X : Exm Z) (ha : ∀ S H, Same S0 S → Ev ta σ S H (R K a)) (hb : ∀ S H, Same S0 S → Ev tb σ S H (R K b)) (hd : ∀ S H, Same S0 S → Ev tc σ S H (R K d)) (ft : Fit a b) (nd : permitsSize d) (h : a.okRoles = false) :
    Mt K w P q S0 (tMetBook K Z B P q ta tb tc) σ (.l [.a (.str "roles"), a]) := fun S H c Q e st k =>
  at_raised (told_roles X) st (fun H1 E Qv e1 he => at_Book Z B e1 (ha S H1 e) (hb S H1 e) (hd S H1 e) ft.na ft.nb nd ft.la ft.lb (fun _ => he) (fun z => by rw [bookOf_roles h] at z; cases z) (fun i z => by rw [bookOf_roles h] at z; cases z) fun rs ls ps z => by rw [bookOf_roles h] at z; cases z) k
theorem mt_bookL {Z : Px K mg} (B : Bk K mg) (X : Exm Z) (ha : ∀ S H, Same S0 S → Ev ta σ S H (R K a)) (hb : ∀ S H, Same S0 S → Ev tb σ S H (R K b)) (hd : ∀ S H, Same S0 S → Ev tc σ S H (R K d)) (ft : Fit a b) (nd : permitsSize d) (h1 : a.okRoles = true) (h : b.areNames = false) :
    Mt K w P q S0 (tMetBook K Z B P q ta tb tc) σ (.l [.a (.str "labels"), b]) := fun S H c Q e st k =>
  at_raised (told_labels X) st (fun H1 E Qv e1 he => at_Book Z B e1 (ha S H1 e) (hb S H1 e) (hd S H1 e) ft.na ft.nb nd ft.la ft.lb (fun z => by rw [bookOf_labels h1 h] at z; cases z) (fun _ => he) (fun i z => by rw [bookOf_labels h1 h] at z; cases z) fun rs ls ps z => by rw [bookOf_labels h1 h] at z; cases z) k
theorem mt_bookP {Z : Px K mg} (B : Bk K mg) (X : Exm Z) {i : Nat} (ha : ∀ S H, Same S0 S → Ev ta σ S H (R K a)) (hb : ∀ S H, Same S0 S → Ev tb σ S H (R K b)) (hd : ∀ S H, Same S0 S → Ev tc σ S H (R K d)) (ft : Fit a b) (nd : permitsSize d) (h : bookOf a b d = .permits i) :
    Mt K w P q S0 (tMetBook K Z B P q ta tb tc) σ (.l [.a (.str "permits"), .a (.int (i : Nat))]) := fun S H c Q e st k =>
  at_raised (told_permits X) st (fun H1 E Qv e1 he => at_Book Z B e1 (ha S H1 e) (hb S H1 e) (hd S H1 e) ft.na ft.nb nd ft.la ft.lb (fun z => by rw [h] at z; cases z) (fun z => by rw [h] at z; cases z) (fun j z dd S' H' g hx => by rw [h] at z; cases z; exact he dd _ S' H' g (.a rfl) hx) fun rs ls ps z => by rw [h] at z; cases z) k
theorem mt_isPR {Z : Px K mg} (X : Exm Z) (ha : ∀ S H, Same S0 S → Ev ta σ S H (R K a)) (hb : ∀ S H, Same S0 S → Ev tb σ S H (R K b)) (hd : ∀ S H, Same S0 S → Ev tc σ S H (R K d)) (ft : Fit a b) (nd : d.items.length ≤ 50000) (h : a.okRoles = false) :
    Mt K w P q S0 (tMetIsP K Z P q ta tb tc) σ (.l [.a (.str "roles"), a]) := fun S H c Q e st k =>
  at_raised (told_roles X) st (fun H1 E Qv e1 he => at_isP Z e1 (ha S H1 e) (hb S H1 e) (hd S H1 e) ft.na ft.nb nd (fun _ => he) (fun z => by rw [h] at z; cases z) fun z => by rw [h] at z; cases z) k
theorem mt_isPL {Z : Px K mg} (X : Exm Z) (ha : ∀ S H, Same S0 S → Ev ta σ S H (R K a)) (hb : ∀ S H, Same S0 S → Ev tb σ S H (R K b)) (hd : ∀ S H, Same S0 S → Ev tc σ S H (R K d)) (ft : Fit a b) (nd : d.items.length ≤ 50000) (h1 : a.okRoles = true) (h : b.areNames = false) :
    Mt K w P q S0 (tMetIsP K Z P q ta tb tc) σ (.l [.a (.str "labels"), b]) := fun S H c Q e st k =>
  at_raised (told_labels X) st (fun H1 E Qv e1 he => at_isP Z e1 (ha S H1 e) (hb S H1 e) (hd S H1 e) ft.na ft.nb nd (fun z => by rw [h1] at z; cases z) (fun _ _ => he) fun _ z => by rw [h] at z; cases z) k
end
structure WkR (K : PySem.W.Frag) (J : It) (S : Hp) (xs : List T) : Prop where
  go : ∀ {S' H'} i, Same S S' → Same S' H' → i < xs.length → J.go i H'
  yld : ∀ {S' H'} i x H2, Same S S' → Same S' H' → i < xs.length → J.yld i H' x H2 → H2 = H' ∧ Rep K S' x (nth xs i)
  stop : ∀ {S' H'}, Same S S' → Same S' H' → J.stop xs.length H'
theorem wkr_l {a : Addr} {vs : List V} {xs : List T} (h : S a = some (.lst vs)) (r : Reps K S vs xs) : WkR K (Itl K a) S xs where
  go := (wk_list h r).go
  stop := (wk_list h r).stop
  yld := fun {S' H'} i x H2 e e' hi y => by
    obtain ⟨rfl, y⟩ := y
    obtain ⟨v, hv, rv⟩ := r.get (nth_get hi)
    have ex := (y vs (sqL (e.trans e') h)).symm.trans hv
    cases ex
    exact ⟨rfl, rv.same e⟩
theorem wkr_t {a : Addr} {vs : List V} {xs : List T} (h : S a = some (.tup vs)) (r : Reps K S vs xs) : WkR K (Itt K a) S xs where
  go := (wk_tup h r).go
  stop := (wk_tup h r).stop
  yld := fun {S' H'} i x H2 e e' hi y => by
    obtain ⟨rfl, y⟩ := y
    obtain ⟨v, hv, rv⟩ := r.get (nth_get hi)
    have ex := (y vs (sqT (e.trans e') h)).symm.trans hv
    cases ex
    exact ⟨rfl, rv.same e⟩
/-- a loop over a list or a tuple, where lambdas are made -/
theorem at_forS {te : TE} {g : TG} {tu : TS} {D : Ends} {s0 : T} {xs : List T} (hs : s0 = .l xs ∨ s0 = .t xs) (h : Ev te σ S H (R K s0)) (st : St w P q S H c)
    (k : ∀ S1 H1, St w P q S1 H1 c → Mv w P S H S1 H1 → ∃ Pv : Nat → L2.St → Hp → Hp → Prop, (∀ i σ' S' H', Pv i σ' S' H' → Same S1 S' ∧ Same S' H') ∧ Pv 0 σ S1 H1 ∧
      (∀ i σ' S' H' x, i < xs.length → Pv i σ' S' H' → Rep K S' x (nth xs i) → g x σ' H' fun σ2 H3 => tu { D with nx := fun σ3 H4 => ∃ S4, Pv (i + 1) σ3 S4 H4, ct := fun σ3 H4 => ∃ S4, Pv (i + 1) σ3 S4 H4, bk := D.nx } σ2 H3) ∧
      (∀ σ' S' H', Pv xs.length σ' S' H' → D.nx σ' H')) : tFor (iSeq K te) g tu D σ H := by
  have core : ∀ (J : It) (S1 H1 : Hp), St w P q S1 H1 c → Mv w P S H S1 H1 → WkR K J S1 xs →
      ∃ inv : Nat → Nat → L2.St → Hp → Prop, (∃ m, inv 0 m σ H1) ∧ ∀ i m σ' H', inv i m σ' H' → (J.stop i H' ∧ D.nx σ' H') ∨ (J.go i H' ∧ ∃ N : L2.St → Hp → Prop, (∀ σ3 H3, N σ3 H3 → ∃ m', m' < m ∧ inv (i + 1) m' σ3 H3) ∧ ∀ x H2, J.yld i H' x H2 → g x σ' H2 fun σ2 H3 => tu { D with nx := N, ct := N, bk := D.nx } σ2 H3) := by
    intro J S1 H1 st1 mv1 W
    obtain ⟨Pv, hP, h0, hst, hd⟩ := k S1 H1 st1 mv1
    refine ⟨fun i m σ' H' => m = xs.length - i ∧ i ≤ xs.length ∧ ∃ S', Pv i σ' S' H', ⟨xs.length, by simp, Nat.zero_le _, S1, h0⟩, ?_⟩
    rintro i m σ' H' ⟨rfl, hin, S', p⟩
    obtain ⟨e1, e2⟩ := hP i σ' S' H' p
    by_cases hlt : i < xs.length
    · refine .inr ⟨W.go i e1 e2 hlt, fun σ3 H3 => ∃ S4, Pv (i + 1) σ3 S4 H3, fun σ3 H3 pp => ⟨xs.length - (i + 1), by omega, rfl, hlt, pp⟩, fun x H2 y => ?_⟩
      obtain ⟨rfl, px⟩ := W.yld i x H2 e1 e2 hlt y
      exact hst i σ' S' _ x hlt p px
    · have e : i = xs.length := by omega
      subst e
      exact .inl ⟨W.stop e1 e2, hd σ' S' H' p⟩
  rcases hs with rfl | rfl
  · refine .inl ?_
    refine h.at st.sub fun v S1 H1 g1 r => ?_
    obtain ⟨st1, mv1⟩ := st.grow g1
    cases r.noT with
    | @l a vs _ ha rs => exact ⟨a, rfl, ⟨vs, sqL st1.sub ha⟩, core _ _ _ st1 mv1 (wkr_l ha rs)⟩
  · refine .inr ?_
    refine h.at st.sub fun v S1 H1 g1 r => ?_
    obtain ⟨st1, mv1⟩ := st.grow g1
    cases r.noT with
    | @t a vs _ ha rs => exact ⟨a, rfl, ⟨vs, sqT st1.sub ha⟩, core _ _ _ st1 mv1 (wkr_t ha rs)⟩
end
end Uw
end
section
set_option Elab.async false
set_option linter.all false
set_option maxRecDepth 100000
namespace Uw
open PySem PySem.Spec PyProof.Rows L2 RZ
/-! ### raw books stand -/
theorem ten_named : ∀ z ∈ names10, isNameS z = true ∧ isKnown (tS z) = false ∧ z ≠ "zz9" ∧ z ≠ "known" ∧ z.length ≤ 100000 := by decide +kernel
theorem four_named : ∀ z ∈ names4, isNameS z = true ∧ z.length ≤ 100000 := by decide +kernel
theorem raw_roles {b : Raw} {n : Nat} (h : b.Ok n) : (T.l (b.rs.map tS)).okRoles = true := by
  unfold T.okRoles
  rw [names_l, Bool.and_eq_true, Bool.and_eq_true]
  refine ⟨⟨List.all_eq_true.mpr fun z hz => (ten_named z (h.rs.2.2 z hz)).1, decide_eq_true h.rs.2.1⟩, ?_⟩
  show (!(b.rs.map tS).any isKnown) = true
  rw [List.any_map, Bool.not_eq_true', List.any_eq_false]
  exact fun z hz => by
    show ¬ isKnown (tS z) = true
    rw [(ten_named z (h.rs.2.2 z hz)).2.1]
    exact Bool.false_ne_true
theorem raw_labels {b : Raw} {n : Nat} (h : b.Ok n) : (T.l (b.ls.map tS)).areNames = true := by
  rw [names_l, Bool.and_eq_true]
  exact ⟨List.all_eq_true.mpr fun z hz => (four_named z (h.ls.2.2 z hz)).1, decide_eq_true h.ls.2.1⟩
theorem sizes_strs {zs : List Str} (h : ∀ z ∈ zs, z.length ≤ 100000) : ∀ y ∈ zs.map tS, strOk y := fun y hy => by
  obtain ⟨z, hz, rfl⟩ := List.mem_map.mp hy
  exact h z hz
theorem raw_fit {b : Raw} {n : Nat} (h : b.Ok n) : Fit (.l (b.rs.map tS)) (.l (b.ls.map tS)) := by
  have h1 := someOf_len h.rs
  have h2 := someOf_len h.ls
  have e1 : names10.length = 10 := rfl
  have e2 : names4.length = 4 := rfl
  refine ⟨⟨?_, sizes_strs fun z hz => (ten_named z (h.rs.2.2 z hz)).2.2.2.2⟩, ⟨?_, sizes_strs fun z hz => (four_named z (h.ls.2.2 z hz)).2⟩, ?_, ?_⟩
  · show (b.rs.map tS).length < 4000
    rw [List.length_map]
    omega
  · show (b.ls.map tS).length < 4000
    rw [List.length_map]
    omega
  · show (b.rs.map tS).length < 64
    rw [List.length_map]
    omega
  · show (b.ls.map tS).length < 64
    rw [List.length_map]
    omega
theorem kinds1 : ∀ w ∈ (["make", "bring", "show", "seal", "open"] : List Str), kindsOf w = some (["role"] : List Str) := by decide +kernel
theorem kinds2 : ∀ w ∈ (["copy", "wrap", "unwrap"] : List Str), kindsOf w = some (["role", "role"] : List Str) := by decide +kernel
theorem kinds3 : kindsOf "derive" = some (["role", "label", "role"] : List Str) := by decide +kernel
theorem at_role {rs ls : List Str} {z : Str} (h : z ∈ rs) : okAt rs ls "role" (tS z) = true := decide_eq_true (by rw [if_pos rfl]; exact h)
theorem at_label {rs ls : List Str} {z : Str} (h : z ∈ ls) : okAt rs ls "label" (tS z) = true := decide_eq_true (by rw [if_neg (by decide)]; exact h)
theorem readP_of {rs ls : List Str} {w : Str} {zs ks : List Str} {x : T} (hx : x = .t ((w :: zs).map tS) ∨ x = .l ((w :: zs).map tS)) (hk : kindsOf w = some ks) (hl : zs.length = ks.length) (ha : allAt rs ls ks (zs.map tS) = true) : readP rs ls x = some (w :: zs) := by
  have e1 : x.firstWord = w := by rcases hx with rfl | rfl <;> rfl
  have e2 : x.items = (w :: zs).map tS := by rcases hx with rfl | rfl <;> rfl
  unfold readP
  rw [e1, hk]
  dsimp only
  rw [e2, if_pos ⟨by rw [List.length_map]; exact congrArg (· + 1) hl, ha⟩, strsOf_map]
theorem readP_okP {rs ls p : List Str} {x : T} (h : okP rs ls p) (hx : x = .t (p.map tS) ∨ x = .l (p.map tS)) : readP rs ls x = some p := by
  rcases h with ⟨w, r, rfl, h1, h2⟩ | ⟨w, r, s, rfl, h1, h2, h3⟩ | ⟨r, y, s, rfl, h1, h2, h3⟩
  · exact readP_of hx (kinds1 w h1) rfl (by
      show (okAt rs ls "role" (tS r) && true) = true
      rw [at_role h2]
      rfl)
  · exact readP_of hx (kinds2 w h1) rfl (by
      show (okAt rs ls "role" (tS r) && (okAt rs ls "role" (tS s) && true)) = true
      rw [at_role h2, at_role h3]
      rfl)
  · exact readP_of hx kinds3 rfl (by
      show (okAt rs ls "role" (tS r) && (okAt rs ls "label" (tS y) && (okAt rs ls "role" (tS s) && true))) = true
      rw [at_role h1, at_label h2, at_role h3]
      rfl)
/-- one sign more behind a permit is none -/
theorem readP_more {rs ls p : List Str} {z : Str} (h : okP rs ls p) : readP rs ls (tT (p ++ [z])) = none := by
  have key : ∀ {w : Str} {zs ks : List Str}, kindsOf w = some ks → zs.length ≠ ks.length → readP rs ls (tT (w :: zs)) = none := fun {w zs ks} hk hl => by
    unfold readP
    rw [show (tT (w :: zs)).firstWord = w from rfl, hk]
    dsimp only
    rw [if_neg]
    rintro ⟨e, _⟩
    have e : ((w :: zs).map tS).length = ks.length + 1 := e
    rw [List.length_map] at e
    exact hl (Nat.succ.inj e)
  rcases h with ⟨w, r, rfl, h1, h2⟩ | ⟨w, r, s, rfl, h1, h2, h3⟩ | ⟨r, y, s, rfl, h1, h2, h3⟩
  · exact key (zs := [r, z]) (kinds1 w h1) (by simp)
  · exact key (zs := [r, s, z]) (kinds2 w h1) (by simp)
  · exact key (zs := [r, y, s, z]) kinds3 (by simp)
theorem readP_word {rs ls : List Str} {x : T} (h : kindsOf x.firstWord = none) : readP rs ls x = none := by
  unfold readP
  rw [h]
theorem readP_make {rs ls : List Str} {z : Str} (h : z ∉ rs) : readP rs ls (tT ["make", z]) = none := by
  unfold readP
  rw [show (tT ["make", z]).firstWord = "make" from rfl, show kindsOf "make" = some (["role"] : List Str) by decide +kernel]
  dsimp only
  rw [if_neg]
  rintro ⟨_, e⟩
  have e : (okAt rs ls "role" (tS z) && true) = true := e
  rw [Bool.and_true] at e
  have e : decide (z ∈ if ("role" : Str) = "role" then rs else ls) = true := e
  rw [if_pos rfl] at e
  exact h (of_decide_eq_true e)
theorem raw_strs {b : Raw} {n : Nat} : strsOf (T.l (b.rs.map tS)).items = b.rs ∧ strsOf (T.l (b.ls.map tS)).items = b.ls := ⟨strsOf_map _, strsOf_map _⟩
theorem raw_read {b : Raw} {n : Nat} (h : b.Ok n) {qs : List (List Str)} (hq : ∀ p ∈ qs, p ∈ b.ps) : (qs.map tT).map (readP b.rs b.ls) = qs.map some := by
  rw [List.map_map]
  exact List.map_congr_left fun p hp => readP_okP (h.ok p (hq p hp)) (.inl rfl)
theorem okP_len {rs ls p : List Str} (h : okP rs ls p) : p.length ≤ 4 := by
  rcases h with ⟨_, _, rfl, _⟩ | ⟨_, _, _, rfl, _⟩ | ⟨_, _, _, rfl, _⟩ <;> simp
end Uw
end
section
set_option Elab.async false
set_option linter.all false
set_option maxRecDepth 100000
namespace Uw
open PySem PySem.Spec PyProof.Rows L2 RZ
mutual
def T.sizesB : T → Bool
  | .a _ => true
  | .l xs => decide (xs.length ≤ 40000) && sizesBs xs
  | .t xs => decide (xs.length ≤ 40000) && sizesBs xs
  | .d kvs => decide (kvs.length ≤ 40000)
def sizesBs : List T → Bool
  | [] => true
  | x :: xs => x.sizesB && sizesBs xs
end
mutual
theorem sizesB_ok : ∀ {x : T}, x.sizesB = true → x.sizes
  | .a _, _ => trivial
  | .l xs, h => by
    have h : (decide (xs.length ≤ 40000) && sizesBs xs) = true := h
    rw [Bool.and_eq_true] at h
    exact ⟨of_decide_eq_true h.1, sizesBs_ok h.2⟩
  | .t xs, h => by
    have h : (decide (xs.length ≤ 40000) && sizesBs xs) = true := h
    rw [Bool.and_eq_true] at h
    exact ⟨of_decide_eq_true h.1, sizesBs_ok h.2⟩
  | .d kvs, h => by
    have h : decide (kvs.length ≤ 40000) = true := h
    show kvs.length ≤ 40000
    exact of_decide_eq_true h
theorem sizesBs_ok : ∀ {xs : List T}, sizesBs xs = true → sizess xs
  | [], _ => trivial
  | x :: xs, h => by
    have h : (x.sizesB && sizesBs xs) = true := h
    rw [Bool.and_eq_true] at h
    exact ⟨sizesB_ok h.1, sizesBs_ok h.2⟩
end
def strOkB : T → Bool
  | .a (.str z) => decide (z.length ≤ 100000)
  | _ => true
theorem strOkB_ok {x : T} (h : strOkB x = true) : strOk x := by
  cases x with
  | a v =>
    cases v with
    | str z =>
      have h : decide (z.length ≤ 100000) = true := h
      show z.length ≤ 100000
      exact of_decide_eq_true h
    | _ => exact trivial
  | _ => exact trivial
/-- small, and of the kinds that are compared -/
def small (x : T) : Bool := decide (x.items.length < 64) && (x.items.all strOkB && (x.okS && (decide (x.deep < 5) && x.sizesB)))
structure Small (x : T) : Prop where
  n : namesSize x
  l : x.items.length < 64
  o : x.okS = true
  d : x.deep < 5
  z : x.sizes
theorem small_ok {x : T} (h : small x = true) : Small x := by
  unfold small at h
  rw [Bool.and_eq_true, Bool.and_eq_true, Bool.and_eq_true, Bool.and_eq_true] at h
  obtain ⟨h1, h2, h3, h4, h5⟩ := h
  have l := of_decide_eq_true h1
  exact ⟨⟨by omega, fun y hy => strOkB_ok (List.all_eq_true.mp h2 y hy)⟩, l, h3, of_decide_eq_true h4, sizesB_ok h5⟩
def odds1 (r0 : Str) : List T := [.a .non, .a (.int 5), .a (.bl true), tS "ab", .d [], .l [tS "A"], .l [tS ""], .l [.a .non]] ++ [.l [tS "eightsgns"], .l [tS "1a"], .l [tS "a b"], .l [tS r0, tS r0]]
def odds2 : List T := [.l [.l [tS "a"]], .l [tS "aB"], .l [tS "a_b"]]
def odds3 (r0 : Str) : List T := [.l [tS "known"], .l [tS r0, tS "known"]]
theorem odds_small : ∀ z ∈ names10, ∀ x ∈ (odds1 z ++ odds2) ++ odds3 z, small x = true ∧ x.okRoles = false := by
  have h : (names10.all fun z => ((odds1 z ++ odds2) ++ odds3 z).all fun x => small x && !x.okRoles) = true := by decide +kernel
  intro z hz x hx
  have := List.all_eq_true.mp (List.all_eq_true.mp h z hz) x hx
  rw [Bool.and_eq_true, Bool.not_eq_true'] at this
  exact this
theorem odds_labels : ∀ z ∈ names10, ∀ x ∈ odds1 z ++ odds2, small x = true ∧ x.areNames = false := by
  have h : (names10.all fun z => (odds1 z ++ odds2).all fun x => small x && !x.areNames) = true := by decide +kernel
  intro z hz x hx
  have := List.all_eq_true.mp (List.all_eq_true.mp h z hz) x hx
  rw [Bool.and_eq_true, Bool.not_eq_true'] at this
  exact this
/-- what is handed for permits, with the index that is told -/
def odds5 : List T := [.t [.a .non, .a (.int 0)], .t [.a (.int 5), .a (.int 0)], .t [tS "make", .a (.int 0)], .t [.d [], .a (.int 0)], .t [.a (.bl true), .a (.int 0)]]
theorem odds5_at : ∀ {i : Nat}, i < odds5.length → ∃ o : T, nth odds5 i = .t [o, .a (.int 0)] ∧ o.isSeq = false ∧ o.items = []
  | 0, _ => ⟨_, rfl, rfl, rfl⟩
  | 1, _ => ⟨_, rfl, rfl, rfl⟩
  | 2, _ => ⟨_, rfl, rfl, rfl⟩
  | 3, _ => ⟨_, rfl, rfl, rfl⟩
  | 4, _ => ⟨_, rfl, rfl, rfl⟩
  | i + 5, h => absurd h (by show ¬ i + 5 < 5; omega)
def odds4 (r0 : Str) (p0 : List Str) : List T := [.a .non, tS "make", tT ["make", "zz9"], tT ["make", "known"], tT ["take", r0], tT (p0 ++ (["a"] : List Str)), .l [], .l [tT p0]]
theorem odds4_no {b : Raw} {n : Nat} (h : b.Ok n) {r0 : Str} {p0 : List Str} (hp : p0 ∈ b.ps) {x : T} (hx : x ∈ odds4 r0 p0) : readP b.rs b.ls x = none ∧ x.items.length ≤ 5 := by
  have hz : (("zz9" : Str)) ∉ b.rs := fun m => (ten_named _ (h.rs.2.2 _ m)).2.2.1 rfl
  have hk : (("known" : Str)) ∉ b.rs := fun m => (ten_named _ (h.rs.2.2 _ m)).2.2.2.1 rfl
  have no : kindsOf "" = none := by decide +kernel
  have l4 := okP_len (h.ok p0 hp)
  unfold odds4 at hx
  simp only [List.mem_cons, List.not_mem_nil, or_false] at hx
  rcases hx with rfl | rfl | rfl | rfl | rfl | rfl | rfl | rfl
  · exact ⟨readP_word no, Nat.zero_le _⟩
  · exact ⟨readP_word no, Nat.zero_le _⟩
  · exact ⟨readP_make hz, by show 2 ≤ 5; decide⟩
  · exact ⟨readP_make hk, by show 2 ≤ 5; decide⟩
  · exact ⟨readP_word (by show kindsOf "take" = none; decide +kernel), by show 2 ≤ 5; decide⟩
  · refine ⟨readP_more (h.ok p0 hp), ?_⟩
    show ((p0 ++ (["a"] : List Str)).map tS).length ≤ 5
    rw [List.length_map, List.length_append]
    show p0.length + 1 ≤ 5
    omega
  · exact ⟨readP_word no, Nat.zero_le _⟩
  · exact ⟨readP_word no, by show 1 ≤ 5; decide⟩
theorem tT_len (p : List Str) : (tT p).items.length = p.length := List.length_map ..
/-- permits with a wrong one at k -/
theorem book_at {b : Raw} {n : Nat} (h : b.Ok n) {k : Nat} (hk : k ≤ b.ps.length) {x : T} (hx : readP b.rs b.ls x = none) : bookOf (.l (b.rs.map tS)) (.l (b.ls.map tS)) (.l ((((b.ps.take k).map tT ++ [x]) ++ (b.ps.drop k).map tT) ++ [.a .non])) = .permits k := by
  have e := bookOf_bad (a := .l (b.rs.map tS)) (b := .l (b.ls.map tS)) (c := .l ((((b.ps.take k).map tT ++ [x]) ++ (b.ps.drop k).map tT) ++ [.a .non])) (ps := b.ps.take k) (o := none) (rest := (b.ps.drop k).map some ++ [readP b.rs b.ls (.a .non)]) (raw_roles h) (raw_labels h) rfl (by
    show List.map _ ((((b.ps.take k).map tT ++ [x]) ++ (b.ps.drop k).map tT) ++ [.a .non]) = _
    rw [show strsOf (T.l (b.rs.map tS)).items = b.rs from strsOf_map _, show strsOf (T.l (b.ls.map tS)).items = b.ls from strsOf_map _]
    rw [List.map_append, List.map_append, List.map_append, raw_read h fun p hp => List.mem_of_mem_take hp, raw_read h fun p hp => List.mem_of_mem_drop hp]
    show ((_ ++ [readP b.rs b.ls x]) ++ _) ++ [readP b.rs b.ls (.a .non)] = _
    rw [hx]
    simp) (h.nd.sublist (List.take_sublist k _)) (fun z hz => by cases hz)
  rw [e, List.length_take, Nat.min_eq_left hk]
/-- permits with the last one once more -/
theorem book_last {b : Raw} {n : Nat} (h : b.Ok n) {p : List Str} (hp : p ∈ b.ps) : bookOf (.l (b.rs.map tS)) (.l (b.ls.map tS)) (.l (b.ps.map tT ++ [.l (p.map tS), .a .non])) = .permits b.ps.length :=
  bookOf_bad (ps := b.ps) (o := some p) (rest := [readP b.rs b.ls (.a .non)]) (raw_roles h) (raw_labels h) rfl (by
    show List.map _ (b.ps.map tT ++ [.l (p.map tS), .a .non]) = _
    rw [show strsOf (T.l (b.rs.map tS)).items = b.rs from strsOf_map _, show strsOf (T.l (b.ls.map tS)).items = b.ls from strsOf_map _]
    rw [List.map_append, raw_read h fun p hp => hp]
    show _ ++ [readP b.rs b.ls (.l (p.map tS)), readP b.rs b.ls (.a .non)] = _
    rw [readP_okP (h.ok p hp) (.inr rfl)]) h.nd (fun z hz => by cases hz; exact hp)
theorem size_lo {y x : T} (h : y.loose = x.loose) : y.items.length = x.items.length := by
  have := congrArg T.items h
  rw [items_lo, items_lo] at this
  have := congrArg List.length this
  rwa [len_lo, len_lo] at this
theorem looses_get : ∀ {xs ys : List T}, looses xs = looses ys → ∀ {z : T}, z ∈ xs → ∃ z2 ∈ ys, z.loose = z2.loose
  | [], _, _, _, hz => by simp at hz
  | _ :: _, [], h, _, _ => by cases h
  | x :: xs, y :: ys, h, z, hz => by
    have h : x.loose :: looses xs = y.loose :: looses ys := h
    injection h with h1 h2
    rcases List.mem_cons.mp hz with rfl | hz
    · exact ⟨y, List.mem_cons_self, h1⟩
    · obtain ⟨z2, hz2, e⟩ := looses_get h2 hz
      exact ⟨z2, List.mem_cons_of_mem _ hz2, e⟩
theorem permitsSize_lo {y x : T} (h : y.loose = x.loose) (hx : permitsSize x) : permitsSize y := by
  refine ⟨by rw [size_lo h]; exact hx.1, fun z hz => ?_⟩
  have := congrArg T.items h
  rw [items_lo, items_lo] at this
  obtain ⟨z2, hz2, e⟩ := looses_get this hz
  rw [size_lo e]
  exact hx.2 z2 hz2
theorem raw_psize {b : Raw} {n : Nat} (h : b.Ok n) {qs : List (List Str)} (hq : ∀ p ∈ qs, p ∈ b.ps) : ∀ z ∈ qs.map tT, z.items.length ≤ 50000 := fun z hz => by
  obtain ⟨p, hp, rfl⟩ := List.mem_map.mp hz
  rw [tT_len]
  have := okP_len (h.ok p (hq p hp))
  omega
end Uw
end
section
set_option Elab.async false
set_option linter.all false
set_option maxRecDepth 100000
set_option maxHeartbeats 2000000
namespace Uw
open PySem PySem.Spec PyProof.Rows L2 RZ
abbrev lamN (f : Str) : Str := (f ++ ".<locals>.") ++ "<lambda>"
/-- a def that makes lambdas: its code object, its table -/
structure LamTab (K : PySem.W.Frag) (mg : Str → Option Value) (base : Heap) (x qual : Str) (st : Stmt) (f : Addr) where
  c : Addr
  P : Addr
  TB : LamX.TabB base mg c P
  code : ∀ {cdv : Value}, (∃ oc od kV doc pm an ct osl, K.lookup f = some ⟨oc, od, .func (PySem.W.fnOf x qual (defArgs st) (defBody st) (defScope st) .none kV doc pm an cdv ct), osl⟩) → cdv = .ref c
section
variable {K : PySem.W.Frag} {σ : L2.St} {S H : Hp} {ta : TE} {y : T}
theorem ev_dnewK : Ev tDNewK σ S H (R K (.d [])) := fun S1 H1 g Q q => fun p hp => q _ (upd S1 p (.dK [])) _ (.alloc g.sub hp) (.d upd_same .nil)
theorem ev_rep2 (h : Ev ta σ S H (R K (.l [y]))) : Ev (tOp rRep ta (tC (.int 2))) σ S H (R K (.l [y, y])) := fun S1 H1 g Q q => h S1 H1 g _ fun v S2 H2 g2 r => by
  cases r with
  | @l p us _ hp rs =>
    cases rs with
    | @cons u _ _ _ ru rs =>
      cases rs
      exact ⟨p, 2, [u], rfl, rfl, g2.sub _ _ hp, by decide, by decide, (by show 1 * 2 ≤ sizeLine; decide), fun l hl => q _ (upd S2 l (.lst [u, u])) _ (g2.trans (.alloc g2.sub hl)) (.l upd_same (.cons (ru.same (Same.new (g2.sub.free hl))) (.cons (ru.same (Same.new (g2.sub.free hl))) .nil)))⟩
theorem ev_neg1 {i : Int} (h : Ev ta σ S H (Is (.int i))) : Ev (tUn (rU fun i => V.int (-i)) ta) σ S H (Is (.int (-i))) := fun S1 H1 g Q q => h S1 H1 g _ fun v S2 H2 g2 e => ⟨i, e, q _ S2 H2 g2 rfl⟩
theorem at_last {α : Type} {xs : List α} {x : α} (h : xs.getLast? = some x) : L2.atI xs (-1) = some x := by
  unfold L2.atI L2.ixN
  cases xs with
  | nil => simp at h
  | cons a r =>
    rw [if_neg (by decide), if_pos (by show -((a :: r).length : Int) ≤ -1; rw [List.length_cons]; omega)]
    rw [List.getLast?_eq_getElem?] at h
    show (a :: r)[_]? = some x
    rw [← h]
    congr 1
    rw [List.length_cons]
    omega
end
section
variable {P : Program} {w : World} {K : PySem.W.Frag} {mg : Str → Option Value} {base : Heap}
def spRef (K : PySem.W.Frag) (T : Addr) : Sp := fun vs H Q _ => ∃ (S : Hp) (w : Addr) (c n : Nat) (v : V) (b : Raw), vs = [.ref w, v] ∧ St w T (lamN "_law_refused_right") S H c ∧ c ≤ 900000000000 ∧ Rep K S v b.t ∧ b.Ok n ∧ n ≤ 60 ∧ b.ps ≠ [] ∧
  ∀ S' H' c', St w T (lamN "_law_refused_right") S' H' c' → Mv w T S H S' H' → c' ≤ c + 2000000 → Q (.bl true) H'
theorem ok__law_refused_right (Z : Px K mg) (Y : Pt K w mg) (B : Bk K mg) (X : Exm Z) (Tb : LamTab K mg base "_law_refused_right" "_law_refused_right" s__law_refused_right Z._law_refused_right.f) :
    FnG P w K mg base CX0 13 Z._law_refused_right.f Z._law_refused_right.fd ["well", "raw"] (spRef K Tb.P) := by
  refine Fun.okG Z._law_refused_right.F sc__law_refused_right (by rintro vs H Q E ⟨S, w, c, n, v, b, rfl, _⟩; rfl) (fun cdv A outer s H vs Q E hg _ hlk hr h => ?_)
  obtain rfl : cdv = .ref Tb.c := Tb.code hlk
  obtain ⟨S, wl, c, n, v, b, rfl, st0, hc, r, hb, hn, hpne, q⟩ := h
  refine ⟨_, (pss_cons (ps_asg (pv 1) (show PG _ _ (gTup K 3 _) from pg_tup (by rfl) (pgs_cons (pg_name (i := 2) sc__law_refused_right.nd rfl (.inr rfl)) (pgs_cons (pg_name (i := 3) sc__law_refused_right.nd rfl (.inr rfl)) (pgs_cons (pg_name (i := 4) sc__law_refused_right.nd rfl (.inl rfl)) pgs_nil)))))
  (pss_cons (ps_set (i := 5) sc__law_refused_right.nd rfl (.inl rfl) (pe_lst (pa_cons pe_non (pa_cons pe_int (pa_cons pe_bl (pa_cons pe_str (pa_cons pe_dnewK (pa_cons (pe_lst (pa_cons pe_str pa_nil)) (pa_cons (pe_lst (pa_cons pe_str pa_nil)) (pa_cons (pe_lst (pa_cons pe_non pa_nil)) (pa_cons (pe_lst (pa_cons pe_str pa_nil)) (pa_cons (pe_lst (pa_cons pe_str pa_nil)) (pa_cons (pe_lst (pa_cons pe_str pa_nil)) (pa_cons (pe_lst (pa_cons (pe_ix (ixK (K := K)) (pv 2) pe_int (fun _ _ => rfl)) (pa_cons (pe_ix (ixK (K := K)) (pv 2) pe_int (fun _ _ => rfl)) pa_nil))) pa_nil))))))))))))))
  (pss_cons (ps_expr (show PE _ _ (tBM K "list" rExtend _ _) from pe_bm PySem.F.plainAttrs_list PySem.F.slot_list_extend PySem.F.type_list_extend mr_extend (pv 5) (pa_cons (pe_lst (pa_cons (pe_lst (pa_cons (pe_lst (pa_cons pe_str pa_nil)) pa_nil)) (pa_cons (pe_lst (pa_cons pe_str pa_nil)) (pa_cons (pe_lst (pa_cons pe_str pa_nil)) pa_nil)))) pa_nil)))
  (pss_cons (ps_for PassesOwn.never rfl (pi_seqK (K := K) (pe_op op_cat (pv 5) (pe_lst (pa_cons (pe_lst (pa_cons pe_str pa_nil)) (pa_cons (pe_lst (pa_cons (pe_ix (ixK (K := K)) (pv 2) pe_int (fun _ _ => rfl)) (pa_cons pe_str pa_nil))) pa_nil))))) (pg_name (i := 6) sc__law_refused_right.nd rfl (.inr rfl))
   (pss_cons (ps_set (i := 7) sc__law_refused_right.nd rfl (.inl rfl) (pe_lst (pa_cons (pe_caught (k := 6) (P := Tb.P) (c := Tb.c) (T := [(Tb.P, _)]) (by rfl) Z._law_met.g Z._law_met.F Z._law_met.b sc__law_met rfl (Or.inl rfl) (met_gives Z) Tb.TB rfl (List.mem_singleton.mpr rfl) (fun p hp _ => by rw [List.mem_singleton.mp hp]) (hr.mono (by decide)) (show LamX.LamS (defScope s__law_refused_right) _ from LamX.lamS_by (by decide +kernel)) rfl (fun _ _ _ _ _ => rfl) (fun A outer s H E f c2 hr2 => (pe_make B.M (ok_init Z Y B) (hr2.mono (by decide)) (by rfl) B.g B.b .nil (passes_call (takes_of rfl rfl rfl rfl) (fun _ _ _ _ h => h)) (pa_cons (pv 6) (pa_cons pe_non (pa_cons pe_non pa_nil)))))) pa_nil)))
  (pss_cons (ps_expr (show PE _ _ (tBM K "list" rAppend _ _) from pe_bm PySem.F.plainAttrs_list PySem.F.slot_list_append PySem.F.type_list_append mr_append (pv 7) (pa_cons (pe_caught (k := 6) (P := Tb.P) (c := Tb.c) (T := [(Tb.P, _)]) (by rfl) Z._law_met.g Z._law_met.F Z._law_met.b sc__law_met rfl (Or.inl rfl) (met_gives Z) Tb.TB rfl (List.mem_singleton.mpr rfl) (fun p hp _ => by rw [List.mem_singleton.mp hp]) (hr.mono (by decide)) (show LamX.LamS (defScope s__law_refused_right) _ from LamX.lamS_by (by decide +kernel)) rfl (fun _ _ _ _ _ => rfl) (fun A outer s H E f c2 hr2 => (pe_call (ok_is_permit Z Y) (hr2.mono (by decide)) (by rfl) Z.is_permit.g Z.is_permit.F.kp Z.is_permit.b .nil (passes_call (takes_of rfl rfl rfl rfl) (fun _ _ _ _ h => h)) (pa_cons (pv 6) (pa_cons pe_non (pa_cons pe_non pa_nil)))))) pa_nil)))
  (pss_one (ps_if (pt_not (pt_val (pe_call (ok__law_same Z 8 (by decide)) (hr.mono (by decide)) (by rfl) Z._law_same.g Z._law_same.F.kp Z._law_same.b .nil pass0 (pa_cons (pv 7) (pa_cons (pe_op op_rep (pe_lst (pa_cons (pe_lst (pa_cons pe_str (pa_cons (pv 6) pa_nil))) pa_nil)) pe_int) pa_nil)))))
   (pss_one (ps_ret pe_bl))
   pss_nil)))))
  (pss_cons (ps_for PassesOwn.never rfl (pi_seqK (K := K) (pv 5)) (pg_name (i := 6) sc__law_refused_right.nd rfl (.inr rfl))
   (pss_cons (ps_set (i := 7) sc__law_refused_right.nd rfl (.inl rfl) (pe_lst (pa_cons (pe_caught (k := 6) (P := Tb.P) (c := Tb.c) (T := [(Tb.P, _)]) (by rfl) Z._law_met.g Z._law_met.F Z._law_met.b sc__law_met rfl (Or.inl rfl) (met_gives Z) Tb.TB rfl (List.mem_singleton.mpr rfl) (fun p hp _ => by rw [List.mem_singleton.mp hp]) (hr.mono (by decide)) (show LamX.LamS (defScope s__law_refused_right) _ from LamX.lamS_by (by decide +kernel)) rfl (fun _ _ _ _ _ => rfl) (fun A outer s H E f c2 hr2 => (pe_make B.M (ok_init Z Y B) (hr2.mono (by decide)) (by rfl) B.g B.b .nil (passes_call (takes_of rfl rfl rfl rfl) (fun _ _ _ _ h => h)) (pa_cons (pv 2) (pa_cons (pv 6) (pa_cons pe_non pa_nil)))))) pa_nil)))
  (pss_cons (ps_expr (show PE _ _ (tBM K "list" rAppend _ _) from pe_bm PySem.F.plainAttrs_list PySem.F.slot_list_append PySem.F.type_list_append mr_append (pv 7) (pa_cons (pe_caught (k := 6) (P := Tb.P) (c := Tb.c) (T := [(Tb.P, _)]) (by rfl) Z._law_met.g Z._law_met.F Z._law_met.b sc__law_met rfl (Or.inl rfl) (met_gives Z) Tb.TB rfl (List.mem_singleton.mpr rfl) (fun p hp _ => by rw [List.mem_singleton.mp hp]) (hr.mono (by decide)) (show LamX.LamS (defScope s__law_refused_right) _ from LamX.lamS_by (by decide +kernel)) rfl (fun _ _ _ _ _ => rfl) (fun A outer s H E f c2 hr2 => (pe_call (ok_is_permit Z Y) (hr2.mono (by decide)) (by rfl) Z.is_permit.g Z.is_permit.F.kp Z.is_permit.b .nil (passes_call (takes_of rfl rfl rfl rfl) (fun _ _ _ _ h => h)) (pa_cons (pv 2) (pa_cons (pv 6) (pa_cons pe_non pa_nil)))))) pa_nil)))
  (pss_one (ps_if (pt_not (pt_val (pe_call (ok__law_same Z 8 (by decide)) (hr.mono (by decide)) (by rfl) Z._law_same.g Z._law_same.F.kp Z._law_same.b .nil pass0 (pa_cons (pv 7) (pa_cons (pe_op op_rep (pe_lst (pa_cons (pe_lst (pa_cons pe_str (pa_cons (pv 6) pa_nil))) pa_nil)) pe_int) pa_nil)))))
   (pss_one (ps_ret pe_bl))
   pss_nil)))))
  (pss_cons (ps_for PassesOwn.never rfl (pi_seqK (K := K) (pe_tup (pa_cons (pe_tup (pa_cons pe_non (pa_cons pe_int pa_nil))) (pa_cons (pe_tup (pa_cons pe_int (pa_cons pe_int pa_nil))) (pa_cons (pe_tup (pa_cons pe_str (pa_cons pe_int pa_nil))) (pa_cons (pe_tup (pa_cons pe_dnewK (pa_cons pe_int pa_nil))) (pa_cons (pe_tup (pa_cons pe_bl (pa_cons pe_int pa_nil))) pa_nil))))))) (show PG _ _ (gTup K 2 _) from pg_tup (by rfl) (pgs_cons (pg_name (i := 6) sc__law_refused_right.nd rfl (.inr rfl)) (pgs_cons (pg_name (i := 8) sc__law_refused_right.nd rfl (.inl rfl)) pgs_nil)))
   (pss_one (ps_if (pt_not (pt_val (pe_call (ok__law_same Z 8 (by decide)) (hr.mono (by decide)) (by rfl) Z._law_same.g Z._law_same.F.kp Z._law_same.b .nil pass0 (pa_cons (pe_caught (k := 6) (P := Tb.P) (c := Tb.c) (T := [(Tb.P, _)]) (by rfl) Z._law_met.g Z._law_met.F Z._law_met.b sc__law_met rfl (Or.inl rfl) (met_gives Z) Tb.TB rfl (List.mem_singleton.mpr rfl) (fun p hp _ => by rw [List.mem_singleton.mp hp]) (hr.mono (by decide)) (show LamX.LamS (defScope s__law_refused_right) _ from LamX.lamS_by (by decide +kernel)) rfl (fun _ _ _ _ _ => rfl) (fun A outer s H E f c2 hr2 => (pe_make B.M (ok_init Z Y B) (hr2.mono (by decide)) (by rfl) B.g B.b .nil (passes_call (takes_of rfl rfl rfl rfl) (fun _ _ _ _ h => h)) (pa_cons (pv 2) (pa_cons (pv 3) (pa_cons (pv 6) pa_nil)))))) (pa_cons (pe_lst (pa_cons pe_str (pa_cons (pv 8) pa_nil))) pa_nil)))))
   (pss_one (ps_ret pe_bl))
   pss_nil)))
  (pss_cons (ps_set (i := 9) sc__law_refused_right.nd rfl (.inl rfl) (pe_call (ok__law_draw Z) (hr.mono (by decide)) (by rfl) Z._law_draw.g Z._law_draw.F.kp Z._law_draw.b .nil pass0 (pa_cons (pv 0) (pa_cons (pe_op op_add (pe_callB (call_lenK (K := K)) (by rfl) Z.bl.len (by decide +kernel) (pa_cons (pv 4) pa_nil)) pe_int) pa_nil))))
  (pss_cons (ps_set (i := 5) sc__law_refused_right.nd rfl (.inl rfl) (pe_lst (pa_cons pe_non (pa_cons pe_str (pa_cons (pe_tup (pa_cons pe_str (pa_cons pe_str pa_nil))) (pa_cons (pe_tup (pa_cons pe_str (pa_cons pe_str pa_nil))) (pa_cons (pe_tup (pa_cons pe_str (pa_cons (pe_ix (ixK (K := K)) (pv 2) pe_int (fun _ _ => rfl)) pa_nil))) (pa_cons (pe_op (op_catTK (K := K)) (pe_ix (ixK (K := K)) (pv 4) pe_int (fun _ _ => rfl)) (pe_tup (pa_cons pe_str pa_nil))) (pa_cons (pe_lst pa_nil) (pa_cons (pe_slice (sl_anyK (K := K)) (pv 4) po_none (po_some pe_int)) pa_nil))))))))))
  (pss_cons (ps_for PassesOwn.never rfl (pi_seqK (K := K) (pv 5)) (pg_name (i := 6) sc__law_refused_right.nd rfl (.inr rfl))
   (pss_cons (ps_set (i := 10) sc__law_refused_right.nd rfl (.inr rfl) (pe_op op_cat (pe_op op_cat (pe_op op_cat (pe_slice (sl_anyK (K := K)) (pv 4) po_none (po_some (pv 9))) (pe_lst (pa_cons (pv 6) pa_nil))) (pe_slice (sl_anyK (K := K)) (pv 4) (po_some (pv 9)) po_none)) (pe_lst (pa_cons pe_non pa_nil))))
  (pss_one (ps_if (pt_not (pt_val (pe_call (ok__law_same Z 8 (by decide)) (hr.mono (by decide)) (by rfl) Z._law_same.g Z._law_same.F.kp Z._law_same.b .nil pass0 (pa_cons (pe_caught (k := 6) (P := Tb.P) (c := Tb.c) (T := [(Tb.P, _)]) (by rfl) Z._law_met.g Z._law_met.F Z._law_met.b sc__law_met rfl (Or.inl rfl) (met_gives Z) Tb.TB rfl (List.mem_singleton.mpr rfl) (fun p hp _ => by rw [List.mem_singleton.mp hp]) (hr.mono (by decide)) (show LamX.LamS (defScope s__law_refused_right) _ from LamX.lamS_by (by decide +kernel)) rfl (fun _ _ _ _ _ => rfl) (fun A outer s H E f c2 hr2 => (pe_make B.M (ok_init Z Y B) (hr2.mono (by decide)) (by rfl) B.g B.b .nil (passes_call (takes_of rfl rfl rfl rfl) (fun _ _ _ _ h => h)) (pa_cons (pv 2) (pa_cons (pv 3) (pa_cons (pv 10) pa_nil)))))) (pa_cons (pe_lst (pa_cons pe_str (pa_cons (pv 9) pa_nil))) pa_nil)))))
   (pss_one (ps_ret pe_bl))
   pss_nil))))
  (pss_cons (ps_set (i := 10) sc__law_refused_right.nd rfl (.inr rfl) (pe_call (ok__law_loose Z 2 (by decide)) (hr.mono (by decide)) (by rfl) Z._law_loose.g Z._law_loose.F.kp Z._law_loose.b .nil pass0 (pa_cons (pv 0) (pa_cons (pe_op op_cat (pv 4) (pe_lst (pa_cons (pe_callTy (call_listK (K := K)) (by rfl) Z.bl.list (by decide +kernel) (pa_cons (pe_ix (ixK (K := K)) (pv 4) (pe_un un_neg pe_int) (fun _ _ => rfl)) pa_nil)) (pa_cons pe_non pa_nil)))) pa_nil))))
  (pss_one (ps_ret (pe_call (ok__law_same Z 8 (by decide)) (hr.mono (by decide)) (by rfl) Z._law_same.g Z._law_same.F.kp Z._law_same.b .nil pass0 (pa_cons (pe_caught (k := 6) (P := Tb.P) (c := Tb.c) (T := [(Tb.P, _)]) (by rfl) Z._law_met.g Z._law_met.F Z._law_met.b sc__law_met rfl (Or.inl rfl) (met_gives Z) Tb.TB rfl (List.mem_singleton.mpr rfl) (fun p hp _ => by rw [List.mem_singleton.mp hp]) (hr.mono (by decide)) (show LamX.LamS (defScope s__law_refused_right) _ from LamX.lamS_by (by decide +kernel)) rfl (fun _ _ _ _ _ => rfl) (fun A outer s H E f c2 hr2 => (pe_make B.M (ok_init Z Y B) (hr2.mono (by decide)) (by rfl) B.g B.b .nil (passes_call (takes_of rfl rfl rfl rfl) (fun _ _ _ _ h => h)) (pa_cons (pv 2) (pa_cons (pv 3) (pa_cons (pv 10) pa_nil)))))) (pa_cons (pe_lst (pa_cons pe_str (pa_cons (pe_callB (call_lenK (K := K)) (by rfl) Z.bl.len (by decide +kernel) (pa_cons (pv 4) pa_nil)) pa_nil))) pa_nil))))))))))))))), ?_⟩
  have qn : lamQ (cxOf CX0 P w K mg base ["well", "raw", "roles", "labels", "permits", "odds", "odd", "found", "index", "at", "some"] "_law_refused_right" (defScope s__law_refused_right) Z._law_refused_right.f (.ref Tb.c) A outer s H E).nox = lamN "_law_refused_right" := rfl
  have r : Rep K S v (.t [.l (b.rs.map tS), .l (b.ls.map tS), .l (b.ps.map tT)]) := r
  cases r with
  | @t pr vs _ hpr rs3 =>
  cases rs3 with
  | @cons v2 _ vs3 _ r2 rs3 =>
  cases rs3 with
  | @cons v3 _ vs4 _ r3 rs3 =>
  cases rs3 with
  | @cons v4 _ vs5 _ r4 rs3 =>
  cases rs3
  obtain ⟨r0, rr, hr0⟩ : ∃ r0 rr, b.rs = r0 :: rr := by
    cases h : b.rs with
    | nil => exact absurd h hb.rne
    | cons r0 rr => exact ⟨r0, rr, rfl⟩
  obtain ⟨p0, pp, hp0⟩ : ∃ p0 pp, b.ps = p0 :: pp := by
    cases h : b.ps with
    | nil => exact absurd h hpne
    | cons p0 pp => exact ⟨p0, pp, rfl⟩
  have hr0m : r0 ∈ names10 := hb.rs.2.2 r0 (by rw [hr0]; exact List.mem_cons_self)
  have hp0m : p0 ∈ b.ps := by rw [hp0]; exact List.mem_cons_self
  have at0 : L2.atI (b.rs.map tS) 0 = some (tS r0) := atI_nat (j := 0) (by rw [hr0]; rfl)
  -- roles, labels, permits = raw
  refine q_asg ⟨.ref pr, rfl, pr, [v2, v3, v4], rfl, sqT st0.sub hpr, rfl, v2, [v3, v4], rfl, v3, [v4], rfl, v4, [], rfl, rfl, ?_⟩
  -- odds = [..]
  have A1 : EvA _ [some (.ref wl), some (.ref pr), some v2, some v3, some v4, none, none, none, none, none, none] S H ((odds1 r0).map (R K)) :=
    ea_cons (ev_c (.a rfl)) (ea_cons (ev_c (.a rfl)) (ea_cons (ev_c (.a rfl)) (ea_cons (ev_c (.a rfl)) (ea_cons ev_dnewK (ea_cons (ev_lst (xs := [tS "A"]) (ea_one (ev_c (.a rfl))) (by decide)) (ea_cons (ev_lst (xs := [tS ""]) (ea_one (ev_c (.a rfl))) (by decide)) (ea_cons (ev_lst (xs := [.a .non]) (ea_one (ev_c (.a rfl))) (by decide))
      (ea_cons (ev_lst (xs := [tS "eightsgns"]) (ea_one (ev_c (.a rfl))) (by decide)) (ea_cons (ev_lst (xs := [tS "1a"]) (ea_one (ev_c (.a rfl))) (by decide)) (ea_cons (ev_lst (xs := [tS "a b"]) (ea_one (ev_c (.a rfl))) (by decide)) (ea_cons (ev_lst (xs := [tS r0, tS r0]) (ea_two (ev_ixL (ev_var (P := R K _) (i := 2) rfl r2) is_c' at0) (ev_ixL (ev_var (P := R K _) (i := 2) rfl r2) is_c' at0)) (by simp)) ea_nil)))))))))))
  refine q_asg (A1 S H (.refl st0.sub) _ fun us S1 H1 g1 a1 => ⟨by rw [a1.reps.length]; exact sz (by show 12 ≤ 100000; decide), fun D hD => ?_⟩)
  obtain ⟨st1, mv1⟩ := st0.grow g1
  have ru1 := a1.reps.noT
  obtain ⟨hDw, hDP⟩ := st1.np hD
  have hS1D : noT S1 D = none := st1.sub.free hD
  have st2 := st1.add (o := .lst us) hD
  -- odds.extend
  refine ⟨.ref D, rfl, .inl ⟨rfl, us, .inl (.inl upd_same)⟩, ?_⟩
  have A2 : Ev (tLst _) [some (.ref wl), some (.ref pr), some v2, some v3, some v4, some (.ref D), none, none, none, none, none] (noT S1) (upd H1 D (.lst us)) (R K (.l odds2)) :=
    ev_lst (ea_cons (ev_lst (xs := [.l [tS "a"]]) (ea_one (ev_lst (xs := [tS "a"]) (ea_one (ev_c (.a rfl))) (by decide))) (by decide)) (ea_two (ev_lst (xs := [tS "aB"]) (ea_one (ev_c (.a rfl))) (by decide)) (ev_lst (xs := [tS "a_b"]) (ea_one (ev_c (.a rfl))) (by decide)))) (by decide)
  refine A2.at st2.sub fun uL S3 H3 g3 rL => ?_
  cases rL with
  | @l L us2 _ hL ru2 =>
  have hD3 : H3 D = some (.lst us) := g3.h _ _ upd_same
  have hS3D : noT S3 D = none := noT_none (g3.out hS1D upd_same)
  have lu : us.length = 12 := a1.reps.length
  have lu2 : us2.length = 3 := ru2.length
  refine ⟨D, L, us, us2, rfl, rfl, hD3, g3.sub _ _ hL, by rw [lu, lu2]; exact sz (by decide), ?_⟩
  obtain ⟨st3, mv3⟩ := st2.grow g3
  have frD : Fr wl Tb.P H D := mv1.back D hD
  have st5 := (st3.mut (o2 := .lst (us ++ us2)) hS3D hD3 hDw hDP).freeze (D := D) hS3D upd_same hDw hDP
  have mv5 : Mv wl Tb.P S H (upd (noT S3) D (.lst (us ++ us2))) (upd H3 D (.lst (us ++ us2))) := (((mv1.trans (Mv.add (S := noT S1) (o := .lst us) hD)).trans mv3).mutF frD).freeze frD hS3D
  generalize hS5 : upd (noT S3) D (.lst (us ++ us2)) = S5 at st5 mv5
  generalize hH5 : upd H3 D (.lst (us ++ us2)) = H5 at st5 mv5
  have rD : Rep K S5 (.ref D) (.l (odds1 r0 ++ odds2)) := by
    rw [← hS5]
    exact .l upd_same (((ru1.same mv3.s).same (Same.new hS3D)).append (ru2.noT.same (Same.new hS3D)))
  have q2 := r2.same mv5.s
  have q3 := r3.same mv5.s
  have q4 := r4.same mv5.s
  have fit0 := raw_fit hb
  have okr := raw_roles hb
  have okl := raw_labels hb
  have cn : ∀ {σ : L2.St} {S H : Hp}, Ev (tC .non) σ S H (R K (.a .non)) := ev_c (.a rfl)
  have fitN : ∀ {x : T}, Small x → Fit x (.a .non) := fun h => ⟨h.n, ⟨by show 0 < 4000; decide, fun y hy => by simp [T.items] at hy⟩, h.l, by show 0 < 64; decide⟩
  have psN : permitsSize (.a .non) := ⟨Nat.zero_le _, fun z hz => by simp [T.items] at hz⟩
  -- for odd in odds + [..]: roles
  have r1 : ∀ {y5 y6 y7 : Option V} {S H : Hp}, Same S5 S → Ev (tOp (rIx K) (tVar 2) (tC (.int 0))) [some (.ref wl), some (.ref pr), some v2, some v3, some v4, y5, y6, y7, none, none, none] S H (R K (tS r0)) := fun e => ev_ixL (ev_var (P := R K _) (i := 2) rfl (q2.same e)) is_c' at0
  refine at_forS (D := { nx := _, rt := _ }) (xs := (odds1 r0 ++ odds2) ++ odds3 r0) (.inl rfl) (ev_cat (xs := odds1 r0 ++ odds2) (ys := odds3 r0) (ev_var (P := R K _) (i := 5) rfl rD)
      (ev_lst (ea_two (ev_lst (xs := [tS "known"]) (ea_one (ev_c (.a rfl))) (by decide)) (ev_lst (xs := [tS r0, tS "known"]) (ea_two (r1 (Same.refl _)) (ev_c (.a rfl))) (by simp))) (by simp [odds3])) (by simp [odds1, odds2, odds3])) st5 fun S6 H6 st6 mv6 =>
    ⟨fun i σ' S' H' => ∃ y6 y7 : Option V, σ' = [some (.ref wl), some (.ref pr), some v2, some v3, some v4, some (.ref D), y6, y7, none, none, none] ∧ St wl Tb.P (lamN "_law_refused_right") S' H' c ∧ Mv wl Tb.P S H S' H' ∧ Same S6 S',
    fun i σ' S' H' ⟨y6, y7, _, h2, h3, h4⟩ => ⟨h4, h2.sub⟩, ⟨none, none, rfl, st6, mv5.trans mv6, Same.refl _⟩, fun i σ' S' H' x hi hP rx => ?_, fun σ' S' H' hP => ?_⟩
  · obtain ⟨y6, y7, rfl, st', mv', s6⟩ := hP
    obtain ⟨sm, nr⟩ := odds_small r0 hr0m _ (List.mem_of_getElem? (nth_get hi))
    have sm := small_ok sm
    have ex : ∀ {y7 : Option V} {S H : Hp}, Same S' S → Ev (tVar 6) [some (.ref wl), some (.ref pr), some v2, some v3, some v4, some (.ref D), some x, y7, none, none, none] S H (R K (nth ((odds1 r0 ++ odds2) ++ odds3 r0) i)) := fun e => ev_var rfl (rx.same e)
    exact body_refused (w := wl) (P := Tb.P) (q := lamN "_law_refused_right") (S0 := S') (c := c) (y := .l [.a (.str "roles"), nth ((odds1 r0 ++ odds2) ++ odds3 r0) i])
      (mt_bookR B X (fun S H e => ex e) (fun S H e => cn) (fun S H e => cn) (fitN sm) psN nr)
      (fun F => mt_isPR X (fun S H e => ex e) (fun S H e => cn) (fun S H e => cn) (fitN sm) (Nat.zero_le _) nr)
      (by show (true && (_ && true)) = true; rw [sm.o]; rfl) (by show max 0 (max _ 0) + 1 < 7; have := sm.d; omega) ⟨by show 2 ≤ 40000; decide, trivial, sm.z, trivial⟩ (by show 7 < 11; decide)
      (fun F S H e => ev_rep2 (ev_lst (ea_one (ev_lst (ea_two (ev_c (.a rfl)) (ex e)) (by simp))) (by simp))) st' (Same.refl _) fun F S7 H7 st7 mv7 => ⟨S7, some x, some (.ref F), rfl, st7, mv'.trans mv7, s6.trans mv7.s⟩
  obtain ⟨y6, y7, rfl, st', mv', s6⟩ := hP
  have s5' : Same S5 S' := mv6.s.trans s6
  -- for odd in odds: labels
  refine at_forS (D := { nx := _, rt := _ }) (xs := odds1 r0 ++ odds2) (.inl rfl) (ev_var (P := R K _) (i := 5) rfl (rD.same s5')) st' fun S8 H8 st8 mv8 =>
    ⟨fun i σ' S' H' => ∃ y6 y7 : Option V, σ' = [some (.ref wl), some (.ref pr), some v2, some v3, some v4, some (.ref D), y6, y7, none, none, none] ∧ St wl Tb.P (lamN "_law_refused_right") S' H' c ∧ Mv wl Tb.P S H S' H' ∧ Same S8 S',
    fun i σ' S' H' ⟨y6, y7, _, h2, h3, h4⟩ => ⟨h4, h2.sub⟩, ⟨y6, y7, rfl, st8, mv'.trans mv8, Same.refl _⟩, fun i σ' S9 H9 x hi hP rx => ?_, fun σ' S9 H9 hP => ?_⟩
  · obtain ⟨y6, y7, rfl, st9, mv9, s9⟩ := hP
    obtain ⟨sm, nl⟩ := odds_labels r0 hr0m _ (List.mem_of_getElem? (nth_get hi))
    have sm := small_ok sm
    have s59 : Same S5 S9 := s5'.trans (mv8.s.trans s9)
    have ex : ∀ {y7 : Option V} {S H : Hp}, Same S9 S → Ev (tVar 6) [some (.ref wl), some (.ref pr), some v2, some v3, some v4, some (.ref D), some x, y7, none, none, none] S H (R K (nth (odds1 r0 ++ odds2) i)) := fun e => ev_var rfl (rx.same e)
    have er : ∀ {y7 : Option V} {S H : Hp}, Same S9 S → Ev (tVar 2) [some (.ref wl), some (.ref pr), some v2, some v3, some v4, some (.ref D), some x, y7, none, none, none] S H (R K (.l (b.rs.map tS))) := fun e => ev_var rfl (q2.same (s59.trans e))
    have ft : Fit (.l (b.rs.map tS)) (nth (odds1 r0 ++ odds2) i) := ⟨fit0.na, sm.n, fit0.la, sm.l⟩
    exact body_refused (w := wl) (P := Tb.P) (q := lamN "_law_refused_right") (S0 := S9) (c := c) (y := .l [.a (.str "labels"), nth (odds1 r0 ++ odds2) i])
      (mt_bookL B X (fun S H e => er e) (fun S H e => ex e) (fun S H e => cn) ft psN okr nl)
      (fun F => mt_isPL X (fun S H e => er e) (fun S H e => ex e) (fun S H e => cn) ft (Nat.zero_le _) okr nl)
      (by show (true && (_ && true)) = true; rw [sm.o]; rfl) (by show max 0 (max _ 0) + 1 < 7; have := sm.d; omega) ⟨by show 2 ≤ 40000; decide, trivial, sm.z, trivial⟩ (by show 7 < 11; decide)
      (fun F S H e => ev_rep2 (ev_lst (ea_one (ev_lst (ea_two (ev_c (.a rfl)) (ex e)) (by simp))) (by simp))) st9 (Same.refl _) fun F S7 H7 st7 mv7 => ⟨S7, some x, some (.ref F), rfl, st7, mv9.trans mv7, s9.trans mv7.s⟩
  obtain ⟨y6, y7, rfl, st9, mv9, s9⟩ := hP
  have s59 : Same S5 S9 := s5'.trans (mv8.s.trans s9)
  -- for odd, index in (..): permits
  have A5 : Ev (tTup _) [some (.ref wl), some (.ref pr), some v2, some v3, some v4, some (.ref D), y6, y7, none, none, none] S9 H9 (R K (.t odds5)) :=
    ev_tup (ea_cons (ev_tup (xs := [.a .non, .a (.int 0)]) (ea_two (ev_c (.a rfl)) (ev_c (.a rfl))) (by decide)) (ea_cons (ev_tup (xs := [.a (.int 5), .a (.int 0)]) (ea_two (ev_c (.a rfl)) (ev_c (.a rfl))) (by decide)) (ea_cons (ev_tup (xs := [tS "make", .a (.int 0)]) (ea_two (ev_c (.a rfl)) (ev_c (.a rfl))) (by decide))
      (ea_two (ev_tup (xs := [.d [], .a (.int 0)]) (ea_two ev_dnewK (ev_c (.a rfl))) (by decide)) (ev_tup (xs := [.a (.bl true), .a (.int 0)]) (ea_two (ev_c (.a rfl)) (ev_c (.a rfl))) (by decide)))))) (by decide)
  refine at_forS (D := { nx := _, rt := _ }) (xs := odds5) (.inr rfl) A5 st9 fun S10 H10 st10 mv10 =>
    ⟨fun i σ' S' H' => ∃ y6 y7 y8 : Option V, σ' = [some (.ref wl), some (.ref pr), some v2, some v3, some v4, some (.ref D), y6, y7, y8, none, none] ∧ St wl Tb.P (lamN "_law_refused_right") S' H' c ∧ Mv wl Tb.P S H S' H' ∧ Same S10 S',
    fun i σ' S' H' ⟨y6, y7, y8, _, h2, h3, h4⟩ => ⟨h4, h2.sub⟩, ⟨y6, y7, none, rfl, st10, mv9.trans mv10, Same.refl _⟩, fun i σ' S11 H11 x hi hP rx => ?_, fun σ' S11 H11 hP => ?_⟩
  · obtain ⟨y6, y7, y8, rfl, st11, mv11, s11⟩ := hP
    obtain ⟨o, eo, no, io⟩ := odds5_at hi
    rw [eo] at rx
    cases rx with
    | @t px vx _ hpx rx2 =>
    cases rx2 with
    | @cons vo _ vx2 _ ro rx2 =>
    cases rx2 with
    | @cons vi _ vx3 _ ri rx2 =>
    cases rx2
    have s511 : Same S5 S11 := s59.trans (mv10.s.trans s11)
    refine ⟨px, [vo, vi], rfl, sqT st11.sub hpx, rfl, vo, [vi], rfl, vi, [], rfl, rfl, ?_⟩
    exact body_met (w := wl) (P := Tb.P) (q := lamN "_law_refused_right") (S0 := S11) (c := c) (y := .l [.a (.str "permits"), .a (.int (0 : Nat))])
      (mt_bookP B X (i := 0) (fun S H e => ev_var (P := R K _) rfl (q2.same (s511.trans e))) (fun S H e => ev_var (P := R K _) rfl (q3.same (s511.trans e))) (fun S H e => ev_var (P := R K _) rfl (ro.same e)) fit0 ⟨by rw [io]; exact Nat.zero_le _, fun z hz => by rw [io] at hz; simp at hz⟩ (bookOf_none okr okl no))
      ⟨rfl, rfl, by decide, sizesB_ok (by decide +kernel), sizesB_ok (by decide +kernel)⟩ (fun S H e => ev_lst (ea_two (ev_c (.a rfl)) (ev_var (P := R K _) (i := 8) rfl (ri.same e))) (by simp)) st11 (Same.refl _) fun S7 H7 st7 mv7 => ⟨S7, some vo, y7, some vi, rfl, st7, mv11.trans mv7, s11.trans mv7.s⟩
  obtain ⟨y6, y7, y8, rfl, st11, mv11, s11⟩ := hP
  have s511 : Same S5 S11 := s59.trans (mv10.s.trans s11)
  -- at
  have lp : b.ps.length ≤ 60 := Nat.le_trans hb.few hn
  have l1 : Ev (tOp _ (tCB (rLenA K) (tCons (tVar 4) tNil)) (tC (.int 1))) [some (.ref wl), some (.ref pr), some v2, some v3, some v4, some (.ref D), y6, y7, y8, none, none] S11 H11 (Is (.int (((b.ps.map tT).length : Nat) + 1))) :=
    ev_I0 (g := fun i j => .int (i + j)) (ev_len (x := .l (b.ps.map tT)) (ev_var (P := R K _) rfl (q4.same s511)) rfl) (is_c (v := .int 1))
  rw [List.length_map] at l1
  refine q_asg (at_draw st11.sub st11.ow st11.well (by omega) (is_var rfl) l1 (by omega) (by omega) fun d c1 S12 H12 hd0 hd1 stp => ?_)
  obtain ⟨st12, mv12⟩ := st11.stp stp
  obtain ⟨k, rfl⟩ : ∃ k : Nat, d = (k : Int) := ⟨d.toNat, (Int.toNat_of_nonneg hd0).symm⟩
  have hk : k ≤ b.ps.length := by omega
  have s512 : Same S5 (noT S12) := s511.trans mv12.s
  have mv12' : Mv wl Tb.P S H (noT S12) H12 := mv11.trans mv12
  -- odds = [..]
  have atp : L2.atI (b.ps.map tT) 0 = some (tT p0) := atI_nat (j := 0) (by rw [hp0]; rfl)
  have l0 := okP_len (hb.ok p0 hp0m)
  have e2 : ∀ {S H : Hp}, Same S5 S → Ev (tVar 2) [some (.ref wl), some (.ref pr), some v2, some v3, some v4, some (.ref D), y6, y7, y8, some (.int (k : Int)), none] S H (R K (.l (b.rs.map tS))) := fun e => ev_var rfl (q2.same e)
  have e4 : ∀ {S H : Hp}, Same S5 S → Ev (tVar 4) [some (.ref wl), some (.ref pr), some v2, some v3, some v4, some (.ref D), y6, y7, y8, some (.int (k : Int)), none] S H (R K (.l (b.ps.map tT))) := fun e => ev_var rfl (q4.same e)
  have A4 : EvA _ [some (.ref wl), some (.ref pr), some v2, some v3, some v4, some (.ref D), y6, y7, y8, some (.int (k : Int)), none] (noT S12) H12 ((odds4 r0 p0).map (R K)) :=
    ea_cons (ev_c (.a rfl)) (ea_cons (ev_c (.a rfl)) (ea_cons (ev_tup (xs := [tS "make", tS "zz9"]) (ea_two (ev_c (.a rfl)) (ev_c (.a rfl))) (by decide)) (ea_cons (ev_tup (xs := [tS "make", tS "known"]) (ea_two (ev_c (.a rfl)) (ev_c (.a rfl))) (by decide))
      (ea_cons (ev_tup (xs := [tS "take", tS r0]) (ea_two (ev_c (.a rfl)) (ev_ixL (e2 s512) is_c' at0)) (by simp))
      (ea_cons (by
        have := ev_catT (K := K) (H := H12) (xs := p0.map tS) (ys := [tS "a"]) (ev_ixL (e4 s512) is_c' atp) (ev_tup (xs := [tS "a"]) (ea_one (ev_c (.a rfl))) (by decide)) (fun z => okP_ne (hb.ok p0 hp0m) (List.map_eq_nil_iff.mp z)) (by rw [List.length_map]; show p0.length + 1 ≤ 100000; omega)
        rw [show p0.map tS ++ [tS "a"] = (p0 ++ (["a"] : List Str)).map tS by rw [List.map_append]; rfl] at this
        exact this)
      (ea_two (ev_lst (xs := []) ea_nil (by decide)) (by
        have := ev_slAL (K := K) (lo := none) (hi := some (1 : Int)) (e4 (H := H12) s512) eo_none (eo_some is_c')
        rw [show cutG (b.ps.map tT) none (some (1 : Int)) = [tT p0] by
          have := cutG_to (b.ps.map tT) 1
          rw [show ((1 : Nat) : Int) = (1 : Int) from rfl] at this
          rw [this, hp0]
          rfl] at this
        exact this)))))))
  refine q_set (ev_lst (xs := odds4 r0 p0) A4 (by show 8 ≤ 100000; decide)) st12.sub fun vo S13 H13 g13 ro => ?_
  obtain ⟨st13, mv13⟩ := st12.grow g13
  have s513 : Same S5 (noT S13) := s512.trans mv13.s
  -- for odd in odds
  refine at_forS (D := { nx := _, rt := _ }) (xs := odds4 r0 p0) (.inl rfl) (ev_var (P := R K _) (i := 5) rfl ro.noT) st13 fun S14 H14 st14 mv14 =>
    ⟨fun i σ' S' H' => ∃ y6 y10 : Option V, σ' = [some (.ref wl), some (.ref pr), some v2, some v3, some v4, some vo, y6, y7, y8, some (.int (k : Int)), y10] ∧ St wl Tb.P (lamN "_law_refused_right") S' H' c1 ∧ Mv wl Tb.P S H S' H' ∧ Same S14 S',
    fun i σ' S' H' ⟨y6, y10, _, h2, h3, h4⟩ => ⟨h4, h2.sub⟩, ⟨y6, none, rfl, st14, (mv12'.trans mv13).trans mv14, Same.refl _⟩, fun i σ' S15 H15 x hi hP rx => ?_, fun σ' S15 H15 hP => ?_⟩
  · obtain ⟨y6, y10, rfl, st15, mv15, s15⟩ := hP
    obtain ⟨nr, n5⟩ := odds4_no hb hp0m (List.mem_of_getElem? (nth_get hi))
    have s515 : Same S5 S15 := s513.trans (mv14.s.trans s15)
    have p4 : ∀ {y10 : Option V} {S H : Hp}, Same S15 S → Ev (tVar 4) [some (.ref wl), some (.ref pr), some v2, some v3, some v4, some vo, some x, y7, y8, some (.int (k : Int)), y10] S H (R K (.l (b.ps.map tT))) := fun e => ev_var rfl (q4.same (s515.trans e))
    have c1' := ev_slAL (K := K) (lo := none) (hi := some (k : Int)) (p4 (y10 := y10) (H := H15) (Same.refl _)) eo_none (eo_some (is_var (i := 9) rfl))
    rw [cutG_to, ← List.map_take] at c1'
    have c2' := ev_slAL (K := K) (lo := some (k : Int)) (hi := none) (p4 (y10 := y10) (H := H15) (Same.refl _)) (eo_some (is_var (i := 9) rfl)) eo_none
    rw [cutG_from, ← List.map_drop] at c2'
    have lt : ((b.ps.take k).map tT).length ≤ 60 := by rw [List.length_map, List.length_take]; omega
    have ld : ((b.ps.drop k).map tT).length ≤ 60 := by rw [List.length_map, List.length_drop]; omega
    have cc := ev_cat (K := K) (xs := ((b.ps.take k).map tT ++ [nth (odds4 r0 p0) i]) ++ (b.ps.drop k).map tT) (ys := [.a .non]) (ev_cat (xs := (b.ps.take k).map tT ++ [nth (odds4 r0 p0) i]) (ys := (b.ps.drop k).map tT) (ev_cat (xs := (b.ps.take k).map tT) (ys := [nth (odds4 r0 p0) i]) c1' (ev_lst (ea_one (ev_var (P := R K _) (i := 6) rfl rx)) (by simp)) (by show _ + 1 ≤ 100000; omega)) c2' (by rw [List.length_append]; show _ + 1 + _ ≤ 100000; omega)) (ev_lst (ea_one cn) (by simp)) (by rw [List.length_append, List.length_append]; show _ + 1 + _ + 1 ≤ 100000; omega)
    refine q_set cc st15.sub fun vs10 S16 H16 g16 r10 => ?_
    obtain ⟨st16, mv16⟩ := st15.grow g16
    have s516 : Same S5 (noT S16) := s515.trans mv16.s
    refine body_met (w := wl) (P := Tb.P) (q := lamN "_law_refused_right") (S0 := noT S16) (c := c1) (y := .l [.a (.str "permits"), .a (.int (k : Nat))])
      (mt_bookP B X (i := k) (fun S H e => ev_var (P := R K _) rfl (q2.same (s516.trans e))) (fun S H e => ev_var (P := R K _) rfl (q3.same (s516.trans e))) (fun S H e => ev_var (P := R K _) rfl (r10.noT.same e)) fit0 ⟨?_, fun z hz => ?_⟩ (book_at hb hk nr))
      ⟨rfl, rfl, (by show 1 < 9; decide), ⟨by show 2 ≤ 40000; decide, trivial, trivial, trivial⟩, ⟨by show 2 ≤ 40000; decide, trivial, trivial, trivial⟩⟩ (fun S H e => ev_lst (ea_two (ev_c (.a rfl)) (Is.R (is_var (i := 9) rfl))) (by simp)) st16 (Same.refl _) fun S7 H7 st7 mv7 => ⟨S7, some x, some vs10, rfl, st7, (mv15.trans mv16).trans mv7, s15.trans (mv16.s.trans mv7.s)⟩
    · show ((((b.ps.take k).map tT ++ [nth (odds4 r0 p0) i]) ++ (b.ps.drop k).map tT) ++ [T.a .non]).length ≤ 10000
      rw [List.length_append, List.length_append, List.length_append]
      show _ + 1 + _ + 1 ≤ 10000
      omega
    · have hz : z ∈ (((b.ps.take k).map tT ++ [nth (odds4 r0 p0) i]) ++ (b.ps.drop k).map tT) ++ [T.a .non] := hz
      rcases List.mem_append.mp hz with hz | hz
      · rcases List.mem_append.mp hz with hz | hz
        · rcases List.mem_append.mp hz with hz | hz
          · exact raw_psize hb (fun p hp => List.mem_of_mem_take hp) z hz
          · rw [List.mem_singleton.mp hz]
            omega
        · exact raw_psize hb (fun p hp => List.mem_of_mem_drop hp) z hz
      · rw [List.mem_singleton.mp hz]
        exact Nat.zero_le _
  obtain ⟨y6, y10, rfl, st15, mv15, s15⟩ := hP
  have s515 : Same S5 S15 := s513.trans (mv14.s.trans s15)
  -- some = _law_loose(..)
  obtain ⟨pl, hpl⟩ : ∃ pl, b.ps.getLast? = some pl := by
    rw [hp0]
    exact ⟨_, List.getLast?_cons⟩
  have hplm : pl ∈ b.ps := List.mem_of_getLast? hpl
  have lpl := okP_len (hb.ok pl hplm)
  have atl : L2.atI (b.ps.map tT) (-1) = some (tT pl) := at_last (by rw [List.getLast?_map, hpl]; rfl)
  have e4' : Ev (tVar 4) [some (.ref wl), some (.ref pr), some v2, some v3, some v4, some vo, y6, y7, y8, some (.int (k : Int)), y10] S15 H15 (R K (.l (b.ps.map tT))) := ev_var rfl (q4.same s515)
  have arg := ev_cat (K := K) (xs := b.ps.map tT) (ys := [.l (pl.map tS), .a .non]) e4' (ev_lst (ea_two (ev_listOf (xs := pl.map tS) (ev_ixL e4' (ev_neg1 is_c') atl) (.inr rfl)) cn) (by simp)) (by rw [List.length_map]; show _ + 2 ≤ 100000; omega)
  have le1 := stp.le
  refine q_asg (at_L (S := S15) st15.sub st15.ow st15.well (by show c1 ≤ 940000000000; omega) (is_var rfl) arg ?_ fun u y c2 S17 H17 stp2 ry py => ?_)
  · refine ⟨by rw [List.length_append, List.length_map]; show _ + 2 ≤ 100; omega, fun x hx => ?_⟩
    rcases List.mem_append.mp hx with hx | hx
    · obtain ⟨p, hp, rfl⟩ := List.mem_map.mp hx
      have := okP_len (hb.ok p hp)
      refine ⟨by rw [List.length_map]; omega, fun x hx => ?_⟩
      obtain ⟨z, _, rfl⟩ := List.mem_map.mp hx
      exact trivial
    · rcases List.mem_cons.mp hx with rfl | hx
      · refine ⟨by rw [List.length_map]; omega, fun x hx => ?_⟩
        obtain ⟨z, _, rfl⟩ := List.mem_map.mp hx
        exact trivial
      · rw [List.mem_singleton.mp hx]
        exact trivial
  obtain ⟨st17, mv17⟩ := st15.stp stp2
  have s517 : Same S5 (noT S17) := s515.trans mv17.s
  have ry : Rep K (noT S17) u y := (ry.same frs_le).noT
  have le2 := stp2.le
  have bk : bookOf (.l (b.rs.map tS)) (.l (b.ls.map tS)) y = .permits b.ps.length := (bookOf_same rfl rfl py).trans (book_last hb hplm)
  refine end_met (w := wl) (P := Tb.P) (q := lamN "_law_refused_right") (S0 := noT S17) (c := c2) (y := .l [.a (.str "permits"), .a (.int (b.ps.length : Nat))])
    (mt_bookP B X (i := b.ps.length) (fun S H e => ev_var (P := R K _) rfl (q2.same (s517.trans e))) (fun S H e => ev_var (P := R K _) rfl (q3.same (s517.trans e))) (fun S H e => ev_var (P := R K _) rfl (ry.same e)) fit0 (permitsSize_lo py ⟨?_, fun z hz => ?_⟩) bk)
    ⟨rfl, rfl, (by show 1 < 9; decide), ⟨by show 2 ≤ 40000; decide, trivial, trivial, trivial⟩, ⟨by show 2 ≤ 40000; decide, trivial, trivial, trivial⟩⟩ (fun S H e => ev_lst (ea_two (ev_c (.a rfl)) (Is.R ?_)) (by simp)) st17 (Same.refl _) fun S7 H7 st7 mv7 => q S7 H7 c2 st7 ((mv15.trans mv17).trans mv7) ?_
  · show (b.ps.map tT ++ [T.l (pl.map tS), T.a .non]).length ≤ 10000
    rw [List.length_append, List.length_map]
    show _ + 2 ≤ 10000
    omega
  · have hz : z ∈ b.ps.map tT ++ [T.l (pl.map tS), T.a .non] := hz
    rcases List.mem_append.mp hz with hz | hz
    · exact raw_psize hb (fun p hp => hp) z hz
    · rcases List.mem_cons.mp hz with rfl | hz
      · show (pl.map tS).length ≤ 50000
        rw [List.length_map]
        omega
      · rw [List.mem_singleton.mp hz]
        exact Nat.zero_le _
  · have := ev_len (K := K) (x := .l (b.ps.map tT)) (n := (b.ps.map tT).length) (ev_var (P := R K _) (i := 4) (σ := [some (.ref wl), some (.ref pr), some v2, some v3, some v4, some vo, y6, y7, y8, some (.int (k : Int)), some u]) rfl (q4.same (s517.trans e))) rfl (H := H)
    rw [List.length_map] at this
    exact this
  · have e0 : cntL 2 = 1010100 := rfl
    omega
end
end Uw
end
section
set_option Elab.async false
set_option linter.all false
set_option maxRecDepth 100000
set_option maxHeartbeats 2000000
namespace Uw
open PySem PySem.Spec PyProof.Rows L2 RZ
/-- a thing near a permit: loosened, asked -/
def Thing (x : T) : Prop := okL 3 x ∧ x.items.length ≤ 60
section
variable {P : Program} {w : World} {K : PySem.W.Frag} {mg : Str → Option Value} {base : Heap}
structure NearOk (rs ls p : List Str) : Prop where
  hr : ∀ z ∈ rs, z ∈ names10
  hl : ∀ z ∈ ls, z ∈ names4
  lr : rs.length ≤ 10
  ll : ls.length ≤ 4
  hp : okP rs ls p
theorem okL_flat {k : Nat} {x : T} {zs : List T} (h : x = .l zs ∨ x = .t zs) (hl : zs.length ≤ 100) (hz : ∀ z ∈ zs, ∃ v, z = .a v) : okL (k + 1) x := by
  have e : ∀ z ∈ zs, okL k z := fun z m => by
    obtain ⟨v, rfl⟩ := hz z m
    cases k <;> exact trivial
  rcases h with rfl | rfl <;> exact ⟨hl, e⟩
theorem okL_deep {k : Nat} {x : T} {zs : List T} (h : x = .l zs ∨ x = .t zs) (hl : zs.length ≤ 100) (hz : ∀ z ∈ zs, okL k z) : okL (k + 1) x := by
  rcases h with rfl | rfl <;> exact ⟨hl, hz⟩
theorem okL_a {k : Nat} {v : V} : okL k (.a v) := by cases k <;> exact trivial
theorem thing_flat {x : T} {zs : List T} (h : x = .l zs ∨ x = .t zs) (hl : zs.length ≤ 60) (hz : ∀ z ∈ zs, ∃ v, z = .a v) : Thing x :=
  ⟨okL_flat h (by omega) hz, by rcases h with rfl | rfl <;> exact hl⟩
theorem thing_deep {x : T} {zs : List T} (h : x = .l zs ∨ x = .t zs) (hl : zs.length ≤ 60) (hz : ∀ z ∈ zs, okL 2 z) : Thing x :=
  ⟨okL_deep h (by omega) hz, by rcases h with rfl | rfl <;> exact hl⟩
theorem thing_a (v : V) : Thing (.a v) := ⟨okL_a, Nat.zero_le _⟩
theorem flat_map (zs : List Str) : ∀ z ∈ zs.map tS, ∃ v, z = T.a v := fun z hz => by
  obtain ⟨y, _, rfl⟩ := List.mem_map.mp hz
  exact ⟨_, rfl⟩
/-- [_law_pick(well, some) for k in range(1 + _law_draw(well, 3))] -/
theorem at_picks {σ : L2.St} {S H : Hp} {wl : Addr} {c : Nat} {zs : List Str} {j : Nat} {vs : List Nat} {Q : VK} (h0 : σ[0]? = some (some (.ref wl))) (sub : Same S H) (ow : S wl = none) (hW : Well H wl c) (hc : c ≤ 995000000000)
    (r5 : ∀ x S' H', Same S S' → Ev (tVar 5) ((wipe σ vs).set j (some x)) S' H' (R K (.l (zs.map tS)))) (r0 : ∀ x S' H', Ev (tVar 0) ((wipe σ vs).set j (some x)) S' H' (Is (.ref wl))) (hw : ∀ x, wipe ((wipe σ vs).set j (some x)) vs = wipe σ vs) (hz : 1 ≤ zs.length) (hz2 : zs.length ≤ 1000)
    (q : ∀ (u : V) (ys : List Str) (c' : Nat) S' H', Stp S H wl c 4 S' H' c' → Rep K S' u (.l (ys.map tS)) → ys.length ≤ 3 → Q u H') :
    tLc (iRng1 (tCons (tOp (rI0 fun i j => V.int (i + j)) (tC (V.int 1)) (tCall spDraw [] E0 (tCons (tVar 0) (tCons (tC (V.int 3)) tNil)))) tNil)) (gName j) tYes (tCall (spW K 1 okPick inL) [] E0 (tCons (tVar 0) (tCons (tVar 5) tNil))) vs σ H Q := by
  refine at_draw (S := S) sub ow hW (by omega) (ev_var (P := Is (.ref wl)) h0 rfl) is_c' (by decide) (by decide) fun d c1 S1 H1 d0 d1 st1 => ⟨1, d, rfl, rfl, 1 + d, rfl, by omega, by omega, fun D hD => ?_⟩
  have W : Wk (Itr 0 (1 + d).toNat) S1 (1 + d).toNat (fun i => Is (.int (0 + (i : Int)))) := wk_range
  have hDw : D ≠ wl := fun z => by obtain ⟨o, ho⟩ := st1.well.some; rw [z, ho] at hD; cases hD
  have hHD : H D = none := st1.back D hD
  have hSD : S1 D = none := st1.sub.free hD
  have n3 : (1 + d).toNat ≤ 3 := by omega
  generalize (1 + d).toNat = n at W n3
  refine ⟨fun i m H' => m = n - i ∧ i ≤ n ∧ ∃ S' c' us ys, Stp S H wl c (1 + i) S' H' c' ∧ Same S1 S' ∧ H' D = some (.lst us) ∧ S' D = none ∧ Reps K S' us ((ys : List Str).map tS) ∧ ys.length = i, ⟨n, by simp, Nat.zero_le _, S1, c1, [], [], st1.mut hHD hSD, Same.refl _, upd_same, hSD, .nil, rfl⟩, ?_⟩
  rintro i m H4 ⟨rfl, hin, S4, c4, us, ys, st4, s4, h4, d4, r4, l4⟩
  by_cases hlt : i < n
  · refine .inr ⟨W.go i s4 st4.sub hlt, fun H' => ∃ S' c' us ys, Stp S H wl c (1 + (i + 1)) S' H' c' ∧ Same S1 S' ∧ H' D = some (.lst us) ∧ S' D = none ∧ Reps K S' us ((ys : List Str).map tS) ∧ ys.length = i + 1, fun H' p => ⟨n - (i + 1), by omega, rfl, hlt, p⟩, fun u H5 y => ?_⟩
    obtain ⟨S5, g5, pu⟩ := W.yld i u H5 s4 st4.sub hlt y
    have st5 := st4.grow g5
    have h5' := g5.h _ _ h4
    have d5 := g5.out d4 h4
    have hlen : us.length = ys.length := by rw [r4.length, List.length_map]
    refine ⟨hw u, ?_⟩
    unfold tYes
    dsimp only
    first | rw [if_pos rfl] | skip
    have le5 := st5.le
    refine at_W (x := .l (zs.map tS)) st5.sub st5.out st5.well (by omega) (r0 u _ _) (r5 u _ _ (st1.s.trans (s4.trans g5.s))) ⟨by rw [List.length_map]; exact hz, by rw [List.length_map]; omega⟩ fun u2 y2 c6 S6 H6 st6 ry py => ?_
    obtain ⟨z, rfl⟩ : ∃ z : Str, y2 = tS z := by
      have py : y2 ∈ zs.map tS := py
      obtain ⟨z, _, rfl⟩ := List.mem_map.mp py
      exact ⟨z, rfl⟩
    have h6 := st6.h hDw h5'
    have d6 := st6.keep d5 h5'
    refine ⟨us, h6, szl (by omega), S6, c6, us ++ [u2], ys ++ [z], ((st5.trans st6).mut hHD d6).mono (by omega), s4.trans (g5.s.trans st6.s), upd_same, d6, ?_, by rw [List.length_append, l4]; rfl⟩
    rw [List.map_append]
    exact (r4.same (g5.s.trans st6.s)).append (.one ry)
  · have ei : i = n := by omega
    subst ei
    exact .inl ⟨W.stop s4 st4.sub, q (.ref D) ys c4 _ _ ((st4.freeze hHD d4 h4).mono (by omega)) (.l upd_same (r4.same (Same.new d4))) (by omega)⟩
theorem back_mem {α : Type} {xs : List α} {hi : Option Int} {z : α} (h : z ∈ HT.backPick xs hi) : z ∈ xs := by
  unfold HT.backPick at h
  obtain ⟨k, _, e⟩ := List.mem_filterMap.mp h
  exact List.mem_of_getElem? e
theorem back_few {α : Type} {xs : List α} (h : xs.length = 2 ∨ xs.length = 3 ∨ xs.length = 4) : (HT.backPick xs (some 0)).length ≤ 4 := by
  unfold HT.backPick
  refine Nat.le_trans (List.length_filterMap_le _ _) ?_
  rw [List.length_range]
  rcases h with h | h | h <;> rw [h] <;> decide
theorem reps_pick {S : Hp} {f : Nat → Nat} {us : List V} {xs : List T} (r : Reps K S us xs) : ∀ ks : List Nat, Reps K S (ks.filterMap fun k => us[f k]?) (ks.filterMap fun k => xs[f k]?)
  | [] => .nil
  | k :: ks => by
    rw [List.filterMap_cons, List.filterMap_cons]
    have hl := r.length
    by_cases h : f k < xs.length
    · obtain ⟨u, hu, ru⟩ := r.get (List.getElem?_eq_getElem h)
      rw [hu, List.getElem?_eq_getElem h]
      exact .cons ru (reps_pick r ks)
    · rw [List.getElem?_eq_none (by omega), List.getElem?_eq_none (by omega)]
      exact reps_pick r ks
theorem reps_back {S : Hp} {us : List V} {xs : List T} {hi : Option Int} (r : Reps K S us xs) : Reps K S (HT.backPick us hi) (HT.backPick xs hi) := by
  unfold HT.backPick
  rw [r.length]
  exact reps_pick (f := fun k => ((Builtin.Slice.sliceAdjust none hi (-1) (xs.length : Int)).1 + (k : Int) * (-1)).toNat) r _
theorem ev_backT {σ : L2.St} {S H : Hp} {ta : TE} {xs : List T} (h : Ev ta σ S H (R K (.t xs))) (hl : xs.length = 2 ∨ xs.length = 3 ∨ xs.length = 4) : Ev (tBackT K ta (tPart (tC (.int 0)))) σ S H (R K (.t (HT.backPick xs (some 0)))) := fun S1 H1 g Q q => h S1 H1 g _ fun v S2 H2 g2 r => by
  cases r with
  | @t p us _ hp rs =>
    have hl2 : us.length = 2 ∨ us.length = 3 ∨ us.length = 4 := by rw [rs.length]; exact hl
    exact ⟨0, rfl, p, us, rfl, sqT g2.sub hp, sz (Nat.le_trans (back_few hl2) (by decide)), fun l hl => q _ (upd S2 l (.tup _)) _ (g2.trans (.alloc g2.sub hl)) (.t upd_same ((reps_back rs).same (Same.new (g2.sub.free hl))))⟩
theorem cut_mem {α : Type} {xs : List α} {lo hi : Option Int} {z : α} (h : z ∈ cutG xs lo hi) : z ∈ xs := List.mem_of_mem_drop (List.mem_of_mem_take h)
theorem cut_len {α : Type} {xs : List α} {lo hi : Option Int} : (cutG xs lo hi).length ≤ xs.length := by
  unfold cutG
  rw [List.length_take, List.length_drop]
  omega
def wordsT : List T := [tS "make", tS "bring", tS "show", tS "seal", tS "open", tS "copy", tS "wrap", tS "unwrap"] ++ [tS "derive", tS "take", tS "", .a .non, .l [tS "make"]]
theorem words_ok {x : T} (h : x ∈ wordsT) : okL 2 x := by
  unfold wordsT at h
  simp only [List.mem_append, List.mem_cons, List.not_mem_nil, or_false] at h
  rcases h with (rfl | rfl | rfl | rfl | rfl | rfl | rfl | rfl) | rfl | rfl | rfl | rfl | rfl
  all_goals first | exact okL_a | exact okL_flat (zs := [tS "make"]) (.inl rfl) (by simp) (fun z hz => ⟨_, List.mem_singleton.mp hz⟩)
def nearOdds (n0 : Str) : List T := [.a .non, .a (.int 5), .a (.bl true), .l [tS n0], .t [], .d [], tS (n0 ++ "q")]
theorem odds_okL {n0 : Str} {x : T} (h : x ∈ nearOdds n0) : okL 2 x := by
  unfold nearOdds at h
  simp only [List.mem_cons, List.not_mem_nil, or_false] at h
  rcases h with rfl | rfl | rfl | rfl | rfl | rfl | rfl
  · exact okL_a
  · exact okL_a
  · exact okL_a
  · exact okL_flat (zs := [tS n0]) (.inl rfl) (by simp) (fun z hz => ⟨_, List.mem_singleton.mp hz⟩)
  · exact okL_flat (zs := []) (.inr rfl) (by simp) (fun z hz => by simp at hz)
  · exact ⟨Nat.zero_le _, fun kv hkv => by simp at hkv⟩
  · exact okL_a
theorem ten_short : ∀ z ∈ names10, z.length ≤ 8 := by decide +kernel
theorem near_names {rs ls p : List Str} (h : NearOk rs ls p) : ∃ pw n0 nr, p = pw :: n0 :: nr ∧ (p.length = 2 ∨ p.length = 3 ∨ p.length = 4) ∧ n0.length ≤ 8 := by
  have t := fun z (hz : z ∈ rs) => ten_short z (h.hr z hz)
  rcases h.hp with ⟨w, r, rfl, _, h2⟩ | ⟨w, r, s, rfl, _, h2, _⟩ | ⟨r, y, s, rfl, h1, _, _⟩
  · exact ⟨w, r, [], rfl, .inl rfl, t r h2⟩
  · exact ⟨w, r, [s], rfl, .inr (.inl rfl), t r h2⟩
  · exact ⟨"derive", r, [y, s], rfl, .inr (.inr rfl), t r h1⟩
def spNear (K : PySem.W.Frag) : Sp := fun vs H Q _ => ∃ (S : Hp) (w : Addr) (c : Nat) (v1 v2 v3 : V) (rs ls p : List Str), vs = [.ref w, v1, v2, v3] ∧ Same S H ∧ S w = none ∧ Well H w c ∧ c ≤ 990000000000 ∧ Rep K S v1 (.l (rs.map tS)) ∧ Rep K S v2 (.l (ls.map tS)) ∧ Rep K S v3 (tT p) ∧ NearOk rs ls p ∧
  ∀ (u : V) (xs : List T) (c' : Nat) S' H', Stp S H w c 200 S' H' c' → Rep K S' u (.l xs) → xs.length ≤ 60 → (∀ x ∈ xs, Thing x) → Q u H'
theorem ok__law_near (Z : Px K mg) : FnOk P w K mg base CX0 6 Z._law_near.f Z._law_near.fd ["well", "roles", "labels", "permit"] (spNear K) := by
  refine Z._law_near.F.ok sc__law_near (by rintro vs H Q E ⟨S, w, c, v1, v2, v3, rs, ls, p, rfl, _⟩; rfl) (fun cdv A outer s H vs Q E hr h => ?_)
  obtain ⟨S, wl, c, v1, v2, v3, rs, ls, p, rfl, e, hw, hW, hc, r1, r2, r3, hp, q⟩ := h
  refine ⟨_, (pss_cons (ps_set (i := 4) sc__law_near.nd rfl (.inl rfl) (pe_callTy (call_listK (K := K)) (by rfl) Z.bl.list (by decide +kernel) (pa_cons (pe_slice (sl_anyK (K := K)) (pv 3) (po_some pe_int) po_none) pa_nil)))
  (pss_cons (ps_set (i := 5) sc__law_near.nd rfl (.inr rfl) (pe_op op_cat (pe_op op_cat (pv 1) (pv 2)) (pe_lst (pa_cons pe_str (pa_cons pe_str (pa_cons pe_str (pa_cons pe_str pa_nil)))))))
  (pss_cons (ps_set (i := 6) sc__law_near.nd rfl (.inl rfl) (pe_lst (pa_cons (pv 3) (pa_cons (pe_callTy (call_listK (K := K)) (by rfl) Z.bl.list (by decide +kernel) (pa_cons (pv 3) pa_nil)) (pa_cons (pe_op (op_catTK (K := K)) (pv 3) (pe_tup (pa_cons (pe_ix (ixK (K := K)) (pv 4) pe_int (fun _ _ => rfl)) pa_nil))) (pa_cons (pe_slice (sl_anyK (K := K)) (pv 3) po_none (po_some (pe_un un_neg pe_int))) (pa_cons (pe_op (op_catTK (K := K)) (pe_slice (sl_anyK (K := K)) (pv 3) po_none (po_some pe_int)) (pe_backT (pv 3) (po_some pe_int))) (pa_cons (pe_tup (pa_cons (pv 3) pa_nil)) (pa_cons (pv 4) pa_nil)))))))))
  (pss_cons (ps_expr (show PE _ _ (tBM K "list" rAppend _ _) from pe_bm PySem.F.plainAttrs_list PySem.F.slot_list_append PySem.F.type_list_append mr_append (pv 6) (pa_cons (pe_ix (ixK (K := K)) (pv 3) pe_int (fun _ _ => rfl)) pa_nil)))
  (pss_cons (ps_set (i := 7) sc__law_near.nd rfl (.inl rfl) (pe_lst (pa_cons pe_str (pa_cons pe_str (pa_cons pe_str (pa_cons pe_str (pa_cons pe_str (pa_cons pe_str (pa_cons pe_str (pa_cons pe_str (pa_cons pe_str (pa_cons pe_str (pa_cons pe_str (pa_cons pe_non (pa_cons (pe_lst (pa_cons pe_str pa_nil)) pa_nil)))))))))))))))
  (pss_cons (ps_for PassesOwn.never rfl (pi_seqK (K := K) (pv 7)) (pg_name (i := 8) sc__law_near.nd rfl (.inl rfl))
   (pss_cons (ps_expr (show PE _ _ (tBM K "list" rAppend _ _) from pe_bm PySem.F.plainAttrs_list PySem.F.slot_list_append PySem.F.type_list_append mr_append (pv 6) (pa_cons (pe_op (op_catTK (K := K)) (pe_tup (pa_cons (pv 8) pa_nil)) (pe_callTy (call_tupleK (K := K)) (by rfl) Z.bl.tuple (by decide +kernel) (pa_cons (pv 4) pa_nil))) pa_nil)))
  (pss_one (ps_expr (show PE _ _ (tBM K "list" rAppend _ _) from pe_bm PySem.F.plainAttrs_list PySem.F.slot_list_append PySem.F.type_list_append mr_append (pv 6) (pa_cons (pe_op op_cat (pe_lst (pa_cons (pv 8) pa_nil)) (pe_lc (own := [("k", 11)]) (g := gName 11) (tt := tYes) rfl sc__law_near.nd (pi_range1 (by rfl) Z.bl.range (pa_cons (pe_op op_add pe_int (pe_call (ok__law_draw Z) (hr.mono (by decide)) (by rfl) Z._law_draw.g Z._law_draw.F.kp Z._law_draw.b .nil pass0 (pa_cons (pv 0) (pa_cons pe_int pa_nil)))) pa_nil)) (blkOk_by (N := ["well", "roles", "labels", "permit", "names", "some", "found", "words", "word", "odd", "at", "k"]) (sc := defScope s__law_near) (own := [("k", 11)]) (by decide +kernel)) (fun _ _ _ _ _ => pg_name (i := 11) sc__law_near.nd rfl (Or.inl rfl)) (fun _ _ _ _ _ => pts_nil) (fun _ _ _ _ _ => by exact (pe_call (ok__law_pick Z) (hr.mono (by decide)) (by rfl) Z._law_pick.g Z._law_pick.F.kp Z._law_pick.b .nil pass0 (pa_cons (pv 0) (pa_cons (pv 5) pa_nil)))))) pa_nil))))))
  (pss_cons (ps_for PassesOwn.never rfl (pi_seqK (K := K) (pe_tup (pa_cons pe_non (pa_cons pe_int (pa_cons pe_bl (pa_cons (pe_lst (pa_cons (pe_ix (ixK (K := K)) (pv 4) pe_int (fun _ _ => rfl)) pa_nil)) (pa_cons (pe_tup pa_nil) (pa_cons pe_dnewK (pa_cons (pe_op op_add_str (pe_ix (ixK (K := K)) (pv 4) pe_int (fun _ _ => rfl)) pe_str) pa_nil))))))))) (pg_name (i := 9) sc__law_near.nd rfl (.inl rfl))
   (pss_cons (ps_set (i := 10) sc__law_near.nd rfl (.inl rfl) (pe_call (ok__law_draw Z) (hr.mono (by decide)) (by rfl) Z._law_draw.g Z._law_draw.F.kp Z._law_draw.b .nil pass0 (pa_cons (pv 0) (pa_cons (pe_callB (call_lenK (K := K)) (by rfl) Z.bl.len (by decide +kernel) (pa_cons (pv 4) pa_nil)) pa_nil))))
  (pss_one (ps_expr (show PE _ _ (tBM K "list" rAppend _ _) from pe_bm PySem.F.plainAttrs_list PySem.F.slot_list_append PySem.F.type_list_append mr_append (pv 6) (pa_cons (pe_op (op_catTK (K := K)) (pe_tup (pa_cons (pe_ix (ixK (K := K)) (pv 3) pe_int (fun _ _ => rfl)) pa_nil)) (pe_callTy (call_tupleK (K := K)) (by rfl) Z.bl.tuple (by decide +kernel) (pa_cons (pe_op op_cat (pe_op op_cat (pe_slice (sl_anyK (K := K)) (pv 4) po_none (po_some (pv 10))) (pe_lst (pa_cons (pv 9) pa_nil))) (pe_slice (sl_anyK (K := K)) (pv 4) (po_some (pe_op op_add (pv 10) pe_int)) po_none)) pa_nil))) pa_nil))))))
  (pss_one (ps_ret (pv 6)))))))))), ?_⟩
  obtain ⟨pw, n0, nr, hpe, hpl, hn0⟩ := near_names hp
  have lz : (n0 :: nr).length ≤ 3 := by
    have := okP_len hp.hp
    rw [hpe] at this
    simpa using this
  have lp : p.length = (n0 :: nr).length + 1 := by rw [hpe]; rfl
  have e3 : ∀ {y4 y5 y6 y7 y8 y9 y10 y11 : Option V} {S' H' : Hp}, Same S S' → Ev (tVar 3) [some (.ref wl), some v1, some v2, some v3, y4, y5, y6, y7, y8, y9, y10, y11] S' H' (R K (.t (p.map tS))) := fun e => ev_var rfl (r3.same e)
  have lpm : (p.map tS).length = p.length := List.length_map ..
  -- names
  have k1 := ev_slAT (K := K) (lo := some ((1 : Nat) : Int)) (hi := none) (e3 (y4 := none) (y5 := none) (y6 := none) (y7 := none) (y8 := none) (y9 := none) (y10 := none) (y11 := none) (H' := H) (Same.refl _)) (eo_some is_c') eo_none (fun h => by
    have h := h.1
    rw [HT.sIx_nat] at h
    omega)
  rw [cutG_from, show (p.map tS).drop 1 = (n0 :: nr).map tS by rw [hpe]; rfl] at k1
  refine q_set (ev_listOf k1 (.inr rfl)) e fun vn S1 H1 g1 rn => ?_
  -- some
  have k2 := ev_cat (K := K) (xs := rs.map tS ++ ls.map tS) (ys := [tS "known", tS "zz9", tS "", tS "A"]) (ev_cat (xs := rs.map tS) (ys := ls.map tS) (ev_var (P := R K _) (i := 1) (σ := [some (.ref wl), some v1, some v2, some v3, some vn, none, none, none, none, none, none, none]) (H := H1) rfl (r1.same g1.s)) (ev_var (P := R K _) (i := 2) rfl (r2.same g1.s)) (by rw [List.length_map, List.length_map]; have := hp.lr; have := hp.ll; omega))
    (ev_lst (ea_cons (ev_c (.a rfl)) (ea_cons (ev_c (.a rfl)) (ea_two (ev_c (.a rfl)) (ev_c (.a rfl))))) (by decide)) (by rw [List.length_append, List.length_map, List.length_map]; have := hp.lr; have := hp.ll; show _ + _ + 4 ≤ 100000; omega)
  rw [show (rs.map tS ++ ls.map tS) ++ [tS "known", tS "zz9", tS "", tS "A"] = ((rs ++ ls) ++ (["known", "zz9", "", "A"] : List Str)).map tS by rw [List.map_append, List.map_append]; rfl] at k2
  have lsm : 1 ≤ ((rs ++ ls) ++ (["known", "zz9", "", "A"] : List Str)).length ∧ ((rs ++ ls) ++ (["known", "zz9", "", "A"] : List Str)).length ≤ 1000 := by
    rw [List.length_append, List.length_append]
    have := hp.lr
    have := hp.ll
    show 1 ≤ _ + _ + 4 ∧ _ + _ + 4 ≤ 1000
    omega
  generalize (rs ++ ls) ++ (["known", "zz9", "", "A"] : List Str) = sm at k2 lsm
  refine q_set k2 g1.sub fun vs S2 H2 g2 rsm => ?_
  have g02 := g1.trans g2
  have rn2 := rn.same g2.s
  have at0 : L2.atI ((n0 :: nr).map tS) 0 = some (tS n0) := atI_nat (j := 0) rfl
  have atp : L2.atI (p.map tS) 0 = some (tS pw) := atI_nat (j := 0) (by rw [hpe]; rfl)
  -- found
  let X7 : List T := [.t (p.map tS), .l (p.map tS), .t (p.map tS ++ [tS n0]), .t (cutG (p.map tS) none (some (-1))), .t (cutG (p.map tS) none (some 1) ++ HT.backPick (p.map tS) (some 0)), .t [.t (p.map tS)], .l ((n0 :: nr).map tS)]
  have ev3 : Ev (tVar 3) [some (.ref wl), some v1, some v2, some v3, some vn, some vs, none, none, none, none, none, none] S2 H2 (R K (.t (p.map tS))) := e3 g02.s
  have ev4 : Ev (tVar 4) [some (.ref wl), some v1, some v2, some v3, some vn, some vs, none, none, none, none, none, none] S2 H2 (R K (.l ((n0 :: nr).map tS))) := ev_var rfl rn2
  have lpm' : (p.map tS).length = 2 ∨ (p.map tS).length = 3 ∨ (p.map tS).length = 4 := by rw [lpm]; exact hpl
  have cut1 : (cutG (p.map tS) none (some (1 : Int))) = [tS pw] := by
    have := cutG_to (p.map tS) 1
    rw [show ((1 : Nat) : Int) = (1 : Int) from rfl] at this
    rw [this, hpe]
    rfl
  have ecut : Ev (tSl (rSlA K) (tVar 3) tNoPart (tPart (tC (.int 1)))) [some (.ref wl), some v1, some v2, some v3, some vn, some vs, none, none, none, none, none, none] S2 H2 (R K (.t (cutG (p.map tS) none (some 1)))) := ev_slAT ev3 eo_none (eo_some is_c') (fun h => by
    have h := h.2
    have e1 : HT.sIx (p.map tS).length (p.map tS).length (some ((1 : Nat) : Int)) = min 1 (p.map tS).length := HT.sIx_nat _ _ _
    rw [show ((1 : Nat) : Int) = (1 : Int) from rfl] at e1
    rw [e1] at h
    omega)
  have A7 : EvA _ [some (.ref wl), some v1, some v2, some v3, some vn, some vs, none, none, none, none, none, none] S2 H2 (X7.map (R K)) :=
    ea_cons ev3 (ea_cons (ev_listOf ev3 (.inr rfl)) (ea_cons (ev_catT (xs := p.map tS) (ys := [tS n0]) ev3 (ev_tup (ea_one (ev_ixL ev4 is_c' at0)) (by simp)) (fun z => by rw [z] at lpm'; simp at lpm') (by rw [lpm]; show _ + 1 ≤ 100000; omega))
      (ea_cons (ev_slAT ev3 eo_none (eo_some (ev_neg1 is_c')) (fun h => by
        have h := h.2
        have e1 : HT.sIx (p.map tS).length (p.map tS).length (some (-1)) = (p.map tS).length - 1 := by
          unfold HT.sIx
          dsimp only
          rw [if_pos (by decide)]
          omega
        rw [e1] at h
        omega))
      (ea_cons (ev_catT (xs := cutG (p.map tS) none (some 1)) (ys := HT.backPick (p.map tS) (some 0)) ecut (ev_backT ev3 lpm') (by rw [cut1]; exact fun z => by cases z) (by rw [cut1]; have := back_few lpm'; show 1 + _ ≤ 100000; omega))
      (ea_two (ev_tup (ea_one ev3) (by simp)) ev4)))))
  refine q_asg (A7 S2 H2 (.refl g2.sub) _ fun us S3 H3 g3 a3 => ⟨by rw [a3.reps.length]; exact sz (by show 7 ≤ 100000; decide), fun F hF => ?_⟩)
  have hS3F : S3 F = none := g3.sub.free hF
  have g03 := g02.trans g3
  have st3 := Stp.of g03 hw hW
  have hFw : F ≠ wl := fun z => by obtain ⟨o, ho⟩ := st3.well.some; rw [z, ho] at hF; cases hF
  have hHF : H F = none := g03.h.free hF
  have th7 : ∀ x ∈ X7, Thing x := fun x hx => by
    have fl := flat_map p
    have hx : x ∈ ([.t (p.map tS), .l (p.map tS), .t (p.map tS ++ [tS n0]), .t (cutG (p.map tS) none (some (-1))), .t (cutG (p.map tS) none (some 1) ++ HT.backPick (p.map tS) (some 0)), .t [.t (p.map tS)], .l ((n0 :: nr).map tS)] : List T) := hx
    simp only [List.mem_cons, List.not_mem_nil, or_false] at hx
    rcases hx with rfl | rfl | rfl | rfl | rfl | rfl | rfl
    · exact thing_flat (.inr rfl) (by omega) fl
    · exact thing_flat (.inl rfl) (by omega) fl
    · exact thing_flat (.inr rfl) (by rw [List.length_append]; show _ + 1 ≤ 60; omega) (fun z hz => by
        rcases List.mem_append.mp hz with hz | hz
        · exact fl z hz
        · exact ⟨_, List.mem_singleton.mp hz⟩)
    · exact thing_flat (.inr rfl) (by have := cut_len (xs := p.map tS) (lo := none) (hi := some (-1)); omega) (fun z hz => fl z (cut_mem hz))
    · exact thing_flat (.inr rfl) (by rw [List.length_append]; have := cut_len (xs := p.map tS) (lo := none) (hi := some 1); have := back_few lpm'; omega) (fun z hz => by
        rcases List.mem_append.mp hz with hz | hz
        · exact fl z (cut_mem hz)
        · exact fl z (back_mem hz))
    · exact thing_deep (.inr rfl) (by simp) (fun z hz => by
        rw [List.mem_singleton.mp hz]
        exact okL_flat (.inr rfl) (by omega) fl)
    · exact thing_flat (.inl rfl) (by rw [List.length_map]; omega) (flat_map _)
  -- found.append(permit[0])
  have ev3' : ∀ {S' H' : Hp}, Same S3 S' → Ev (tVar 3) [some (.ref wl), some v1, some v2, some v3, some vn, some vs, some (.ref F), none, none, none, none, none] S' H' (R K (.t (p.map tS))) := fun e => e3 (g03.s.trans e)
  refine ⟨.ref F, rfl, .inl ⟨rfl, us, .inl (.inl upd_same)⟩, ?_⟩
  have st4 := st3.mut (o := .lst us) hHF hS3F
  refine (ev_ixT (ev3' (Same.refl _)) is_c' atp : Ev _ _ S3 (upd H3 F (.lst us)) _).at st4.sub fun u5 S5 H5 g5 r5 => ⟨F, us, u5, rfl, rfl, g5.h _ _ upd_same, szl (by rw [a3.reps.length]; show 7 < 100000; decide), ?_⟩
  have hS5F : S5 F = none := g5.out hS3F upd_same
  have st5 := (st4.grow g5).mut (o := .lst (us ++ [u5])) hHF hS5F
  have rf5 : Reps K S5 (us ++ [u5]) (X7 ++ [tS pw]) := (a3.reps.same g5.s).append (.one r5)
  have s05 : Same S S5 := g03.s.trans g5.s
  -- words
  have AW : Ev (tLst _) [some (.ref wl), some v1, some v2, some v3, some vn, some vs, some (.ref F), none, none, none, none, none] S5 (upd H5 F (.lst (us ++ [u5]))) (R K (.l wordsT)) :=
    ev_lst (xs := wordsT) (ea_cons (ev_c (.a rfl)) (ea_cons (ev_c (.a rfl)) (ea_cons (ev_c (.a rfl)) (ea_cons (ev_c (.a rfl)) (ea_cons (ev_c (.a rfl)) (ea_cons (ev_c (.a rfl)) (ea_cons (ev_c (.a rfl)) (ea_cons (ev_c (.a rfl)) (ea_cons (ev_c (.a rfl)) (ea_cons (ev_c (.a rfl)) (ea_cons (ev_c (.a rfl)) (ea_two (ev_c (.a rfl)) (ev_lst (xs := [tS "make"]) (ea_one (ev_c (.a rfl))) (by decide)))))))))))))) (by show 13 ≤ 100000; decide)
  refine q_set AW st5.sub fun vw S6 H6 g6 rw6 => ?_
  have st6 := st5.grow g6
  have hS6F : S6 F = none := g6.out hS5F upd_same
  have hH6F : H6 F = some (.lst (us ++ [u5])) := g6.h _ _ upd_same
  have s06 : Same S S6 := s05.trans g6.s
  have rn6 := rn2.same (g3.s.trans (g5.s.trans g6.s))
  have rsm6 := rsm.same (g3.s.trans (g5.s.trans g6.s))
  have th8 : ∀ x ∈ X7 ++ [tS pw], Thing x := fun x hx => by
    rcases List.mem_append.mp hx with hx | hx
    · exact th7 x hx
    · rw [List.mem_singleton.mp hx]
      exact thing_a _
  have l8 : (X7 ++ [tS pw]).length = 8 := rfl
  generalize X7 ++ [tS pw] = X8 at rf5 th8 l8
  -- for word in words
  refine at_for (D := { nx := _, rt := _ }) (ei_seqL (ev_var (P := R K (.l wordsT)) (i := 7) rfl rw6)) st6.sub fun S7 H7 g7 => ⟨fun i σ' S' H' => ∃ (c' : Nat) (us : List V) (xs : List T) (y8 : Option V), σ' = [some (.ref wl), some v1, some v2, some v3, some vn, some vs, some (.ref F), some vw, y8, none, none, none] ∧
      Stp S H wl c (0 + 4 * i) S' H' c' ∧ S' F = none ∧ H' F = some (.lst us) ∧ Reps K S' us xs ∧ Same S7 S' ∧ (∀ x ∈ xs, Thing x) ∧ xs.length = 8 + 2 * i,
    fun i σ' S' H' ⟨c', us, xs, y8, h1, h2, h3, h4, h5, h6, h7⟩ => ⟨h6, h2.sub⟩, ?_, fun i σ' S' H' x S9 H9 hi hP g9 px => ?_, fun σ' S' H' hP => ?_⟩
  · exact ⟨c, _, X8, none, rfl, (st6.grow g7).mono (by omega), g7.out hS6F hH6F, g7.h _ _ hH6F, rf5.same (g6.s.trans g7.s), Same.refl _, th8, by rw [l8]⟩
  · obtain ⟨c', us, xs, y8, rfl, st, hF1, hF2, rxs, s7, hth, hl⟩ := hP
    have hi : i < 13 := hi
    have px : Rep K S9 x (nth wordsT i) := px
    have okx := words_ok (List.mem_of_getElem? (nth_get (show i < wordsT.length from hi)))
    have st9 := st.grow g9
    have hF3 : S9 F = none := g9.out hF1 hF2
    have hF4 : H9 F = some (.lst us) := g9.h _ _ hF2
    have s69 : Same S6 S9 := g7.s.trans (s7.trans g9.s)
    have rxs9 := rxs.same g9.s
    have hlu : us.length = xs.length := rxs.length
    -- (word,) + tuple(names)
    have t1 := ev_catT (K := K) (xs := [nth wordsT i]) (ys := (n0 :: nr).map tS) (ev_tup (σ := [some (.ref wl), some v1, some v2, some v3, some vn, some vs, some (.ref F), some vw, some x, none, none, none]) (S := S9) (H := H9) (ea_one (ev_var (P := R K _) (i := 8) rfl px)) (by simp)) (ev_tupOf (ev_var (P := R K _) (i := 4) rfl (rn6.same s69)) (.inl rfl)) (fun z => by cases z) (by rw [List.length_map]; show 1 + _ ≤ 100000; omega)
    refine ⟨.ref F, rfl, .inl ⟨rfl, us, .inl (.inl hF4)⟩, ?_⟩
    refine t1.at st9.sub fun ua Sa Ha ga ra => ⟨F, us, ua, rfl, rfl, ga.h _ _ hF4, szl (by omega), ?_⟩
    have hFa : Sa F = none := ga.out hF3 hF4
    have sta := (st9.grow ga).mut (o := .lst (us ++ [ua])) hHF hFa
    have rxa := (rxs9.same ga.s).append (.one ra)
    -- [word] + [..]
    refine ⟨.ref F, rfl, .inl ⟨rfl, us ++ [ua], .inl (.inl upd_same)⟩, ?_⟩
    show tOp rCat (tLst (tCons (tVar 8) tNil)) _ _ _ _
    show tLst (tCons (tVar 8) tNil) [some (.ref wl), some v1, some v2, some v3, some vn, some vs, some (.ref F), some vw, some x, none, none, none] (upd Ha F (.lst (us ++ [ua]))) _
    refine (ev_lst (σ := [some (.ref wl), some v1, some v2, some v3, some vn, some vs, some (.ref F), some vw, some x, none, none, none]) (S := Sa) (H := upd Ha F (.lst (us ++ [ua]))) (ea_one (ev_var (P := R K _) (i := 8) rfl (px.same ga.s))) (by simp)).at sta.sub fun ub Sb Hb gb rb => ?_
    have stb := sta.grow gb
    have hFb : Sb F = none := gb.out hFa upd_same
    have hHb : Hb F = some (.lst (us ++ [ua])) := gb.h _ _ upd_same
    have s6b : Same S6 Sb := s69.trans (ga.s.trans gb.s)
    have leb := stb.le
    refine at_picks (σ := [some (.ref wl), some v1, some v2, some v3, some vn, some vs, some (.ref F), some vw, some x, none, none, none]) (zs := sm) rfl stb.sub stb.out stb.well (by omega) (fun y S' H' e => ev_var (P := R K _) (i := 5) rfl (rsm6.same (s6b.trans e))) (fun y S' H' => is_var rfl) (fun _ => rfl) lsm.1 lsm.2 fun uc ys c9 Sc Hc stp rc lc => ?_
    have stc := stb.trans stp
    have hFc : Sc F = none := stp.keep hFb hHb
    have hHc : Hc F = some (.lst (us ++ [ua])) := stp.h hFw hHb
    cases rb with
    | @l lb vb _ hlb rbs =>
    cases rc with
    | @l lC vc _ hlc rcs =>
    have hvb : vb.length = 1 := rbs.length
    have hvc : vc.length ≤ 3 := by rw [rcs.length, List.length_map]; exact lc
    refine ⟨lb, lC, vb, vc, rfl, rfl, stc.sub _ _ (stp.s _ _ hlb), stc.sub _ _ hlc, sz (by omega), fun l hl => ?_⟩
    have hlF : F ≠ l := fun z => by rw [z] at hHc; rw [hl] at hHc; cases hHc
    have gd : Grow Sc Hc (upd Sc l (.lst (vb ++ vc))) (upd Hc l (.lst (vb ++ vc))) := .alloc stc.sub hl
    have std := stc.grow gd
    have hFd : upd Sc l (.lst (vb ++ vc)) F = none := by rw [upd_ne hlF]; exact hFc
    refine ⟨F, us ++ [ua], .ref l, rfl, rfl, by rw [upd_ne hlF]; exact hHc, szl (by rw [List.length_append]; show us.length + 1 < 100000; omega), ?_⟩
    refine ⟨_, c9, (us ++ [ua]) ++ [.ref l], (xs ++ [.t ([nth wordsT i] ++ (n0 :: nr).map tS)]) ++ [.l ([nth wordsT i] ++ ys.map tS)], some x, rfl, (std.mut hHF hFd).mono (by omega), hFd, upd_same, ?_, s7.trans (g9.s.trans (ga.s.trans (gb.s.trans (stp.s.trans gd.s)))), fun z hz => ?_, by rw [List.length_append, List.length_append]; show xs.length + 1 + 1 = _; omega⟩
    · exact ((rxa.same (gb.s.trans (stp.s.trans gd.s)))).append (.one (.l upd_same (((rbs.same stp.s).append rcs).same gd.s)))
    · rcases List.mem_append.mp hz with hz | hz
      · rcases List.mem_append.mp hz with hz | hz
        · exact hth z hz
        · rw [List.mem_singleton.mp hz]
          exact thing_deep (.inr rfl) (by rw [List.length_append, List.length_map]; show 1 + _ ≤ 60; omega) (fun z hz => by
            rcases List.mem_append.mp hz with hz | hz
            · rw [List.mem_singleton.mp hz]; exact okx
            · obtain ⟨v, rfl⟩ := flat_map _ z hz; exact okL_a)
      · rw [List.mem_singleton.mp hz]
        exact thing_deep (.inl rfl) (by rw [List.length_append, List.length_map]; show 1 + _ ≤ 60; omega) (fun z hz => by
          rcases List.mem_append.mp hz with hz | hz
          · rw [List.mem_singleton.mp hz]; exact okx
          · obtain ⟨v, rfl⟩ := flat_map _ z hz; exact okL_a)
  obtain ⟨c', us, xs, y8, rfl, st, hF1, hF2, rxs, s7, hth, hl⟩ := hP
  have hl : xs.length = 34 := hl
  -- for odd in (..)
  have s6' : Same S6 S' := g7.s.trans s7
  have en : ∀ {y9 y10 : Option V} {S2 H2 : Hp}, Same S' S2 → Ev (tVar 4) [some (.ref wl), some v1, some v2, some v3, some vn, some vs, some (.ref F), some vw, y8, y9, y10, none] S2 H2 (R K (.l ((n0 :: nr).map tS))) := fun e => ev_var rfl (rn6.same (s6'.trans e))
  have eq : Ev (tOp (fun x y H Q => ∃ i j, x = V.str i ∧ y = V.str j ∧ i.length + j.length ≤ sizeLine ∧ Q (V.str (i ++ j)) H) (tOp (rIx K) (tVar 4) (tC (.int 0))) (tC (.str "q"))) [some (.ref wl), some v1, some v2, some v3, some vn, some vs, some (.ref F), some vw, y8, none, none, none] S' H' (R K (tS (n0 ++ "q"))) :=
    ev_op (P1 := R K (tS n0)) (P2 := Is (.str "q")) (ev_ixL (en (Same.refl _)) is_c' at0) is_c' fun u v S2 H2 g e1 e2 => by
      have e1 : u = .str n0 := (Rep.flat e1).1
      have e2 : v = .str "q" := e2
      subst e1 e2
      exact op_val g.sub (.a rfl) fun Q q => ⟨n0, "q", rfl, rfl, sz (by show n0.length + 1 ≤ 100000; omega), q⟩
  have AO : Ev (tTup _) [some (.ref wl), some v1, some v2, some v3, some vn, some vs, some (.ref F), some vw, y8, none, none, none] S' H' (R K (.t (nearOdds n0))) :=
    ev_tup (xs := nearOdds n0) (ea_cons (ev_c (.a rfl)) (ea_cons (ev_c (.a rfl)) (ea_cons (ev_c (.a rfl)) (ea_cons (ev_lst (xs := [tS n0]) (ea_one (ev_ixL (en (Same.refl _)) is_c' at0)) (by simp)) (ea_cons (ev_tup (xs := []) ea_nil (by decide)) (ea_two ev_dnewK eq)))))) (by show 7 ≤ 100000; decide)
  refine at_for (D := { nx := _, rt := _ }) (ei_seqT AO) st.sub fun S8 H8 g8 => ⟨fun i σ' S2 H2 => ∃ (c2 : Nat) (us : List V) (xs : List T) (y9 y10 : Option V), σ' = [some (.ref wl), some v1, some v2, some v3, some vn, some vs, some (.ref F), some vw, y8, y9, y10, none] ∧
      Stp S H wl c (52 + 1 * i) S2 H2 c2 ∧ S2 F = none ∧ H2 F = some (.lst us) ∧ Reps K S2 us xs ∧ Same S8 S2 ∧ (∀ x ∈ xs, Thing x) ∧ xs.length = 34 + i,
    fun i σ' S2 H2 ⟨c2, us, xs, y9, y10, h1, h2, h3, h4, h5, h6, h7⟩ => ⟨h6, h2.sub⟩, ?_, fun i σ' S2 H2 x S9 H9 hi hP g9 px => ?_, fun σ' S2 H2 hP => ?_⟩
  · exact ⟨c', us, xs, none, none, rfl, (st.grow g8).mono (by omega), g8.out hF1 hF2, g8.h _ _ hF2, rxs.same g8.s, Same.refl _, hth, hl⟩
  · obtain ⟨c2, us, xs, y9, y10, rfl, st2, hF1, hF2, rxs, s8, hth, hl⟩ := hP
    have hi : i < 7 := hi
    have px : Rep K S9 x (nth (nearOdds n0) i) := px
    have okx := odds_okL (List.mem_of_getElem? (nth_get (show i < (nearOdds n0).length from hi)))
    generalize nth (nearOdds n0) i = xo at px okx
    have st9 := st2.grow g9
    have hF3 : S9 F = none := g9.out hF1 hF2
    have hF4 : H9 F = some (.lst us) := g9.h _ _ hF2
    have s99 : Same S' S9 := g8.s.trans (s8.trans g9.s)
    have s39 : Same S3 S9 := g5.s.trans (g6.s.trans (s6'.trans s99))
    have rxs9 := rxs.same g9.s
    have hlu : us.length = xs.length := rxs.length
    have le9 := st9.le
    have en' : ∀ {y10 : Option V} {S2 H2 : Hp}, Same S9 S2 → Ev (tVar 4) [some (.ref wl), some v1, some v2, some v3, some vn, some vs, some (.ref F), some vw, y8, some x, y10, none] S2 H2 (R K (.l ((n0 :: nr).map tS))) := fun e => en (s99.trans e)
    refine at_draw (m := (((n0 :: nr).map tS).length : Nat)) st9.sub st9.out st9.well (by omega) (ev_var (P := Is (.ref wl)) rfl rfl) (ev_len (en' (Same.refl _)) rfl) (by rw [List.length_map]; show (1 : Int) ≤ ((nr.length + 1 : Nat) : Int); omega) (by rw [List.length_map]; omega) fun d c4 S4 H4 d0 d1 st4 => ?_
    obtain ⟨dn, rfl⟩ := Int.eq_ofNat_of_zero_le d0
    have sta := st9.trans st4
    have hFa : S4 F = none := st4.keep hF3 hF4
    have hHa : H4 F = some (.lst us) := st4.h hFw hF4
    have en2 := fun {H2 : Hp} => en' (y10 := some (.int (dn : Int))) (H2 := H2) st4.s
    have ed : Ev (tVar 10) [some (.ref wl), some v1, some v2, some v3, some vn, some vs, some (.ref F), some vw, y8, some x, some (.int (dn : Int)), none] S4 H4 (Is (.int (dn : Int))) := ev_var rfl rfl
    have eplus : Ev (tOp (rI0 fun i j => V.int (i + j)) (tVar 10) (tC (.int 1))) [some (.ref wl), some v1, some v2, some v3, some vn, some vs, some (.ref F), some vw, y8, some x, some (.int (dn : Int)), none] S4 H4 (Is (.int ((dn : Int) + 1))) :=
      ev_op (P1 := Is (.int (dn : Int))) (P2 := Is (.int 1)) ed is_c' fun u v S2 H2 g e1 e2 => by
        have e1 : u = .int dn := e1
        have e2 : v = .int 1 := e2
        subst e1 e2
        exact op_val g.sub rfl fun Q q => ⟨dn, 1, rfl, rfl, q⟩
    let NM : List T := (cutG ((n0 :: nr).map tS) none (some (dn : Int)) ++ [xo]) ++ cutG ((n0 :: nr).map tS) (some ((dn : Int) + 1)) none
    have lmm : ((n0 :: nr).map tS).length ≤ 3 := by rw [List.length_map]; exact lz
    have lc1 := cut_len (xs := (n0 :: nr).map tS) (lo := none) (hi := some (dn : Int))
    have lc2 := cut_len (xs := (n0 :: nr).map tS) (lo := some ((dn : Int) + 1)) (hi := none)
    have NMl : NM.length ≤ 7 := by
      show ((_ ++ [xo]) ++ _).length ≤ 7
      rw [List.length_append, List.length_append]
      show _ + 1 + _ ≤ 7
      omega
    have e5 := ev_cat (K := K) (xs := cutG ((n0 :: nr).map tS) none (some (dn : Int)) ++ [xo]) (ys := cutG ((n0 :: nr).map tS) (some ((dn : Int) + 1)) none) (ev_cat (xs := cutG ((n0 :: nr).map tS) none (some (dn : Int))) (ys := [xo]) (ev_slAL (en2 (H2 := H4)) eo_none (eo_some ed)) (ev_lst (ea_one (ev_var (P := R K _) (i := 9) rfl (px.same st4.s))) (by simp)) (by show _ + 1 ≤ 100000; omega)) (ev_slAL en2 (eo_some eplus) eo_none) (by rw [List.length_append]; show _ + 1 + _ ≤ 100000; omega)
    have e6 := ev_catT (K := K) (xs := [tS pw]) (ys := NM) (ev_tup (ea_one (ev_ixT (e3 (y4 := some vn) (y5 := some vs) (y6 := some (.ref F)) (y7 := some vw) (y8 := y8) (y9 := some x) (y10 := some (.int (dn : Int))) (y11 := none) (H' := H4) (g03.s.trans (s39.trans st4.s))) is_c' atp)) (by simp)) (ev_tupOf e5 (.inl rfl)) (fun z => by cases z) (by show 1 + _ ≤ 100000; omega)
    refine ⟨.ref F, rfl, .inl ⟨rfl, us, .inl (.inl hHa)⟩, ?_⟩
    refine e6.at sta.sub fun ub Sb Hb gb rb => ⟨F, us, ub, rfl, rfl, gb.h _ _ hHa, szl (by omega), ?_⟩
    have hFb : Sb F = none := gb.out hFa hHa
    refine ⟨_, c4, us ++ [ub], xs ++ [.t ([tS pw] ++ NM)], some x, some (.int (dn : Int)), rfl, ((sta.grow gb).mut hHF hFb).mono (by omega), hFb, upd_same, (rxs9.same (st4.s.trans gb.s)).append (.one (show Rep K Sb ub (.t ([tS pw] ++ NM)) from rb)), s8.trans (g9.s.trans (st4.s.trans gb.s)), fun z hz => ?_, by rw [List.length_append]; show xs.length + 1 = _; omega⟩
    rcases List.mem_append.mp hz with hz | hz
    · exact hth z hz
    · rw [List.mem_singleton.mp hz]
      refine thing_deep (.inr rfl) (by rw [List.length_append]; show 1 + _ ≤ 60; omega) (fun z hz => ?_)
      have fm : ∀ z ∈ (n0 :: nr).map tS, okL 2 z := fun z hz => by obtain ⟨v, rfl⟩ := flat_map _ z hz; exact okL_a
      rcases List.mem_append.mp hz with hz | hz
      · rw [List.mem_singleton.mp hz]; exact okL_a
      · rcases List.mem_append.mp hz with hz | hz
        · rcases List.mem_append.mp hz with hz | hz
          · exact fm z (cut_mem hz)
          · rw [List.mem_singleton.mp hz]; exact okx
        · exact fm z (cut_mem hz)
  obtain ⟨c2, us, xs, y9, y10, rfl, st2, hF1, hF2, rxs, s8, hth, hl⟩ := hP
  have hl : xs.length = 41 := hl
  dsimp only
  refine ⟨.ref F, rfl, ?_⟩
  exact q (.ref F) xs c2 _ _ ((st2.freeze hHF hF1 hF2).mono (by show 52 + 1 * 7 ≤ 200; omega)) (.l upd_same (rxs.same (Same.new hF1))) (by omega) hth
end
end Uw
end
section
set_option Elab.async false
set_option linter.all false
set_option maxRecDepth 100000
set_option maxHeartbeats 2000000
namespace Uw
open PySem PySem.Spec PyProof.Rows L2 RZ
theorem loose_a {x : T} {z : Str} (h : x.loose = tS z) : x = tS z := by
  cases x with
  | a v => exact h
  | l _ => cases h
  | t _ => cases h
  | d _ => cases h
theorem looses_strs : ∀ {xs : List T} {zs : List Str}, looses xs = zs.map tS → xs = zs.map tS
  | [], [], _ => rfl
  | [], _ :: _, h => by cases h
  | _ :: _, [], h => by cases h
  | x :: xs, z :: zs, h => by
    have h : x.loose :: looses xs = tS z :: zs.map tS := h
    obtain ⟨h1, h2⟩ := List.cons.inj h
    rw [loose_a h1, looses_strs h2]
    rfl
theorem loose_strs {y : T} {zs : List Str} (h : y.loose = .l (zs.map tS)) : y = .l (zs.map tS) ∨ y = .t (zs.map tS) := by
  cases y with
  | a v => cases h
  | l xs => exact .inl (by rw [looses_strs (T.l.inj h)])
  | t xs => exact .inr (by rw [looses_strs (T.l.inj h)])
  | d _ => cases h
theorem perm_strs {zs : List Str} {ys : List T} (h : ys.Perm (zs.map tS)) : ∃ ws : List Str, ys = ws.map tS ∧ ws.Perm zs := by
  have hs : ∀ y ∈ ys, ∃ w : Str, y = tS w := fun y hy => by
    obtain ⟨w, _, e⟩ := List.mem_map.mp (h.subset hy)
    exact ⟨w, e.symm⟩
  obtain ⟨ws, rfl⟩ : ∃ ws : List Str, ys = ws.map tS := by
    clear h
    induction ys with
    | nil => exact ⟨[], rfl⟩
    | cons y ys ih =>
      obtain ⟨w, rfl⟩ := hs y List.mem_cons_self
      obtain ⟨ws, rfl⟩ := ih fun y hy => hs y (List.mem_cons_of_mem _ hy)
      exact ⟨w :: ws, rfl⟩
  refine ⟨ws, rfl, ?_⟩
  have := h.filterMap strOf'
  have e1 : (ws.map tS).filterMap strOf' = ws := strsOf_map ws
  have e2 : (zs.map tS).filterMap strOf' = zs := strsOf_map zs
  rw [e1, e2] at this
  exact this
def basics : List T := ([.a .non, .a (.int 5), .a (.bl true), tS "make", tS "", .l [], .t [], .d []] : List T) ++ [.d [(.inr "make", tS "a")], .l [.l []], .l [.a .non], .t [tS "known"], .t [tS "make", tS "known"]]
theorem basics_thing {x : T} (h : x ∈ basics) : Thing x := by
  unfold basics at h
  simp only [List.mem_append, List.mem_cons, List.not_mem_nil, or_false] at h
  rcases h with (rfl | rfl | rfl | rfl | rfl | rfl | rfl | rfl) | rfl | rfl | rfl | rfl | rfl
  · exact thing_a _
  · exact thing_a _
  · exact thing_a _
  · exact thing_a _
  · exact thing_a _
  · exact thing_flat (zs := []) (.inl rfl) (by decide) (fun z hz => by cases hz)
  · exact thing_flat (zs := []) (.inr rfl) (by decide) (fun z hz => by cases hz)
  · exact ⟨⟨Nat.zero_le _, fun kv hkv => by simp at hkv⟩, Nat.zero_le _⟩
  · exact ⟨⟨Nat.le_refl _, fun kv hkv => by rw [List.mem_singleton.mp hkv]; exact ⟨okL_a, "make", _, rfl⟩⟩, Nat.zero_le _⟩
  · exact thing_deep (zs := [.l []]) (.inl rfl) (by decide) (fun z hz => by rw [List.mem_singleton.mp hz]; exact okL_flat (zs := []) (.inl rfl) (by decide) (fun z hz => by cases hz))
  · exact thing_flat (zs := [.a .non]) (.inl rfl) (by decide) (fun z hz => ⟨_, List.mem_singleton.mp hz⟩)
  · exact thing_flat (zs := [tS "known"]) (.inr rfl) (by decide) (fun z hz => ⟨_, List.mem_singleton.mp hz⟩)
  · exact thing_flat (zs := [tS "make", tS "known"]) (.inr rfl) (by decide) (fun z hz => flat_map ["make", "known"] z hz)
section
variable {P : Program} {w : World} {K : PySem.W.Frag} {mg : Str → Option Value} {base : Heap}
theorem ev_disp1 {σ : L2.St} {S H : Hp} {k z : Str} : Ev (tDisp [(tC (.str k), tC (.str z))]) σ S H (R K (.d [(.inr k, tS z)])) := fun S1 H1 g Q q => fun p hp => by
  refine ⟨upd_same, [(.inr k, .str z)], rfl, (by decide : 1 ≤ 15), ?_⟩
  show Q (.ref p) (upd (upd H1 p (.dK [])) p (.dK [(.inr k, .str z)]))
  rw [upd_upd]
  exact q _ (upd S1 p (.dK [(.inr k, .str z)])) _ (.alloc g.sub hp) (.d upd_same (.cons (.a rfl) .nil))
theorem ev_revL {σ : L2.St} {S H : Hp} {ta : TE} {xs : List T} (h : Ev ta σ S H (R K (.l xs))) : Ev (tRevL K ta) σ S H (R K (.l xs.reverse)) := fun S1 H1 g Q q => h S1 H1 g _ fun v S2 H2 g2 r => by
  cases r with
  | @l p us _ hp rs => exact ⟨p, us, rfl, sqL g2.sub hp, fun l hl => q _ (upd S2 l (.lst us.reverse)) _ (g2.trans (.alloc g2.sub hl)) (.l upd_same (rs.rev.same (Same.new (g2.sub.free hl))))⟩
/-- what walks through a value that stands -/
theorem at_forV {σ : L2.St} {S H : Hp} {g : TG} {tu : TS} {D : Ends} {u : V} {xs : List T} (h : Rep K S u (.l xs)) (e : Same S H)
    (k : ∀ S1 H1, Grow S H S1 H1 → ∃ Pv : Nat → L2.St → Hp → Hp → Prop, (∀ i σ' S' H', Pv i σ' S' H' → Same S1 S' ∧ Same S' H') ∧ Pv 0 σ S1 H1 ∧
      (∀ i σ' S' H' x S2 H2, i < xs.length → Pv i σ' S' H' → Grow S' H' S2 H2 → Rep K S2 x (nth xs i) → g x σ' H2 fun σ2 H3 => tu { D with nx := fun σ3 H4 => ∃ S4, Pv (i + 1) σ3 S4 H4, ct := fun σ3 H4 => ∃ S4, Pv (i + 1) σ3 S4 H4, bk := D.nx } σ2 H3) ∧
      (∀ σ' S' H', Pv xs.length σ' S' H' → D.nx σ' H')) : tFor (iList K fun _ H Q => Q u H) g tu D σ H :=
  at_for (D := D) (ei_list (tl := fun _ H Q => Q u H) fun S1 H1 g1 Q q => q u S1 H1 (.refl g1.sub) (h.same g1.s)) e k
theorem kb_is_permit (Z : Px K mg) : KBn K Z.is_permit.fd ["roles", "labels", "thing"] 0 ["thing", "labels", "roles"] rev3 rev3 :=
  kbn Z.is_permit.F 0 _ _ _ (fun kV doc pm an cdv ct us ws h1 h2 => by
    match us, h1, ws, h2 with
    | [], _, [a, b, c], _ => rfl) rel_rev3
def spPR (K : PySem.W.Frag) : Sp := fun vs H Q _ => ∃ (S : Hp) (w : Addr) (c n : Nat) (v : V) (b : Raw), vs = [.ref w, v] ∧ Same S H ∧ S w = none ∧ Well H w c ∧ c ≤ 800000000000 ∧ Rep K S v b.t ∧ b.Ok n ∧ n ≤ 60 ∧
  ∀ (c' : Nat) S' H', Stp S H w c 70000000000 S' H' c' → Q (.bl true) H'
theorem ok__law_permits_right (Z : Px K mg) (Y : Pt K w mg) : FnOk P w K mg base CX0 8 Z._law_permits_right.f Z._law_permits_right.fd ["well", "raw"] (spPR K) := by
  refine Z._law_permits_right.F.ok sc__law_permits_right (by rintro vs H Q E ⟨S, w, c, n, v, b, rfl, _⟩; rfl) (fun cdv A outer s H vs Q E hr h => ?_)
  obtain ⟨S, wl, c, n, v, b, rfl, e, hw, hW, hc, r, hb, hn, q⟩ := h
  refine ⟨_, (pss_cons (ps_asg (pv 1) (show PG _ _ (gTup K 3 _) from pg_tup (by rfl) (pgs_cons (pg_name (i := 2) sc__law_permits_right.nd rfl (.inl rfl)) (pgs_cons (pg_name (i := 3) sc__law_permits_right.nd rfl (.inl rfl)) (pgs_cons (pg_name (i := 4) sc__law_permits_right.nd rfl (.inl rfl)) pgs_nil)))))
  (pss_cons (ps_set (i := 5) sc__law_permits_right.nd rfl (.inl rfl) (pe_lst (pa_cons pe_non (pa_cons pe_int (pa_cons pe_bl (pa_cons pe_str (pa_cons pe_str (pa_cons (pe_lst pa_nil) (pa_cons (pe_tup pa_nil) (pa_cons pe_dnewK (pa_cons (pe_disp (pps_cons pe_str pe_str pps_nil) rfl rfl (List.cons_ne_nil _ _) (by decide)) (pa_cons (pe_lst (pa_cons (pe_lst pa_nil) pa_nil)) (pa_cons (pe_lst (pa_cons pe_non pa_nil)) (pa_cons (pe_tup (pa_cons pe_str pa_nil)) (pa_cons (pe_tup (pa_cons pe_str (pa_cons pe_str pa_nil))) pa_nil)))))))))))))))
  (pss_cons (ps_for PassesOwn.never rfl (pi_seqK (K := K) (pe_op op_cat (pe_slice (sl_anyK (K := K)) (pv 4) po_none (po_some pe_int)) (pe_lst (pa_cons (pe_call (ok__law_b_permit Z) (hr.mono (by decide)) (by rfl) Z._law_b_permit.g Z._law_b_permit.F.kp Z._law_b_permit.b .nil pass0 (pa_cons (pv 0) (pa_cons (pv 2) (pa_cons (pv 3) pa_nil)))) pa_nil)))) (pg_name (i := 6) sc__law_permits_right.nd rfl (.inl rfl))
   (pss_one (ps_expr (show PE _ _ (tBM K "list" rExtend _ _) from pe_bm PySem.F.plainAttrs_list PySem.F.slot_list_extend PySem.F.type_list_extend mr_extend (pv 5) (pa_cons (pe_call (ok__law_near Z) (hr.mono (by decide)) (by rfl) Z._law_near.g Z._law_near.F.kp Z._law_near.b .nil pass0 (pa_cons (pv 0) (pa_cons (pv 2) (pa_cons (pv 3) (pa_cons (pv 6) pa_nil))))) pa_nil)))))
  (pss_cons (ps_for PassesOwn.never rfl (pi_seqK (K := K) (pv 5)) (pg_name (i := 7) sc__law_permits_right.nd rfl (.inl rfl))
   (pss_cons (ps_set (i := 8) sc__law_permits_right.nd rfl (.inl rfl) (pe_call (ok__law_is_permit Z) (hr.mono (by decide)) (by rfl) Z._law_is_permit.g Z._law_is_permit.F.kp Z._law_is_permit.b .nil pass0 (pa_cons (pv 2) (pa_cons (pv 3) (pa_cons (pv 7) pa_nil)))))
  (pss_cons (ps_set (i := 9) sc__law_permits_right.nd rfl (.inl rfl) (pe_lst (pa_cons (pe_call (ok_is_permit Z Y) (hr.mono (by decide)) (by rfl) Z.is_permit.g Z.is_permit.F.kp Z.is_permit.b .nil (passes_call LamX.takes0 (fun _ _ _ _ h => h)) (pa_cons (pe_call (ok__law_loose Z 3 (by decide)) (hr.mono (by decide)) (by rfl) Z._law_loose.g Z._law_loose.F.kp Z._law_loose.b .nil pass0 (pa_cons (pv 0) (pa_cons (pe_call (ok__law_mixed Z) (hr.mono (by decide)) (by rfl) Z._law_mixed.g Z._law_mixed.F.kp Z._law_mixed.b .nil pass0 (pa_cons (pv 0) (pa_cons (pv 2) pa_nil))) pa_nil))) (pa_cons (pv 3) (pa_cons (pe_call (ok__law_loose Z 3 (by decide)) (hr.mono (by decide)) (by rfl) Z._law_loose.g Z._law_loose.F.kp Z._law_loose.b .nil pass0 (pa_cons (pv 0) (pa_cons (pv 7) pa_nil))) pa_nil)))) pa_nil)))
  (pss_cons (ps_expr (show PE _ _ (tBM K "list" rAppend _ _) from pe_bm PySem.F.plainAttrs_list PySem.F.slot_list_append PySem.F.type_list_append mr_append (pv 9) (pa_cons (pe_callK0 (ok_is_permit Z Y) (hr.mono (by decide)) (by rfl) Z.is_permit.g Z.is_permit.F.kp (kb_is_permit Z) (passes_call LamX.takes0 (fun _ _ _ _ h => h)) (pk_cons (pv 7) (pk_cons (pe_callTy (call_tupleK (K := K)) (by rfl) Z.bl.tuple (by decide +kernel) (pa_cons (show PE _ _ (tRevL K _) from pe_revL (pv 3)) pa_nil)) (pk_cons (pv 2) pk_nil)))) pa_nil)))
  (pss_one (ps_if (pt_not (pt_val (pe_call (ok__law_same Z 5 (by decide)) (hr.mono (by decide)) (by rfl) Z._law_same.g Z._law_same.F.kp Z._law_same.b .nil pass0 (pa_cons (pv 9) (pa_cons (pe_lst (pa_cons (pv 8) (pa_cons (pv 8) pa_nil))) pa_nil)))))
   (pss_one (ps_ret pe_bl))
   pss_nil))))))
  (pss_one (ps_ret pe_bl)))))), ?_⟩
  have r : Rep K S v (.t [.l (b.rs.map tS), .l (b.ls.map tS), .l (b.ps.map tT)]) := r
  cases r with
  | @t pr vs _ hpr rs3 =>
  cases rs3 with
  | @cons v2 _ vs3 _ r2 rs3 =>
  cases rs3 with
  | @cons v3 _ vs4 _ r3 rs3 =>
  cases rs3 with
  | @cons v4 _ vs5 _ r4 rs3 =>
  cases rs3
  have lrs := someOf_len hb.rs
  have lls := someOf_len hb.ls
  have e10 : names10.length = 10 := rfl
  have e04 : names4.length = 4 := rfl
  refine q_asg ⟨.ref pr, rfl, pr, [v2, v3, v4], rfl, sqT e hpr, rfl, v2, [v3, v4], rfl, v3, [v4], rfl, v4, [], rfl, rfl, ?_⟩
  -- things
  have A1 : EvA _ [some (.ref wl), some (.ref pr), some v2, some v3, some v4, none, none, none, none, none] S H (basics.map (R K)) :=
    ea_cons (ev_c (.a rfl)) (ea_cons (ev_c (.a rfl)) (ea_cons (ev_c (.a rfl)) (ea_cons (ev_c (.a rfl)) (ea_cons (ev_c (.a rfl)) (ea_cons (ev_lst (xs := []) ea_nil (by decide)) (ea_cons (ev_tup (xs := []) ea_nil (by decide)) (ea_cons ev_dnewK
      (ea_cons ev_disp1 (ea_cons (ev_lst (xs := [.l []]) (ea_one (ev_lst (xs := []) ea_nil (by decide))) (by decide)) (ea_cons (ev_lst (xs := [.a .non]) (ea_one (ev_c (.a rfl))) (by decide)) (ea_two (ev_tup (xs := [tS "known"]) (ea_one (ev_c (.a rfl))) (by decide)) (ev_tup (xs := [tS "make", tS "known"]) (ea_two (ev_c (.a rfl)) (ev_c (.a rfl))) (by decide)))))))))))))
  refine q_asg (A1 S H (.refl e) _ fun us S1 H1 g1 a1 => ⟨by rw [a1.reps.length]; exact sz (by show 13 ≤ 100000; decide), fun F hF => ?_⟩)
  have hS1F : S1 F = none := g1.sub.free hF
  have st1 := Stp.of g1 hw hW
  have hFw : F ≠ wl := fun z => by obtain ⟨o, ho⟩ := st1.well.some; rw [z, ho] at hF; cases hF
  have hHF : H F = none := g1.h.free hF
  have st2 := st1.mut (o := .lst us) hHF hS1F
  have ra := a1.reps
  have la : us.length = 13 := ra.length
  -- permits[:4] + [..]
  show tFor (iSeq K (tOp rCat (tSl (rSlA K) (tVar 4) tNoPart (tPart (tC (.int 4)))) (tLst (tCons (tCall (spBp K) [] E0 (tCons (tVar 0) (tCons (tVar 2) (tCons (tVar 3) tNil)))) tNil)))) _ _ _ _ _
  unfold tFor
  refine .inl ?_
  show tOp rCat (tSl (rSlA K) (tVar 4) tNoPart (tPart (tC (.int 4)))) (tLst (tCons (tCall (spBp K) [] E0 (tCons (tVar 0) (tCons (tVar 2) (tCons (tVar 3) tNil)))) tNil)) _ _ _
  show tSl (rSlA K) (tVar 4) tNoPart (tPart (tC (.int 4))) [some (.ref wl), some (.ref pr), some v2, some v3, some v4, some (.ref F), none, none, none, none] (upd H1 F (.lst us)) _
  refine (ev_slAL (K := K) (S := S1) (lo := none) (hi := some ((4 : Nat) : Int)) (ev_var (P := R K _) rfl (r4.same g1.s)) eo_none (eo_some is_c')).at st2.sub fun u3 S3 H3 g3 r3' => ?_
  have st3 := st2.grow g3
  have hS3F : S3 F = none := g3.out hS1F upd_same
  have hH3F : H3 F = some (.lst us) := g3.h _ _ upd_same
  have le3 := st3.le
  refine ⟨.ref wl, rfl, v2, rfl, v3, rfl, S3, wl, c, v2, v3, b.rs, b.ls, rfl, st3.sub, st3.out, st3.well, by omega, r2.same (g1.s.trans g3.s), r3.same (g1.s.trans g3.s), ⟨hb.rne, by omega, by omega, fun z hz => str4 z (hb.ls.2.2 z hz)⟩, fun u4 zs c4 S4 H4 st34 r4' hz => ⟨sz (by show 1 ≤ 100000; decide), fun L hL => ?_⟩⟩
  have st4 := st3.trans st34
  have hS4F : S4 F = none := st34.keep hS3F hH3F
  have hH4F : H4 F = some (.lst us) := st34.h hFw hH3F
  cases r3' with
  | @l la3 va3 _ hla3 ras3 =>
  have hcut : cutG (b.ps.map tT) none (some ((4 : Nat) : Int)) = (b.ps.take 4).map tT := by rw [cutG_to, List.map_take]
  rw [hcut] at ras3
  have lva3 : va3.length ≤ 4 := by rw [ras3.length, List.length_map, List.length_take]; omega
  have gL : Grow S4 H4 (upd S4 L (.lst [u4])) (upd H4 L (.lst [u4])) := .alloc st4.sub hL
  have hLF : F ≠ L := fun z => by rw [z] at hH4F; rw [hL] at hH4F; cases hH4F
  have st5 := st4.grow gL
  have r4L := (Rep.l upd_same ((Reps.one r4').same gL.s) : Rep K (upd S4 L (.lst [u4])) (.ref L) (.l [tT zs]))
  generalize hS5 : upd S4 L (.lst [u4]) = S5 at gL st5 r4L
  generalize hH5 : upd H4 L (.lst [u4]) = H5 at gL st5 r4L
  have hS5F : S5 F = none := by rw [← hS5, upd_ne hLF]; exact hS4F
  have hH5F : H5 F = some (.lst us) := by rw [← hH5, upd_ne hLF]; exact hH4F
  have hS5L : S5 L = some (.lst [u4]) := by rw [← hS5]; exact upd_same
  refine ⟨la3, L, va3, [u4], rfl, rfl, st5.sub _ _ (gL.s _ _ (st34.s _ _ hla3)), st5.sub _ _ hS5L, sz (by show va3.length + 1 ≤ 100000; omega), fun l hl => ?_⟩
  have gl : Grow S5 H5 (upd S5 l (.lst (va3 ++ [u4]))) (upd H5 l (.lst (va3 ++ [u4]))) := .alloc st5.sub hl
  have hlF : F ≠ l := fun z => by rw [z] at hH5F; rw [hl] at hH5F; cases hH5F
  have st6 := st5.grow gl
  have sA : Same S3 (upd S5 l (.lst (va3 ++ [u4]))) := st34.s.trans (gL.s.trans gl.s)
  have rl : Rep K (upd S5 l (.lst (va3 ++ [u4]))) (.ref l) (.l ((b.ps.take 4 ++ [zs]).map tT)) := by
    rw [List.map_append]
    exact .l upd_same ((ras3.same sA).append (.one (r4'.same (gL.s.trans gl.s))))
  have hS6F : upd S5 l (.lst (va3 ++ [u4])) F = none := by rw [upd_ne hlF]; exact hS5F
  have hH6F : upd H5 l (.lst (va3 ++ [u4])) F = some (.lst us) := by rw [upd_ne hlF]; exact hH5F
  generalize upd S5 l (.lst (va3 ++ [u4])) = S6 at gl st6 sA rl hS6F
  generalize upd H5 l (.lst (va3 ++ [u4])) = H6 at gl st6 sA rl hH6F
  have s06 : Same S S6 := g1.s.trans (g3.s.trans sA)
  have ra6 : Reps K S6 us basics := ra.same (g3.s.trans sA)
  have okq : ∀ p ∈ b.ps.take 4 ++ [zs], okP b.rs b.ls p := fun p hp => by
    rcases List.mem_append.mp hp with hp | hp
    · exact hb.ok p (List.mem_of_mem_take hp)
    · rw [List.mem_singleton.mp hp]; exact hz
  have lq : (b.ps.take 4 ++ [zs]).length ≤ 5 := by rw [List.length_append, List.length_take]; show _ + 1 ≤ 5; omega
  generalize b.ps.take 4 ++ [zs] = qs at rl okq lq
  -- for permit in ..
  show tFor (iList K fun _ H Q => Q (.ref l) H) _ _ _ _ _
  refine at_forV (D := { nx := _, rt := _ }) rl st6.sub fun S7 H7 g7 => ⟨fun i σ' S' H' => ∃ (c' : Nat) (us : List V) (xs : List T) (y6 : Option V), σ' = [some (.ref wl), some (.ref pr), some v2, some v3, some v4, some (.ref F), y6, none, none, none] ∧
      Stp S H wl c (10 + 200 * i) S' H' c' ∧ S' F = none ∧ H' F = some (.lst us) ∧ Reps K S' us xs ∧ Same S7 S' ∧ (∀ x ∈ xs, Thing x) ∧ xs.length ≤ 13 + 60 * i,
    fun i σ' S' H' ⟨c', us, xs, y6, h1, h2, h3, h4, h5, h6, h7⟩ => ⟨h6, h2.sub⟩, ?_, fun i σ' S' H' x S9 H9 hi hP g9 px => ?_, fun σ' S' H' hP => ?_⟩
  · exact ⟨c4, us, basics, none, rfl, (st6.grow g7).mono (by omega), g7.out hS6F hH6F, g7.h _ _ hH6F, ra6.same g7.s, Same.refl _, fun x hx => basics_thing hx, Nat.le_refl 13⟩
  · obtain ⟨c', us, xs, y6, rfl, st, hF1, hF2, rxs, s7, hth, hl⟩ := hP
    rw [List.length_map] at hi
    have st9 := st.grow g9
    have hF3 : S9 F = none := g9.out hF1 hF2
    have hF4 : H9 F = some (.lst us) := g9.h _ _ hF2
    have s09 : Same S S9 := s06.trans (g7.s.trans (s7.trans g9.s))
    obtain ⟨p, hp, ep⟩ : ∃ p ∈ qs, nth (qs.map tT) i = tT p := by
      obtain ⟨p, hp, e⟩ := List.mem_map.mp (List.mem_of_getElem? (nth_get (xs := qs.map tT) (show i < (qs.map tT).length by rw [List.length_map]; exact hi)))
      exact ⟨p, hp, e.symm⟩
    rw [ep] at px
    have le9 := st9.le
    refine ⟨.ref F, rfl, .inl ⟨rfl, us, .inl (.inl hF4)⟩, ?_⟩
    refine ⟨.ref wl, rfl, v2, rfl, v3, rfl, x, rfl, S9, wl, c', v2, v3, x, b.rs, b.ls, p, rfl, st9.sub, st9.out, st9.well, by omega, r2.same s09, r3.same s09, px, ⟨hb.rs.2.2, hb.ls.2.2, by omega, by omega, okq p hp⟩, fun u ys c9 Sc Hc stp ru ly thy => ?_⟩
    cases ru with
    | @l G vg _ hG rg =>
    have stc := st9.trans stp
    have hF5 : Sc F = none := stp.keep hF3 hF4
    have hF6 : Hc F = some (.lst us) := stp.h hFw hF4
    have lu := rxs.length
    have lg := rg.length
    refine ⟨F, G, us, vg, rfl, rfl, hF6, stc.sub _ _ hG, sz (by omega), ?_⟩
    refine ⟨_, c9, us ++ vg, xs ++ ys, some x, rfl, (stc.mut hHF hF5).mono (by omega), hF5, upd_same, (rxs.same (g9.s.trans stp.s)).append rg, s7.trans (g9.s.trans stp.s), fun z hz => ?_, by rw [List.length_append]; omega⟩
    rcases List.mem_append.mp hz with hz | hz
    · exact hth z hz
    · exact thy z hz
  obtain ⟨c', us, xs, y6, rfl, st, hF1, hF2, rxs, s7, hth, hl⟩ := hP
  rw [List.length_map] at st hl
  have hl : xs.length ≤ 313 := by omega
  have stF := st.freeze hHF hF1 hF2
  have rF : Rep K (upd S' F (.lst us)) (.ref F) (.l xs) := .l upd_same (rxs.same (Same.new hF1))
  have s0F : Same S (upd S' F (.lst us)) := s06.trans (g7.s.trans (s7.trans (Same.new hF1)))
  generalize upd S' F (.lst us) = T0 at stF rF s0F
  have hcnt : cntL 3 = 101010100 := rfl
  have hbnd : bndL 3 = 920000000000 := rfl
  have okr := raw_roles hb
  have okl := raw_labels hb
  have fit0 := raw_fit hb
  refine at_for (D := { nx := _, rt := _ }) (ei_seqL (ev_var (P := R K (.l xs)) (i := 5) rfl rF)) stF.sub fun S8 H8 g8 => ⟨fun i σ' S' H' => ∃ (c' : Nat) (y7 y8 y9 : Option V), σ' = [some (.ref wl), some (.ref pr), some v2, some v3, some v4, some (.ref F), y6, y7, y8, y9] ∧
      Stp S H wl c (1100 + 210000000 * i) S' H' c' ∧ Same S8 S',
    fun i σ' S' H' ⟨c', y7, y8, y9, h1, h2, h3⟩ => ⟨h3, h2.sub⟩, ⟨c', none, none, none, rfl, (stF.grow g8).mono (by omega), Same.refl _⟩, fun i σ' S' H' x S9 H9 hi hP g9 px => ?_, fun σ' S' H' hP => ?_⟩
  · obtain ⟨c', y7, y8, y9, rfl, st, s8⟩ := hP
    obtain ⟨hok, hlen⟩ := hth _ (List.mem_of_getElem? (nth_get hi))
    have px : Rep K S9 x (nth xs i) := px
    generalize nth xs i = th at px hok hlen
    have st9 := st.grow g9
    have s09 : Same S S9 := s0F.trans (g8.s.trans (s8.trans g9.s))
    have le9 := st9.le
    -- due
    show tSeq _ _ _ _ _
    refine q_set (ev_call3 (K := K) (x := .l (b.rs.map tS)) (y := .l (b.ls.map tS)) (z := th) (ev_var (P := R K _) (i := 2) rfl (r2.same s09)) (ev_var (P := R K _) (i := 3) rfl (r3.same s09)) (ev_var (P := R K _) (i := 7) rfl px) ⟨⟨_, rfl⟩, ⟨_, rfl⟩, by omega⟩) st9.sub fun ud S1 H1 g1 rd => ?_
    have ed : (readP (strsOf (T.l (b.rs.map tS)).items) (strsOf (T.l (b.ls.map tS)).items) th).isSome = isP (.l (b.rs.map tS)) (.l (b.ls.map tS)) th := rfl
    rw [ed] at rd
    have rd : Rep K S1 ud (.a (.bl (isP (.l (b.rs.map tS)) (.l (b.ls.map tS)) th))) := rd
    obtain ⟨rfl, _⟩ := rd.flat
    have st1 := st9.grow g1
    have s01 := s09.trans g1.s
    have px1 := px.same g1.s
    have le1 := st1.le
    -- found
    refine ⟨.ref wl, rfl, .ref wl, rfl, v2, rfl, S1, wl, c', v2, .l (b.rs.map tS), rfl, st1.sub, st1.out, st1.well, by omega, r2.same s01, (by show (b.rs.map tS).length ≤ 100; rw [List.length_map]; omega), fun u1 y1 c1 Sa Ha sta ra1 ⟨ys, ey, hper⟩ => ?_⟩
    obtain ⟨ws, rfl, hpw⟩ := perm_strs hper
    subst ey
    have lws : ws.length ≤ 10 := by rw [hpw.length_eq]; omega
    have st2 := st1.trans sta
    have le2 := st2.le
    refine ⟨Sa, wl, c1, u1, .l (ws.map tS), rfl, st2.sub, st2.out, st2.well, by omega, ra1, okL_flat (.inl rfl) (by rw [List.length_map]; omega) (flat_map ws), fun u2 y2 c2 Sb Hb stb rb p2 => ?_⟩
    have st3 := st2.trans stb
    have le3 := st3.le
    have rb := rb.same (frs_le (H0 := Ha) (S := Sb))
    have e2 : y2 = .l (ws.map tS) ∨ y2 = .t (ws.map tS) := loose_strs (p2.trans (by
      show T.l (looses (ws.map tS)) = _
      rw [looses_map, List.map_map]
      rfl))
    refine ⟨v3, rfl, .ref wl, rfl, x, rfl, Sb, wl, c2, x, th, rfl, st3.sub, st3.out, st3.well, by omega, px1.same (sta.s.trans stb.s), hok, fun u3 y3 c3 Sc Hc stc rc p3 => ?_⟩
    have st4 := st3.trans stc
    have rc := rc.same (frs_le (H0 := Hb) (S := Sc))
    have l3 : y3.items.length ≤ 50000 := by
      have p3 : y3.loose = th.loose := p3
      have := congrArg (fun t => List.length (T.items t)) p3
      have : y3.loose.items.length = th.loose.items.length := this
      rw [items_lo, items_lo, len_lo, len_lo] at this
      omega
    have i2 : y2.items = ws.map tS := by rcases e2 with rfl | rfl <;> rfl
    have ok2 : y2.okRoles = true := by
      have h1 : y2.okRoles = (T.l (ws.map tS)).okRoles := by rcases e2 with rfl | rfl <;> rfl
      rw [h1, okRoles_perm hpw]
      exact okr
    have ns2 : namesSize y2 := ⟨by rw [i2, List.length_map]; omega, by
      rw [i2]
      exact sizes_strs fun z hz => (ten_named z (hb.rs.2.2 z (hpw.subset hz))).2.2.2.2⟩
    have ev1 : isP y2 (.l (b.ls.map tS)) y3 = isP (.l (b.rs.map tS)) (.l (b.ls.map tS)) th := by
      have a1 : isP y2 (.l (b.ls.map tS)) y3 = isP (.l (ws.map tS)) (.l (b.ls.map tS)) th := isP_same (by rcases e2 with rfl | rfl <;> rfl) rfl p3
      rw [a1]
      show (readP (strsOf (ws.map tS)) (strsOf (b.ls.map tS)) th).isSome = (readP (strsOf (b.rs.map tS)) (strsOf (b.ls.map tS)) th).isSome
      rw [strsOf_map, strsOf_map, strsOf_map, readP_perm hpw (List.Perm.refl _)]
    have s0c : Same S Sc := s01.trans (sta.s.trans (stb.s.trans stc.s))
    refine ⟨Sc, u2, v3, u3, y2, .l (b.ls.map tS), y3, rfl, st4.sub, rc, l3, ⟨rb.same stc.s, r3.same s0c, ns2, fit0.nb, fun _ _ Sd Hd gd => ?_, fun h => (by rw [ok2] at h; cases h), fun _ h => (by rw [okl] at h; cases h)⟩⟩
    rw [ev1]
    generalize hdd : isP (.l (b.rs.map tS)) (.l (b.ls.map tS)) th = dd
    have st5 := st4.grow gd
    refine ⟨sz (by show 1 ≤ 100000; decide), fun G hG => ?_⟩
    have hGw : G ≠ wl := fun z => by obtain ⟨o, ho⟩ := st5.well.some; rw [z, ho] at hG; cases hG
    have hHG : H G = none := st5.back G hG
    have hSG : Sd G = none := st5.sub.free hG
    have st6 := st5.mut (o := .lst [.bl dd]) hHG hSG
    have s0d : Same S Sd := s0c.trans gd.s
    -- found.append
    have er3 : Ev (tVar 3) [some (.ref wl), some (.ref pr), some v2, some v3, some v4, some (.ref F), y6, some x, some (.bl dd), some (.ref G)] Sd (upd Hd G (.lst [.bl dd])) (R K (.l (b.ls.map tS))) := ev_var rfl (r3.same s0d)
    refine ⟨.ref G, rfl, .inl ⟨rfl, [.bl dd], .inl (.inl upd_same)⟩, ?_⟩
    refine ⟨x, rfl, ?_⟩
    show tCB (rTupA K) (tCons (tRevL K (tVar 3)) tNil) [some (.ref wl), some (.ref pr), some v2, some v3, some v4, some (.ref F), y6, some x, some (.bl dd), some (.ref G)] (upd Hd G (.lst [.bl dd])) _
    refine (ev_tupOf (ev_revL er3) (.inl rfl)).at st6.sub fun uT Se He ge re => ?_
    have st7 := st6.grow ge
    have hSeG : Se G = none := ge.out hSG upd_same
    have hHeG : He G = some (.lst [.bl dd]) := ge.h _ _ upd_same
    have erev : (b.ls.map tS).reverse = b.ls.reverse.map tS := (List.map_reverse ..).symm
    rw [erev] at re
    have oklR : (T.t (b.ls.reverse.map tS)).areNames = true := by
      show (T.l (b.ls.reverse.map tS)).areNames = true
      rw [areNames_perm (List.reverse_perm b.ls)]
      exact okl
    have nsR : namesSize (.t (b.ls.reverse.map tS)) := ⟨by show (b.ls.reverse.map tS).length < 4000; rw [List.length_map, List.length_reverse]; omega, sizes_strs fun z hz => (four_named z (hb.ls.2.2 z (List.mem_reverse.mp hz))).2⟩
    have ev2 : isP (.l (b.rs.map tS)) (.t (b.ls.reverse.map tS)) th = dd := by
      rw [← hdd]
      show (readP (strsOf (b.rs.map tS)) (strsOf (b.ls.reverse.map tS)) th).isSome = (readP (strsOf (b.rs.map tS)) (strsOf (b.ls.map tS)) th).isSome
      rw [strsOf_map, strsOf_map, strsOf_map, readP_perm (List.Perm.refl _) (List.reverse_perm b.ls)]
    have s1e : Same S1 Se := sta.s.trans (stb.s.trans (stc.s.trans (gd.s.trans ge.s)))
    refine ⟨v2, rfl, rfl, Se, v2, uT, x, .l (b.rs.map tS), .t (b.ls.reverse.map tS), th, rfl, st7.sub, px1.same s1e, by omega, ⟨r2.same (s01.trans s1e), re, fit0.na, nsR, fun _ _ Sf Hf gf => ?_, fun h => (by rw [okr] at h; cases h), fun _ h => (by rw [oklR] at h; cases h)⟩⟩
    rw [ev2]
    have st8 := st7.grow gf
    have hSfG : Sf G = none := gf.out hSeG hHeG
    have hHfG : Hf G = some (.lst [.bl dd]) := gf.h _ _ hHeG
    refine ⟨G, [.bl dd], .bl dd, rfl, rfl, hHfG, szl (by show 1 < 100000; decide), ?_⟩
    have st9 := (st8.mut (o := .lst [.bl dd, .bl dd]) hHG hSfG).freeze hHG hSfG upd_same
    have rG : Rep K (upd Sf G (.lst [.bl dd, .bl dd])) (.ref G) (.l [.a (.bl dd), .a (.bl dd)]) := .l upd_same (.cons (.a rfl) (.cons (.a rfl) .nil))
    have sgf : Same Sf (upd Sf G (.lst [.bl dd, .bl dd])) := Same.new hSfG
    refine ⟨.ref G, rfl, ?_⟩
    dsimp only
    show tCons (tLst (tCons (tVar 8) (tCons (tVar 8) tNil))) tNil _ _ _
    unfold tCons
    show tLst (tCons (tVar 8) (tCons (tVar 8) tNil)) [some (.ref wl), some (.ref pr), some v2, some v3, some v4, some (.ref F), y6, some x, some (.bl dd), some (.ref G)] (upd Hf G (.lst [.bl dd, .bl dd])) _
    refine (ev_lst (K := K) (S := upd Sf G (.lst [.bl dd, .bl dd])) (xs := [.a (.bl dd), .a (.bl dd)]) (ea_two (ev_var (P := R K _) (i := 8) rfl (.a rfl)) (ev_var (P := R K _) (i := 8) rfl (.a rfl))) (by show 2 ≤ 100000; decide)).at st9.sub fun uD Sg Hg gg rg => ?_
    have stA := st9.grow gg
    refine ⟨Sg, .ref G, uD, .l [.a (.bl dd), .a (.bl dd)], .l [.a (.bl dd), .a (.bl dd)], rfl, stA.sub, rG.same gg.s, rg, ⟨rfl, rfl, (by show 1 < 6; decide), ⟨by show 2 ≤ 40000; decide, trivial, trivial, trivial⟩, ⟨by show 2 ≤ 40000; decide, trivial, trivial, trivial⟩⟩, fun v4' Sh Hh gh rh => ?_⟩
    have rh : Rep K Sh v4' (.a (.bl (T.same (.l [.a (.bl dd), .a (.bl dd)]) (.l [.a (.bl dd), .a (.bl dd)])))) := rh
    rw [same_yes rfl] at rh
    obtain ⟨rfl, _⟩ := rh.flat
    have stB := stA.grow gh
    have hlt : i < xs.length := hi
    refine ⟨true, rfl, ?_⟩
    refine ⟨Sh, c3, some x, some (.bl dd), some (.ref G), rfl, stB.mono (by rw [hcnt]; omega), s8.trans (g9.s.trans (g1.s.trans (s1e.trans (gf.s.trans (sgf.trans (gg.s.trans gh.s))))))⟩
  obtain ⟨c', y7, y8, y9, rfl, st, s8⟩ := hP
  show Q (.bl true) H'
  exact q c' S' H' (st.mono (by omega))
end
end Uw
end
section
set_option Elab.async false
set_option linter.all false
set_option maxRecDepth 100000
set_option maxHeartbeats 2000000
namespace Uw
open PySem PySem.Spec PyProof.Rows L2 RZ
/-! ### lists that are made longer: what stands, what is reached -/
abbrev lateV : V := .str "late9"
/-- v is a text, or a new list or a tuple, n deep at most, each of at most B things -/
def Rk (H0 : Hp) : Nat → Nat → Hp → V → Prop
  | 0, _, _, v => ∃ z, v = .str z
  | n + 1, B, H, v => (∃ z, v = .str z) ∨ ∃ p vs, v = .ref p ∧ ((H p = some (.lst vs) ∧ H0 p = none) ∨ H p = some (.tup vs)) ∧ vs.length ≤ B ∧ ∀ u ∈ vs, Rk H0 n B H u
inductive Reach (H : Hp) : V → Addr → Prop
  | here {p : Addr} : Reach H (.ref p) p
  | there {p q : Addr} {vs : List V} {u : V} : (H p = some (.lst vs) ∨ H p = some (.tup vs)) → u ∈ vs → Reach H u q → Reach H (.ref p) q
def Lng (H0 : Hp) (a : Nat) (H H' : Hp) : Prop := ∀ p o, H p = some o → H' p = some o ∨ ∃ vs k, o = .lst vs ∧ H0 p = none ∧ k ≤ a ∧ H' p = some (.lst (vs ++ List.replicate k lateV))
theorem Rk.up {H0 H : Hp} {B : Nat} : ∀ {n : Nat} {v : V}, Rk H0 n B H v → Rk H0 (n + 1) B H v
  | 0, _, h => .inl h
  | n + 1, _, .inl h => .inl h
  | n + 1, _, .inr ⟨p, vs, e, h, l, a⟩ => .inr ⟨p, vs, e, h, l, fun u hu => (a u hu).up⟩
theorem Rk.le {H0 H : Hp} {B n m : Nat} {v : V} (h : Rk H0 n B H v) (l : n ≤ m) : Rk H0 m B H v := by
  induction l with
  | refl => exact h
  | step _ ih => exact ih.up
theorem Lng.of {H0 H H' : Hp} (e : Same H H') : Lng H0 0 H H' := fun p o h => .inl (e p o h)
theorem Lng.mono {H0 H H' : Hp} {a b : Nat} (h : Lng H0 a H H') (l : a ≤ b) : Lng H0 b H H' := fun p o hp => by
  rcases h p o hp with h | ⟨vs, k, e, n, hk, h⟩
  · exact .inl h
  · exact .inr ⟨vs, k, e, n, Nat.le_trans hk l, h⟩
theorem Lng.trans {H0 H H1 H2 : Hp} {a b : Nat} (h : Lng H0 a H H1) (h2 : Lng H0 b H1 H2) : Lng H0 (a + b) H H2 := fun p o hp => by
  rcases h p o hp with h | ⟨vs, k, rfl, n, hk, h⟩
  · rcases h2 p o h with h2 | ⟨vs, k, e, n, hk, h2⟩
    · exact .inl h2
    · exact .inr ⟨vs, k, e, n, by omega, h2⟩
  · rcases h2 p _ h with h2 | ⟨vs2, k2, e, _, hk2, h2⟩
    · exact .inr ⟨vs, k, rfl, n, by omega, h2⟩
    · cases e
      refine .inr ⟨vs, k + k2, rfl, n, by omega, ?_⟩
      rw [h2, List.append_assoc, List.replicate_append_replicate]
/-- what stands in a place, before and behind -/
theorem Lng.at {H0 H H' : Hp} {a : Nat} {p : Addr} {vs : List V} (h : Lng H0 a H H') (e : H p = some (.lst vs) ∨ H p = some (.tup vs)) : ∃ k, k ≤ a ∧ (H' p = some (.lst (vs ++ List.replicate k lateV)) ∨ H' p = some (.tup vs)) := by
  rcases e with e | e
  · rcases h p _ e with h | ⟨vs2, k, e2, _, hk, h⟩
    · exact ⟨0, Nat.zero_le _, .inl (by rw [List.replicate_zero, List.append_nil]; exact h)⟩
    · cases e2
      exact ⟨k, hk, .inl h⟩
  · rcases h p _ e with h | ⟨vs2, k, e2, _, hk, h⟩
    · exact ⟨0, Nat.zero_le _, .inr h⟩
    · cases e2
theorem Rk.fwd {H0 H H' : Hp} {a B : Nat} (l : Lng H0 a H H') : ∀ {n : Nat} {v : V}, Rk H0 n B H v → Rk H0 n (B + a) H' v
  | 0, _, h => h
  | n + 1, _, .inl h => .inl h
  | n + 1, _, .inr ⟨p, vs, e, h, hl, ha⟩ => by
    have late : Rk H0 n (B + a) H' lateV := (show Rk H0 0 (B + a) H' lateV from ⟨_, rfl⟩).le (Nat.zero_le _)
    rcases h with ⟨h, h0⟩ | h
    · rcases l p _ h with h2 | ⟨vs2, k, e2, _, hk, h2⟩
      · exact .inr ⟨p, vs, e, .inl ⟨h2, h0⟩, by omega, fun u hu => Rk.fwd l (ha u hu)⟩
      · cases e2
        refine .inr ⟨p, _, e, .inl ⟨h2, h0⟩, by rw [List.length_append, List.length_replicate]; omega, fun u hu => ?_⟩
        rcases List.mem_append.mp hu with hu | hu
        · exact Rk.fwd l (ha u hu)
        · rw [List.eq_of_mem_replicate hu]; exact late
    · rcases l p _ h with h2 | ⟨vs2, k, e2, _⟩
      · exact .inr ⟨p, vs, e, .inr h2, by omega, fun u hu => Rk.fwd l (ha u hu)⟩
      · cases e2
theorem Rk.parts {H0 H : Hp} {n B : Nat} {p : Addr} {vs : List V} (h : Rk H0 n B H (.ref p)) (e : H p = some (.lst vs) ∨ H p = some (.tup vs)) : ∃ m, n = m + 1 ∧ vs.length ≤ B ∧ ∀ u ∈ vs, Rk H0 m B H u := by
  cases n with
  | zero => obtain ⟨z, h⟩ := h; cases h
  | succ m =>
    rcases h with ⟨z, h⟩ | ⟨p2, vs2, e2, h, l, a⟩
    · cases h
    · cases e2
      have : vs2 = vs := by
        rcases h with ⟨h, _⟩ | h <;> rcases e with e | e <;> rw [h] at e <;> cases e <;> rfl
      subst this
      exact ⟨m, rfl, l, a⟩
theorem Reach.rk {H0 H : Hp} {B : Nat} {v : V} {q : Addr} (r : Reach H v q) : ∀ {n : Nat}, Rk H0 n B H v → Rk H0 n B H (.ref q) := by
  induction r with
  | here => exact fun h => h
  | there e hu _ ih =>
    intro n h
    obtain ⟨m, rfl, _, a⟩ := h.parts e
    exact (ih (a _ hu)).up
theorem Reach.back {H0 H H' : Hp} {a B : Nat} (l : Lng H0 a H H') {v : V} {q : Addr} (r : Reach H' v q) : ∀ {n : Nat}, Rk H0 n B H v → Reach H v q := by
  induction r with
  | here => exact fun _ => .here
  | @there p q vs' u e hu r ih =>
    intro n h
    cases n with
    | zero => obtain ⟨z, h⟩ := h; cases h
    | succ m =>
      rcases h with ⟨z, h⟩ | ⟨p2, vs, e2, h, _, ha⟩
      · cases h
      · cases e2
        have eH : H p = some (.lst vs) ∨ H p = some (.tup vs) := by
          rcases h with ⟨h, _⟩ | h
          · exact .inl h
          · exact .inr h
        have hm : u ∈ vs ∨ u = lateV := by
          obtain ⟨k, _, hk⟩ := l.at eH
          rcases hk with hk | hk <;> rcases e with e | e <;> rw [hk] at e <;> cases e
          · rcases List.mem_append.mp hu with hu | hu
            · exact .inl hu
            · exact .inr (List.eq_of_mem_replicate hu)
          · exact .inl hu
        rcases hm with hm | rfl
        · exact .there eH hm (ih (ha u hm))
        · cases r
theorem no_ring {H0 H : Hp} {B : Nat} {p : Addr} {vs : List V} {u : V} (e : H p = some (.lst vs) ∨ H p = some (.tup vs)) (hu : u ∈ vs) (r : Reach H u p) : ∀ {n : Nat}, ¬ Rk H0 n B H (.ref p)
  | 0, ⟨z, h⟩ => by cases h
  | n + 1, h => by
    obtain ⟨m, em, _, a⟩ := h.parts e
    cases em
    exact no_ring e hu r (n := n) (r.rk (a u hu))
theorem all_reps {K : PySem.W.Frag} {H : Hp} : ∀ {vs : List V}, (∀ u ∈ vs, ∃ x, Rep K H u x) → ∃ xs, Reps K H vs xs
  | [], _ => ⟨[], .nil⟩
  | u :: us, h => by
    obtain ⟨x, rx⟩ := h u List.mem_cons_self
    obtain ⟨xs, rs⟩ := all_reps fun y hy => h y (List.mem_cons_of_mem _ hy)
    exact ⟨x :: xs, .cons rx rs⟩
theorem Rk.rep {K : PySem.W.Frag} {H0 H : Hp} {B : Nat} : ∀ {n : Nat} {v : V}, Rk H0 n B H v → ∃ x, Rep K H v x
  | 0, _, ⟨z, e⟩ => ⟨.a (.str z), by rw [e]; exact .a rfl⟩
  | n + 1, _, .inl ⟨z, e⟩ => ⟨.a (.str z), by rw [e]; exact .a rfl⟩
  | n + 1, _, .inr ⟨p, vs, e, h, _, a⟩ => by
    obtain ⟨xs, rs⟩ := all_reps fun u hu => Rk.rep (K := K) (a u hu)
    rw [e]
    rcases h with ⟨h, _⟩ | h
    · exact ⟨_, .l h rs⟩
    · exact ⟨_, .t h rs⟩
/-- how many are hung on behind N parts -/
def ups (f : Nat → Nat) (B : Nat) : Nat → Nat
  | 0 => 0
  | i + 1 => ups f B i + f (B + ups f B i)
def Fs : Nat → Nat → Nat → Nat
  | 0, _, _ => 0
  | n + 1, N, B => ups (fun b => Fs n b b) B N + 1
theorem ups_le (f : Nat → Nat) (B : Nat) : ∀ {i j : Nat}, i ≤ j → ups f B i ≤ ups f B j := by
  intro i j h
  induction h with
  | refl => exact Nat.le_refl _
  | step _ ih => exact Nat.le_trans ih (Nat.le_add_right _ _)
def spS (n : Nat) : Sp := fun vs H Q _ => ∃ (H0 : Hp) (v : V) (N B : Nat), vs = [v] ∧ Rk H0 n B H v ∧ (∀ p us, v = .ref p → (H p = some (.lst us) ∨ H p = some (.tup us)) → us.length ≤ N) ∧ B + Fs n N B ≤ 90000 ∧
  ∀ H', Lng H0 (Fs n N B) H H' → (∀ q o, H q = some o → H' q ≠ some o → Reach H v q) → Q .non H'
def spI : Nat → Sp
  | 0 => fun _ _ _ _ => False
  | n + 1 => spS n
/-- trees that may be made longer -/
def dim : Nat → Nat → T → Prop
  | 0, _, x => ∃ z, x = tS z
  | n + 1, B, x => (∃ z, x = tS z) ∨ ∃ xs, (x = .l xs ∨ x = .t xs) ∧ xs.length ≤ B ∧ ∀ y ∈ xs, dim n B y
theorem frs_none {H0 S : Hp} {p : Addr} {us : List V} (h : frs H0 S p = some (.lst us)) : H0 p = none := by
  unfold frs at h
  cases q : S p with
  | none => rw [q] at h; cases h
  | some o =>
    rw [q] at h
    cases o with
    | lst vs =>
      dsimp only at h
      by_cases hn : (H0 p).isNone = true
      · cases e : H0 p with
        | none => rfl
        | some _ => rw [e] at hn; cases hn
      · rw [if_neg hn] at h; cases h
    | _ => cases h
theorem Rk.of {K : PySem.W.Frag} {H0 S H : Hp} {B : Nat} (eS : Same S H) : ∀ {n : Nat} {v : V} {x : T}, Rep K (frs H0 S) v x → dim n B x → Rk H0 n B H v
  | 0, v, x, r, ⟨z, h⟩ => by
    subst h
    exact ⟨z, (Rep.flat r).1⟩
  | n + 1, v, x, r, .inl ⟨z, h⟩ => by
    subst h
    exact .inl ⟨z, (Rep.flat r).1⟩
  | n + 1, v, x, r, .inr ⟨xs, h, l, a⟩ => by
    have key : ∀ {us : List V}, Reps K (frs H0 S) us xs → us.length ≤ B ∧ ∀ u ∈ us, Rk H0 n B H u := fun {us} rs => ⟨by rw [rs.length]; exact l, fun u hu => by
      obtain ⟨i, hi, e⟩ := List.getElem_of_mem hu
      have hx : i < xs.length := by rw [← rs.length]; exact hi
      obtain ⟨u', hu', ru⟩ := rs.get (List.getElem?_eq_getElem hx)
      rw [List.getElem?_eq_getElem hi, e] at hu'
      cases hu'
      exact Rk.of eS ru (a _ (List.getElem_mem hx))⟩
    rcases h with rfl | rfl
    · cases r with
      | @l p us _ hp rs =>
        obtain ⟨k1, k2⟩ := key rs
        exact .inr ⟨p, us, rfl, .inl ⟨eS _ _ (frs_le _ _ hp), frs_none hp⟩, k1, k2⟩
    · cases r with
      | @t p us _ hp rs =>
        obtain ⟨k1, k2⟩ := key rs
        exact .inr ⟨p, us, rfl, .inr (eS _ _ (frs_le _ _ hp)), k1, k2⟩
section
variable {P : Program} {w : World} {K : PySem.W.Frag} {mg : Str → Option Value} {base : Heap}
/-- the loop over what is hung on to -/
theorem spo_loop {J : It} {D : Ends} {H0 H H2 : Hp} {p : Addr} {vs : List V} {o0 : HO} {m B : Nat} (ho : (o0 = .lst vs ∧ H0 p = none) ∨ o0 = .tup vs) (hp : H p = some o0) (hk : ∀ u ∈ vs, Rk H0 m B H u) (hl : vs.length ≤ B) (e : Same H H2)
    (go : ∀ i H', H' p = some o0 → i < vs.length → J.go i H') (st : ∀ i H', H' p = some o0 → vs.length ≤ i → J.stop i H') (yl : ∀ i x H' H'', H' p = some o0 → J.yld i H' x H'' → H'' = H' ∧ vs[i]? = some x)
    (hB : B + ups (fun b => Fs m b b) B vs.length ≤ 90000)
    (hend : ∀ y2 H', Lng H0 (ups (fun b => Fs m b b) B vs.length) H H' → H' p = some o0 → (∀ q o, H q = some o → H' q ≠ some o → ∃ u ∈ vs, Reach H u q) → D.nx [some (.ref p), none, y2] H') :
    ∃ W : Nat → Nat → L2.St → Hp → Prop, (∃ m, W 0 m [some (.ref p), none, none] H2) ∧ ∀ i m' σ H, W i m' σ H → (J.stop i H ∧ D.nx σ H) ∨ (J.go i H ∧ ∃ N : L2.St → Hp → Prop, (∀ σ' H', N σ' H' → ∃ m2, m2 < m' ∧ W (i + 1) m2 σ' H') ∧
      ∀ x H', J.yld i H x H' → gName 2 x σ H' fun σ2 H2 => (tDrop (tCall (spS m) [] E0 (tCons (tVar 2) tNil))) { D with nx := N, ct := N, bk := D.nx } σ2 H2) := by
  have eH : H p = some (.lst vs) ∨ H p = some (.tup vs) := by
    rcases ho with ⟨rfl, _⟩ | rfl
    · exact .inl hp
    · exact .inr hp
  have hkp : Rk H0 (m + 1) B H (.ref p) := .inr ⟨p, vs, rfl, by
    rcases ho with ⟨rfl, h0⟩ | rfl
    · exact .inl ⟨hp, h0⟩
    · exact .inr hp, hl, hk⟩
  let f := fun b => Fs m b b
  refine ⟨fun i m' σ H' => m' = vs.length - i ∧ i ≤ vs.length ∧ (∃ y2, σ = [some (.ref p), none, y2]) ∧ Lng H0 (ups f B i) H H' ∧ H' p = some o0 ∧ (∀ q o, H q = some o → H' q ≠ some o → ∃ u ∈ vs, Reach H u q),
    ⟨vs.length, by simp, Nat.zero_le _, ⟨none, rfl⟩, (Lng.of e).mono (Nat.zero_le _), e _ _ hp, fun q o h h' => absurd (e _ _ h) h'⟩, ?_⟩
  rintro i m' σ H' ⟨rfl, hi, ⟨y2, rfl⟩, l1, hp1, md⟩
  by_cases hlt : i < vs.length
  · refine .inr ⟨go i H' hp1 hlt, fun σ3 H3 => (∃ y2, σ3 = [some (.ref p), none, y2]) ∧ Lng H0 (ups f B (i + 1)) H H3 ∧ H3 p = some o0 ∧ (∀ q o, H q = some o → H3 q ≠ some o → ∃ u ∈ vs, Reach H u q), fun σ3 H3 ⟨a, b, c, d⟩ => ⟨vs.length - (i + 1), by omega, rfl, hlt, a, b, c, d⟩, fun x H'' hy => ?_⟩
    obtain ⟨rfl, hx⟩ := yl i x H' H'' hp1 hy
    have hxm : x ∈ vs := List.mem_of_getElem? hx
    have hkx := hk x hxm
    have hk1 := hkx.fwd l1
    have hle : ups f B (i + 1) ≤ ups f B vs.length := ups_le f B hlt
    have hup : ups f B (i + 1) = ups f B i + Fs m (B + ups f B i) (B + ups f B i) := rfl
    have hBB : B + ups f B vs.length ≤ 90000 := hB
    refine ⟨x, rfl, H0, x, B + ups f B i, B + ups f B i, rfl, hk1, fun p2 us e2 h2 => ?_, by omega, fun H3 l2 md2 => ?_⟩
    · subst e2
      obtain ⟨_, _, a, _⟩ := hk1.parts h2
      exact a
    · have notp : H3 p = some o0 := by
        by_cases h3 : H3 p = some o0
        · exact h3
        · have r := (md2 p o0 hp1 h3).back l1 hkx
          exact absurd hkp (no_ring eH hxm r)
      refine ⟨⟨some x, rfl⟩, by rw [hup]; exact l1.trans l2, notp, fun q o h h' => ?_⟩
      by_cases h1 : H'' q = some o
      · exact ⟨x, hxm, (md2 q o h1 h').back l1 hkx⟩
      · exact md q o h h1
  · have ei : i = vs.length := by omega
    subst ei
    exact .inl ⟨st _ _ hp1 (Nat.le_refl _), hend y2 H' l1 hp1 md⟩
theorem law_spoiled_step (Z : Px K mg) (k n : Nat) (ih : FnOk P w K mg base CX0 k Z._law_spoiled.f Z._law_spoiled.fd ["thing"] (spI n)) :
    FnOk P w K mg base CX0 (k + 1) Z._law_spoiled.f Z._law_spoiled.fd ["thing"] (spS n) := by
  refine Z._law_spoiled.F.ok sc__law_spoiled (by rintro vs H Q E ⟨_, _, _, _, rfl, _⟩; rfl) (fun cdv A outer s H vs Q E hr h => ?_)
  obtain ⟨H0, v, N, B, rfl, hk, hN, hB, q⟩ := h
  refine ⟨_, (pss_one (ps_if (pt_val (pe_callB (call_isiK1 (K := K)) (by rfl) Z.bl.isinstance (by decide +kernel) (pa_cons (pv 0) (pa_cons (pe_bltn (v := .ty "dict") (by rfl) Z.bl.dict (by decide +kernel) rfl) pa_nil))))
   (pss_cons (ps_for PassesOwn.never rfl (pi_seqK (K := K) (pe_callTy (call_listK (K := K)) (by rfl) Z.bl.list (by decide +kernel) (pa_cons (pv 0) pa_nil))) (pg_name (i := 1) sc__law_spoiled.nd rfl (.inl rfl))
   (pss_one (ps_expr (pe_call ih hr (by rfl) Z._law_spoiled.g Z._law_spoiled.F.kp Z._law_spoiled.b .nil pass0 (pa_cons (pe_ix (ixK (K := K)) (pv 0) (pv 1) (fun _ _ => rfl)) pa_nil)))))
  (pss_one (ps_asg pe_str (pg_sub (pv 0) pe_str set_list))))
   (pss_one (ps_if (pt_val (pe_callB (call_isiTK (K := K)) (by rfl) Z.bl.isinstance (by decide +kernel) (pa_cons (pv 0) (pa_cons (pe_tup (pa_cons (pe_bltn (v := .ty "list") (by rfl) Z.bl.list (by decide +kernel) rfl) (pa_cons (pe_bltn (v := .ty "tuple") (by rfl) Z.bl.tuple (by decide +kernel) rfl) pa_nil))) pa_nil))))
   (pss_cons (ps_for PassesOwn.never rfl (pi_seqK (K := K) (pv 0)) (pg_name (i := 2) sc__law_spoiled.nd rfl (.inl rfl))
   (pss_one (ps_expr (pe_call ih hr (by rfl) Z._law_spoiled.g Z._law_spoiled.F.kp Z._law_spoiled.b .nil pass0 (pa_cons (pv 2) pa_nil)))))
  (pss_one (ps_if (pt_val (pe_callB (call_isiK1 (K := K)) (by rfl) Z.bl.isinstance (by decide +kernel) (pa_cons (pv 0) (pa_cons (pe_bltn (v := .ty "list") (by rfl) Z.bl.list (by decide +kernel) rfl) pa_nil))))
   (pss_one (ps_expr (show PE _ _ (tBM K "list" rAppend _ _) from pe_bm PySem.F.plainAttrs_list PySem.F.slot_list_append PySem.F.type_list_append mr_append (pv 0) (pa_cons pe_str pa_nil))))
   pss_nil)))
   pss_nil)))), ?_⟩
  have cs : (∃ z, v = .str z) ∨ ∃ m p vs o0, n = m + 1 ∧ v = .ref p ∧ ((o0 = HO.lst vs ∧ H0 p = none) ∨ o0 = .tup vs) ∧ H p = some o0 ∧ vs.length ≤ B ∧ ∀ u ∈ vs, Rk H0 m B H u := by
    cases n with
    | zero => exact .inl hk
    | succ m =>
      rcases hk with h | ⟨p, vs, rfl, h, l, a⟩
      · exact .inl h
      · rcases h with ⟨h, h0⟩ | h
        · exact .inr ⟨m, p, vs, _, rfl, rfl, .inl ⟨rfl, h0⟩, h, l, a⟩
        · exact .inr ⟨m, p, vs, _, rfl, rfl, .inr rfl, h, l, a⟩
  rcases cs with ⟨z, rfl⟩ | ⟨m, p, vs, o0, rfl, rfl, ho, hp, hl, ha⟩
  · have hv : Ev (tVar 0) (start ["thing", "key", "part"] [.str z]) H H (R K (tS z)) := ev_var rfl (.a rfl)
    refine (et_B (ev_isi (c := "dict") hv (by decide) (by decide))).at (Same.refl _) fun S1 H1 g1 => ?_
    refine iteF ?_
    refine ((et_B (ev_isi2 (c := "list") (d := "tuple") hv (by decide) (by decide) (by decide) (by decide))).go g1).at g1.sub fun S2 H2 g2 => ?_
    refine iteF ?_
    have e := g1.h.trans g2.h
    exact q H2 ((Lng.of e).mono (Nat.zero_le _)) fun q o h h' => absurd (e _ _ h) h'
  obtain ⟨xs, rs⟩ := all_reps (K := K) fun u hu => (ha u hu).rep (K := K)
  have hN : vs.length ≤ N := hN p vs rfl (by
    rcases ho with ⟨rfl, _⟩ | rfl
    · exact .inl hp
    · exact .inr hp)
  have hF : Fs (m + 1) N B = ups (fun b => Fs m b b) B N + 1 := rfl
  have hle := ups_le (fun b => Fs m b b) B hN
  rcases ho with ⟨rfl, h0⟩ | rfl
  · have hv : Ev (tVar 0) (start ["thing", "key", "part"] [.ref p]) H H (R K (.l xs)) := ev_var rfl (.l hp rs)
    refine (et_B (ev_isi (c := "dict") hv (by decide) (by decide))).at (Same.refl _) fun S1 H1 g1 => ?_
    refine iteF ?_
    refine ((et_B (ev_isi2 (c := "list") (d := "tuple") hv (by decide) (by decide) (by decide) (by decide))).go g1).at g1.sub fun S2 H2 g2 => ?_
    refine iteT ?_
    have e := g1.h.trans g2.h
    show tFor (iSeq K (tVar 0)) _ _ _ _ _
    unfold tFor
    refine .inl ⟨.ref p, rfl, p, rfl, ⟨vs, sqL (Same.refl _) (e _ _ hp)⟩, ?_⟩
    refine spo_loop (D := { nx := _, rt := _ }) (.inl ⟨rfl, h0⟩) hp ha hl e (fun i H' h hi => ⟨vs, _, sqL (Same.refl _) h, List.getElem?_eq_getElem hi⟩) (fun i H' h hi => ⟨vs, sqL (Same.refl _) h, hi⟩) (fun i x H' H'' h hy => ⟨hy.1, hy.2 vs (sqL (Same.refl _) h)⟩) (by omega) fun y2 H' l1 hp1 md => ?_
    obtain ⟨xs2, rs2⟩ := all_reps (K := K) fun u hu => ((ha u hu).fwd l1).rep (K := K)
    have hv2 : Ev (tVar 0) [some (.ref p), none, y2] H' H' (R K (.l xs2)) := ev_var rfl (.l hp1 rs2)
    refine (et_B (ev_isi (c := "list") hv2 (by decide) (by decide))).at (Same.refl _) fun S3 H3 g3 => ?_
    refine iteT ?_
    have h3 := g3.h _ _ hp1
    refine ⟨.ref p, rfl, .inl ⟨rfl, vs, .inl (.inl h3)⟩, ?_⟩
    refine ⟨p, vs, lateV, rfl, rfl, h3, szl (by omega), ?_⟩
    refine q _ (fun q o h => ?_) (fun q o h h' => ?_)
    · by_cases hq : q = p
      · subst hq
        rw [hp] at h
        cases h
        exact .inr ⟨vs, 1, rfl, h0, by omega, by rw [upd_same]; rfl⟩
      · rw [upd_ne hq]
        rcases l1 q o h with h1 | ⟨us, k, e1, e2, hk, h1⟩
        · exact .inl (g3.h _ _ h1)
        · exact .inr ⟨us, k, e1, e2, by omega, g3.h _ _ h1⟩
    · by_cases hq : q = p
      · subst hq; exact .here
      · rw [upd_ne hq] at h'
        obtain ⟨u, hu, r⟩ := md q o h fun h1 => h' (g3.h _ _ h1)
        exact .there (.inl hp) hu r
  · have hv : Ev (tVar 0) (start ["thing", "key", "part"] [.ref p]) H H (R K (.t xs)) := ev_var rfl (.t hp rs)
    refine (et_B (ev_isi (c := "dict") hv (by decide) (by decide))).at (Same.refl _) fun S1 H1 g1 => ?_
    refine iteF ?_
    refine ((et_B (ev_isi2 (c := "list") (d := "tuple") hv (by decide) (by decide) (by decide) (by decide))).go g1).at g1.sub fun S2 H2 g2 => ?_
    refine iteT ?_
    have e := g1.h.trans g2.h
    show tFor (iSeq K (tVar 0)) _ _ _ _ _
    unfold tFor
    refine .inr ⟨.ref p, rfl, p, rfl, ⟨vs, sqT (Same.refl _) (e _ _ hp)⟩, ?_⟩
    refine spo_loop (D := { nx := _, rt := _ }) (.inr rfl) hp ha hl e (fun i H' h hi => ⟨vs, _, sqT (Same.refl _) h, List.getElem?_eq_getElem hi⟩) (fun i H' h hi => ⟨vs, sqT (Same.refl _) h, hi⟩) (fun i x H' H'' h hy => ⟨hy.1, hy.2 vs (sqT (Same.refl _) h)⟩) (by omega) fun y2 H' l1 hp1 md => ?_
    obtain ⟨xs2, rs2⟩ := all_reps (K := K) fun u hu => ((ha u hu).fwd l1).rep (K := K)
    have hv2 : Ev (tVar 0) [some (.ref p), none, y2] H' H' (R K (.t xs2)) := ev_var rfl (.t hp1 rs2)
    refine (et_B (ev_isi (c := "list") hv2 (by decide) (by decide))).at (Same.refl _) fun S3 H3 g3 => ?_
    refine iteF ?_
    refine q H3 (fun q o h => ?_) (fun q o h h' => ?_)
    · rcases l1 q o h with h1 | ⟨us, k, e1, e2, hk, h1⟩
      · exact .inl (g3.h _ _ h1)
      · exact .inr ⟨us, k, e1, e2, by omega, g3.h _ _ h1⟩
    · obtain ⟨u, hu, r⟩ := md q o h fun h1 => h' (g3.h _ _ h1)
      exact .there (.inr hp) hu r
theorem ok__law_spoiled (Z : Px K mg) : ∀ n, FnOk P w K mg base CX0 (n + 1) Z._law_spoiled.f Z._law_spoiled.fd ["thing"] (spS n)
  | 0 => law_spoiled_step Z 0 0 ⟨fun _ _ _ _ h => h.elim, fun A outer s H args us vs Q E hr e0 hb rv hsp => hsp.elim⟩
  | n + 1 => law_spoiled_step Z (n + 1) (n + 1) (ok__law_spoiled Z n)
end
end Uw
end
section
set_option Elab.async false
set_option linter.all false
set_option maxRecDepth 100000
set_option maxHeartbeats 2000000
namespace Uw
open PySem PySem.Spec PyProof.Rows L2 RZ
/-! ### what is handed to Book, loosened and in any order -/
def wordsAll : List Str := names10 ++ names4 ++ (["make", "bring", "show", "seal", "open", "copy", "wrap", "unwrap", "derive"] : List Str)
def okW (z : Str) : Prop := z ∈ wordsAll
theorem short_all : ∀ z ∈ wordsAll, (PyData.str z).shown.length ≤ 82 := by decide +kernel
theorem perm_map_of {α β : Type} {f : α → β} {bs cs : List β} (p : bs.Perm cs) : ∀ l : List α, bs = l.map f → ∃ l', l.Perm l' ∧ cs = l'.map f := by
  induction p with
  | nil =>
    intro l e
    exact ⟨l, .refl _, e⟩
  | @cons x bs cs p ih =>
    intro l e
    cases l with
    | nil => cases e
    | cons a l =>
      rw [List.map_cons] at e
      obtain ⟨e1, e2⟩ := List.cons.inj e
      obtain ⟨l', p', e'⟩ := ih l e2
      exact ⟨a :: l', p'.cons a, by rw [List.map_cons, e1, e']⟩
  | swap x y bs =>
    intro l e
    match l, e with
    | a :: a2 :: l, e =>
      rw [List.map_cons, List.map_cons] at e
      obtain ⟨e1, e2⟩ := List.cons.inj e
      obtain ⟨e2, e3⟩ := List.cons.inj e2
      exact ⟨a2 :: a :: l, List.Perm.swap _ _ _, by rw [List.map_cons, List.map_cons, e1, e2, e3]⟩
  | trans p1 p2 ih1 ih2 =>
    intro l e
    obtain ⟨l1, q1, e1⟩ := ih1 l e
    obtain ⟨l2, q2, e2⟩ := ih2 l1 e1
    exact ⟨l2, q1.trans q2, e2⟩
def Rel (x y : T) : Prop := ∃ zs, y.loose = (T.l zs).loose ∧ zs.Perm x.items
theorem looses_mem {xs : List T} {z : T} (h : z ∈ xs) : z.loose ∈ looses xs := by
  rw [looses_map]
  exact List.mem_map_of_mem h
theorem dimW.loose {Pr : Str → Prop} {B : Nat} : ∀ {n : Nat} {x : T}, dimW Pr n B x → dimW Pr n B x.loose
  | 0, _, ⟨z, h, e⟩ => ⟨z, h, by subst e; rfl⟩
  | n + 1, _, .inl ⟨z, h, e⟩ => .inl ⟨z, h, by subst e; rfl⟩
  | n + 1, _, .inr ⟨xs, e, l, a⟩ => .inr ⟨looses xs, .inl (by rcases e with rfl | rfl <;> rfl), by rw [len_lo]; exact l, fun y hy => by
    rw [looses_map] at hy
    obtain ⟨x, hx, rfl⟩ := List.mem_map.mp hy
    exact (a x hx).loose⟩
theorem dimW.of_loose {Pr : Str → Prop} {B : Nat} : ∀ {n : Nat} {x : T}, dimW Pr n B x.loose → dimW Pr n B x
  | 0, x, ⟨z, h, e⟩ => ⟨z, h, loose_a e⟩
  | n + 1, x, .inl ⟨z, h, e⟩ => .inl ⟨z, h, loose_a e⟩
  | n + 1, x, .inr ⟨xs, e, l, a⟩ => by
    have key : ∀ ys : List T, (T.l (looses ys) = .l xs ∨ T.l (looses ys) = .t xs) → ys.length ≤ B ∧ ∀ y ∈ ys, dimW Pr n B y := fun ys h => by
      have h : looses ys = xs := by
        rcases h with h | h
        · exact T.l.inj h
        · cases h
      subst h
      rw [len_lo] at l
      exact ⟨l, fun y hy => dimW.of_loose (a _ (looses_mem hy))⟩
    cases x with
    | a v => rcases e with e | e <;> cases e
    | l ys => obtain ⟨k1, k2⟩ := key ys e; exact .inr ⟨ys, .inl rfl, k1, k2⟩
    | t ys => obtain ⟨k1, k2⟩ := key ys e; exact .inr ⟨ys, .inr rfl, k1, k2⟩
    | d _ => rcases e with e | e <;> cases e
theorem dimW.dim {Pr : Str → Prop} {B : Nat} : ∀ {n : Nat} {x : T}, dimW Pr n B x → dim n B x
  | 0, _, ⟨z, h, e⟩ => ⟨z, e⟩
  | n + 1, _, .inl ⟨z, h, e⟩ => .inl ⟨z, e⟩
  | n + 1, _, .inr ⟨xs, e, l, a⟩ => .inr ⟨xs, e, l, fun y hy => (a y hy).dim⟩
theorem dimW_names {zs : List Str} {B : Nat} {x : T} (hx : x = .l (zs.map tS) ∨ x = .t (zs.map tS)) (h : ∀ z ∈ zs, okW z) (l : zs.length ≤ B) : dimW okW 1 B x := .inr ⟨zs.map tS, hx, by rw [List.length_map]; exact l, fun y hy => by
  obtain ⟨z, hz, rfl⟩ := List.mem_map.mp hy
  exact ⟨z, h z hz, rfl⟩⟩
theorem ten_w {z : Str} (h : z ∈ names10) : okW z := List.mem_append_left _ (List.mem_append_left _ h)
theorem four_w {z : Str} (h : z ∈ names4) : okW z := List.mem_append_left _ (List.mem_append_right _ h)
theorem word_w {z : Str} (h : z ∈ (["make", "bring", "show", "seal", "open", "copy", "wrap", "unwrap", "derive"] : List Str)) : okW z := List.mem_append_right _ h
theorem okP_w {rs ls p : List Str} (hr : ∀ z ∈ rs, z ∈ names10) (hl : ∀ z ∈ ls, z ∈ names4) (h : okP rs ls p) : ∀ z ∈ p, okW z := by
  have s1 : ∀ w ∈ (["make", "bring", "show", "seal", "open"] : List Str), w ∈ (["make", "bring", "show", "seal", "open", "copy", "wrap", "unwrap", "derive"] : List Str) := by decide +kernel
  have s2 : ∀ w ∈ (["copy", "wrap", "unwrap"] : List Str), w ∈ (["make", "bring", "show", "seal", "open", "copy", "wrap", "unwrap", "derive"] : List Str) := by decide +kernel
  rcases h with ⟨w, r, rfl, h1, h2⟩ | ⟨w, r, s, rfl, h1, h2, h3⟩ | ⟨r, x, s, rfl, h1, h2, h3⟩ <;> intro z hz <;> simp only [List.mem_cons, List.not_mem_nil, or_false] at hz
  · rcases hz with rfl | rfl
    · exact word_w (s1 _ h1)
    · exact ten_w (hr _ h2)
  · rcases hz with rfl | rfl | rfl
    · exact word_w (s2 _ h1)
    · exact ten_w (hr _ h2)
    · exact ten_w (hr _ h3)
  · rcases hz with rfl | rfl | rfl | rfl
    · exact word_w (by decide +kernel)
    · exact ten_w (hr _ h1)
    · exact four_w (hl _ h2)
    · exact ten_w (hr _ h3)
structure Ready (b : Raw) (y0 y1 y2 : T) : Prop where
  n0 : namesSize y0
  n1 : namesSize y1
  n2 : permitsSize y2
  l0 : y0.items.length < 64
  l1 : y1.items.length < 64
  bk : bookOf y0 y1 y2 = .ok b.rs b.ls b.ps
  d0 : dimW okW 2 60 y0
  d1 : dimW okW 2 60 y1
  d2 : dimW okW 2 60 y2
theorem rel_refl (zs : List T) : Rel (.l zs) (.l zs) := ⟨zs, rfl, .refl _⟩
theorem rel_strs {zs : List Str} {y : T} (h : Rel (.l (zs.map tS)) y) : ∃ ws : List Str, ws.Perm zs ∧ (y = .l (ws.map tS) ∨ y = .t (ws.map tS)) := by
  obtain ⟨us, e, p⟩ := h
  obtain ⟨ws, rfl, pw⟩ := perm_strs p
  refine ⟨ws, pw, loose_strs (e.trans ?_)⟩
  show T.l (looses (ws.map tS)) = _
  rw [looses_map, List.map_map]
  rfl
theorem ready {b : Raw} {n : Nat} (hb : b.Ok n) (hn : n ≤ 60) {y0 y1 y2 : T} (h0 : Rel (.l (b.rs.map tS)) y0) (h1 : Rel (.l (b.ls.map tS)) y1) (h2 : Rel (.l (b.ps.map tT)) y2) : Ready b y0 y1 y2 := by
  have lrs := someOf_len hb.rs
  have lls := someOf_len hb.ls
  have e10 : names10.length = 10 := rfl
  have e04 : names4.length = 4 := rfl
  obtain ⟨ws, pw, e0⟩ := rel_strs h0
  obtain ⟨us, pu, e1⟩ := rel_strs h1
  obtain ⟨zs, e2, pz⟩ := h2
  obtain ⟨qs, pq, rfl⟩ := perm_map_of pz.symm b.ps rfl
  have lw : ws.length ≤ 10 := by rw [pw.length_eq]; omega
  have lu : us.length ≤ 4 := by rw [pu.length_eq]; omega
  have lq : qs.length ≤ 60 := by rw [← pq.length_eq]; have := hb.few; omega
  have i0 : y0.items = ws.map tS := by rcases e0 with rfl | rfl <;> rfl
  have i1 : y1.items = us.map tS := by rcases e1 with rfl | rfl <;> rfl
  have lo0 : y0.loose = (T.l (ws.map tS)).loose := by rcases e0 with rfl | rfl <;> rfl
  have lo1 : y1.loose = (T.l (us.map tS)).loose := by rcases e1 with rfl | rfl <;> rfl
  have okq : ∀ p ∈ qs, okP b.rs b.ls p := fun p hp => hb.ok p (pq.symm.subset hp)
  have li2 : looses y2.items = looses (qs.map tT) := by
    have := congrArg T.items e2
    rw [items_lo] at this
    exact this
  have ln2 : y2.items.length = qs.length := by
    have := congrArg List.length li2
    rw [len_lo, len_lo, List.length_map] at this
    exact this
  refine ⟨⟨by rw [i0, List.length_map]; omega, ?_⟩, ⟨by rw [i1, List.length_map]; omega, ?_⟩, ⟨by omega, fun z hz => ?_⟩, by rw [i0, List.length_map]; omega, by rw [i1, List.length_map]; omega, ?_, ?_, ?_, ?_⟩
  · rw [i0]
    exact sizes_strs fun z hz => (ten_named z (hb.rs.2.2 z (pw.subset hz))).2.2.2.2
  · rw [i1]
    exact sizes_strs fun z hz => (four_named z (hb.ls.2.2 z (pu.subset hz))).2
  · have hm := looses_mem hz
    rw [li2, looses_map] at hm
    obtain ⟨t, ht, e⟩ := List.mem_map.mp hm
    obtain ⟨p, hp, rfl⟩ := List.mem_map.mp ht
    have e3 := congrArg (fun t => (T.items t).length) e
    have e3 : (tT p).loose.items.length = z.loose.items.length := e3
    rw [items_lo, items_lo, len_lo, len_lo] at e3
    have : (tT p).items.length = p.length := List.length_map ..
    have := okP_len (okq p hp)
    omega
  · rw [bookOf_same lo0 lo1 e2]
    have r1 : (T.l (ws.map tS)).okRoles = true := by rw [okRoles_perm pw]; exact raw_roles hb
    have r2 : (T.l (us.map tS)).areNames = true := by rw [areNames_perm pu]; exact raw_labels hb
    have r3 : (T.l (qs.map tT)).items.map (readP (strsOf (T.l (ws.map tS)).items) (strsOf (T.l (us.map tS)).items)) = qs.map some := by
      show (qs.map tT).map (readP (strsOf (ws.map tS)) (strsOf (us.map tS))) = qs.map some
      rw [List.map_map, strsOf_map, strsOf_map]
      refine List.map_congr_left fun p hp => ?_
      show readP ws us (tT p) = some p
      rw [readP_perm pw pu]
      exact readP_okP (okq p hp) (.inl rfl)
    rw [bookOf_ok r1 r2 rfl r3 (pq.nodup hb.nd)]
    have s1 : isort strO (strsOf (T.l (ws.map tS)).items) = b.rs := by
      show isort strO (strsOf (ws.map tS)) = b.rs
      rw [strsOf_map]
      exact (isort_eq pw.symm hb.rs.1).symm
    have s2 : isort strO (strsOf (T.l (us.map tS)).items) = b.ls := by
      show isort strO (strsOf (us.map tS)) = b.ls
      rw [strsOf_map]
      exact (isort_eq pu.symm hb.ls.1).symm
    rw [s1, s2, ← isort_eq pq hb.up]
  · refine (dimW.of_loose ?_ : dimW okW 2 60 y0)
    rw [lo0]
    exact ((dimW_names (.inl rfl) (fun z hz => ten_w (hb.rs.2.2 z (pw.subset hz))) (by omega)).up).loose
  · refine (dimW.of_loose ?_ : dimW okW 2 60 y1)
    rw [lo1]
    exact ((dimW_names (.inl rfl) (fun z hz => four_w (hb.ls.2.2 z (pu.subset hz))) (by omega)).up).loose
  · refine (dimW.of_loose ?_ : dimW okW 2 60 y2)
    rw [e2]
    refine dimW.loose (.inr ⟨qs.map tT, .inl rfl, by rw [List.length_map]; exact lq, fun y hy => ?_⟩)
    obtain ⟨p, hp, rfl⟩ := List.mem_map.mp hy
    exact dimW_names (.inr rfl) (okP_w hb.rs.2.2 hb.ls.2.2 (okq p hp)) (by have := okP_len (okq p hp); omega)
/-- how long repr tells it -/
theorem shown3 {y0 y1 y2 : T} (h0 : dimW okW 2 60 y0) (h1 : dimW okW 2 60 y1) (h2 : dimW okW 2 60 y2) : (T.l [y0, y1, y2]).dat.shown.length ≤ sizeLine := by
  have a0 : ∀ {x : T}, dimW okW 0 60 x → x.dat.shown.length ≤ 82 := fun {x} h => by
    obtain ⟨z, hz, rfl⟩ := h
    exact short_all z hz
  have a1 : ∀ {x : T}, dimW okW 1 60 x → x.dat.shown.length ≤ 60 * 84 + 3 := fun {x} h => by
    rcases h with h | ⟨xs, e, l, a⟩
    · obtain ⟨z, hz, rfl⟩ := h
      have := short_all z hz
      show (PyData.str z).shown.length ≤ _
      omega
    · have := shown_seq (M := 82) e fun y hy => a0 (a y hy)
      have := Nat.mul_le_mul_right 84 l
      omega
  have a2 : ∀ {x : T}, dimW okW 2 60 x → x.dat.shown.length ≤ 60 * 5045 + 3 := fun {x} h => by
    rcases h with h | ⟨xs, e, l, a⟩
    · obtain ⟨z, hz, rfl⟩ := h
      have := short_all z hz
      show (PyData.str z).shown.length ≤ _
      omega
    · have := shown_seq (M := 5043) e fun y hy => a1 (a y hy)
      have := Nat.mul_le_mul_right 5045 l
      omega
  have := shown_seq (M := 302703) (x := .l [y0, y1, y2]) (.inl rfl) fun y hy => by
    simp only [List.mem_cons, List.not_mem_nil, or_false] at hy
    rcases hy with rfl | rfl | rfl
    · exact a2 h0
    · exact a2 h1
    · exact a2 h2
  have e3 : [y0, y1, y2].length = 3 := rfl
  rw [e3] at this
  have : sizeLine = 16777216 := sizeLine_eq
  omega
theorem dimW3 {y0 y1 y2 : T} (h0 : dimW okW 2 60 y0) (h1 : dimW okW 2 60 y1) (h2 : dimW okW 2 60 y2) : dimW okW 3 60 (.l [y0, y1, y2]) := .inr ⟨_, .inl rfl, by show 3 ≤ 60; decide, fun y hy => by
  simp only [List.mem_cons, List.not_mem_nil, or_false] at hy
  rcases hy with rfl | rfl | rfl
  · exact h0
  · exact h1
  · exact h2⟩
/-! ### what stands when new lists were made longer -/
def noL (H0 S : Hp) : Hp := fun p => match S p with
  | some (.lst vs) => if (H0 p).isNone then none else some (.lst vs)
  | o => o
theorem noL_le {H0 S : Hp} : Same (noL H0 S) S := fun p u h => by
  unfold noL at h
  cases q : S p with
  | none => rw [q] at h; cases h
  | some o =>
    rw [q] at h
    cases o with
    | lst vs =>
      have h : (if (H0 p).isNone then none else some (HO.lst vs)) = some u := h
      cases hq : (H0 p).isNone with
      | true => rw [hq] at h; cases h
      | false => rw [hq] at h; exact h
    | _ => exact h
theorem noL_oth {H0 S : Hp} {p : Addr} {o : HO} (h : S p = some o) (n : ∀ vs, o ≠ .lst vs) : noL H0 S p = some o := by
  unfold noL
  rw [h]
  cases o with
  | lst vs => exact absurd rfl (n vs)
  | _ => rfl
theorem noL_old {H0 S : Hp} {p : Addr} {o u : HO} (h : S p = some o) (n : H0 p = some u) : noL H0 S p = some o := by
  unfold noL
  rw [h, n]
  cases o <;> rfl
theorem noL_new {H0 S : Hp} {p : Addr} {vs : List V} (h : noL H0 S p = some (.lst vs)) : H0 p ≠ none := by
  have h2 := noL_le p _ h
  unfold noL at h
  rw [h2] at h
  intro e
  rw [e] at h
  cases h
theorem Stp.spoil {S H S2 H2 H3 : Hp} {w : Addr} {c n c1 a : Nat} (e : Same S H) (st : Stp S H w c n S2 H2 c1) (l : Lng H a H2 H3) : Stp S H w c n (noL H S2) H3 c1 := by
  have keep : ∀ p u, H2 p = some u → H p ≠ none → H3 p = some u := fun p u h hn => by
    rcases l p u h with h | ⟨_, _, _, h0, _⟩
    · exact h
    · exact absurd h0 hn
  obtain ⟨a1, ⟨o1, a2⟩, ⟨o, g⟩, hw, hle⟩ := st
  have hwn : H w ≠ none := by rw [a2]; exact fun h => by cases h
  refine ⟨a1, ⟨o1, a2⟩, ⟨o, ⟨fun p u h => ?_, fun p u h => ?_, fun p u h => ?_, fun p u h => g.new p u (noL_le _ _ h)⟩⟩, ?_, hle⟩
  · refine keep p u (g.h _ _ h) ?_
    by_cases hp : p = w
    · rw [hp]; exact hwn
    · rw [upd_ne hp] at h
      rw [h]
      exact fun h => by cases h
  · exact noL_old (g.s _ _ h) (e _ _ h)
  · have h2 := noL_le _ _ h
    rcases l p u (g.sub _ _ h2) with h3 | ⟨vs, _, rfl, h0, _⟩
    · exact h3
    · exact absurd h0 (noL_new h)
  · obtain ⟨b1, b2, h, r⟩ := hw
    exact ⟨b1, b2, keep _ _ h hwn, r⟩
theorem IsBook.noL {C : Addr} {rs ls : List Str} {ps : List (List Str)} {H0 S : Hp} {v : V} (h : (IsBook C rs ls ps).P S v) : (IsBook C rs ls ps).P (noL H0 S) v := by
  obtain ⟨x, dx, a, b, c, e, h1, h2, h3, h4⟩ := h
  exact ⟨x, dx, a, b, c, e, noL_oth h1 (fun _ h => by cases h), noL_oth h2 (fun _ h => by cases h), noL_oth h3 (fun _ h => by cases h), noL_oth h4 (fun _ h => by cases h)⟩
end Uw
end
section
set_option Elab.async false
set_option linter.all false
set_option maxRecDepth 100000
set_option maxHeartbeats 2000000
namespace Uw
open PySem PySem.Spec PyProof.Rows L2 RZ
/-! ### books beside a book -/
theorem sameL_ne {α : Type} [DecidableEq α] {xs ys : List α} (h : xs.length ≠ ys.length) : sameL xs ys = false := by
  unfold sameL
  rw [decide_eq_false h]
  rfl
theorem sameL_of {α : Type} [DecidableEq α] {xs ys : List α} {b : Bool} (nd : xs.Nodup) (h : b = true ↔ xs.Perm ys) : sameL xs ys = b := by
  have k := sameL_perm (ys := ys) nd
  cases b with
  | true => exact k.mpr (h.mp rfl)
  | false => exact Bool.eq_false_iff.mpr fun e => by have := h.mpr (k.mp e); cases this
theorem sameL_self {α : Type} [DecidableEq α] {xs : List α} (nd : xs.Nodup) : sameL xs xs = true := (sameL_perm nd).mpr (.refl _)
theorem sameB_self {rs ls : List Str} {ps : List (List Str)} (n1 : rs.Nodup) (n2 : ls.Nodup) (n3 : ps.Nodup) : sameB rs ls ps rs ls ps = true := by
  unfold sameB
  rw [sameL_self n1, sameL_self n2, sameL_self n3]
  rfl
theorem sameB_ps {rs ls : List Str} {ps qs : List (List Str)} (n1 : rs.Nodup) (n2 : ls.Nodup) : sameB rs ls ps rs ls qs = sameL ps qs := by
  unfold sameB
  rw [sameL_self n1, sameL_self n2]
  rfl
theorem sameB_rs {rs rs' ls ls' : List Str} {ps ps' : List (List Str)} (h : rs.length ≠ rs'.length) : sameB rs ls ps rs' ls' ps' = false := by
  unfold sameB
  rw [sameL_ne h]
  rfl
theorem sameB_ls {rs rs' ls ls' : List Str} {ps ps' : List (List Str)} (h : ls.length ≠ ls'.length) : sameB rs ls ps rs' ls' ps' = false := by
  unfold sameB
  rw [sameL_ne h, Bool.false_and, Bool.and_false]
/-- without m, and m behind -/
def lastM (m : List Str) (ps : List (List Str)) : List (List Str) := ps.filter (fun p => !decide (p = m)) ++ [m]
theorem lastM_nd {m : List Str} {ps : List (List Str)} (nd : ps.Nodup) : (lastM m ps).Nodup := by
  refine List.nodup_append.mpr ⟨nd.filter _, List.nodup_cons.mpr ⟨List.not_mem_nil, List.nodup_nil⟩, fun a ha b hb e => ?_⟩
  rw [List.mem_singleton.mp hb] at e
  have := (List.mem_filter.mp ha).2
  rw [e] at this
  simp at this
theorem lastM_perm {m : List Str} {ps : List (List Str)} (nd : ps.Nodup) : decide (m ∈ ps) = true ↔ (lastM m ps).Perm ps := by
  constructor
  · intro h
    have h : m ∈ ps := of_decide_eq_true h
    have s1 : ∀ x ∈ lastM m ps, x ∈ ps := fun x hx => by
      rcases List.mem_append.mp hx with hx | hx
      · exact (List.mem_filter.mp hx).1
      · rw [List.mem_singleton.mp hx]; exact h
    have s2 : ∀ x ∈ ps, x ∈ lastM m ps := fun x hx => by
      by_cases e : x = m
      · exact List.mem_append_right _ (List.mem_singleton.mpr e)
      · exact List.mem_append_left _ (List.mem_filter.mpr ⟨hx, by rw [decide_eq_false e]; rfl⟩)
    exact perm_of_sub (lastM_nd nd) s1 (List.Nodup.length_le_of_subset nd s2)
  · intro p
    exact decide_eq_true (p.subset (List.mem_append_right _ (List.mem_singleton.mpr rfl)))
theorem tail_perm {ps : List (List Str)} : decide (ps = []) = true ↔ (ps.drop 1).Perm ps := by
  cases ps with
  | nil => exact ⟨fun _ => .nil, fun _ => rfl⟩
  | cons p ps =>
    constructor
    · intro h
      have := of_decide_eq_true h
      cases this
    · intro h
      have := h.length_eq
      simp at this
theorem okP_more {rs ls rs' ls' p : List Str} (h : okP rs ls p) (hr : ∀ z ∈ rs, z ∈ rs') (hl : ∀ z ∈ ls, z ∈ ls') : okP rs' ls' p := by
  rcases h with ⟨w, r, rfl, h1, h2⟩ | ⟨w, r, s, rfl, h1, h2, h3⟩ | ⟨r, x, s, rfl, h1, h2, h3⟩
  · exact .inl ⟨w, r, rfl, h1, hr _ h2⟩
  · exact .inr (.inl ⟨w, r, s, rfl, h1, hr _ h2, hr _ h3⟩)
  · exact .inr (.inr ⟨r, x, s, rfl, hr _ h1, hl _ h2, hr _ h3⟩)
theorem book_of {rs ls : List Str} {ps : List (List Str)} (hr : (T.l (rs.map tS)).okRoles = true) (hl : (T.l (ls.map tS)).areNames = true) (hp : ∀ p ∈ ps, okP rs ls p) (nd : ps.Nodup) :
    bookOf (.l (rs.map tS)) (.l (ls.map tS)) (.l (ps.map tT)) = .ok (isort strO rs) (isort strO ls) (isort tupO ps) := by
  have r3 : (T.l (ps.map tT)).items.map (readP (strsOf (T.l (rs.map tS)).items) (strsOf (T.l (ls.map tS)).items)) = ps.map some := by
    show (ps.map tT).map (readP (strsOf (rs.map tS)) (strsOf (ls.map tS))) = ps.map some
    rw [List.map_map, strsOf_map, strsOf_map]
    exact List.map_congr_left fun p h => readP_okP (hp p h) (.inl rfl)
  have e := bookOf_ok (c := .l (ps.map tT)) hr hl rfl r3 nd
  have e1 : strsOf (T.l (rs.map tS)).items = rs := strsOf_map rs
  have e2 : strsOf (T.l (ls.map tS)).items = ls := strsOf_map ls
  rw [e1, e2] at e
  exact e
theorem roles_of {zs : List Str} (h : ∀ z ∈ zs, isNameS z = true ∧ isKnown (tS z) = false) (nd : zs.Nodup) : (T.l (zs.map tS)).okRoles = true := by
  unfold T.okRoles
  rw [names_l, Bool.and_eq_true, Bool.and_eq_true]
  refine ⟨⟨List.all_eq_true.mpr fun z hz => (h z hz).1, decide_eq_true nd⟩, ?_⟩
  show (!(zs.map tS).any isKnown) = true
  rw [List.any_map, Bool.not_eq_true', List.any_eq_false]
  exact fun z hz => by
    show ¬ isKnown (tS z) = true
    rw [(h z hz).2]
    exact Bool.false_ne_true
theorem names_of {zs : List Str} (h : ∀ z ∈ zs, isNameS z = true) (nd : zs.Nodup) : (T.l (zs.map tS)).areNames = true := by
  rw [names_l, Bool.and_eq_true]
  exact ⟨List.all_eq_true.mpr h, decide_eq_true nd⟩
theorem zz9_named : isNameS "zz9" = true ∧ isKnown (tS "zz9") = false := by decide +kernel
theorem four_zz9 : ∀ z ∈ names4, z ≠ "zz9" := by decide +kernel
theorem size_strs {zs : List Str} (h : ∀ z ∈ zs, z.length ≤ 100000) (l : zs.length < 4000) : namesSize (.l (zs.map tS)) := ⟨by show (zs.map tS).length < 4000; rw [List.length_map]; exact l, sizes_strs h⟩
theorem size_tups {rs ls : List Str} {ps : List (List Str)} (h : ∀ p ∈ ps, okP rs ls p) (l : ps.length ≤ 10000) : permitsSize (.l (ps.map tT)) := ⟨by show (ps.map tT).length ≤ 10000; rw [List.length_map]; exact l, fun z hz => by
  obtain ⟨p, hp, rfl⟩ := List.mem_map.mp hz
  have := okP_len (h p hp)
  show (p.map tS).length ≤ 50000
  rw [List.length_map]
  omega⟩
section
variable {K : PySem.W.Frag} {mg : Str → Option Value} {σ : L2.St} {S H : Hp} {ta tb : TE} {rs ls rs' ls' : List Str} {ps ps' : List (List Str)}
theorem oth_book {C : Addr} {v : V} (e : Same S H) (h : (IsBook C rs ls ps).P S v) : Oth K C H v := by
  obtain ⟨x, dx, a, b, c, rfl, h1, _⟩ := h
  exact .ins (e _ _ h1)
theorem ev_ownEqB {C : Addr} (ha : Ev ta σ S H (IsBook C rs ls ps)) (hb : Ev tb σ S H (IsBook C rs' ls' ps')) : Ev (tOp (rOwnEq K C (spEqB K C) L2.E0) ta tb) σ S H (Is (.bl (sameB rs ls ps rs' ls' ps'))) :=
  ev_op ha hb fun u v S1 H1 g e1 e2 Q q => by
    have e1' := e1
    obtain ⟨x, dx, a, b, c, rfl, h1, _⟩ := e1
    exact ⟨x, dx, _, rfl, g.sub _ _ h1, oth_book g.sub e2, S1, _, v, rs, ls, ps, _, rfl, g.sub, e1', .book rs' ls' ps' e2, fun S' H' g' => ⟨_, rfl, q _ S' H' g' rfl⟩⟩
theorem ev_ownNeB {C : Addr} (ha : Ev ta σ S H (IsBook C rs ls ps)) (hb : Ev tb σ S H (IsBook C rs' ls' ps')) : Ev (tOp (rOwnNe K C (spEqB K C) L2.E0) ta tb) σ S H (Is (.bl (!sameB rs ls ps rs' ls' ps'))) :=
  ev_op ha hb fun u v S1 H1 g e1 e2 Q q => by
    have e1' := e1
    obtain ⟨x, dx, a, b, c, rfl, h1, _⟩ := e1
    exact ⟨x, dx, _, rfl, g.sub _ _ h1, oth_book g.sub e2, S1, _, v, rs, ls, ps, _, rfl, g.sub, e1', .book rs' ls' ps' e2, fun S' H' g' => ⟨_, rfl, q _ S' H' g' rfl⟩⟩
theorem ev_ownEqT {C : Addr} {xs : List T} (n : PySem.W.notFirst K C (.type "tuple") = true) (ha : Ev ta σ S H (IsBook C rs ls ps)) (hb : Ev tb σ S H (R K (.t xs))) : Ev (tOp (rOwnEq K C (spEqB K C) L2.E0) ta tb) σ S H (Is (.bl false)) :=
  ev_op ha hb fun u v S1 H1 g e1 e2 Q q => by
    have e1' := e1
    obtain ⟨x, dx, a, b, c, rfl, h1, _⟩ := e1
    have r : Rep K S1 v (.t xs) := e2
    have r2 := r
    cases r2 with
    | t hp _ => exact ⟨x, dx, _, rfl, g.sub _ _ h1, .tup (g.sub _ _ hp) n, S1, _, _, rs, ls, ps, _, rfl, g.sub, e1', .tup xs r, fun S' H' g' => ⟨_, rfl, q _ S' H' g' rfl⟩⟩
theorem ev_ownEqI {C : Addr} {i : Int} (n : PySem.W.notFirst K C (.type "int") = true) (ha : Ev ta σ S H (IsBook C rs ls ps)) (hb : Ev tb σ S H (Is (.int i))) : Ev (tOp (rOwnEq K C (spEqB K C) L2.E0) ta tb) σ S H (Is (.bl false)) :=
  ev_op ha hb fun u v S1 H1 g e1 e2 Q q => by
    have e1' := e1
    have e2 : v = .int i := e2
    subst e2
    obtain ⟨x, dx, a, b, c, rfl, h1, _⟩ := e1
    exact ⟨x, dx, _, rfl, g.sub _ _ h1, .int i n, S1, _, _, rs, ls, ps, _, rfl, g.sub, e1', .int i, fun S' H' g' => ⟨_, rfl, q _ S' H' g' rfl⟩⟩
theorem wk_all {a : Addr} {vs : List V} {it : Nat → Pd} (h : S a = some (.lst vs)) (r : ∀ i v, vs[i]? = some v → (it i).P S v) : Wk (Itl K a) S vs.length it where
  go := fun {S' H'} i e e' hi => ⟨vs, _, sqL (e.trans e') h, List.getElem?_eq_getElem hi⟩
  yld := fun {S' H'} i x H2 e e' hi y => by
    obtain ⟨rfl, y⟩ := y
    exact ⟨S', .refl e', (it i).mo e (r i x (y vs (sqL (e.trans e') h)))⟩
  stop := fun {S' H'} e e' => ⟨vs, sqL (e.trans e') h, Nat.le_refl _⟩
theorem ei_all {a : Addr} {vs : List V} {it : Nat → Pd} (h : S a = some (.lst vs)) (r : ∀ i v, vs[i]? = some v → (it i).P S v) (ha : Ev ta σ S H (Is (.ref a))) : EvI (iSeq K ta) σ S H vs.length it := fun S1 H1 g Q q => .inl (ha S1 H1 g _ fun v S2 H2 g2 e => by
  have e : v = .ref a := e
  have s := g.s.trans g2.s
  exact ⟨a, e, ⟨vs, sqL g2.sub (s _ _ h)⟩, q _ S2 H2 g2 (wk_all (s _ _ h) fun i v hv => (it i).mo s (r i v hv))⟩)
end
end Uw
end
section
set_option Elab.async false
set_option linter.all false
set_option maxRecDepth 100000
set_option maxHeartbeats 2000000
namespace Uw
open PySem PySem.Spec PyProof.Rows L2 RZ
theorem okSs_all : ∀ {xs : List T}, (∀ x ∈ xs, x.okS = true) → okSs xs = true
  | [], _ => rfl
  | x :: xs, h => by
    show (x.okS && okSs xs) = true
    rw [h x List.mem_cons_self, okSs_all fun y hy => h y (List.mem_cons_of_mem _ hy)]
    rfl
theorem deeps_le {n : Nat} : ∀ {xs : List T}, (∀ x ∈ xs, x.deep ≤ n) → deeps xs ≤ n
  | [], _ => Nat.zero_le _
  | x :: xs, h => Nat.max_le.mpr ⟨h x List.mem_cons_self, deeps_le fun y hy => h y (List.mem_cons_of_mem _ hy)⟩
theorem sizess_all : ∀ {xs : List T}, (∀ x ∈ xs, x.sizes) → sizess xs
  | [], _ => trivial
  | x :: xs, h => ⟨h x List.mem_cons_self, sizess_all fun y hy => h y (List.mem_cons_of_mem _ hy)⟩
theorem dimW_same {Pr : Str → Prop} {B : Nat} (hB : B ≤ 40000) : ∀ {n : Nat} {x : T}, dimW Pr n B x → x.okS = true ∧ x.deep ≤ n ∧ x.sizes
  | 0, _, ⟨z, _, e⟩ => by subst e; exact ⟨rfl, Nat.le_refl _, trivial⟩
  | n + 1, _, .inl ⟨z, _, e⟩ => by subst e; exact ⟨rfl, Nat.zero_le _, trivial⟩
  | n + 1, _, .inr ⟨xs, e, l, a⟩ => by
    have k1 := okSs_all fun y hy => (dimW_same hB (a y hy)).1
    have k2 := deeps_le fun y hy => (dimW_same hB (a y hy)).2.1
    have k3 := sizess_all fun y hy => (dimW_same hB (a y hy)).2.2
    rcases e with rfl | rfl <;> exact ⟨k1, Nat.succ_le_succ k2, ⟨by omega, k3⟩⟩
theorem okSame_dim {Pr : Str → Prop} {x : T} (h : dimW Pr 3 60 x) : okSame 6 x x := by
  obtain ⟨h1, h2, h3⟩ := dimW_same (by decide) h
  exact ⟨h1, h1, by omega, h3, h3⟩
theorem repsN_strs {K : PySem.W.Frag} {S S2 : Hp} : ∀ {us : List V} {zs : List Str}, Reps K S us (zs.map tS) → Reps K S2 us (zs.map tS)
  | _, [], r => by cases r; exact .nil
  | _, z :: zs, r => by
    cases r with
    | cons a r =>
      obtain ⟨rfl, h⟩ := Rep.flat a
      exact .cons (.a h) (repsN_strs r)
theorem repsN_tups {K : PySem.W.Frag} {H S : Hp} : ∀ {us : List V} {ps : List (List Str)}, Reps K S us (ps.map tT) → Reps K (frs H S) us (ps.map tT)
  | _, [], r => by cases r; exact .nil
  | _, z :: zs, r => by
    cases r with
    | cons a r =>
      cases a with
      | t hp ra => exact .cons (.t (frs_oth hp (fun _ h => by cases h)) (repsN_strs ra)) (repsN_tups r)
theorem new_strs {K : PySem.W.Frag} {H S : Hp} {u : V} {zs : List Str} (r : Rep K S u (.l (zs.map tS))) (n : ∀ l, u = .ref l → H l = none) : Rep K (frs H S) u (.l (zs.map tS)) := by
  cases r with
  | l hp rs => exact .l (frs_lst hp (n _ rfl)) (repsN_strs rs)
theorem new_tups {K : PySem.W.Frag} {H S : Hp} {u : V} {ps : List (List Str)} (r : Rep K S u (.l (ps.map tT))) (n : ∀ l, u = .ref l → H l = none) : Rep K (frs H S) u (.l (ps.map tT)) := by
  cases r with
  | l hp rs => exact .l (frs_lst hp (n _ rfl)) (repsN_tups rs)
section
variable {P : Program} {w : World} {K : PySem.W.Frag} {mg : Str → Option Value} {base : Heap}
theorem op_inDK {X : Cx} (hu : X.A.units + 65 < cLine) (h : X.K = K := by rfl) : OpR X (compareOp .In) (rInD K) := h ▸ op_inD hu
section
variable {X : Cx} {CX : CXT} {n : Nat} {C f : Addr} {fd : FuncData} {ps : List Str} {sp : Sp} {E : XK}
theorem op_ownEqK (F : FnOk X.prog X.w X.K X.mg X.base CX n f fd ps sp) (hr : Room n X.A) (hs : PySem.W.findIn X.K (.ref C) "__eq__" = some (some (.ref f))) (hf : PySem.W.isFn X.K (.ref f) = true) (hb : Binds X.K fd ps []) (hx : Passes CX X E) (h : X.K = K := by rfl) :
    OpR X (compareOp .Eq) (rOwnEq K C sp E) := h ▸ op_ownEq F hr hs hf hb hx
theorem op_ownNeK (F : FnOk X.prog X.w X.K X.mg X.base CX n f fd ps sp) (hr : Room (n + 1) X.A) (hs : PySem.W.findIn X.K (.ref C) "__eq__" = some (some (.ref f))) (hf : PySem.W.isFn X.K (.ref f) = true) (hb : Binds X.K fd ps []) (hx : Passes CX X E)
    (hne : PySem.W.findIn X.K (.ref C) "__ne__" = some (some (.builtin "object.__ne__"))) (hm : PySem.W.mroIn X.K C (.type "object") = some true) (h : X.K = K := by rfl) : OpR X (compareOp .NotEq) (rOwnNe K C sp E) := h ▸ op_ownNe F hr hs hf hb hx hne hm
end
section
variable {σ : L2.St} {S H : Hp} {ta tb tc : TE} {a b c : T} {E : XK} {rs ls : List Str} {ps : List (List Str)}
/-- Book(a, b, c) that stands -/
theorem ev_Book (Z : Px K mg) (B : Bk K mg) (ha : Ev ta σ S H (R K a)) (hb : Ev tb σ S H (R K b)) (hc : Ev tc σ S H (R K c)) (n0 : namesSize a) (n1 : namesSize b) (n2 : permitsSize c) (l0 : a.items.length < 64) (l1 : b.items.length < 64) (bk : bookOf a b c = .ok rs ls ps) :
    Ev (tMake B.C (spBook K B.C Z.BadRoles.C Z.BadLabels.C Z.BadPermits.C) [] E (tCons ta (tCons tb (tCons tc tNil)))) σ S H (IsBook B.C rs ls ps) := fun S1 H1 g Q q =>
  at_Book Z B g.sub (ha.go g) (hb.go g) (hc.go g) n0 n1 n2 l0 l1 (fun h => by rw [bk] at h; cases h) (fun h => by rw [bk] at h; cases h) (fun i h => by rw [bk] at h; cases h) fun rs' ls' ps' h v S' H' g' hB => by
    rw [bk] at h
    cases h
    exact q v S' H' g' hB
/-- Book(permits=c, labels=b, roles=a) -/
theorem ev_BookK (Z : Px K mg) (B : Bk K mg) (ha : Ev ta σ S H (R K a)) (hb : Ev tb σ S H (R K b)) (hc : Ev tc σ S H (R K c)) (n0 : namesSize a) (n1 : namesSize b) (n2 : permitsSize c) (l0 : a.items.length < 64) (l1 : b.items.length < 64) (bk : bookOf a b c = .ok rs ls ps) :
    Ev (tMakeK B.C 0 3 (spBook K B.C Z.BadRoles.C Z.BadLabels.C Z.BadPermits.C) rev3 E tNil (tCons tc (tCons tb (tCons ta tNil)))) σ S H (IsBook B.C rs ls ps) := fun S0 H0 g0 Q q => by
  refine (hc.go g0).at g0.sub fun v3 S1 H1 g1 r3 => (hb.go (g0.trans g1)).at g1.sub fun v2 S2 H2 g2 r2 => (ha.go ((g0.trans g1).trans g2)).at g2.sub fun v1 S3 H3 g3 r1 => ⟨rfl, rfl, fun x dx hx hdx hne => ?_⟩
  have g := (g1.trans g2).trans g3
  refine ⟨S3, H3, x, dx, v1, v2, v3, a, b, c, rfl, rfl, hx, hdx, hne, g3.sub, r1, r2.same g3.s, r3.same (g2.s.trans g3.s), n0, n1, n2, l0, l1, ?_⟩
  unfold bookEnds
  rw [bk]
  exact fun S' H' gg hb => ⟨rfl, q (.ref x) S' H' (g.trans gg) hb⟩
/-- what a book tells -/
theorem ev_tell (B : Bk K mg) {m : Str} {f : List Str → List Str → List (List Str) → T} (hm : ∀ (u1 u2 u3 : V), ([("_roles", u1), ("_labels", u2), ("_permits", u3)] : List (Str × V)).lookup m = none) (h : Ev ta σ S H (IsBook B.C rs ls ps)) : Ev (tMeth B.C m (spTell K B.C f) [] E ta tNil) σ S H (NewR K H (f rs ls ps)) := fun S1 H1 g Q q =>
  h S1 H1 g _ fun v S2 H2 g2 hB => by
    have hB2 := hB
    obtain ⟨x, dx, a, b, c, e, h1, h2, h3, h4⟩ := hB
    exact ⟨x, dx, _, e, g2.sub _ _ h1, hm _ _ _, S2, v, rs, ls, ps, rfl, g2.sub, hB2, fun u S' H' gg r n => q u S' H' (g2.trans gg) ⟨r, fun l e => (g.trans g2).h.free (n l e)⟩⟩
end
theorem kb_Book (B : Bk K mg) : KBn K B.fd ["self", "roles", "labels", "permits"] 1 ["permits", "labels", "roles"] rev3 rev3 :=
  kbn B.F 1 _ _ _ (fun kV doc pm an cdv ct us ws h1 h2 => by
    match us, h1, ws, h2 with
    | [x], _, [a, b, c], _ => rfl) rel_rev3
def spBR (K : PySem.W.Frag) : Sp := fun vs H Q _ => ∃ (S : Hp) (w : Addr) (c n : Nat) (v : V) (b : Raw), vs = [.ref w, v] ∧ Same S H ∧ S w = none ∧ Well H w c ∧ c ≤ 800000000000 ∧ Rep K S v b.t ∧ b.Ok n ∧ n ≤ 60 ∧
  ∀ (c' : Nat) S' H', Stp S H w c 70000000000 S' H' c' → Q (.bl true) H'
theorem ok__law_book_right (Z : Px K mg) (Y : Pt K w mg) (B : Bk K mg) (EB : BkE K B.C) : FnG P w K mg base CX0 8 Z._law_book_right.f Z._law_book_right.fd ["well", "raw"] (spBR K) := by
  refine Fun.okG Z._law_book_right.F sc__law_book_right (by rintro vs H Q E ⟨S, w, c, n, v, b, rfl, _⟩; rfl) (fun cdv A outer s H vs Q E hg _ _ hr h => ?_)
  obtain ⟨S, wl, c, n, v, b, rfl, e, hw, hW, hc, r, hb, hn, q⟩ := h
  refine ⟨_, (pss_cons (ps_setLc (i := 2) (own := [("one", 13)]) (g := gName 13) (tt := tYes) rfl sc__law_book_right.nd rfl rfl (sw_true rfl rfl rfl (by decide +kernel)) (pi_seqK (K := K) (pv 1)) (blkOk_by (N := ["well", "raw", "handed", "was", "made", "named", "turn", "told", "roles", "labels", "permits", "others", "due", "one"]) (sc := defScope s__law_book_right) (own := [("one", 13)]) (by decide +kernel)) (fun _ _ _ _ _ => pg_name (i := 13) sc__law_book_right.nd rfl (Or.inl rfl)) (fun _ _ _ _ _ => pts_nil) (fun _ _ _ _ _ => by exact (pe_call (ok__law_loose Z 2 (by decide)) (hr.mono (by decide)) (by rfl) Z._law_loose.g Z._law_loose.F.kp Z._law_loose.b .nil pass0 (pa_cons (pv 0) (pa_cons (pe_call (ok__law_mixed Z) (hr.mono (by decide)) (by rfl) Z._law_mixed.g Z._law_mixed.F.kp Z._law_mixed.b .nil pass0 (pa_cons (pv 0) (pa_cons (pv 13) pa_nil))) pa_nil)))))
  (pss_cons (ps_set (i := 3) sc__law_book_right.nd rfl (.inl rfl) (pe_callB (call_repr_tree (K := K) hg hr) (by rfl) Z.bl.repr (by decide +kernel) (pa_cons (pv 2) pa_nil)))
  (pss_cons (ps_asg (pe_tup (pa_cons (pe_make B.M (ok_init Z Y B) (hr.mono (by decide)) (by rfl) B.g B.b .nil (passes_call LamX.takes0 (fun _ _ _ _ h => h)) (pa_cons (pe_ix (ixK (K := K)) (pv 2) pe_int (fun _ _ => rfl)) (pa_cons (pe_ix (ixK (K := K)) (pv 2) pe_int (fun _ _ => rfl)) (pa_cons (pe_ix (ixK (K := K)) (pv 2) pe_int (fun _ _ => rfl)) pa_nil)))) (pa_cons (pe_makeK0 B.M (ok_init Z Y B) (hr.mono (by decide)) (by rfl) B.g (kb_Book B) (passes_call LamX.takes0 (fun _ _ _ _ h => h)) (pk_cons (pe_ix (ixK (K := K)) (pv 1) pe_int (fun _ _ => rfl)) (pk_cons (pe_ix (ixK (K := K)) (pv 1) pe_int (fun _ _ => rfl)) (pk_cons (pe_ix (ixK (K := K)) (pv 1) pe_int (fun _ _ => rfl)) pk_nil)))) pa_nil))) (show PG _ _ (gTup K 2 _) from pg_tup (by rfl) (pgs_cons (pg_name (i := 4) sc__law_book_right.nd rfl (.inr rfl)) (pgs_cons (pg_name (i := 5) sc__law_book_right.nd rfl (.inl rfl)) pgs_nil))))
  (pss_cons (ps_if (pt_cmpR op_ne (pe_callB (call_repr_tree (K := K) hg hr) (by rfl) Z.bl.repr (by decide +kernel) (pa_cons (pv 2) pa_nil)) (pv 3) (nomark _))
   (pss_one (ps_ret pe_bl))
   pss_nil)
  (pss_cons (ps_expr (pe_call (ok__law_spoiled Z 3) (hr.mono (by decide)) (by rfl) Z._law_spoiled.g Z._law_spoiled.F.kp Z._law_spoiled.b .nil pass0 (pa_cons (pv 2) pa_nil)))
  (pss_cons (ps_for PassesOwn.never rfl (pi_range1 (by rfl) Z.bl.range (pa_cons pe_int pa_nil)) (pg_name (i := 6) sc__law_book_right.nd rfl (.inl rfl))
   (pss_cons (ps_set (i := 7) sc__law_book_right.nd rfl (.inl rfl) (pe_lst (pa_cons (pe_meth0 (pv 4) B.c B.all_roles.m (ok_all_roles Z B) (hr.mono (by decide)) B.all_roles.b .nil pass0) (pa_cons (pe_meth0 (pv 4) B.c B.all_labels.m (ok_all_labels Z B) (hr.mono (by decide)) B.all_labels.b .nil pass0) (pa_cons (pe_meth0 (pv 4) B.c B.all_permits.m (ok_all_permits Z B) (hr.mono (by decide)) B.all_permits.b .nil pass0) pa_nil)))))
  (pss_cons (ps_if (pt_not (pt_val (pe_call (ok__law_same Z 5 (by decide)) (hr.mono (by decide)) (by rfl) Z._law_same.g Z._law_same.F.kp Z._law_same.b .nil pass0 (pa_cons (pv 7) (pa_cons (pe_callTy (call_listK (K := K)) (by rfl) Z.bl.list (by decide +kernel) (pa_cons (pv 1) pa_nil)) pa_nil)))))
   (pss_one (ps_ret pe_bl))
   pss_nil)
  (pss_one (ps_expr (pe_call (ok__law_spoiled Z 3) (hr.mono (by decide)) (by rfl) Z._law_spoiled.g Z._law_spoiled.F.kp Z._law_spoiled.b .nil pass0 (pa_cons (pv 7) pa_nil)))))))
  (pss_cons (ps_asg (pv 1) (show PG _ _ (gTup K 3 _) from pg_tup (by rfl) (pgs_cons (pg_name (i := 8) sc__law_book_right.nd rfl (.inr rfl)) (pgs_cons (pg_name (i := 9) sc__law_book_right.nd rfl (.inl rfl)) (pgs_cons (pg_name (i := 10) sc__law_book_right.nd rfl (.inl rfl)) pgs_nil)))))
  (pss_cons (ps_set (i := 11) sc__law_book_right.nd rfl (.inl rfl) (pe_lst (pa_cons (pe_make B.M (ok_init Z Y B) (hr.mono (by decide)) (by rfl) B.g B.b .nil (passes_call LamX.takes0 (fun _ _ _ _ h => h)) (pa_cons (pe_op op_cat (pv 8) (pe_lst (pa_cons pe_str pa_nil))) (pa_cons (pv 9) (pa_cons (pv 10) pa_nil)))) (pa_cons (pe_make B.M (ok_init Z Y B) (hr.mono (by decide)) (by rfl) B.g B.b .nil (passes_call LamX.takes0 (fun _ _ _ _ h => h)) (pa_cons (pv 8) (pa_cons (pe_op op_cat (pv 9) (pe_lst (pa_cons pe_str pa_nil))) (pa_cons (pv 10) pa_nil)))) pa_nil))))
  (pss_cons (ps_expr (show PE _ _ (tBM K "list" rAppend _ _) from pe_bm PySem.F.plainAttrs_list PySem.F.slot_list_append PySem.F.type_list_append mr_append (pv 11) (pa_cons (pe_make B.M (ok_init Z Y B) (hr.mono (by decide)) (by rfl) B.g B.b .nil (passes_call LamX.takes0 (fun _ _ _ _ h => h)) (pa_cons (pv 8) (pa_cons (pv 9) (pa_cons (pe_op op_cat (pe_lc (own := [("one", 13)]) (g := gName 13) (tt := _) rfl sc__law_book_right.nd (pi_seqK (K := K) (pv 10)) (blkOk_by (N := ["well", "raw", "handed", "was", "made", "named", "turn", "told", "roles", "labels", "permits", "others", "due", "one"]) (sc := defScope s__law_book_right) (own := [("one", 13)]) (by decide +kernel)) (fun _ _ _ _ _ => pg_name (i := 13) sc__law_book_right.nd rfl (Or.inl rfl)) (fun _ _ _ _ _ => pts_one (pt_cmpR (op_neDK (K := K) hr.units) (pv 13) (pe_tup (pa_cons pe_str (pa_cons (pe_ix (ixK (K := K)) (pv 8) pe_int (fun _ _ => rfl)) pa_nil))) (nomark _))) (fun _ _ _ _ _ => by exact (pv 13))) (pe_lst (pa_cons (pe_tup (pa_cons pe_str (pa_cons (pe_ix (ixK (K := K)) (pv 8) pe_int (fun _ _ => rfl)) pa_nil))) pa_nil))) pa_nil)))) pa_nil)))
  (pss_cons (ps_expr (show PE _ _ (tBM K "list" rAppend _ _) from pe_bm PySem.F.plainAttrs_list PySem.F.slot_list_append PySem.F.type_list_append mr_append (pv 11) (pa_cons (pe_make B.M (ok_init Z Y B) (hr.mono (by decide)) (by rfl) B.g B.b .nil (passes_call LamX.takes0 (fun _ _ _ _ h => h)) (pa_cons (pv 8) (pa_cons (pv 9) (pa_cons (pe_slice (sl_anyK (K := K)) (pv 10) (po_some pe_int) po_none) pa_nil)))) pa_nil)))
  (pss_cons (ps_set (i := 12) sc__law_book_right.nd rfl (.inl rfl) (pe_lst (pa_cons pe_bl (pa_cons pe_bl (pa_cons (pe_cmpR (op_inDK (K := K) (hu65 hr)) (pe_tup (pa_cons pe_str (pa_cons (pe_ix (ixK (K := K)) (pv 8) pe_int (fun _ _ => rfl)) pa_nil))) (pv 10) (by rfl)) (pa_cons (pe_cmpR (op_eqDK (K := K) hr.units) (pv 10) (pe_lst pa_nil) (nomark _)) pa_nil))))))
  (pss_cons (ps_if (PW.pt (pw_or (pt_not (pt_val (pe_call (ok__law_same Z 5 (by decide)) (hr.mono (by decide)) (by rfl) Z._law_same.g Z._law_same.F.kp Z._law_same.b .nil pass0 (pa_cons (pe_lc (own := [("one", 13)]) (g := gName 13) (tt := tYes) rfl sc__law_book_right.nd (pi_seqK (K := K) (pv 11)) (blkOk_by (N := ["well", "raw", "handed", "was", "made", "named", "turn", "told", "roles", "labels", "permits", "others", "due", "one"]) (sc := defScope s__law_book_right) (own := [("one", 13)]) (by decide +kernel)) (fun _ _ _ _ _ => pg_name (i := 13) sc__law_book_right.nd rfl (Or.inl rfl)) (fun _ _ _ _ _ => pts_nil) (fun _ _ _ _ _ => by exact (pe_cmpR (op_ownEqK (K := K) (ok_eq Z B EB) (hr.mono (by decide)) B.eq.m.at_ B.eq.m.fn B.eq.b pass0) (pv 13) (pv 4) (nomark _)))) (pa_cons (pv 12) pa_nil))))) (pw_or1 (pt_not (pt_val (pe_call (ok__law_same Z 5 (by decide)) (hr.mono (by decide)) (by rfl) Z._law_same.g Z._law_same.F.kp Z._law_same.b .nil pass0 (pa_cons (pe_lc (own := [("one", 13)]) (g := gName 13) (tt := tYes) rfl sc__law_book_right.nd (pi_seqK (K := K) (pv 11)) (blkOk_by (N := ["well", "raw", "handed", "was", "made", "named", "turn", "told", "roles", "labels", "permits", "others", "due", "one"]) (sc := defScope s__law_book_right) (own := [("one", 13)]) (by decide +kernel)) (fun _ _ _ _ _ => pg_name (i := 13) sc__law_book_right.nd rfl (Or.inl rfl)) (fun _ _ _ _ _ => pts_nil) (fun _ _ _ _ _ => by exact (pe_cmpR (op_ownEqK (K := K) (ok_eq Z B EB) (hr.mono (by decide)) B.eq.m.at_ B.eq.m.fn B.eq.b pass0) (pv 4) (pv 13) (nomark _)))) (pa_cons (pv 12) pa_nil))))))))
   (pss_one (ps_ret pe_bl))
   pss_nil)
  (pss_one (ps_ret (pe_and (pe_cmpR (op_ownEqK (K := K) (ok_eq Z B EB) (hr.mono (by decide)) B.eq.m.at_ B.eq.m.fn B.eq.b pass0) (pv 4) (pv 5) (nomark _)) (pe_and (pe_not (pe_cmpR (op_ownNeK (K := K) (ok_eq Z B EB) (hr.mono (by decide)) B.eq.m.at_ B.eq.m.fn B.eq.b pass0 EB.ne EB.hm) (pv 4) (pv 5) (nomark _))) (pe_and (pe_not (pe_cmpR (op_ownEqK (K := K) (ok_eq Z B EB) (hr.mono (by decide)) B.eq.m.at_ B.eq.m.fn B.eq.b pass0) (pv 4) (pv 1) (nomark _))) (pe_one (pe_not (pe_cmpR (op_ownEqK (K := K) (ok_eq Z B EB) (hr.mono (by decide)) B.eq.m.at_ B.eq.m.fn B.eq.b pass0) (pv 4) pe_int (nomark _))))))))))))))))))))), ?_⟩
  have r : Rep K S v (.t [.l (b.rs.map tS), .l (b.ls.map tS), .l (b.ps.map tT)]) := r
  have rv := r
  cases r with
  | @t pr vs _ hpr rs3 =>
  let X3 : List T := [.l (b.rs.map tS), .l (b.ls.map tS), .l (b.ps.map tT)]
  have lrs := someOf_len hb.rs
  have lls := someOf_len hb.ls
  have e10 : names10.length = 10 := rfl
  have e04 : names4.length = 4 := rfl
  have x3 : ∀ (i : Nat) (x : T), X3[i]? = some x → ∃ zs : List T, x = T.l zs ∧ zs.length ≤ 100 ∧ ∀ z ∈ zs, okL 1 z := fun i x h => by
    have fl : ∀ (zs : List Str), ∀ z ∈ zs.map tS, okL 1 z := fun zs z hz => by obtain ⟨v, rfl⟩ := flat_map zs z hz; exact okL_a
    match i, h with
    | 0, h => cases h; exact ⟨_, rfl, by rw [List.length_map]; omega, fl _⟩
    | 1, h => cases h; exact ⟨_, rfl, by rw [List.length_map]; omega, fl _⟩
    | 2, h =>
      cases h
      refine ⟨_, rfl, by rw [List.length_map]; have := hb.few; omega, fun z hz => ?_⟩
      obtain ⟨p, hp, rfl⟩ := List.mem_map.mp hz
      exact okL_flat (.inr rfl) (by rw [List.length_map]; have := okP_len (hb.ok p hp); omega) (flat_map p)
  have hcnt : cntL 2 = 1010100 := rfl
  have hbnd : bndL 2 = 940000000000 := rfl
  -- handed
  refine q_asg (.inr ⟨.ref pr, rfl, pr, rfl, ⟨vs, sqT e hpr⟩, fun D hD => ?_⟩)
  have W : Wk (Itt K pr) S 3 (fun i => R K (nth X3 i)) := wk_tup hpr rs3
  have hDw : D ≠ wl := fun z => by obtain ⟨o, ho⟩ := hW.some; rw [z, ho] at hD; cases hD
  have hSD : S D = none := e.free hD
  refine ⟨fun i m H' => m = 3 - i ∧ i ≤ 3 ∧ ∃ S' c' us ys, Stp S H wl c (i * 2000000) S' H' c' ∧ H' D = some (.lst us) ∧ S' D = none ∧ Reps K (frs H S') us ys ∧ ys.length = i ∧ ∀ (j : Nat) (x y : T), X3[j]? = some x → ys[j]? = some y → Rel x y,
    ⟨3, rfl, Nat.zero_le _, S, c, [], [], ((Stp.of (.refl e) hw hW).mut hD hSD).mono (by omega), upd_same, hSD, .nil, rfl, fun j x y _ h => by simp at h⟩, ?_⟩
  rintro i m H4 ⟨rfl, hin, S4, c4, us, ys, st4, h4, d4, r4, l4, hr4⟩
  by_cases hlt : i < 3
  · refine .inr ⟨W.go i st4.s st4.sub hlt, fun H' => ∃ S' c' us ys, Stp S H wl c ((i + 1) * 2000000) S' H' c' ∧ H' D = some (.lst us) ∧ S' D = none ∧ Reps K (frs H S') us ys ∧ ys.length = i + 1 ∧ ∀ (j : Nat) (x y : T), X3[j]? = some x → ys[j]? = some y → Rel x y, fun H' p => ⟨3 - (i + 1), by omega, rfl, hlt, p⟩, fun u H5 y => ?_⟩
    obtain ⟨S5, g5, pu⟩ := W.yld i u H5 st4.s st4.sub hlt y
    have hx : X3[i]? = some (nth X3 i) := nth_get (show i < X3.length from hlt)
    have pu : Rep K S5 u (nth X3 i) := pu
    generalize nth X3 i = x at hx pu
    obtain ⟨zs, rfl, lz, okz⟩ := x3 i x hx
    have st5 := st4.grow g5
    have h5 := g5.h _ _ h4
    have d5 := g5.out d4 h4
    have le5 := st5.le
    refine ⟨rfl, ?_⟩
    unfold tYes
    dsimp only
    first | rw [if_pos rfl] | skip
    refine ⟨.ref wl, rfl, .ref wl, rfl, u, rfl, S5, wl, c4, u, .l zs, rfl, st5.sub, st5.out, st5.well, by omega, pu, lz, fun u1 y1 c6 S6 H6 st56 r6 ⟨zs1, e6, p6⟩ => ?_⟩
    subst e6
    have p6 : zs1.Perm zs := p6
    have st6 := st5.trans st56
    have h6 := st56.h hDw h5
    have d6 := st56.keep d5 h5
    have le6 := st6.le
    refine ⟨S6, wl, c6, u1, .l zs1, rfl, st6.sub, st6.out, st6.well, by omega, r6, ⟨by rw [p6.length_eq]; exact lz, fun z hz => okz z (p6.subset hz)⟩, fun u2 y2 c7 S7 H7 st67 r7 p7 => ?_⟩
    have st7 := st6.trans st67
    have h7 := st67.h hDw h6
    have d7 := st67.keep d6 h6
    have s47 : Same S4 S7 := g5.s.trans (st56.s.trans st67.s)
    have old6 : ∀ p, H6 p = none → H p = none := fun p hp => st6.back p hp
    refine ⟨us, h7, szl (by rw [r4.length, l4]; omega), S7, c7, us ++ [u2], ys ++ [y2], (st7.mut hD d7).mono (by omega), upd_same, d7, (r4.same (frs_same s47)).append (.one (r7.same (frs_old old6))), by rw [List.length_append, l4]; rfl, fun j x y hj hy => ?_⟩
    by_cases hji : j < ys.length
    · rw [List.getElem?_append_left hji] at hy
      exact hr4 j x y hj hy
    · rw [List.getElem?_append_right (by omega)] at hy
      have : j = i := by
        have : j - ys.length < 1 := by
          cases h0 : j - ys.length with
          | zero => omega
          | succ k => rw [h0] at hy; simp at hy
        omega
      subst this
      rw [hx] at hj
      cases hj
      rw [l4, Nat.sub_self] at hy
      cases hy
      exact ⟨zs1, p7, p6⟩
  have ei : i = 3 := by omega
  subst ei
  refine .inl ⟨W.stop st4.s st4.sub, ?_⟩
  match ys, l4, r4, hr4 with
  | [y0, y1, y2], _, r4, hr4 =>
  have rdy := ready hb hn (hr4 0 _ _ rfl rfl) (hr4 1 _ _ rfl rfl) (hr4 2 _ _ rfl rfl)
  have lus : us.length = 3 := r4.length
  have st5 := st4.freeze hD d4 h4
  have rD : Rep K (frs H (upd S4 D (.lst us))) (.ref D) (.l [y0, y1, y2]) := .l (frs_lst upd_same hD) (r4.same (frs_same (Same.new d4)))
  generalize upd S4 D (.lst us) = S5 at st5 rD
  clear r4 d4 st4 W x3
  -- was
  have hh5 : H4 D = some (.lst us) := h4
  have rDs := rD.same (frs_le (H0 := H) (S := S5))
  have hd3 := dimW3 rdy.d0 rdy.d1 rdy.d2
  have hz3 := shown3 rdy.d0 rdy.d1 rdy.d2
  have c6 : c4 ≤ c + 3 * 2000000 := st5.2.2.2.2
  show tSeq _ _ _ _ _
  refine q_set (ev_repr (Pr := okW) (n := 3) (B := 60) (ev_var (P := R K _) (i := 2) (σ := [some (.ref wl), some (.ref pr), some (.ref D), none, none, none, none, none, none, none, none, none, none, none]) rfl rDs) (.inl rfl) hd3 (by decide) hz3) st5.sub fun uw S6 H6 g6 ew => ?_
  have ew : uw = .str (T.l [y0, y1, y2]).dat.shown := ew
  subst ew
  have s06 : Same S S6 := st5.s.trans g6.s
  -- made, named
  have w0 : ∀ {σ' : L2.St}, Ev (tOp (rIx K) (tVar 2) (tC (.int 0))) [some (.ref wl), some (.ref pr), some (.ref D), some (.str (T.l [y0, y1, y2]).dat.shown), none, none, none, none, none, none, none, none, none, none] S6 H6 (R K y0) := ev_ixL (ev_var (P := R K _) rfl (rDs.same g6.s)) is_c' rfl
  have w1 : Ev (tOp (rIx K) (tVar 2) (tC (.int 1))) [some (.ref wl), some (.ref pr), some (.ref D), some (.str (T.l [y0, y1, y2]).dat.shown), none, none, none, none, none, none, none, none, none, none] S6 H6 (R K y1) := ev_ixL (ev_var (P := R K _) rfl (rDs.same g6.s)) is_c' rfl
  have w2 : Ev (tOp (rIx K) (tVar 2) (tC (.int 2))) [some (.ref wl), some (.ref pr), some (.ref D), some (.str (T.l [y0, y1, y2]).dat.shown), none, none, none, none, none, none, none, none, none, none] S6 H6 (R K y2) := ev_ixL (ev_var (P := R K _) rfl (rDs.same g6.s)) is_c' rfl
  have x0 : Ev (tOp (rIx K) (tVar 1) (tC (.int 0))) [some (.ref wl), some (.ref pr), some (.ref D), some (.str (T.l [y0, y1, y2]).dat.shown), none, none, none, none, none, none, none, none, none, none] S6 H6 (R K (.l (b.rs.map tS))) := ev_ixT (ev_var (P := R K _) rfl (rv.same s06)) is_c' rfl
  have x1 : Ev (tOp (rIx K) (tVar 1) (tC (.int 1))) [some (.ref wl), some (.ref pr), some (.ref D), some (.str (T.l [y0, y1, y2]).dat.shown), none, none, none, none, none, none, none, none, none, none] S6 H6 (R K (.l (b.ls.map tS))) := ev_ixT (ev_var (P := R K _) rfl (rv.same s06)) is_c' rfl
  have x2 : Ev (tOp (rIx K) (tVar 1) (tC (.int 2))) [some (.ref wl), some (.ref pr), some (.ref D), some (.str (T.l [y0, y1, y2]).dat.shown), none, none, none, none, none, none, none, none, none, none] S6 H6 (R K (.l (b.ps.map tT))) := ev_ixT (ev_var (P := R K _) rfl (rv.same s06)) is_c' rfl
  have rdy0 := ready hb hn (rel_refl _) (rel_refl _) (rel_refl _)
  have EB2 := ea_cons (ev_Book (E := fun _ _ _ => False) Z B (w0 (σ' := [])) w1 w2 rdy.n0 rdy.n1 rdy.n2 rdy.l0 rdy.l1 rdy.bk) (ea_cons (ev_BookK (E := fun _ _ _ => False) Z B x0 x1 x2 rdy0.n0 rdy0.n1 rdy0.n2 rdy0.l0 rdy0.l1 rdy0.bk) ea_nil)
  refine q_asg (EB2 S6 H6 (.refl g6.sub) _ fun us2 S7 H7 g7 a7 => ?_)
  obtain ⟨vm, vd, rfl, bm, bd⟩ := a7.two
  refine ⟨sz (by show 2 ≤ 100000; decide), fun p hp => ?_⟩
  have g8 : Grow S7 H7 (upd S7 p (.tup [vm, vd])) (upd H7 p (.tup [vm, vd])) := .alloc g7.sub hp
  refine ⟨p, [vm, vd], rfl, sqT (Same.refl _) upd_same, rfl, vm, [vd], rfl, vd, [], rfl, rfl, ?_⟩
  have bm := (IsBook B.C b.rs b.ls b.ps).mo g8.s bm
  have bd := (IsBook B.C b.rs b.ls b.ps).mo g8.s bd
  have st8 := ((st5.grow g6).grow g7).grow g8
  have s58 : Same S5 (upd S7 p (.tup [vm, vd])) := g6.s.trans (g7.s.trans g8.s)
  have h8 : (upd H7 p (.tup [vm, vd])) D = some (.lst us) := g8.h _ _ (g7.h _ _ (g6.h _ _ hh5))
  generalize upd S7 p (.tup [vm, vd]) = S8 at bm bd st8 s58
  generalize upd H7 p (.tup [vm, vd]) = H8 at bm bd st8 s58 h8
  -- repr(handed) != was
  have nw : (!decide (V.str (T.l [y0, y1, y2]).dat.shown = V.str (T.l [y0, y1, y2]).dat.shown)) = false := by simp
  have cw := et_test (ev_ne (a := .str (T.l [y0, y1, y2]).dat.shown) (b := .str (T.l [y0, y1, y2]).dat.shown) (ev_repr (K := K) (Pr := okW) (n := 3) (B := 60) (ta := tVar 2) (σ := [some (.ref wl), some (.ref pr), some (.ref D), some (.str (T.l [y0, y1, y2]).dat.shown), some vm, some vd, none, none, none, none, none, none, none, none]) (S := S8) (H := H8) (ev_var rfl (rDs.same s58)) (.inl rfl) hd3 (by decide) hz3) (ev_var (P := Is _) (i := 3) rfl rfl) rfl)
  rw [nw] at cw
  refine cw.at st8.sub fun S9 H9 g9 => ?_
  refine iteF ?_
  have st9 := st8.grow g9
  have bm9 := (IsBook B.C b.rs b.ls b.ps).mo g9.s bm
  have bd9 := (IsBook B.C b.rs b.ls b.ps).mo g9.s bd
  have s59 := s58.trans g9.s
  have h9 := g9.h _ _ h8
  -- _law_spoiled(handed)
  have kD : Rk H 3 60 H9 (.ref D) := Rk.of st9.sub (rD.same (frs_same s59)) hd3.dim
  have kN : ∀ p us', V.ref D = .ref p → (H9 p = some (.lst us') ∨ H9 p = some (.tup us')) → us'.length ≤ 3 := fun p us' ep h => by
    cases ep
    rw [h9] at h
    rcases h with h | h <;> cases h
    omega
  have hF3 : 60 + Fs 3 3 60 ≤ 90000 := by decide +kernel
  refine ⟨.ref D, rfl, H, .ref D, 3, 60, rfl, kD, kN, hF3, fun H10 lg _ => ?_⟩
  have st10 := st9.spoil e lg
  have bm10 := IsBook.noL (H0 := H) bm9
  have bd10 := IsBook.noL (H0 := H) bd9
  generalize noL H S9 = S10 at st10 bm10 bd10
  clear w0 w1 w2 x0 x1 x2 EB2 cw kD kN bm bd bm9 bd9 lg rD rDs
  -- for turn in range(2)
  show tFor (iRng1 (tCons (tC (.int 2)) tNil)) _ _ _ _ _
  unfold tFor
  refine ⟨2, rfl, by decide, by decide, fun i m σ' H' => m = 2 - i ∧ i ≤ 2 ∧ ∃ S' y6 y7, σ' = [some (.ref wl), some (.ref pr), some (.ref D), some (.str (T.l [y0, y1, y2]).dat.shown), some vm, some vd, y6, y7, none, none, none, none, none, none] ∧
      Stp S H wl c (3 * 2000000) S' H' c4 ∧ (IsBook B.C b.rs b.ls b.ps).P S' vm ∧ (IsBook B.C b.rs b.ls b.ps).P S' vd, ⟨2, rfl, Nat.zero_le _, S10, none, none, rfl, st10, bm10, bd10⟩, fun i m σ' H' hI => ?_⟩
  obtain ⟨rfl, hi, S', y6, y7, rfl, st, bm, bd⟩ := hI
  by_cases hlt : i < 2
  · refine .inr ⟨hlt, fun σ' H' => ∃ S' y6 y7, σ' = [some (.ref wl), some (.ref pr), some (.ref D), some (.str (T.l [y0, y1, y2]).dat.shown), some vm, some vd, y6, y7, none, none, none, none, none, none] ∧
      Stp S H wl c (3 * 2000000) S' H' c4 ∧ (IsBook B.C b.rs b.ls b.ps).P S' vm ∧ (IsBook B.C b.rs b.ls b.ps).P S' vd, fun σ' H' p => ⟨2 - (i + 1), by omega, rfl, hlt, p⟩, fun x H'' ⟨eH, ex⟩ => ?_⟩
    subst eH
    have old : ∀ p, H'' p = none → H p = none := fun p hp => st.back p hp
    have em : ∀ {S2 H2 : Hp}, Same S' S2 → Ev (tVar 4) [some (.ref wl), some (.ref pr), some (.ref D), some (.str (T.l [y0, y1, y2]).dat.shown), some vm, some vd, some x, y7, none, none, none, none, none, none] S2 H2 (IsBook B.C b.rs b.ls b.ps) := fun e => ev_var rfl ((IsBook B.C b.rs b.ls b.ps).mo e bm)
    have ET := ea_cons (ev_tell (K := K) (E := L2.E0) (f := fun rs _ _ => T.l (rs.map tS)) B (m := "all_roles") (fun _ _ _ => rfl) (em (H2 := H'') (Same.refl _))) (ea_cons (ev_tell (K := K) (E := L2.E0) (f := fun _ ls _ => T.l (ls.map tS)) B (m := "all_labels") (fun _ _ _ => rfl) (em (H2 := H'') (Same.refl _))) (ea_cons (ev_tell (K := K) (E := L2.E0) (f := fun _ _ ps => T.l (ps.map tT)) B (m := "all_permits") (fun _ _ _ => rfl) (em (H2 := H'') (Same.refl _))) ea_nil))
    show tSeq _ _ _ _ _
    refine q_asg (ET S' H'' (.refl st.sub) _ fun us3 S6 H6 g6 a6 => ?_)
    obtain ⟨u0, u1, u2, rfl, ⟨t0, n0⟩, ⟨t1, n1⟩, t2, n2⟩ : ∃ u0 u1 u2, us3 = [u0, u1, u2] ∧ (NewR K H'' (.l (b.rs.map tS))).P S6 u0 ∧ (NewR K H'' (.l (b.ls.map tS))).P S6 u1 ∧ (NewR K H'' (.l (b.ps.map tT))).P S6 u2 := by
      cases a6 with
      | cons h0 a6 =>
        cases a6 with
        | cons h1 a6 =>
          cases a6 with
          | cons h2 a6 =>
            cases a6
            exact ⟨_, _, _, rfl, h0, h1, h2⟩
    refine ⟨sz (by show 3 ≤ 100000; decide), fun T0 hT => ?_⟩
    have gT : Grow S6 H6 (upd S6 T0 (.lst [u0, u1, u2])) (upd H6 T0 (.lst [u0, u1, u2])) := .alloc g6.sub hT
    have st6 := (st.grow g6).grow gT
    have hT0 : H T0 = none := old _ (g6.h.free hT)
    have rT : Rep K (frs H (upd S6 T0 (.lst [u0, u1, u2]))) (.ref T0) (.l X3) := .l (frs_lst upd_same hT0)
      (.cons ((new_strs t0 fun l e => old _ (n0 l e)).same (frs_same gT.s)) (.cons ((new_strs t1 fun l e => old _ (n1 l e)).same (frs_same gT.s)) (.cons ((new_tups t2 fun l e => old _ (n2 l e)).same (frs_same gT.s)) .nil)))
    have s6 : Same S' (upd S6 T0 (.lst [u0, u1, u2])) := g6.s.trans gT.s
    have hh6 : upd H6 T0 (.lst [u0, u1, u2]) T0 = some (.lst [u0, u1, u2]) := upd_same
    generalize upd S6 T0 (.lst [u0, u1, u2]) = S7 at st6 rT s6
    generalize upd H6 T0 (.lst [u0, u1, u2]) = H7 at st6 hh6
    have dX : dimW okW 3 60 (.l X3) := dimW3 rdy0.d0 rdy0.d1 rdy0.d2
    have c2 := ev_call2 (K := K) (E := L2.E0) (ok := okSame (5 + 1)) (f := fun x y => .a (.bl (x.same y))) (ta := tVar 7) (tb := tCB (rListA K) (tCons (tVar 1) tNil)) (σ := [some (.ref wl), some (.ref pr), some (.ref D), some (.str (T.l [y0, y1, y2]).dat.shown), some vm, some vd, some x, some (.ref T0), none, none, none, none, none, none]) (S := S7) (H := H7)
      (ev_var rfl (rT.same frs_le)) (ev_listOf (ev_var (P := R K _) rfl (rv.same st6.s)) (.inr rfl)) (okSame_dim dX)
    have c3 := et_not (et_B c2.Is)
    rw [same_yes rfl] at c3
    show tIfS _ _ _ _ _ _
    refine c3.at st6.sub fun S8 H8 g8 => ?_
    refine iteF ?_
    have st8 := st6.grow g8
    have kT : Rk H 3 60 H8 (.ref T0) := Rk.of st8.sub (rT.same (frs_same g8.s)) dX.dim
    have kN : ∀ p us', V.ref T0 = .ref p → (H8 p = some (.lst us') ∨ H8 p = some (.tup us')) → us'.length ≤ 3 := fun p us' ep h => by
      cases ep
      rw [g8.h _ _ hh6] at h
      rcases h with h | h <;> cases h
      exact Nat.le_refl 3
    refine ⟨.ref T0, rfl, H, .ref T0, 3, 60, rfl, kT, kN, hF3, fun H10 lg _ => ?_⟩
    exact ⟨noL H S8, some x, some (.ref T0), rfl, st8.spoil e lg, IsBook.noL ((IsBook B.C b.rs b.ls b.ps).mo (s6.trans g8.s) bm), IsBook.noL ((IsBook B.C b.rs b.ls b.ps).mo (s6.trans g8.s) bd)⟩
  have ei : i = 2 := by omega
  subst ei
  refine .inl ⟨Nat.le_refl _, ?_⟩
  -- roles, labels, permits = raw
  cases rs3 with
  | @cons v2 _ vs3 _ r2 rs3 =>
  cases rs3 with
  | @cons v3 _ vs4 _ r3 rs3 =>
  cases rs3 with
  | @cons v4 _ vs5 _ r4 rs3 =>
  cases rs3
  obtain ⟨r0, rr, hr0⟩ : ∃ r0 rr, b.rs = r0 :: rr := by
    cases h : b.rs with
    | nil => exact absurd h hb.rne
    | cons r0 rr => exact ⟨r0, rr, rfl⟩
  have hr0m : r0 ∈ b.rs := by rw [hr0]; exact List.mem_cons_self
  have at0 : L2.atI (b.rs.map tS) 0 = some (tS r0) := atI_nat (j := 0) (by rw [hr0]; rfl)
  have hps : ∀ p ∈ b.ps, ∀ z ∈ p, PyData.strOk z = true := fun p hp => okP_str (fun z hz => str10 z (hb.rs.2.2 z hz)) (fun z hz => str4 z (hb.ls.2.2 z hz)) (hb.ok p hp)
  have okm : okP b.rs b.ls ["make", r0] := .inl ⟨"make", r0, rfl, by decide +kernel, hr0m⟩
  have hm : ∀ z ∈ (["make", r0] : List Str), PyData.strOk z = true := okP_str (fun z hz => str10 z (hb.rs.2.2 z hz)) (fun z hz => str4 z (hb.ls.2.2 z hz)) okm
  have fewp : b.ps.length ≤ 60 := by have := hb.few; omega
  have hrsN := hb.rs.2.1
  have hlsN := hb.ls.2.1
  have rsS : ∀ z ∈ b.rs, z.length ≤ 100000 := fun z hz => (ten_named z (hb.rs.2.2 z hz)).2.2.2.2
  have lsS : ∀ z ∈ b.ls, z.length ≤ 100000 := fun z hz => (four_named z (hb.ls.2.2 z hz)).2
  have okr := raw_roles hb
  have okl := raw_labels hb
  show tSeq (tAsg (tVar 1) (gTup K 3 (gCons (gName 8) (gCons (gName 9) (gCons (gName 10) gNil))))) _ _ _ _
  refine q_asg ⟨.ref pr, rfl, pr, [v2, v3, v4], rfl, sqT st.sub (st.s _ _ hpr), rfl, v2, [v3, v4], rfl, v3, [v4], rfl, v4, [], rfl, rfl, ?_⟩
  have q8 := r2.same st.s
  have q9 := r3.same st.s
  have q10 := r4.same st.s
  have e8 : ∀ {y11 y12 y13 : Option V} {S2 H2 : Hp}, Same S' S2 → Ev (tVar 8) [some (.ref wl), some (.ref pr), some (.ref D), some (.str (T.l [y0, y1, y2]).dat.shown), some vm, some vd, y6, y7, some v2, some v3, some v4, y11, y12, y13] S2 H2 (R K (.l (b.rs.map tS))) := fun e => ev_var rfl (q8.same e)
  have e9 : ∀ {y11 y12 y13 : Option V} {S2 H2 : Hp}, Same S' S2 → Ev (tVar 9) [some (.ref wl), some (.ref pr), some (.ref D), some (.str (T.l [y0, y1, y2]).dat.shown), some vm, some vd, y6, y7, some v2, some v3, some v4, y11, y12, y13] S2 H2 (R K (.l (b.ls.map tS))) := fun e => ev_var rfl (q9.same e)
  have e10 : ∀ {y11 y12 y13 : Option V} {S2 H2 : Hp}, Same S' S2 → Ev (tVar 10) [some (.ref wl), some (.ref pr), some (.ref D), some (.str (T.l [y0, y1, y2]).dat.shown), some vm, some vd, y6, y7, some v2, some v3, some v4, y11, y12, y13] S2 H2 (R K (.l (b.ps.map tT))) := fun e => ev_var rfl (q10.same e)
  have e4 : ∀ {y11 y12 y13 : Option V} {S2 H2 : Hp}, Same S' S2 → Ev (tVar 4) [some (.ref wl), some (.ref pr), some (.ref D), some (.str (T.l [y0, y1, y2]).dat.shown), some vm, some vd, y6, y7, some v2, some v3, some v4, y11, y12, y13] S2 H2 (IsBook B.C b.rs b.ls b.ps) := fun e => ev_var rfl ((IsBook B.C b.rs b.ls b.ps).mo e bm)
  have e5 : ∀ {y11 y12 y13 : Option V} {S2 H2 : Hp}, Same S' S2 → Ev (tVar 5) [some (.ref wl), some (.ref pr), some (.ref D), some (.str (T.l [y0, y1, y2]).dat.shown), some vm, some vd, y6, y7, some v2, some v3, some v4, y11, y12, y13] S2 H2 (IsBook B.C b.rs b.ls b.ps) := fun e => ev_var rfl ((IsBook B.C b.rs b.ls b.ps).mo e bd)
  have emk : ∀ {y11 y12 y13 : Option V} {S2 H2 : Hp}, Same S' S2 → Ev (tTup (tCons (tC (.str "make")) (tCons (tOp (rIx K) (tVar 8) (tC (.int 0))) tNil))) [some (.ref wl), some (.ref pr), some (.ref D), some (.str (T.l [y0, y1, y2]).dat.shown), some vm, some vd, y6, y7, some v2, some v3, some v4, y11, y12, y13] S2 H2 (R K (tT ["make", r0])) := fun e => ev_tup (xs := [tS "make", tS r0]) (ea_two (ev_c (.a rfl)) (ev_ixL (e8 e) is_c' at0)) (by decide : 2 ≤ 100000)
  -- others
  have k1 := ev_cat (K := K) (xs := b.rs.map tS) (ys := [tS "zz9"]) (e8 (y11 := none) (y12 := none) (y13 := none) (H2 := H') (Same.refl _)) (ev_lst (ea_one (ev_c (.a rfl))) (by show 1 ≤ 100000; decide)) (by rw [List.length_map]; show _ + 1 ≤ 100000; omega)
  rw [show b.rs.map tS ++ [tS "zz9"] = (b.rs ++ [("zz9" : Str)]).map tS by rw [List.map_append]; rfl] at k1
  have k2 := ev_cat (K := K) (xs := b.ls.map tS) (ys := [tS "zz9"]) (e9 (y11 := none) (y12 := none) (y13 := none) (H2 := H') (Same.refl _)) (ev_lst (ea_one (ev_c (.a rfl))) (by show 1 ≤ 100000; decide)) (by rw [List.length_map]; show _ + 1 ≤ 100000; omega)
  rw [show b.ls.map tS ++ [tS "zz9"] = (b.ls ++ [("zz9" : Str)]).map tS by rw [List.map_append]; rfl] at k2
  have zr : (T.l ((b.rs ++ [("zz9" : Str)]).map tS)).okRoles = true := roles_of (fun z hz => by
      rcases List.mem_append.mp hz with hz | hz
      · exact ⟨(ten_named z (hb.rs.2.2 z hz)).1, (ten_named z (hb.rs.2.2 z hz)).2.1⟩
      · rw [List.mem_singleton.mp hz]; exact zz9_named)
    (List.nodup_append.mpr ⟨hrsN, List.nodup_cons.mpr ⟨List.not_mem_nil, List.nodup_nil⟩, fun a ha x hx e => (ten_named a (hb.rs.2.2 a ha)).2.2.1 (e.trans (List.mem_singleton.mp hx))⟩)
  have zl : (T.l ((b.ls ++ [("zz9" : Str)]).map tS)).areNames = true := names_of (fun z hz => by
      rcases List.mem_append.mp hz with hz | hz
      · exact (four_named z (hb.ls.2.2 z hz)).1
      · rw [List.mem_singleton.mp hz]; exact zz9_named.1)
    (List.nodup_append.mpr ⟨hlsN, List.nodup_cons.mpr ⟨List.not_mem_nil, List.nodup_nil⟩, fun a ha x hx e => four_zz9 a (hb.ls.2.2 a ha) (e.trans (List.mem_singleton.mp hx))⟩)
  have zrS : ∀ z ∈ b.rs ++ [("zz9" : Str)], z.length ≤ 100000 := fun z hz => by
    rcases List.mem_append.mp hz with hz | hz
    · exact rsS z hz
    · rw [List.mem_singleton.mp hz]; decide
  have zlS : ∀ z ∈ b.ls ++ [("zz9" : Str)], z.length ≤ 100000 := fun z hz => by
    rcases List.mem_append.mp hz with hz | hz
    · exact lsS z hz
    · rw [List.mem_singleton.mp hz]; decide
  have l1 : (b.rs ++ [("zz9" : Str)]).length = b.rs.length + 1 := by rw [List.length_append]; rfl
  have l2 : (b.ls ++ [("zz9" : Str)]).length = b.ls.length + 1 := by rw [List.length_append]; rfl
  have ip : isort tupO b.ps = b.ps := isort_id hb.up
  have il : isort strO b.ls = b.ls := isort_id hb.ls.1
  have ir : isort strO b.rs = b.rs := isort_id hb.rs.1
  have bk1 := book_of zr okl (fun p hp => okP_more (hb.ok p hp) (fun z hz => List.mem_append_left _ hz) (fun z hz => hz)) hb.nd
  have bk2 := book_of okr zl (fun p hp => okP_more (hb.ok p hp) (fun z hz => hz) (fun z hz => List.mem_append_left _ hz)) hb.nd
  have EO := ea_cons (ev_Book (E := fun _ _ _ => False) Z B k1 (e9 (Same.refl _)) (e10 (Same.refl _)) (size_strs zrS (by omega)) rdy0.n1 rdy0.n2 (by show (List.map _ _).length < 64; rw [List.length_map]; omega) rdy0.l1 bk1)
    (ea_cons (ev_Book (E := fun _ _ _ => False) Z B (e8 (Same.refl _)) k2 (e10 (Same.refl _)) rdy0.n0 (size_strs zlS (by omega)) rdy0.n2 rdy0.l0 (by show (List.map _ _).length < 64; rw [List.length_map]; omega) bk2) ea_nil)
  show tSeq _ _ _ _ _
  refine q_asg (EO S' H' (.refl st.sub) _ fun us2 S6 H6 g6 a6 => ?_)
  obtain ⟨o1, o2, rfl, b1, b2⟩ := a6.two
  refine ⟨sz (by show 2 ≤ 100000; decide), fun O hO => ?_⟩
  rw [ip, il] at b1
  rw [ir, ip] at b2
  have st6 := st.grow g6
  have hSO : S6 O = none := g6.sub.free hO
  have hHO : H O = none := st6.back O hO
  have st7 := st6.mut (o := .lst [o1, o2]) hHO hSO
  have hmk : ∀ x ∈ lastM ["make", r0] b.ps, okP b.rs b.ls x := fun x hx => by
    rcases List.mem_append.mp hx with hx | hx
    · exact hb.ok x (List.mem_filter.mp hx).1
    · rw [List.mem_singleton.mp hx]; exact okm
  have llm : (lastM ["make", r0] b.ps).length ≤ 61 := by
    unfold lastM
    rw [List.length_append]
    have := List.length_filter_le (fun p => !decide (p = (["make", r0] : List Str))) b.ps
    show _ + 1 ≤ 61
    omega
  -- others.append(Book(roles, labels, [..]))
  refine ⟨.ref O, rfl, .inl ⟨rfl, [o1, o2], .inl (.inl upd_same)⟩, ?_⟩
  have kf := ev_filter (K := K) (xs := b.ps.map tT) (j := 13) (vs := [13]) (σ := [some (.ref wl), some (.ref pr), some (.ref D), some (.str (T.l [y0, y1, y2]).dat.shown), some vm, some vd, y6, y7, some v2, some v3, some v4, some (.ref O), none, none]) (S := S6) (H := upd H6 O (.lst [o1, o2]))
    (tt := tTest (tOp (rNeD K) (tVar 13) (tTup (tCons (tC (V.str "make")) (tCons (tOp (rIx K) (tVar 8) (tC (V.int 0))) tNil))))) (te := tVar 13)
    (fun x => !PyData.eqv x.py (tT ["make", r0]).py) (fun x => x) (ei_seqL (e10 g6.s)) (by rw [List.length_map]; omega) (fun _ => rfl)
    (fun x v S2 H2 hx g rx => by
      obtain ⟨p, hp, rfl⟩ := List.mem_map.mp hx
      exact et_test (ev_neD (ev_var (P := R K (tT p)) rfl rx) (emk (g6.s.trans g.s)) (noD_strs p) (noD_strs _) (shaped_tup (hps p hp)) (shaped_tup hm)))
    (fun x v S2 H2 hx g rx _ => ev_var rfl rx)
  have ef : ((b.ps.map tT).filter fun x => !PyData.eqv x.py (tT ["make", r0]).py).map (fun x => x) = (b.ps.filter fun p => !decide (p = (["make", r0] : List Str))).map tT := by
    rw [List.map_id', List.filter_map]
    congr 1
    refine List.filter_congr fun p _ => ?_
    show (!PyData.eqv (tT p).py (tT ["make", r0]).py) = _
    rw [show PyData.eqv (tT p).py (tT ["make", r0]).py = PyData.eqvAll (pys (p.map tS)) (pys ((["make", r0] : List Str).map tS)) from rfl, eqv_strs]
  rw [ef] at kf
  have k3 := ev_cat (ys := [tT ["make", r0]]) kf (ev_lst (ea_one (emk g6.s)) (by show 1 ≤ 100000; decide)) (by
    have := List.length_filter_le (fun p => !decide (p = (["make", r0] : List Str))) b.ps
    rw [List.length_map]
    show _ + 1 ≤ 100000
    omega)
  rw [show (b.ps.filter fun p => !decide (p = (["make", r0] : List Str))).map tT ++ [tT ["make", r0]] = (lastM ["make", r0] b.ps).map tT by unfold lastM; rw [List.map_append]; rfl] at k3
  have bk3 := book_of okr okl hmk (lastM_nd hb.nd)
  show tMake B.C (spBook K B.C Z.BadRoles.C Z.BadLabels.C Z.BadPermits.C) [] (fun x x_1 x_2 => False) _ _ _ _
  refine (ev_Book (E := fun _ _ _ => False) Z B (e8 g6.s) (e9 g6.s) k3 rdy0.n0 rdy0.n1 (size_tups hmk (by omega)) rdy0.l0 rdy0.l1 bk3).at st7.sub fun o3 S8 H8 g8 b3 => ⟨O, [o1, o2], o3, rfl, rfl, g8.h _ _ upd_same, szl (by show 2 < 100000; decide), ?_⟩
  rw [ir, il] at b3
  have hS8O : S8 O = none := g8.out hSO upd_same
  have st8 := (st7.grow g8).mut (o := .lst [o1, o2, o3]) hHO hS8O
  have s08 : Same S' S8 := g6.s.trans g8.s
  -- others.append(Book(roles, labels, permits[1:]))
  refine ⟨.ref O, rfl, .inl ⟨rfl, [o1, o2, o3], .inl (.inl upd_same)⟩, ?_⟩
  have k4 := ev_slAL (K := K) (lo := some ((1 : Nat) : Int)) (hi := none) (e10 (y11 := some (.ref O)) (y12 := none) (y13 := none) (H2 := upd H8 O (.lst [o1, o2, o3])) s08) (eo_some is_c') eo_none
  rw [cutG_from, ← List.map_drop] at k4
  have hdr : ∀ x ∈ b.ps.drop 1, okP b.rs b.ls x := fun x hx => hb.ok x (List.mem_of_mem_drop hx)
  have bk4 := book_of okr okl hdr (hb.nd.sublist (List.drop_sublist _ _))
  show tMake B.C (spBook K B.C Z.BadRoles.C Z.BadLabels.C Z.BadPermits.C) [] (fun x x_1 x_2 => False) _ _ _ _
  refine (ev_Book (E := fun _ _ _ => False) Z B (e8 s08) (e9 s08) k4 rdy0.n0 rdy0.n1 (size_tups hdr (by rw [List.length_drop]; omega)) rdy0.l0 rdy0.l1 bk4).at st8.sub fun o4 S9 H9 g9 b4 => ⟨O, [o1, o2, o3], o4, rfl, rfl, g9.h _ _ upd_same, szl (by show 3 < 100000; decide), ?_⟩
  rw [ir, il] at b4
  have hS9O : S9 O = none := g9.out hS8O upd_same
  have st9 := ((st8.grow g9).mut (o := .lst [o1, o2, o3, o4]) hHO hS9O).freeze hHO hS9O upd_same
  have gN : Same S9 (upd S9 O (.lst [o1, o2, o3, o4])) := Same.new hS9O
  have hO9 : upd S9 O (.lst [o1, o2, o3, o4]) O = some (.lst [o1, o2, o3, o4]) := upd_same
  have s09 : Same S' (upd S9 O (.lst [o1, o2, o3, o4])) := s08.trans (g9.s.trans gN)
  have s19 : Same S6 (upd S9 O (.lst [o1, o2, o3, o4])) := g8.s.trans (g9.s.trans gN)
  have b1 := (IsBook B.C (isort strO (b.rs ++ [("zz9" : Str)])) b.ls b.ps).mo s19 b1
  have b2 := (IsBook B.C b.rs (isort strO (b.ls ++ [("zz9" : Str)])) b.ps).mo s19 b2
  have b3 := (IsBook B.C b.rs b.ls (isort tupO (lastM ["make", r0] b.ps))).mo (g9.s.trans gN) b3
  have b4 := (IsBook B.C b.rs b.ls (isort tupO (b.ps.drop 1))).mo gN b4
  generalize upd S9 O (.lst [o1, o2, o3, o4]) = S10 at st9 gN hO9 s09 s19 b1 b2 b3 b4
  generalize hH10 : upd H9 O (.lst [o1, o2, o3, o4]) = H10 at st9
  -- due
  have eIn : Ev (tOp (rInD K) (tTup (tCons (tC (.str "make")) (tCons (tOp (rIx K) (tVar 8) (tC (.int 0))) tNil))) (tVar 10)) [some (.ref wl), some (.ref pr), some (.ref D), some (.str (T.l [y0, y1, y2]).dat.shown), some vm, some vd, y6, y7, some v2, some v3, some v4, some (.ref O), none, none] S10 H10 (R K (.a (.bl (decide ((["make", r0] : List Str) ∈ b.ps))))) :=
    ev_op (emk s09) (e10 s09) fun u v S2 H2 g e1 e2 => op_val g.sub (.a rfl) fun Q q => ⟨(tT ["make", r0]).py, pys (b.ps.map tT), Rep.dp g.sub e1 (noD_strs _), Rep.dp g.sub e2 (noD_tups _), shaped_tup hm, shaped_tupl hps, by rw [any_tups]; exact q⟩
  have eEq : Ev (tOp (rEqD K) (tVar 10) (tLst tNil)) [some (.ref wl), some (.ref pr), some (.ref D), some (.str (T.l [y0, y1, y2]).dat.shown), some vm, some vd, y6, y7, some v2, some v3, some v4, some (.ref O), none, none] S10 H10 (R K (.a (.bl (decide (b.ps = []))))) := by
    have h := ev_eqD (K := K) (y := .l []) (e10 (y11 := some (.ref O)) (y12 := none) (y13 := none) (H2 := H10) s09) (ev_lst (xs := []) ea_nil (by decide)) (noD_tups _) rfl (shaped_tupl hps) rfl
    have he : PyData.eqv (T.l (b.ps.map tT)).py (T.l []).py = decide (b.ps = []) := by cases b.ps <;> rfl
    rw [he] at h
    exact h.imp fun S w e => by
      have e : w = .bl (decide (b.ps = [])) := e
      rw [e]
      exact .a rfl
  let due : T := .l [.a (.bl false), .a (.bl false), .a (.bl (decide ((["make", r0] : List Str) ∈ b.ps))), .a (.bl (decide (b.ps = [])))]
  have ed : Ev _ _ S10 H10 (R K due) := ev_lst (xs := [.a (.bl false), .a (.bl false), .a (.bl (decide ((["make", r0] : List Str) ∈ b.ps))), .a (.bl (decide (b.ps = [])))]) (ea_cons (ev_c (.a rfl)) (ea_cons (ev_c (.a rfl)) (ea_two eIn eEq))) (by show 4 ≤ 100000; decide)
  subst hH10
  dsimp only
  refine q_set ed st9.sub fun ud S11 H11 g11 rd => ?_
  have st11 := st9.grow g11
  have s0b : Same S' S11 := s09.trans g11.s
  have okd : okSame (5 + 1) due due := ⟨rfl, rfl, by show 1 < 6; decide, ⟨by show 4 ≤ 40000; decide, trivial, trivial, trivial, trivial, trivial⟩, ⟨by show 4 ≤ 40000; decide, trivial, trivial, trivial, trivial, trivial⟩⟩
  let itB : Nat → Pd := fun i => match i with
    | 0 => IsBook B.C (isort strO (b.rs ++ [("zz9" : Str)])) b.ls b.ps
    | 1 => IsBook B.C b.rs (isort strO (b.ls ++ [("zz9" : Str)])) b.ps
    | 2 => IsBook B.C b.rs b.ls (isort tupO (lastM ["make", r0] b.ps))
    | _ => IsBook B.C b.rs b.ls (isort tupO (b.ps.drop 1))
  let bs : Nat → Bool := fun i => match i with
    | 0 => false
    | 1 => false
    | 2 => decide ((["make", r0] : List Str) ∈ b.ps)
    | _ => decide (b.ps = [])
  have p3 : (isort tupO (lastM ["make", r0] b.ps)).Perm (lastM ["make", r0] b.ps) := isort_perm _
  have p4 : (isort tupO (b.ps.drop 1)).Perm (b.ps.drop 1) := isort_perm _
  have v1 : sameB (isort strO (b.rs ++ [("zz9" : Str)])) b.ls b.ps b.rs b.ls b.ps = false := sameB_rs (by rw [isort_len, l1]; omega)
  have v2' : sameB b.rs (isort strO (b.ls ++ [("zz9" : Str)])) b.ps b.rs b.ls b.ps = false := sameB_ls (by rw [isort_len, l2]; omega)
  have v3' : sameB b.rs b.ls (isort tupO (lastM ["make", r0] b.ps)) b.rs b.ls b.ps = decide ((["make", r0] : List Str) ∈ b.ps) := (sameB_ps hrsN hlsN).trans (sameL_of (p3.symm.nodup (lastM_nd hb.nd)) ⟨fun h => p3.trans ((lastM_perm hb.nd).mp h), fun h => (lastM_perm hb.nd).mpr (p3.symm.trans h)⟩)
  have v4' : sameB b.rs b.ls (isort tupO (b.ps.drop 1)) b.rs b.ls b.ps = decide (b.ps = []) := (sameB_ps hrsN hlsN).trans (sameL_of (p4.symm.nodup (hb.nd.sublist (List.drop_sublist _ _))) ⟨fun h => p4.trans (tail_perm.mp h), fun h => tail_perm.mpr (p4.symm.trans h)⟩)
  have w1 : sameB b.rs b.ls b.ps (isort strO (b.rs ++ [("zz9" : Str)])) b.ls b.ps = false := sameB_rs (by rw [isort_len, l1]; omega)
  have w2 : sameB b.rs b.ls b.ps b.rs (isort strO (b.ls ++ [("zz9" : Str)])) b.ps = false := sameB_ls (by rw [isort_len, l2]; omega)
  have w3 : sameB b.rs b.ls b.ps b.rs b.ls (isort tupO (lastM ["make", r0] b.ps)) = decide ((["make", r0] : List Str) ∈ b.ps) := (sameB_ps hrsN hlsN).trans (sameL_of hb.nd ⟨fun h => (p3.trans ((lastM_perm hb.nd).mp h)).symm, fun h => (lastM_perm hb.nd).mpr (p3.symm.trans h.symm)⟩)
  have w4 : sameB b.rs b.ls b.ps b.rs b.ls (isort tupO (b.ps.drop 1)) = decide (b.ps = []) := (sameB_ps hrsN hlsN).trans (sameL_of hb.nd ⟨fun h => (p4.trans (tail_perm.mp h)).symm, fun h => tail_perm.mpr (p4.symm.trans h.symm)⟩)
  have toR : ∀ {te : TE} {σ : L2.St} {S H : Hp} {x : Bool}, Ev te σ S H (Is (.bl x)) → Ev te σ S H (R K (.a (.bl x))) := fun h => h.imp fun S w e => by
    have e : w = .bl _ := e
    rw [e]
    exact .a rfl
  have ei : EvI (iSeq K (tVar 11)) [some (.ref wl), some (.ref pr), some (.ref D), some (.str (T.l [y0, y1, y2]).dat.shown), some vm, some vd, y6, y7, some v2, some v3, some v4, some (.ref O), some ud, none] S11 H11 4 itB := ei_all (vs := [o1, o2, o3, o4]) (g11.s _ _ hO9) (fun i v h => by
    match i, h with
    | 0, h => cases h; exact (IsBook B.C (isort strO (b.rs ++ [("zz9" : Str)])) b.ls b.ps).mo g11.s b1
    | 1, h => cases h; exact (IsBook B.C b.rs (isort strO (b.ls ++ [("zz9" : Str)])) b.ps).mo g11.s b2
    | 2, h => cases h; exact (IsBook B.C b.rs b.ls (isort tupO (lastM ["make", r0] b.ps))).mo g11.s b3
    | 3, h => cases h; exact (IsBook B.C b.rs b.ls (isort tupO (b.ps.drop 1))).mo g11.s b4) (is_var rfl)
  have cA := ev_lc (K := K) (j := 13) (vs := [13]) (tt := tYes) (te := tOp (rOwnEq K B.C (spEqB K B.C) L2.E0) (tVar 13) (tVar 4)) ei (by decide) (fun _ => rfl) (fun _ => true) (fun i => .a (.bl (bs i))) (fun i v S1 H1 _ _ _ => et_yes) (fun i v S1 H1 hi g p _ => by
    have a4 := e4 (y11 := some (.ref O)) (y12 := some ud) (y13 := some v) (H2 := H1) (s0b.trans g.s)
    match i, hi, p with
    | 0, _, p => have h := ev_ownEqB (K := K) (C := B.C) (ev_var (P := IsBook B.C _ _ _) (i := 13) rfl p) a4; rw [v1] at h; exact toR h
    | 1, _, p => have h := ev_ownEqB (K := K) (C := B.C) (ev_var (P := IsBook B.C _ _ _) (i := 13) rfl p) a4; rw [v2'] at h; exact toR h
    | 2, _, p => have h := ev_ownEqB (K := K) (C := B.C) (ev_var (P := IsBook B.C _ _ _) (i := 13) rfl p) a4; rw [v3'] at h; exact toR h
    | 3, _, p => have h := ev_ownEqB (K := K) (C := B.C) (ev_var (P := IsBook B.C _ _ _) (i := 13) rfl p) a4; rw [v4'] at h; exact toR h)
  have cB := ev_lc (K := K) (j := 13) (vs := [13]) (tt := tYes) (te := tOp (rOwnEq K B.C (spEqB K B.C) L2.E0) (tVar 4) (tVar 13)) ei (by decide) (fun _ => rfl) (fun _ => true) (fun i => .a (.bl (bs i))) (fun i v S1 H1 _ _ _ => et_yes) (fun i v S1 H1 hi g p _ => by
    have a4 := e4 (y11 := some (.ref O)) (y12 := some ud) (y13 := some v) (H2 := H1) (s0b.trans g.s)
    match i, hi, p with
    | 0, _, p => have h := ev_ownEqB (K := K) (C := B.C) a4 (ev_var (P := IsBook B.C _ _ _) (i := 13) rfl p); rw [w1] at h; exact toR h
    | 1, _, p => have h := ev_ownEqB (K := K) (C := B.C) a4 (ev_var (P := IsBook B.C _ _ _) (i := 13) rfl p); rw [w2] at h; exact toR h
    | 2, _, p => have h := ev_ownEqB (K := K) (C := B.C) a4 (ev_var (P := IsBook B.C _ _ _) (i := 13) rfl p); rw [w3] at h; exact toR h
    | 3, _, p => have h := ev_ownEqB (K := K) (C := B.C) a4 (ev_var (P := IsBook B.C _ _ _) (i := 13) rfl p); rw [w4] at h; exact toR h)
  have edue : ∀ {S2 H2 : Hp}, Same S11 S2 → Ev (tVar 12) [some (.ref wl), some (.ref pr), some (.ref D), some (.str (T.l [y0, y1, y2]).dat.shown), some vm, some vd, y6, y7, some v2, some v3, some v4, some (.ref O), some ud, none] S2 H2 (R K due) := fun e => ev_var rfl (Rep.same e rd)
  have d1 := et_not (et_B (ev_call2 (K := K) (E := L2.E0) (ok := okSame (5 + 1)) (f := fun x y => .a (.bl (x.same y))) (x := due) cA (edue (Same.refl _)) okd).Is)
  have d2 := et_not (et_B (ev_call2 (K := K) (E := L2.E0) (ok := okSame (5 + 1)) (f := fun x y => .a (.bl (x.same y))) (x := due) cB (edue (Same.refl _)) okd).Is)
  rw [same_yes rfl] at d1 d2
  show tIfS _ _ _ _ _ _
  refine (et_or d1 (fun _ => d2)).at st11.sub fun S12 H12 g12 => ?_
  refine iteF ?_
  have st12 := st11.grow g12
  have s0c : Same S' S12 := s0b.trans g12.s
  have f4 := e4 (y11 := some (.ref O)) (y12 := some ud) (y13 := none) (H2 := H12) s0c
  have f5 := e5 (y11 := some (.ref O)) (y12 := some ud) (y13 := none) (H2 := H12) s0c
  have sb := sameB_self hrsN hlsN hb.nd
  refine q_ret (ev_andV (ev_ownEqB (K := K) f4 f5) fun _ => ev_andV (ev_notV (ev_ownNeB (K := K) f4 f5)) fun _ => ev_andV (ev_notV (ev_ownEqT (K := K) EB.nT f4 (ev_var (P := R K (.t [.l (b.rs.map tS), .l (b.ls.map tS), .l (b.ps.map tT)])) (i := 1) rfl (rv.same st12.s)))) fun _ => ev_notV (ev_ownEqI (K := K) (i := 5) EB.nI f4 is_c')) st12.sub fun u S13 H13 g13 e13 => ?_
  have e13 : u = _ := e13
  rw [sb] at e13
  subst e13
  exact q c4 _ _ ((st12.grow g13).mono (by omega))
end
end Uw
end
section
set_option Elab.async false
set_option linter.all false
set_option maxRecDepth 100000
set_option maxHeartbeats 2000000
namespace Uw
open PySem PySem.Spec PyProof.Rows L2 RZ
section
variable {P : Program} {w : World} {K : PySem.W.Frag} {mg : Str → Option Value} {base : Heap}
theorem ev_intB {σ : L2.St} {S H : Hp} {ta : TE} {k : Bool} (h : Ev ta σ S H (Is (.bl k))) : Ev (tCB (fun xs H Q => (∃ i, xs = [V.int i] ∧ Q (V.int i) H) ∨ ∃ k, xs = [V.bl k] ∧ Q (V.int (if k = true then 1 else 0)) H) (tCons ta tNil)) σ S H (Is (.int (if k = true then 1 else 0))) := fun S1 H1 g Q q =>
  h S1 H1 g _ fun v S2 H2 g2 e => .inr ⟨k, by have e : v = .bl k := e; rw [e], q _ S2 H2 g2 rfl⟩
theorem ev_isPok {σ : L2.St} {S H : Hp} {ta tb tc : TE} {x y z : T} {E : XK} (Z : Px K mg) (ha : Ev ta σ S H (R K x)) (hb : Ev tb σ S H (R K y)) (hc : Ev tc σ S H (R K z)) (na : namesSize x) (nb : namesSize y) (nc : z.items.length ≤ 50000) (h1 : x.okRoles = true) (h2 : y.areNames = true) :
    Ev (tCall (spIsP K Z.BadRoles.C Z.BadLabels.C) [] E (tCons ta (tCons tb (tCons tc tNil)))) σ S H (Is (.bl (isP x y z))) := fun S1 H1 g Q q =>
  at_isP Z g.sub (ha.go g) (hb.go g) (hc.go g) na nb nc (fun h => by rw [h1] at h; cases h) (fun _ h => by rw [h2] at h; cases h) fun _ _ S' H' g' => q _ S' H' g' rfl
theorem s_rng1 {σ : L2.St} {S H : Hp} {ta : TE} {g : TG} {tb : TS} {D : Ends} {j : Int} (h : Ev ta σ S H (Is (.int j))) (e : Same S H) (h0 : 0 ≤ j) (h1 : j ≤ 100000)
    (k : ∀ H1, Same H H1 → ∃ W : Nat → L2.St → Hp → Prop, W 0 σ H1 ∧ ∀ i σ' H', W i σ' H' → (i = j.toNat → D.nx σ' H') ∧ (i < j.toNat → g (.int (0 + (i : Int))) σ' H' fun σ2 H2 => tb { D with nx := W (i + 1), ct := W (i + 1), bk := D.nx } σ2 H2)) : tFor (iRng1 (tCons ta tNil)) g tb D σ H := by
  refine h.at e fun u S1 H1 g1 eu => ?_
  have eu : u = .int j := eu
  subst eu
  obtain ⟨W, w0, ws⟩ := k H1 g1.h
  refine ⟨j, rfl, by omega, by omega, fun i m σ' H' => m = j.toNat - i ∧ i ≤ j.toNat ∧ W i σ' H', ⟨j.toNat, rfl, Nat.zero_le _, w0⟩, fun i m σ' H' hI => ?_⟩
  obtain ⟨rfl, hi, hw⟩ := hI
  by_cases hlt : i < j.toNat
  · refine .inr ⟨hlt, W (i + 1), fun σ2 H2 p => ⟨j.toNat - (i + 1), by omega, rfl, hlt, p⟩, fun x H2 ⟨eH, ex⟩ => ?_⟩
    subst eH ex
    exact (ws i σ' H2 hw).2 hlt
  · have ei : i = j.toNat := by omega
    exact .inl ⟨(show j.toNat ≤ i by omega), (ws i σ' H' hw).1 ei⟩
theorem bookE : bookOf (.t []) (.t []) (.t []) = .ok [] [] [] := by
  have e := bookOf_ok (a := .t []) (b := .t []) (c := .t []) (ps := []) rfl rfl rfl rfl .nil
  exact e
theorem bookL : bookOf (.l []) (.l []) (.l []) = .ok [] [] [] := by
  have e := bookOf_ok (a := .l []) (b := .l []) (c := .l []) (ps := []) rfl rfl rfl rfl .nil
  exact e
theorem bookX : bookOf (.l []) (.l [tS "known", tS "x"]) (.l []) = .ok [] ["known", "x"] [] := by
  have e := bookOf_ok (a := .l []) (b := .l [tS "known", tS "x"]) (c := .l []) (ps := []) rfl (by decide +kernel) rfl rfl .nil
  have e2 : isort strO (strsOf (T.l [tS "known", tS "x"]).items) = (["known", "x"] : List Str) := by decide +kernel
  rw [e2] at e
  exact e
def spLaw (K : PySem.W.Frag) (T : Addr) : Sp := fun vs H Q _ => ∃ (a : Addr) (ns : List Int), vs = [.ref a] ∧ ns.length ≤ 63 ∧ SqL K H a (ns.map V.int) ∧ H T = some (.tbl #[]) ∧ ∀ H', Q (.bl true) H'
theorem ok_law (Z : Px K mg) (Y : Pt K w mg) (B : Bk K mg) (EB : BkE K B.C) (X : Exm Z) (Tb : LamTab K mg base "_law_refused_right" "_law_refused_right" s__law_refused_right Z._law_refused_right.f) : FnG P w K mg base CX0 15 Z.law.f Z.law.fd ["script"] (spLaw K Tb.P) := by
  refine Fun.okG Z.law.F sc_law (by rintro vs H Q E ⟨a, ns, rfl, _⟩; rfl) (fun cdv A outer s H vs Q E hg _ _ hr h => ?_)
  obtain ⟨a, ns, rfl, hns, hS, hT, q⟩ := h
  refine ⟨_, (pss_cons (ps_for PassesOwn.never rfl (pi_range1 (by rfl) Z.bl.range (pa_cons (pe_op op_add pe_int (pe_callTy call_int1 (by rfl) Z.bl.int (by decide +kernel) (pa_cons (pe_cmpR op_gt (pe_callB (call_lenK (K := K)) (by rfl) Z.bl.len (by decide +kernel) (pa_cons (pv 0) pa_nil)) pe_int (nomark _)) pa_nil))) pa_nil)) (pg_name (i := 1) sc_law.nd rfl (.inl rfl))
   (pss_cons (ps_set (i := 2) sc_law.nd rfl (.inl rfl) (pe_call (ok__law_well Z) (hr.mono (by decide)) (by rfl) Z._law_well.g Z._law_well.F.kp Z._law_well.b .nil pass0 (pa_cons (pv 0) (pa_cons (pv 1) pa_nil))))
  (pss_one (ps_for PassesOwn.never rfl (pi_range1 (by rfl) Z.bl.range (pa_cons pe_int pa_nil)) (pg_name (i := 3) sc_law.nd rfl (.inl rfl))
   (pss_cons (ps_set (i := 4) sc_law.nd rfl (.inl rfl) (pe_call (ok__law_b_book Z) (hr.mono (by decide)) (by rfl) Z._law_b_book.g Z._law_b_book.F.kp Z._law_b_book.b .nil pass0 (pa_cons (pv 2) (pa_cons (pe_op op_add pe_int (pe_call (ok__law_draw Z) (hr.mono (by decide)) (by rfl) Z._law_draw.g Z._law_draw.F.kp Z._law_draw.b .nil pass0 (pa_cons (pv 2) (pa_cons pe_int pa_nil)))) (pa_cons (pe_call (ok__law_draw Z) (hr.mono (by decide)) (by rfl) Z._law_draw.g Z._law_draw.F.kp Z._law_draw.b .nil pass0 (pa_cons (pv 2) (pa_cons pe_int pa_nil))) (pa_cons (pe_op op_add pe_int (pe_call (ok__law_draw Z) (hr.mono (by decide)) (by rfl) Z._law_draw.g Z._law_draw.F.kp Z._law_draw.b .nil pass0 (pa_cons (pv 2) (pa_cons pe_int pa_nil)))) pa_nil))))))
  (pss_one (ps_if (PW.pt (pw_or (pt_not (pt_val (pe_call (ok__law_permits_right Z Y) (hr.mono (by decide)) (by rfl) Z._law_permits_right.g Z._law_permits_right.F.kp Z._law_permits_right.b .nil pass0 (pa_cons (pv 2) (pa_cons (pv 4) pa_nil))))) (pw_or (pt_not (pt_val (pe_callG hg (ok__law_book_right Z Y B EB) (hr.mono (by decide)) (by rfl) Z._law_book_right.g Z._law_book_right.F.kp Z._law_book_right.b .nil pass0 (pa_cons (pv 2) (pa_cons (pv 4) pa_nil))))) (pw_or1 (pt_not (pt_val (pe_callG hg (ok__law_refused_right Z Y B X Tb) (hr.mono (by decide)) (by rfl) Z._law_refused_right.g Z._law_refused_right.F.kp Z._law_refused_right.b .nil pass0 (pa_cons (pv 2) (pa_cons (pv 4) pa_nil)))))))))
   (pss_one (ps_ret pe_bl))
   pss_nil)))))))
  (pss_cons (ps_set (i := 5) sc_law.nd rfl (.inl rfl) (pe_make B.M (ok_init Z Y B) (hr.mono (by decide)) (by rfl) B.g B.b .nil (passes_call LamX.takes0 (fun _ _ _ _ h => h)) (pa_cons (pe_lst pa_nil) (pa_cons (pe_lst (pa_cons pe_str (pa_cons pe_str pa_nil))) (pa_cons (pe_lst pa_nil) pa_nil)))))
  (pss_cons (ps_set (i := 6) sc_law.nd rfl (.inl rfl) (pe_lst (pa_cons (pe_meth0 (pv 5) B.c B.all_roles.m (ok_all_roles Z B) (hr.mono (by decide)) B.all_roles.b .nil pass0) (pa_cons (pe_meth0 (pv 5) B.c B.all_labels.m (ok_all_labels Z B) (hr.mono (by decide)) B.all_labels.b .nil pass0) (pa_cons (pe_meth0 (pv 5) B.c B.all_permits.m (ok_all_permits Z B) (hr.mono (by decide)) B.all_permits.b .nil pass0) (pa_cons (pe_call (ok_is_permit Z Y) (hr.mono (by decide)) (by rfl) Z.is_permit.g Z.is_permit.F.kp Z.is_permit.b .nil (passes_call LamX.takes0 (fun _ _ _ _ h => h)) (pa_cons (pe_lst pa_nil) (pa_cons (pe_lst pa_nil) (pa_cons (pe_tup (pa_cons pe_str (pa_cons pe_str pa_nil))) pa_nil)))) pa_nil))))))
  (pss_one (ps_ret (pe_and (pe_call (ok__law_same Z 5 (by decide)) (hr.mono (by decide)) (by rfl) Z._law_same.g Z._law_same.F.kp Z._law_same.b .nil pass0 (pa_cons (pv 6) (pa_cons (pe_lst (pa_cons (pe_lst pa_nil) (pa_cons (pe_lst (pa_cons pe_str (pa_cons pe_str pa_nil))) (pa_cons (pe_lst pa_nil) (pa_cons pe_bl pa_nil))))) pa_nil))) (pe_one (pe_cmpR (op_ownEqK (K := K) (ok_eq Z B EB) (hr.mono (by decide)) B.eq.m.at_ B.eq.m.fn B.eq.b pass0) (pe_make B.M (ok_init Z Y B) (hr.mono (by decide)) (by rfl) B.g B.b .nil (passes_call LamX.takes0 (fun _ _ _ _ h => h)) (pa_cons (pe_tup pa_nil) (pa_cons (pe_tup pa_nil) (pa_cons (pe_tup pa_nil) pa_nil)))) (pe_make B.M (ok_init Z Y B) (hr.mono (by decide)) (by rfl) B.g B.b .nil (passes_call LamX.takes0 (fun _ _ _ _ h => h)) (pa_cons (pe_lst pa_nil) (pa_cons (pe_lst pa_nil) (pa_cons (pe_lst pa_nil) pa_nil)))) (nomark _))))))))), ?_⟩
  -- what stands: the script
  let S0 : Hp := fun p => if p = a then noT H p else none
  have e0 : Same S0 H := fun p u h => by
    have h : (if p = a then noT H p else none) = some u := h
    by_cases hp : p = a
    · rw [if_pos hp] at h; exact noT_le _ _ h
    · rw [if_neg hp] at h; cases h
  have n0 : NoTb S0 := fun p ps h => by
    have h : (if p = a then noT H p else none) = some (.tbl ps) := h
    by_cases hp : p = a
    · rw [if_pos hp] at h; exact noT_tb _ _ _ h
    · rw [if_neg hp] at h; cases h
  have sq : SqL K S0 a (ns.map V.int) := by
    have key : ∀ o, H a = some o → (∀ ps, o ≠ .tbl ps) → S0 a = some o := fun o h n => by
      show (if a = a then noT H a else none) = some o
      rw [if_pos rfl]
      exact noT_of h n
    rcases hS with h | h
    · rcases h with h | ⟨o, h⟩
      · exact .inl (.inl (key _ h fun _ z => by cases z))
      · exact .inl (.inr ⟨o, key _ h fun _ z => by cases z⟩)
    · exact .inr h
  have t0 : LamX.TabS H Tb.P (lamN "_law_refused_right") := ⟨#[], hT, trivial, fun pos cv h => by cases h⟩
  clear hT
  -- for place in range(..)
  have hlen := ev_lenQ (K := K) (S := S0) (H := H) (σ := [some (.ref a), none, none, none, none, none, none]) sq (is_var (i := 0) (v := .ref a) rfl)
  have hgt : Ev (tOp _ _ _) [some (.ref a), none, none, none, none, none, none] S0 H (Is (.bl (decide ((2 : Int) < ((ns.map V.int).length : Nat))))) := ev_I0 (g := fun i j => .bl (decide (j < i))) hlen (is_c (v := .int 2))
  have hn := ev_I0 (g := fun i j => V.int (i + j)) (is_c (v := .int 2)) (ev_intB hgt)
  obtain ⟨np, hnp, hnp2, enp⟩ : ∃ np : Int, 0 ≤ np ∧ np ≤ 3 ∧ (2 : Int) + (if decide ((2 : Int) < ((ns.map V.int).length : Nat)) = true then 1 else 0) = np := ⟨_, by split <;> decide, by split <;> decide, rfl⟩
  rw [enp] at hn
  show tFor (iRng1 (tCons _ tNil)) _ _ _ _ _
  refine s_rng1 hn e0 hnp (by omega) fun H1 g1 => ⟨fun i σ' H' => (∃ y1 y2 y3 y4, σ' = [some (.ref a), y1, y2, y3, y4, none, none]) ∧ Same S0 H' ∧ LamX.TabS H' Tb.P (lamN "_law_refused_right"), ⟨⟨none, none, none, none, rfl⟩, e0.trans g1, t0.ext g1⟩, fun i σ' H' hI => ⟨fun ei => ?_, fun hlt => ?_⟩⟩
  rotate_left
  · obtain ⟨⟨y1, y2, y3, y4, rfl⟩, e', t'⟩ := hI
    have hpl : i ≤ 10 := by omega
    -- well
    dsimp only [gName]
    refine q_asg ⟨.ref a, rfl, .int (0 + (i : Int)), rfl, S0, a, ns, i, by rw [Int.zero_add]; rfl, e', sq, hns, hpl, fun p S2 H2 hp g2 hS2 hW => ?_⟩
    dsimp only [gName]
    show tFor (iRng1 (tCons (tC (.int 3)) tNil)) _ _ _ _ _
    refine s_rng1 (S := S2) (j := 3) is_c' g2.sub (by decide) (by decide) fun H3 s3 => ⟨fun j σ' H' => (∃ y3 y4, σ' = [some (.ref a), some (.int (0 + (i : Int))), some (.ref p), y3, y4, none, none]) ∧ ∃ S' c', St p Tb.P (lamN "_law_refused_right") S' H' c' ∧ Same S0 S' ∧ c' ≤ j * 200000000000, ?_, fun j σ' H' hI => ⟨fun ej => ?_, fun hj => ?_⟩⟩
    · refine ⟨⟨y3, y4, rfl⟩, noT S2, 0, ⟨fun p u h => s3 _ _ (g2.sub _ _ (noT_le _ _ h)), noT_none hS2, ?_, hW.same s3, t'.ext (g2.h.trans s3), noT_tb _⟩, fun p u h => noT_of (g2.s _ _ h) (fun ps z => n0 p ps (z ▸ h)), by omega⟩
      cases e : noT S2 Tb.P with
      | none => rfl
      | some o =>
        obtain ⟨ps, hps, _⟩ := t'.ext g2.h
        have h2 := g2.sub _ _ (noT_le _ _ e)
        rw [hps] at h2
        cases h2
        exact absurd e (noT_tb _ _ _)
    · obtain ⟨⟨z3, z4, rfl⟩, S', c', st, s0, _⟩ := hI
      exact ⟨⟨_, _, _, _, rfl⟩, s0.trans st.sub, st.tab⟩
    · obtain ⟨⟨z3, z4, rfl⟩, S', c', st, s0, hc⟩ := hI
      have hj : j < 3 := hj
      dsimp only [gName]
      refine q_asg ?_
      refine ⟨.ref p, rfl, ?_⟩
      show tCall spDraw [] L2.E0 (tCons (tVar 2) (tCons (tC (.int 5)) tNil)) _ _ _
      refine at_draw (m := 5) st.sub st.ow st.well (by omega) (ev_var (P := Is (.ref p)) rfl rfl) is_c' (by decide) (by decide) fun d1 c1 S1 H1 d10 d11 st1 => ⟨1, d1, rfl, rfl, ?_⟩
      show tCall spDraw [] L2.E0 (tCons (tVar 2) (tCons (tC (.int 3)) tNil)) _ _ _
      have le1 := st1.le
      refine at_draw (m := 3) st1.sub st1.out st1.well (by omega) (ev_var (P := Is (.ref p)) rfl rfl) is_c' (by decide) (by decide) fun d2 c2 S2 H2 d20 d21 st2 => ?_
      have le2 := st2.le
      show tCall spDraw [] L2.E0 (tCons (tVar 2) (tCons (tC (.int 9)) tNil)) _ _ _
      refine at_draw (m := 9) st2.sub st2.out st2.well (by omega) (ev_var (P := Is (.ref p)) rfl rfl) is_c' (by decide) (by decide) fun d3 c3 S3 H3 d30 d31 st3 => ⟨1, d3, rfl, rfl, ?_⟩
      have le3 := st3.le
      obtain ⟨d1, rfl⟩ := Int.eq_ofNat_of_zero_le d10
      obtain ⟨d2, rfl⟩ := Int.eq_ofNat_of_zero_le d20
      obtain ⟨d3, rfl⟩ := Int.eq_ofNat_of_zero_le d30
      have h1 : (1 : Int) + (d1 : Int) = ((1 + d1 : Nat) : Int) := by omega
      have h3 : (1 : Int) + (d3 : Int) = ((1 + d3 : Nat) : Int) := by omega
      refine ⟨S3, p, c3, 1 + d1, d2, 1 + d3, by show [V.ref p, V.int (1 + (d1 : Int)), V.int (d2 : Int), V.int (1 + (d3 : Int))] = _; rw [h1, h3], st3.sub, st3.out, st3.well, by omega, by omega, by omega, by omega, by omega, fun u b c4 S4 H4 st4 rb hb => ?_⟩
      have le4 := st4.le
      dsimp only [gName]
      refine ⟨.ref p, rfl, u, rfl, S4, p, c4, 1 + d3, u, b, rfl, st4.sub, st4.out, st4.well, by omega, rb, hb, by omega, fun c5 S5 H5 st5 => ?_⟩
      have le5 := st5.le
      refine ⟨true, rfl, ?_⟩
      refine ⟨.ref p, rfl, u, rfl, S5, p, c5, 1 + d3, u, b, rfl, st5.sub, st5.out, st5.well, by omega, rb.same st5.s, hb, by omega, fun c6 S6 H6 st6 => ?_⟩
      have le6 := st6.le
      refine ⟨true, rfl, ?_⟩
      obtain ⟨st7, mv7⟩ := st.stp ((((st1.trans st2).trans st3).trans st4).trans (st5.trans st6))
      refine ⟨.ref p, rfl, u, rfl, noT S6, p, c6, 1 + d3, u, b, rfl, st7, by omega, (rb.same (st5.s.trans st6.s)).noT, hb, by omega, hb.pne (by omega), fun S8 H8 c8 st8 mv8 hc8 => ?_⟩
      refine ⟨true, rfl, ?_⟩
      refine ⟨⟨_, _, rfl⟩, S8, c8, st8, s0.trans (mv7.s.trans mv8.s), by omega⟩
  obtain ⟨⟨y1, y2, y3, y4, rfl⟩, e', t'⟩ := hI
  have nN : namesSize (.l []) := ⟨by decide, fun y hy => by simp [T.items] at hy⟩
  have nNt : namesSize (.t []) := ⟨by decide, fun y hy => by simp [T.items] at hy⟩
  have nX : namesSize (.l [tS "known", tS "x"]) := size_strs (zs := ["known", "x"]) (fun z hz => by
    simp only [List.mem_cons, List.not_mem_nil, or_false] at hz
    rcases hz with rfl | rfl <;> decide) (by decide)
  have pN : permitsSize (.l []) := ⟨by decide, fun y hy => by simp [T.items] at hy⟩
  have pNt : permitsSize (.t []) := ⟨by decide, fun y hy => by simp [T.items] at hy⟩
  have eN : ∀ {σ : L2.St} {S H : Hp}, Ev (tLst tNil) σ S H (R K (.l [])) := ev_lst (xs := []) ea_nil (by decide)
  have eNt : ∀ {σ : L2.St} {S H : Hp}, Ev (tTup tNil) σ S H (R K (.t [])) := ev_tup (xs := []) ea_nil (by decide)
  have eX : ∀ {σ : L2.St} {S H : Hp}, Ev (tLst (tCons (tC (.str "known")) (tCons (tC (.str "x")) tNil))) σ S H (R K (.l [tS "known", tS "x"])) := ev_lst (xs := [tS "known", tS "x"]) (ea_two (ev_c (.a rfl)) (ev_c (.a rfl))) (by decide)
  have kB := ev_Book (E := fun _ _ _ => False) (S := S0) (H := H') (σ := [some (.ref a), y1, y2, y3, y4, none, none]) Z B eN eX eN nN nX pN (by decide) (by decide) bookX
  dsimp only
  refine q_set kB e' fun vk S1 H1 g1 bk => ?_
  have ek : ∀ {S2 H2 : Hp}, Same S1 S2 → Ev (tVar 5) [some (.ref a), y1, y2, y3, y4, some vk, none] S2 H2 (IsBook B.C [] ["known", "x"] []) := fun e => ev_var rfl ((IsBook B.C [] ["known", "x"] []).mo e bk)
  have t1 := (ev_tell (K := K) (E := L2.E0) (f := fun rs _ _ => T.l (rs.map tS)) B (m := "all_roles") (fun _ _ _ => rfl) (ek (H2 := H1) (Same.refl _))).imp (P1 := R K (.l [])) fun S v h => h.1
  have t2 := (ev_tell (K := K) (E := L2.E0) (f := fun _ ls _ => T.l (ls.map tS)) B (m := "all_labels") (fun _ _ _ => rfl) (ek (H2 := H1) (Same.refl _))).imp (P1 := R K (.l [tS "known", tS "x"])) fun S v h => h.1
  have t3 := (ev_tell (K := K) (E := L2.E0) (f := fun _ _ ps => T.l (ps.map tT)) B (m := "all_permits") (fun _ _ _ => rfl) (ek (H2 := H1) (Same.refl _))).imp (P1 := R K (.l [])) fun S v h => h.1
  have fP : isP (.l []) (.l []) (.t [tS "make", tS "a"]) = false := by decide +kernel
  have t4 := (ev_isPok (E := fun _ _ _ => False) (S := S1) (H := H1) (σ := [some (.ref a), y1, y2, y3, y4, some vk, none]) Z eN eN (ev_tup (xs := [tS "make", tS "a"]) (ea_two (ev_c (.a rfl)) (ev_c (.a rfl))) (by decide)) nN nN (by decide) rfl rfl).imp (P1 := R K (.a (.bl false))) fun S v h => by
    have h : v = .bl (isP (.l []) (.l []) (.t [tS "make", tS "a"])) := h
    rw [h, fP]
    exact .a rfl
  let due : T := .l [.l [], .l [tS "known", tS "x"], .l [], .a (.bl false)]
  refine q_set (ev_lst (xs := [.l [], .l [tS "known", tS "x"], .l [], .a (.bl false)]) (ea_cons t1 (ea_cons t2 (ea_two t3 t4))) (by show 4 ≤ 100000; decide)) g1.sub fun vf S2 H2 g2 rf => ?_
  have ef : Ev (tVar 6) [some (.ref a), y1, y2, y3, y4, some vk, some vf] S2 H2 (R K due) := ev_var rfl rf
  have okd : okSame (5 + 1) due due := ⟨rfl, rfl, by decide, ⟨by decide, ⟨by decide, trivial⟩, ⟨by decide, trivial, trivial, trivial⟩, ⟨by decide, trivial⟩, trivial, trivial⟩, ⟨by decide, ⟨by decide, trivial⟩, ⟨by decide, trivial, trivial, trivial⟩, ⟨by decide, trivial⟩, trivial, trivial⟩⟩
  have c1 := (ev_call2 (K := K) (E := L2.E0) (ok := okSame (5 + 1)) (f := fun x y => .a (.bl (x.same y))) ef (ev_lst (xs := [.l [], .l [tS "known", tS "x"], .l [], .a (.bl false)]) (ea_cons eN (ea_cons eX (ea_two eN (ev_c (.a rfl))))) (by show 4 ≤ 100000; decide)) okd).Is
  rw [same_yes rfl] at c1
  refine q_ret (ev_andV c1 fun _ => ev_ownEqB (K := K) (ev_Book (E := fun _ _ _ => False) Z B eNt eNt eNt nNt nNt pNt (by decide) (by decide) bookE) (ev_Book (E := fun _ _ _ => False) Z B eN eN eN nN nN pN (by decide) (by decide) bookL)) g2.sub fun u S3 H3 g3 e3 => ?_
  have e3 : u = .bl (true && sameB [] [] [] [] [] []) := e3
  have sb : sameB [] [] [] [] [] [] = true := sameB_self .nil .nil .nil
  rw [sb] at e3
  subst e3
  exact q H3
end
end Uw
end
section
set_option Elab.async false
set_option linter.all false
set_option maxRecDepth 100000
set_option maxHeartbeats 2000000
namespace Uw
open PySem PySem.Spec PyProof.Rows L2 RZ
/-! ### what the top leaves, read by a Hook -/
theorem fun_ofD {K : PySem.W.Frag} {x qual : Str} {st : Stmt} {f : Addr} {fd : FuncData} (F : FunD K x qual (defArgs st) (defBody st) (defScope st) [] [] f fd) : Fun K x qual st f fd := by
  obtain ⟨oc, od, dV, kV, doc, pm, an, cdv, ct, osl, e, lk, hcd, hD, hK⟩ := F.ex
  rcases hD with ⟨_, rfl⟩ | ⟨z, _⟩
  · exact ⟨⟨oc, od, kV, doc, pm, an, cdv, ct, osl, e, lk, hcd⟩, F.kp⟩
  · exact absurd rfl z
abbrev BindsAll (x qual : Str) (st : Stmt) (ps : List Str) : Prop :=
  ∀ (kV doc pm : Value) (an : Option Addr) (cdv ct : Value) (us : List Value), us.length = ps.length → bindArgs (PySem.W.fnOf x qual (defArgs st) (defBody st) (defScope st) .none kV doc pm an cdv ct) ⟨us, []⟩ = pure (ps.zip us)
abbrev FunE (K : PySem.W.Frag) (x qual : Str) (st : Stmt) (f : Addr) : Prop := ∃ fd, FunD K x qual (defArgs st) (defBody st) (defScope st) [] [] f fd
section
variable {K : PySem.W.Frag} {h : Heap} {mg : Str → Option Value}
noncomputable def mkDn (X : K.In h) (G : h.Ns mainGlobals mg) {x : Str} {st : Stmt} {ps : List Str} (gl : (He.Fa.glo x).ok K = true) (F : FunE K x x st (He.ga K x)) (hb : BindsAll x x st ps) : Dn K mg x st ps :=
  ⟨He.ga K x, F.choose, He.glo_ok X G gl, fun_ofD F.choose_spec, F.choose_spec.bindsN hb⟩
noncomputable def mkMd {C : Addr} {x qual : Str} {st : Stmt} {ps : List Str} (m : Meth K C x (He.ma K C x)) (F : FunE K x qual st (He.ma K C x)) (hb : BindsAll x qual st ps) : Md K C x qual st ps :=
  ⟨He.ma K C x, F.choose, fun_ofD F.choose_spec, F.choose_spec.bindsN hb, m⟩
def oexB (K : PySem.W.Frag) (C : Addr) : Bool := match K.lookup C with
  | some ⟨.type "type", _, .cls cd, sl⟩ => (match cd.mro, sl.toList with
    | .ref C' :: bm, [_, _, _, _, some (.builtin n), _] => C' == C && n == "ValueError.__new__" && !cd.hasDel && cd.hasDict && PySem.HandSPX.refsVE bm
    | _, _ => false)
  | _ => false
theorem oexB_ok {C : Addr} (q : oexB K C = true) : ∃ nm q N bs bm sn sub ab col dd k0 k1 k2 k3 k5, K.lookup C = some (excClassObj nm q C N bs bm true sn sub ab col dd k0 k1 k2 k3 k5 "ValueError.__new__") ∧ PySem.HandSPX.refsVE bm = true := by
  unfold oexB at q
  split at q
  · rename_i dd cd sl ho
    split at q
    · rename_i C' bm k0 k1 k2 k3 n k5 hm hs
      simp only [Bool.and_eq_true, beq_iff_eq, Bool.not_eq_true'] at q
      obtain ⟨⟨⟨⟨rfl, rfl⟩, hdel⟩, hdct⟩, ht⟩ := q
      obtain ⟨nm, bs, mro, ns, qn, hd, sn, sub, ab, col, del⟩ := cd
      dsimp only at hm hdel hdct
      subst hm hdel hdct
      have hsl : sl = #[k0, k1, k2, k3, some (.builtin "ValueError.__new__"), k5] := by
        obtain ⟨l⟩ := sl
        simp only at hs
        rw [hs]
      subst hsl
      exact ⟨nm, qn, ns, bs, bm, sn, sub, ab, col, dd, k0, k1, k2, k3, k5, ho, ht⟩
    · cases q
  · cases q
/-- an own error's class: x, of the field f -/
def erB (x f : Str) (K : PySem.W.Frag) : Bool :=
  oexB K (He.ga K x) && (He.eqO (PySem.W.findIn K (.ref (He.ga K x)) "__setattr__") (some (some (.builtin "object.__setattr__"))) && (decide (PySem.W.subIn K (.ref (He.ga K x)) (.type "BaseException") = some true) && (decide (PySem.W.typeIn K (.ref (He.ga K x)) = some (.type "type")) &&
  (PySem.W.keepIn K (.ref (He.ga K x)) && (He.eqO (PySem.W.findIn K (.ref (He.ga K x)) "__init__") (some (some (.ref (He.ma K (He.ga K x) "__init__")))) && (decide (PySem.W.typeIn K (.ref (He.ma K (He.ga K x) "__init__")) = some (.type "function")) &&
  (He.eqO (PySem.W.findIn K (.ref (He.ga K x)) f) (some none) && (He.eqO (PySem.W.findIn K (.ref (He.ga K x)) "__getattribute__") (some (some (.builtin "BaseException.__getattribute__"))) && (He.eqO (PySem.W.findIn K (.ref (He.ga K x)) "__getattr__") (some none) && PySem.W.hasDictIn K (He.ga K x))))))))))
noncomputable def mkEr (X : K.In h) (G : h.Ns mainGlobals mg) {x qual f : Str} {st : Stmt} (gl : (He.Fa.glo x).ok K = true) (q : erB x f K = true) (F : FunE K "__init__" qual st (He.ma K (He.ga K x) "__init__")) (hb : BindsAll "__init__" qual st ["self", f]) : Er K mg x qual f st :=
  have q0 := He.ba q
  have q1 := He.ba q0.2
  have q2 := He.ba q1.2
  have q3 := He.ba q2.2
  have q4 := He.ba q3.2
  have q5 := He.ba q4.2
  have q6 := He.ba q5.2
  have q7 := He.ba q6.2
  have q8 := He.ba q7.2
  have q9 := He.ba q8.2
  { C := He.ga K x, fI := He.ma K (He.ga K x) "__init__", fd := F.choose, m := He.glo_ok X G gl
    T := ⟨oexB_ok q0.1, He.eqO_ok q1.1, of_decide_eq_true q2.1, of_decide_eq_true q3.1, q4.1⟩
    iC := He.eqO_ok q5.1, tI := of_decide_eq_true q6.1, F := fun_ofD F.choose_spec, b := F.choose_spec.bindsN hb, no := He.eqO_ok q7.1, ga := He.eqO_ok q8.1, gg := He.eqO_ok q9.1, hd := q9.2 }
/-! ### the table of kinds -/
def permKeys : List Str := ["make", "bring", "show", "copy", "derive", "wrap", "unwrap", "seal", "open"]
/-- each value of the table is a tuple of its kinds -/
def permB (K : PySem.W.Frag) : Bool := permKeys.all fun z => match PySem.W.nsIn K (He.ga K "PERMITS") z with
  | some (some (.ref p)) => (match K.lookup p, kindsOf z with
    | some ⟨.type c, _, .seq its _, _⟩, some ks => decide (c = "tuple") && (decide (its.size ≤ sizeLine) && He.relAll (ks.map V.str) its.toList)
    | _, _ => false)
  | _ => false
theorem perm_none {z : Str} (h : z ∉ permKeys) : kindsOf z = none := by
  unfold kindsOf
  unfold permKeys at h
  simp only [List.mem_cons, List.not_mem_nil, or_false, not_or] at h
  obtain ⟨h1, h2, h3, h4, h5, h6, h7, h8, h9⟩ := h
  rw [if_neg (by simp only [List.mem_cons, List.not_mem_nil, or_false, not_or]; exact ⟨h1, h2, h3, h8, h9⟩), if_neg (by simp only [List.mem_cons, List.not_mem_nil, or_false, not_or]; exact ⟨h4, h6, h7⟩), if_neg h5]
theorem ns_none {w : World} {z : Str} : ∀ {l : List DictEntry} {ks : List Str}, l.map He.keyOf = He.keysIn w.params ks → z ∉ ks → (l.find? (·.key.isStr z)) = none ∧ l.any (·.refKey) = false
  | [], _, _, _ => ⟨rfl, rfl⟩
  | e :: r, [], h, _ => by cases h
  | e :: r, k :: ks, h, hz => by
    have h1 : He.keyOf e :: r.map He.keyOf = some (k, PyData.keyHash w.params k) :: He.keysIn w.params ks := h
    injection h1 with h2 h3
    obtain ⟨i1, i2⟩ := ns_none h3 fun m => hz (List.mem_cons_of_mem _ m)
    unfold He.keyOf at h2
    split at h2
    · rename_i x t q
      obtain ⟨h5, h6⟩ := Prod.mk.inj (Option.some.inj h2)
      have ne : x ≠ z := fun e => hz (by rw [← e, h5]; exact List.mem_cons_self)
      refine ⟨?_, ?_⟩
      · rw [List.find?_cons]
        rw [show e.key.isStr z = false by rw [q]; unfold Value.isStr; simp [ne]]
        exact i1
      · rw [List.any_cons, i2]
        rw [show e.refKey = false by unfold DictEntry.refKey; rw [q] <;> rfl]
        rfl
    · cases h2
theorem perm_get {w : World} (t : He.dicW K (He.ga K "PERMITS") = some (He.keysIn w.params permKeys)) (v : permB K = true) (z : Str) :
    ∃ o, KGet K w (He.ga K "PERMITS") z o ∧ ((o = none ∧ kindsOf z = none) ∨ ∃ p ks, o = some (.ref p) ∧ kindsOf z = some ks ∧ ∀ H, SqT K H p (ks.map V.str)) := by
  obtain ⟨es, n, D⟩ := He.dicW_ok t
  have hes : es.toList.map He.keyOf = He.keysIn w.params permKeys := by
    have t' := t
    unfold He.dicW at t'
    rw [D.at_] at t'
    dsimp only at t'
    split at t'
    · exact Option.some.inj t'
    · cases t'
  by_cases hz : z ∈ permKeys
  · have h2 := List.all_eq_true.mp v z hz
    split at h2
    · rename_i p hp
      split at h2
      · rename_i c d its m sl ks hl hk
        obtain ⟨h3, h4⟩ := He.ba h2
        obtain ⟨h5, h6⟩ := He.ba h4
        exact ⟨some (.ref p), ⟨es, n, D.at_, D.lit, D.low, .inr ⟨.ref p, .ref p, hp, rfl, rfl⟩⟩, .inr ⟨p, ks, rfl, hk, fun H => .inr ⟨_, its, m, hl, congrArg Value.type (of_decide_eq_true h3), rfl, of_decide_eq_true h5, He.relAll_ok h6⟩⟩⟩
      · cases h2
    · cases h2
  · obtain ⟨i1, i2⟩ := ns_none hes hz
    refine ⟨none, ⟨es, n, D.at_, D.lit, D.low, .inl ⟨?_, rfl⟩⟩, .inl ⟨rfl, perm_none hz⟩⟩
    unfold PySem.W.nsIn
    rw [D.at_]
    dsimp only
    rw [i1, i2]
    rfl
end
end Uw
end
section
set_option Elab.async false
set_option linter.all false
set_option maxRecDepth 100000
set_option maxHeartbeats 0
namespace Uw
open PySem PySem.Spec PyProof.Rows L2 RZ
def bkeB (K : PySem.W.Frag) : Bool :=
  He.eqO (PySem.W.findIn K (.ref (He.ga K "Book")) "__class__") (some (some (.builtin "object.__class__"))) && (He.eqO (PySem.W.specialIn K (.builtin "object.__class__") "__get__") (some (some (.builtin "getset_descriptor.__get__"))) && (decide (PySem.W.takesIn K (.builtin "object.__class__") = some true) &&
  (decide (PySem.W.mroIn K (He.ga K "Book") (.type "object") = some true) && (decide (PySem.W.kitOne K (.ref (He.ga K "Book")) (.ref (He.ga K "Book")) = some true) && (decide (PySem.W.kitOne K (.type "int") (.ref (He.ga K "Book")) = some false) && (decide (PySem.W.kitOne K (.type "tuple") (.ref (He.ga K "Book")) = some false) &&
  (He.eqO (PySem.W.findIn K (.ref (He.ga K "Book")) "__ne__") (some (some (.builtin "object.__ne__"))) && (PySem.W.notFirst K (He.ga K "Book") (.type "int") && PySem.W.notFirst K (He.ga K "Book") (.type "tuple")))))))))
theorem bkeB_ok {K : PySem.W.Frag} (q : bkeB K = true) : BkE K (He.ga K "Book") := by
  obtain ⟨q1, q⟩ := He.ba q
  obtain ⟨q2, q⟩ := He.ba q
  obtain ⟨q3, q⟩ := He.ba q
  obtain ⟨q4, q⟩ := He.ba q
  obtain ⟨q5, q⟩ := He.ba q
  obtain ⟨q6, q⟩ := He.ba q
  obtain ⟨q7, q⟩ := He.ba q
  obtain ⟨q8, q⟩ := He.ba q
  obtain ⟨q9, q10⟩ := He.ba q
  exact ⟨He.eqO_ok q1, He.eqO_ok q2, of_decide_eq_true q3, of_decide_eq_true q4, of_decide_eq_true q5, of_decide_eq_true q6, of_decide_eq_true q7, He.eqO_ok q8, q9, q10⟩
theorem tab_eq {fa : List He.Fa} {fn : List He.DefD} {tf : List He.Defn} {ex : PySem.W.Frag → Bool} {w : World} {h : Heap} {K : PySem.W.Frag} (c : He.SaysX fa fn [((fun K => He.ga K "PERMITS"), permKeys)] tf ex w h K) : He.dicW K (He.ga K "PERMITS") = some (He.keysIn w.params permKeys) := by
  have e : ([((fun K => He.ga K "PERMITS"), permKeys)] : List He.Tab).map (fun t => He.dicW K (t.1 K)) = ([((fun K => He.ga K "PERMITS"), permKeys)] : List He.Tab).map fun t => some (He.keysIn w.params t.2) := congrArg (fun z : He.AlT => z.2) c.t
  exact (List.cons.inj e).1
def hfn : List He.DefD := ([(⟨("is_list", none), "is_list", "is_list", defArgs s_is_list, defBody s_is_list, defScope s_is_list, [], []⟩ : He.DefD), (⟨("is_name", none), "is_name", "is_name", defArgs s_is_name, defBody s_is_name, defScope s_is_name, [], []⟩ : He.DefD), (⟨("are_names", none), "are_names", "are_names", defArgs s_are_names, defBody s_are_names, defScope s_are_names, [], []⟩ : He.DefD), (⟨("first_word", none), "first_word", "first_word", defArgs s_first_word, defBody s_first_word, defScope s_first_word, [], []⟩ : He.DefD), (⟨("first_wrong", none), "first_wrong", "first_wrong", defArgs s_first_wrong, defBody s_first_wrong, defScope s_first_wrong, [], []⟩ : He.DefD), (⟨("need_roles", none), "need_roles", "need_roles", defArgs s_need_roles, defBody s_need_roles, defScope s_need_roles, [], []⟩ : He.DefD), (⟨("need_labels", none), "need_labels", "need_labels", defArgs s_need_labels, defBody s_need_labels, defScope s_need_labels, [], []⟩ : He.DefD), (⟨("need_unlike", none), "need_unlike", "need_unlike", defArgs s_need_unlike, defBody s_need_unlike, defScope s_need_unlike, [], []⟩ : He.DefD)] : List He.DefD) ++ ([(⟨("read_permit", none), "read_permit", "read_permit", defArgs s_read_permit, defBody s_read_permit, defScope s_read_permit, [], []⟩ : He.DefD), (⟨("is_permit", none), "is_permit", "is_permit", defArgs s_is_permit, defBody s_is_permit, defScope s_is_permit, [], []⟩ : He.DefD), (⟨("_law_well", none), "_law_well", "_law_well", defArgs s__law_well, defBody s__law_well, defScope s__law_well, [], []⟩ : He.DefD), (⟨("_law_draw", none), "_law_draw", "_law_draw", defArgs s__law_draw, defBody s__law_draw, defScope s__law_draw, [], []⟩ : He.DefD), (⟨("_law_pick", none), "_law_pick", "_law_pick", defArgs s__law_pick, defBody s__law_pick, defScope s__law_pick, [], []⟩ : He.DefD), (⟨("_law_mixed", none), "_law_mixed", "_law_mixed", defArgs s__law_mixed, defBody s__law_mixed, defScope s__law_mixed, [], []⟩ : He.DefD), (⟨("_law_same", none), "_law_same", "_law_same", defArgs s__law_same, defBody s__law_same, defScope s__law_same, [], []⟩ : He.DefD), (⟨("_law_loose", none), "_law_loose", "_law_loose", defArgs s__law_loose, defBody s__law_loose, defScope s__law_loose, [], []⟩ : He.DefD)] : List He.DefD) ++ ([(⟨("_law_spoiled", none), "_law_spoiled", "_law_spoiled", defArgs s__law_spoiled, defBody s__law_spoiled, defScope s__law_spoiled, [], []⟩ : He.DefD), (⟨("_law_b_names", none), "_law_b_names", "_law_b_names", defArgs s__law_b_names, defBody s__law_b_names, defScope s__law_b_names, [], []⟩ : He.DefD), (⟨("_law_b_permit", none), "_law_b_permit", "_law_b_permit", defArgs s__law_b_permit, defBody s__law_b_permit, defScope s__law_b_permit, [], []⟩ : He.DefD), (⟨("_law_b_book", none), "_law_b_book", "_law_b_book", defArgs s__law_b_book, defBody s__law_b_book, defScope s__law_b_book, [], []⟩ : He.DefD), (⟨("_law_is_permit", none), "_law_is_permit", "_law_is_permit", defArgs s__law_is_permit, defBody s__law_is_permit, defScope s__law_is_permit, [], []⟩ : He.DefD), (⟨("_law_near", none), "_law_near", "_law_near", defArgs s__law_near, defBody s__law_near, defScope s__law_near, [], []⟩ : He.DefD), (⟨("_law_permits_right", none), "_law_permits_right", "_law_permits_right", defArgs s__law_permits_right, defBody s__law_permits_right, defScope s__law_permits_right, [], []⟩ : He.DefD), (⟨("_law_book_right", none), "_law_book_right", "_law_book_right", defArgs s__law_book_right, defBody s__law_book_right, defScope s__law_book_right, [], []⟩ : He.DefD)] : List He.DefD) ++ ([(⟨("_law_met", none), "_law_met", "_law_met", defArgs s__law_met, defBody s__law_met, defScope s__law_met, [], []⟩ : He.DefD), (⟨("_law_refused_right", none), "_law_refused_right", "_law_refused_right", defArgs s__law_refused_right, defBody s__law_refused_right, defScope s__law_refused_right, [], []⟩ : He.DefD), (⟨("law", none), "law", "law", defArgs s_law, defBody s_law, defScope s_law, [], []⟩ : He.DefD), (⟨("BadRoles", some "__init__"), "__init__", "BadRoles.__init__", defArgs s_BadRoles, defBody s_BadRoles, defScope s_BadRoles, [], []⟩ : He.DefD), (⟨("BadLabels", some "__init__"), "__init__", "BadLabels.__init__", defArgs s_BadLabels, defBody s_BadLabels, defScope s_BadLabels, [], []⟩ : He.DefD), (⟨("BadPermits", some "__init__"), "__init__", "BadPermits.__init__", defArgs s_BadPermits, defBody s_BadPermits, defScope s_BadPermits, [], []⟩ : He.DefD), (⟨("Book", some "__init__"), "__init__", "Book.__init__", defArgs s_Book___init__, defBody s_Book___init__, defScope s_Book___init__, [], []⟩ : He.DefD), (⟨("Book", some "all_roles"), "all_roles", "Book.all_roles", defArgs s_Book_all_roles, defBody s_Book_all_roles, defScope s_Book_all_roles, [], []⟩ : He.DefD)] : List He.DefD) ++ ([(⟨("Book", some "all_labels"), "all_labels", "Book.all_labels", defArgs s_Book_all_labels, defBody s_Book_all_labels, defScope s_Book_all_labels, [], []⟩ : He.DefD), (⟨("Book", some "all_permits"), "all_permits", "Book.all_permits", defArgs s_Book_all_permits, defBody s_Book_all_permits, defScope s_Book_all_permits, [], []⟩ : He.DefD), (⟨("Book", some "__eq__"), "__eq__", "Book.__eq__", defArgs s_Book___eq__, defBody s_Book___eq__, defScope s_Book___eq__, [], []⟩ : He.DefD)] : List He.DefD)
def hfa : List He.Fa := ([.free "isinstance", .free "list", .free "tuple", .free "str", .free "int", .free "dict", .free "bool", .free "len"] : List He.Fa) ++ ([.free "all", .free "any", .free "sum", .free "abs", .free "set", .free "sorted", .free "range", .free "zip"] : List He.Fa) ++ ([.free "enumerate", .free "repr", .str "LETTERS" letters, .str "SIGNS" signs, .glo "is_list", .glo "is_name", .glo "are_names", .glo "first_word"] : List He.Fa) ++ ([.glo "first_wrong", .glo "need_roles", .glo "need_labels", .glo "need_unlike", .glo "read_permit", .glo "is_permit", .glo "_law_well", .glo "_law_draw"] : List He.Fa) ++ ([.glo "_law_pick", .glo "_law_mixed", .glo "_law_same", .glo "_law_loose", .glo "_law_spoiled", .glo "_law_b_names", .glo "_law_b_permit", .glo "_law_b_book"] : List He.Fa) ++ ([.glo "_law_is_permit", .glo "_law_near", .glo "_law_permits_right", .glo "_law_book_right", .glo "_law_met", .glo "_law_refused_right", .glo "law", .glo "BadRoles"] : List He.Fa) ++ ([.glo "BadLabels", .glo "BadPermits", .glo "PERMITS", .glo "Book", .cls "Book", .mkr "Book", .noat "Book" "_roles", .noat "Book" "_labels"] : List He.Fa) ++ ([.noat "Book" "_permits", .meth "Book" "all_roles", .meth "Book" "all_labels", .meth "Book" "all_permits", .meth "Book" "__eq__", .exm "BadRoles" "BadRoles" true, .exm "BadLabels" "BadRoles" false, .exm "BadLabels" "BadLabels" true] : List He.Fa) ++ ([.exm "BadPermits" "BadRoles" false, .exm "BadPermits" "BadLabels" false, .exm "BadPermits" "BadPermits" true] : List He.Fa)
def hts : List He.Tab := [((fun K => He.ga K "PERMITS"), permKeys)]
def htf : List He.Defn := [("_law_refused_right", none)]
def hex (K : PySem.W.Frag) : Bool := (erB "BadRoles" "roles" K && (erB "BadLabels" "labels" K && (erB "BadPermits" "index" K && (bkeB K && permB K))))
section
variable {w : World} {K : PySem.W.Frag} {h : Heap} {mg : Str → Option Value}
noncomputable def mkPx (X : K.In h) (G : h.Ns mainGlobals mg) (c : He.SaysX hfa hfn hts htf hex w h K) : Px K mg where
  bl := ⟨He.free_ok X G (c.t.d.fact 0 (f := .free "isinstance") rfl), He.free_ok X G (c.t.d.fact 1 (f := .free "list") rfl), He.free_ok X G (c.t.d.fact 2 (f := .free "tuple") rfl), He.free_ok X G (c.t.d.fact 3 (f := .free "str") rfl), He.free_ok X G (c.t.d.fact 4 (f := .free "int") rfl), He.free_ok X G (c.t.d.fact 5 (f := .free "dict") rfl), He.free_ok X G (c.t.d.fact 6 (f := .free "bool") rfl), He.free_ok X G (c.t.d.fact 7 (f := .free "len") rfl), He.free_ok X G (c.t.d.fact 8 (f := .free "all") rfl), He.free_ok X G (c.t.d.fact 9 (f := .free "any") rfl), He.free_ok X G (c.t.d.fact 10 (f := .free "sum") rfl), He.free_ok X G (c.t.d.fact 11 (f := .free "abs") rfl), He.free_ok X G (c.t.d.fact 12 (f := .free "set") rfl), He.free_ok X G (c.t.d.fact 13 (f := .free "sorted") rfl), He.free_ok X G (c.t.d.fact 14 (f := .free "range") rfl), He.free_ok X G (c.t.d.fact 15 (f := .free "zip") rfl), He.free_ok X G (c.t.d.fact 16 (f := .free "enumerate") rfl), He.free_ok X G (c.t.d.fact 17 (f := .free "repr") rfl)⟩
  ltL := (He.str_ok X G (c.t.d.fact 18 (f := .str "LETTERS" letters) rfl)).choose
  g_LETTERS := (He.str_ok X G (c.t.d.fact 18 (f := .str "LETTERS" letters) rfl)).choose_spec
  ltS := (He.str_ok X G (c.t.d.fact 19 (f := .str "SIGNS" signs) rfl)).choose
  g_SIGNS := (He.str_ok X G (c.t.d.fact 19 (f := .str "SIGNS" signs) rfl)).choose_spec
  is_list := mkDn X G (c.t.d.fact 20 (f := .glo "is_list") rfl) (c.t.d.def_ 0 rfl) (fun _ _ _ _ _ _ us hl => match us, hl with | [_], _ => rfl)
  is_name := mkDn X G (c.t.d.fact 21 (f := .glo "is_name") rfl) (c.t.d.def_ 1 rfl) (fun _ _ _ _ _ _ us hl => match us, hl with | [_], _ => rfl)
  are_names := mkDn X G (c.t.d.fact 22 (f := .glo "are_names") rfl) (c.t.d.def_ 2 rfl) (fun _ _ _ _ _ _ us hl => match us, hl with | [_], _ => rfl)
  first_word := mkDn X G (c.t.d.fact 23 (f := .glo "first_word") rfl) (c.t.d.def_ 3 rfl) (fun _ _ _ _ _ _ us hl => match us, hl with | [_], _ => rfl)
  first_wrong := mkDn X G (c.t.d.fact 24 (f := .glo "first_wrong") rfl) (c.t.d.def_ 4 rfl) (fun _ _ _ _ _ _ us hl => match us, hl with | [_], _ => rfl)
  need_roles := mkDn X G (c.t.d.fact 25 (f := .glo "need_roles") rfl) (c.t.d.def_ 5 rfl) (fun _ _ _ _ _ _ us hl => match us, hl with | [_], _ => rfl)
  need_labels := mkDn X G (c.t.d.fact 26 (f := .glo "need_labels") rfl) (c.t.d.def_ 6 rfl) (fun _ _ _ _ _ _ us hl => match us, hl with | [_], _ => rfl)
  need_unlike := mkDn X G (c.t.d.fact 27 (f := .glo "need_unlike") rfl) (c.t.d.def_ 7 rfl) (fun _ _ _ _ _ _ us hl => match us, hl with | [_], _ => rfl)
  read_permit := mkDn X G (c.t.d.fact 28 (f := .glo "read_permit") rfl) (c.t.d.def_ 8 rfl) (fun _ _ _ _ _ _ us hl => match us, hl with | [_, _, _], _ => rfl)
  is_permit := mkDn X G (c.t.d.fact 29 (f := .glo "is_permit") rfl) (c.t.d.def_ 9 rfl) (fun _ _ _ _ _ _ us hl => match us, hl with | [_, _, _], _ => rfl)
  _law_well := mkDn X G (c.t.d.fact 30 (f := .glo "_law_well") rfl) (c.t.d.def_ 10 rfl) (fun _ _ _ _ _ _ us hl => match us, hl with | [_, _], _ => rfl)
  _law_draw := mkDn X G (c.t.d.fact 31 (f := .glo "_law_draw") rfl) (c.t.d.def_ 11 rfl) (fun _ _ _ _ _ _ us hl => match us, hl with | [_, _], _ => rfl)
  _law_pick := mkDn X G (c.t.d.fact 32 (f := .glo "_law_pick") rfl) (c.t.d.def_ 12 rfl) (fun _ _ _ _ _ _ us hl => match us, hl with | [_, _], _ => rfl)
  _law_mixed := mkDn X G (c.t.d.fact 33 (f := .glo "_law_mixed") rfl) (c.t.d.def_ 13 rfl) (fun _ _ _ _ _ _ us hl => match us, hl with | [_, _], _ => rfl)
  _law_same := mkDn X G (c.t.d.fact 34 (f := .glo "_law_same") rfl) (c.t.d.def_ 14 rfl) (fun _ _ _ _ _ _ us hl => match us, hl with | [_, _], _ => rfl)
  _law_loose := mkDn X G (c.t.d.fact 35 (f := .glo "_law_loose") rfl) (c.t.d.def_ 15 rfl) (fun _ _ _ _ _ _ us hl => match us, hl with | [_, _], _ => rfl)
  _law_spoiled := mkDn X G (c.t.d.fact 36 (f := .glo "_law_spoiled") rfl) (c.t.d.def_ 16 rfl) (fun _ _ _ _ _ _ us hl => match us, hl with | [_], _ => rfl)
  _law_b_names := mkDn X G (c.t.d.fact 37 (f := .glo "_law_b_names") rfl) (c.t.d.def_ 17 rfl) (fun _ _ _ _ _ _ us hl => match us, hl with | [_, _], _ => rfl)
  _law_b_permit := mkDn X G (c.t.d.fact 38 (f := .glo "_law_b_permit") rfl) (c.t.d.def_ 18 rfl) (fun _ _ _ _ _ _ us hl => match us, hl with | [_, _, _], _ => rfl)
  _law_b_book := mkDn X G (c.t.d.fact 39 (f := .glo "_law_b_book") rfl) (c.t.d.def_ 19 rfl) (fun _ _ _ _ _ _ us hl => match us, hl with | [_, _, _, _], _ => rfl)
  _law_is_permit := mkDn X G (c.t.d.fact 40 (f := .glo "_law_is_permit") rfl) (c.t.d.def_ 20 rfl) (fun _ _ _ _ _ _ us hl => match us, hl with | [_, _, _], _ => rfl)
  _law_near := mkDn X G (c.t.d.fact 41 (f := .glo "_law_near") rfl) (c.t.d.def_ 21 rfl) (fun _ _ _ _ _ _ us hl => match us, hl with | [_, _, _, _], _ => rfl)
  _law_permits_right := mkDn X G (c.t.d.fact 42 (f := .glo "_law_permits_right") rfl) (c.t.d.def_ 22 rfl) (fun _ _ _ _ _ _ us hl => match us, hl with | [_, _], _ => rfl)
  _law_book_right := mkDn X G (c.t.d.fact 43 (f := .glo "_law_book_right") rfl) (c.t.d.def_ 23 rfl) (fun _ _ _ _ _ _ us hl => match us, hl with | [_, _], _ => rfl)
  _law_met := mkDn X G (c.t.d.fact 44 (f := .glo "_law_met") rfl) (c.t.d.def_ 24 rfl) (fun _ _ _ _ _ _ us hl => match us, hl with | [_], _ => rfl)
  _law_refused_right := mkDn X G (c.t.d.fact 45 (f := .glo "_law_refused_right") rfl) (c.t.d.def_ 25 rfl) (fun _ _ _ _ _ _ us hl => match us, hl with | [_, _], _ => rfl)
  law := mkDn X G (c.t.d.fact 46 (f := .glo "law") rfl) (c.t.d.def_ 26 rfl) (fun _ _ _ _ _ _ us hl => match us, hl with | [_], _ => rfl)
  BadRoles := mkEr X G (c.t.d.fact 47 (f := .glo "BadRoles") rfl) (He.ba (c.more)).1 (c.t.d.def_ 27 rfl) (fun _ _ _ _ _ _ us hl => match us, hl with | [_, _], _ => rfl)
  BadLabels := mkEr X G (c.t.d.fact 48 (f := .glo "BadLabels") rfl) (He.ba ((He.ba (c.more)).2)).1 (c.t.d.def_ 28 rfl) (fun _ _ _ _ _ _ us hl => match us, hl with | [_, _], _ => rfl)
  BadPermits := mkEr X G (c.t.d.fact 49 (f := .glo "BadPermits") rfl) (He.ba ((He.ba ((He.ba (c.more)).2)).2)).1 (c.t.d.def_ 29 rfl) (fun _ _ _ _ _ _ us hl => match us, hl with | [_, _], _ => rfl)
noncomputable def mkPt (X : K.In h) (G : h.Ns mainGlobals mg) (c : He.SaysX hfa hfn hts htf hex w h K) : Pt K w mg :=
  ⟨He.ga K "PERMITS", He.glo_ok X G (c.t.d.fact 50 (f := .glo "PERMITS") rfl), fun z => perm_get (tab_eq c) ((He.ba ((He.ba ((He.ba ((He.ba (c.more)).2)).2)).2)).2) z⟩
noncomputable def mkBk (X : K.In h) (G : h.Ns mainGlobals mg) (c : He.SaysX hfa hfn hts htf hex w h K) : Bk K mg where
  C := He.ga K "Book"
  g := He.glo_ok X G (c.t.d.fact 51 (f := .glo "Book") rfl)
  c := He.cls_ok (x := "Book") (c.t.d.fact 52 (f := .cls "Book") rfl)
  fI := He.ma K (He.ga K "Book") "__init__"
  fd := (show FunE K "__init__" "Book.__init__" s_Book___init__ (He.ma K (He.ga K "Book") "__init__") from (c.t.d.def_ 30 rfl)).choose
  F := fun_ofD (show FunE K "__init__" "Book.__init__" s_Book___init__ (He.ma K (He.ga K "Book") "__init__") from (c.t.d.def_ 30 rfl)).choose_spec
  b := (show FunE K "__init__" "Book.__init__" s_Book___init__ (He.ma K (He.ga K "Book") "__init__") from (c.t.d.def_ 30 rfl)).choose_spec.bindsN (fun _ _ _ _ _ _ us hl => match us, hl with | [_, _, _, _], _ => rfl)
  M := He.mkr_ok (x := "Book") (c.t.d.fact 53 (f := .mkr "Book") rfl)
  nR := He.noat_ok (x := "Book") (f := "_roles") (c.t.d.fact 54 (f := .noat "Book" "_roles") rfl)
  nL := He.noat_ok (x := "Book") (f := "_labels") (c.t.d.fact 55 (f := .noat "Book" "_labels") rfl)
  nP := He.noat_ok (x := "Book") (f := "_permits") (c.t.d.fact 56 (f := .noat "Book" "_permits") rfl)
  all_roles := mkMd (He.meth_ok (x := "Book") (m := "all_roles") (c.t.d.fact 57 (f := .meth "Book" "all_roles") rfl)) (c.t.d.def_ 31 rfl) (fun _ _ _ _ _ _ us hl => match us, hl with | [_], _ => rfl)
  all_labels := mkMd (He.meth_ok (x := "Book") (m := "all_labels") (c.t.d.fact 58 (f := .meth "Book" "all_labels") rfl)) (c.t.d.def_ 32 rfl) (fun _ _ _ _ _ _ us hl => match us, hl with | [_], _ => rfl)
  all_permits := mkMd (He.meth_ok (x := "Book") (m := "all_permits") (c.t.d.fact 59 (f := .meth "Book" "all_permits") rfl)) (c.t.d.def_ 33 rfl) (fun _ _ _ _ _ _ us hl => match us, hl with | [_], _ => rfl)
  eq := mkMd (He.meth_ok (x := "Book") (m := "__eq__") (c.t.d.fact 60 (f := .meth "Book" "__eq__") rfl)) (c.t.d.def_ 34 rfl) (fun _ _ _ _ _ _ us hl => match us, hl with | [_, _], _ => rfl)
theorem mkExm (X : K.In h) (G : h.Ns mainGlobals mg) (c : He.SaysX hfa hfn hts htf hex w h K) : Exm (mkPx X G c) where
  RR := He.exm_ok (x := "BadRoles") (y := "BadRoles") (b := true) (c.t.d.fact 61 (f := .exm "BadRoles" "BadRoles" true) rfl)
  LR := He.exm_ok (x := "BadLabels") (y := "BadRoles") (b := false) (c.t.d.fact 62 (f := .exm "BadLabels" "BadRoles" false) rfl)
  LL := He.exm_ok (x := "BadLabels") (y := "BadLabels") (b := true) (c.t.d.fact 63 (f := .exm "BadLabels" "BadLabels" true) rfl)
  PR := He.exm_ok (x := "BadPermits") (y := "BadRoles") (b := false) (c.t.d.fact 64 (f := .exm "BadPermits" "BadRoles" false) rfl)
  PL := He.exm_ok (x := "BadPermits") (y := "BadLabels") (b := false) (c.t.d.fact 65 (f := .exm "BadPermits" "BadLabels" false) rfl)
  PP := He.exm_ok (x := "BadPermits") (y := "BadPermits") (b := true) (c.t.d.fact 66 (f := .exm "BadPermits" "BadPermits" true) rfl)
theorem mkBkE (c : He.SaysX hfa hfn hts htf hex w h K) : BkE K (He.ga K "Book") := bkeB_ok ((He.ba ((He.ba ((He.ba ((He.ba (c.more)).2)).2)).2)).1)
end
def hloose : List Str := (["_wall", "WrapError", "BadRoles", "BadLabels", "BadPermits", "LETTERS", "SIGNS", "is_list"] : List Str) ++ (["is_name", "are_names", "first_word", "first_wrong", "PERMITS", "Book", "need_roles", "need_labels"] : List Str) ++ (["need_unlike", "read_permit", "is_permit", "_law_well", "_law_draw", "_law_pick", "_law_mixed", "_law_same"] : List Str) ++ (["_law_loose", "_law_spoiled", "_law_b_names", "_law_b_permit", "_law_b_book", "_law_is_permit", "_law_near", "_law_permits_right"] : List Str) ++ (["_law_book_right", "_law_met", "_law_refused_right"] : List Str)
abbrev hR : PySem.W.OpenRow := PySem.W.OpenLaw.row PySem.Challenge.rw_underwraps_k01_whole_books_made
abbrev hk : PySem.W.Hook := He.hookX 6 hfa hfn hts htf hex
def hob (s : PySem.W.SharedT) : He.AlX := He.obsX 6 hfa hfn hts htf hex (HandSHeadRun.getT s)
theorem hob_eq (s : PySem.W.SharedT) : hob s = hk.obs s.abs := He.obsX_eq (HandSHeadRun.getT_eq s)
theorem hrun (w : World) : HandSHeadRun.RunEq hR (PySem.W.view hR.prog [39]) hk hob 40000 hloose w :=
  PySem.W.byRow2 "special-get-raises" (P := fun w => HandSHeadRun.RunEq hR (PySem.W.view hR.prog [39]) hk hob 40000 hloose w) (fun w os => by kernel_rfl) (fun w os => by kernel_rfl) w
end Uw
end
section
set_option Elab.async false
set_option linter.all false
set_option maxRecDepth 100000
set_option maxHeartbeats 0
namespace Uw
open PySem PySem.Spec PyProof.Rows L2 RZ
theorem room_caller : Room 15 callerA := ⟨rfl, by decide, by decide⟩
theorem lam_code {K : PySem.W.Frag} {mg : Str → Option Value} (Z : Px K mg) (hf : Z._law_refused_right.f = He.fAd K ("_law_refused_right", none)) {cdv : Value}
    (h : ∃ oc od kV doc pm an ct osl, K.lookup Z._law_refused_right.f = some ⟨oc, od, .func (PySem.W.fnOf "_law_refused_right" "_law_refused_right" (defArgs s__law_refused_right) (defBody s__law_refused_right) (defScope s__law_refused_right) .none kV doc pm an cdv ct), osl⟩) : cdv = .ref (He.codeOf K ("_law_refused_right", none)) := by
  obtain ⟨oc, od, kV, doc, pm, an, ct, osl, lk⟩ := h
  obtain ⟨oc2, od2, kV2, doc2, pm2, an2, cdv2, ct2, osl2, e2, lk2, hcd2⟩ := Z._law_refused_right.F.ex
  rw [e2] at lk2
  have e := Option.some.inj (lk.symm.trans lk2)
  have e : PySem.W.fnOf "_law_refused_right" "_law_refused_right" (defArgs s__law_refused_right) (defBody s__law_refused_right) (defScope s__law_refused_right) .none kV doc pm an cdv ct = PySem.W.fnOf "_law_refused_right" "_law_refused_right" (defArgs s__law_refused_right) (defBody s__law_refused_right) (defScope s__law_refused_right) .none kV2 doc2 pm2 an2 cdv2 ct2 := Data.func.inj (congrArg Obj.data e)
  have e3 : cdv = cdv2 := congrArg FuncData.code e
  obtain ⟨c', hc'⟩ := He.codeIn_ref hcd2
  rw [e3, hc']
  rw [hf] at lk2
  rw [He.codeOf_eq lk2 (show (PySem.W.fnOf _ _ _ _ _ _ _ _ _ _ _ _).code = .ref c' from hc')]
theorem law_holds : PySem.Challenge.rw_underwraps_k01_whole_books_made.Holds := by
  w_on; o_law
  refine HandSHeadRun.head_any (r := hR) (q := PySem.W.view hR.prog [39]) (H := hk) (ob := hob) (M := 40000) (loose := hloose) (d := HandSHeadRun.topDef hR.prog 39) (kwd := []) hob_eq
    (by kernel_rfl) (fun s => by kernel_rfl) hrun (by kernel_rfl) (by kernel_rfl) (by kernel_rfl) (by rfl) (by first | assumption | decide +kernel) (by decide +kernel) ⟨rfl, rfl, rfl, rfl, rfl, by decide +kernel⟩ ?hw ?hc
  case hw => w_witness2
  case hc =>
    refine Att.attach_callB (l := PySem.Challenge.rw_underwraps_k01_whole_books_made) (n := 63) rfl (by kernel_rfl) fun w s₀ s₁ mg mb fa o pm cd doc a vs ns G Y ho hd hcd hmg0 hobj hints hlen hbits hg => ?_
    obtain ⟨K, KX, c⟩ := Y
    let Z : Px K mg := mkPx KX G.T.g c
    have hmg : mg ("law" : PySem.Str) = some (.ref fa) := by
      have e : (HandSHeadRun.topDef hR.prog 39).name = ("law" : PySem.Str) := by kernel_rfl
      rw [← e]
      exact hmg0
    have e := hmg.symm.trans Z.law.g
    have e : fa = Z.law.f := Value.ref.inj (Option.some.inj e)
    subst e
    have mem : (("_law_refused_right", none) : He.Defn) ∈ htf := List.mem_singleton.mpr rfl
    refine law_callG (CX := L2.CX0) (cs := [He.cT K ("_law_refused_right", none)]) KX G.T.g G.T.b G.T.builtins G.T.nolimit hg (fun p hp => by rw [List.mem_singleton.mp hp]; exact c.empty _ mem) (fun p hp => by rw [List.mem_singleton.mp hp]; exact c.out _ mem)
      (fun p hp => by rw [List.mem_singleton.mp hp]; exact PySem.W.codeHd_of_K KX (c.hd _ mem)) G.T.bmain hobj hints (Nat.le_trans hlen (by decide)) (fun base H hK hN hTab hE hS env0 => ?_) (fun _ _ _ z => z)
    let Tb : LamTab K mg base "_law_refused_right" "_law_refused_right" s__law_refused_right Z._law_refused_right.f := { c := (He.cT K ("_law_refused_right", none)).1, P := (He.cT K ("_law_refused_right", none)).2, TB := hTab _ (List.mem_singleton.mpr rfl), code := fun h => lam_code Z rfl h }
    have ok := ok_law (P := hR.prog) (w := w) (base := base) Z (mkPt KX G.T.g c) (mkBk KX G.T.g c) (mkBkE c) (mkExm KX G.T.g c) Tb
    refine ok.run callerA [] s₁ H ⟨[.ref a], []⟩ [.ref a] [.ref a] _ _ rfl room_caller env0 ?_ (.cons rfl .nil) ⟨a, ns, rfl, hlen, hS, hE _ (List.mem_singleton.mpr rfl), fun _ => rfl⟩
    obtain ⟨oc, od, kV, doc, pm, an, cdv, ct, osl, e, lk, hcd⟩ := Z.law.F.ex
    rw [e]
    exact .of_eq rfl
end Uw
end
theorem PySem.Challenge.cw_underwraps_k01_whole_books_made_holds : PySem.Challenge.rw_underwraps_k01_whole_books_made.Holds := by
  exact Uw.law_holds
